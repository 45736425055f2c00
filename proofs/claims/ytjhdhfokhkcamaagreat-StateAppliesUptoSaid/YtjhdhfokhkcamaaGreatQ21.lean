/- Texts of mine, one behind the other, of each what is wanted. -/
import Derived.Test.YtjhdhfokhkcamaaGreatQ00
import Derived.Test.YtjhdhfokhkcamaaGreatShelf
import Derived.Test.YtjhdhfokhkcamaaGreatRows
import Derived.Test.YtjhdhfokhkcamaaGreatQ01
import Derived.Test.YtjhdhfokhkcamaaGreatQ02
import Derived.Test.YtjhdhfokhkcamaaGreatQ03
import Derived.Test.YtjhdhfokhkcamaaGreatQ05
import Derived.Test.YtjhdhfokhkcamaaGreatQ08
import Derived.Test.YtjhdhfokhkcamaaGreatQ09
import Derived.Test.YtjhdhfokhkcamaaGreatQ10
import Derived.Test.YtjhdhfokhkcamaaGreatQ11
import Derived.Test.YtjhdhfokhkcamaaGreatQ12
import Derived.Test.YtjhdhfokhkcamaaGreatQ13
import Derived.Test.YtjhdhfokhkcamaaGreatQ14
import Derived.Test.YtjhdhfokhkcamaaGreatQ16
import Derived.Test.YtjhdhfokhkcamaaGreatQ18
import Derived.Test.YtjhdhfokhkcamaaGreatQ20
namespace Go.Proofs.YtjhdhfokhkcamaaGreat
set_option linter.unusedVariables false
set_option maxRecDepth 100000
def addsS (l : List StM) (r : List StM) : List StM := l.foldl addS r
def staysS (s : SaM) (u : ByteArray) (w : Int) : List StM := addsS (staysO s.op u w) (ofU s.us u)
theorem addsS_len : ∀ (l r : List StM), (addsS l r).length ≤ r.length + l.length
 | [], r => by simp [addsS]
 | x :: l, r => by
  have h1 := addsS_len l (addS r x)
  have h2 := addS_len r x
  show (addsS l (addS r x)).length ≤ _
  rw [List.length_cons]
  omega
theorem addsS_next (l : List StM) (r : List StM) (j : Nat) (h : j < l.length) : addsS (l.take (j + 1)) r = addS (addsS (l.take j) r) l[j] := by
 unfold addsS
 rw [List.take_succ_eq_append_getElem h, List.foldl_append]
 rfl
def hasO (l : List OpM) (u : ByteArray) : Bool := l.any (isU u)
def hasU (l : List UsM) (u : ByteArray) : Bool := l.any (isKy UsM.u u)
def hasT (l : List TbM) (u : ByteArray) : Bool := l.any (isKy TbM.u u)
def prE (u : ByteArray) (e : EnM) : Bool := decide (e.w = u ∨ e.u = u)
def hasE (l : List EnM) (u : ByteArray) : Bool := l.any (prE u)
def stHas (s : SaM) (u : ByteArray) : Bool := hasT s.tb u || hasU s.us u || hasO s.op u || hasE s.su u
def cntU (l : List UsM) : Nat := (l.map fun x => x.l.length).sum
def stCnt (s : SaM) : Nat := s.op.length + s.su.length + s.tb.length + cntU s.us
theorem cntU_cons (x : UsM) (l : List UsM) : cntU (x :: l) = x.l.length + cntU l := by simp [cntU]
theorem cntU_append (a b : List UsM) : cntU (a ++ b) = cntU a + cntU b := by simp [cntU]
theorem cntU_take (l : List UsM) (j : Nat) (h : j < l.length) : cntU (l.take (j + 1)) = cntU (l.take j) + l[j].l.length := by
 rw [List.take_succ_eq_append_getElem h, cntU_append]
 simp [cntU]
theorem cntU_parts (u : ByteArray) : ∀ l : List UsM, cntU (l.filter (belK UsM.u u)) + cntU (l.filter (abvK UsM.u u)) + (ofU l u).length ≤ cntU l
 | [] => by simp [cntU, ofU]
 | x :: l => by
  have ih := cntU_parts u l
  rw [List.filter_cons, List.filter_cons, cntU_cons]
  by_cases h : x.u = u
  ·have h1 : ¬ belK UsM.u u x = true := fun h1 => cmpS_ne (belK_iff.1 h1) h
   have h2 : ¬ abvK UsM.u u x = true := fun h1 => cmpS_ne (abvK_iff.1 h1) h.symm
   have h3 : ofU (x :: l) u = x.l := by
    unfold ofU
    rw [List.find?_cons_of_pos (isKy_iff.2 h)]
   rw [if_neg h1, if_neg h2, h3]
   omega
  ·have h3 : ofU (x :: l) u = ofU l u := by
    unfold ofU
    rw [List.find?_cons_of_neg (fun h1 => h (isKy_iff.1 h1))]
   rw [h3]
   by_cases h1 : belK UsM.u u x = true
   ·have h2 : ¬ abvK UsM.u u x = true := fun h2 => cmpS_asym (belK_iff.1 h1) (abvK_iff.1 h2)
    rw [if_pos h1, if_neg h2, cntU_cons]
    omega
   ·rw [if_neg h1]
    split
    ·rw [cntU_cons]; omega
    ·omega
theorem cntU_put (l : List UsM) (u : ByteArray) (r : List StM) : cntU (putU l u r) + (ofU l u).length ≤ cntU l + r.length := by
 have h := cntU_parts u l
 have h1 : cntU (rowU u r) = r.length := by
  unfold rowU
  cases r with
  | nil => rfl
  | cons a r => simp [cntU]
 unfold putU insK
 rw [cntU_append, cntU_append, h1]
 omega
theorem cntU_add (l : List UsM) (u : ByteArray) (x : StM) : cntU (addU l u x) ≤ cntU l + 1 := by
 unfold addU
 split
 ·have h1 := cntU_put l u (addS (ofU l u) x)
  have h2 := addS_len (ofU l u) x
  omega
 ·omega
theorem cntU_reset (now : Int) : ∀ (l : List OpM) (us : List UsM), cntU (resetU l now us) ≤ cntU us + l.length
 | [], us => by simp [resetU]
 | e :: l, us => by
  have h1 := cntU_reset now l (addU us e.u (stayO e now))
  have h2 := cntU_add us e.u (stayO e now)
  show cntU (resetU l now (addU us e.u (stayO e now))) ≤ _
  rw [List.length_cons]
  omega
theorem cntU_prune (t : Int) : ∀ l : List UsM, cntU (pruneU l t) ≤ cntU l
 | [] => by simp [pruneU]
 | x :: l => by
  have ih := cntU_prune t l
  have h1 : (aftS x.l t).length ≤ x.l.length := List.length_filter_le _ _
  unfold pruneU at ih ⊢
  rw [List.map_cons, List.filter_cons, cntU_cons]
  split
  ·rw [cntU_cons]
   have h2 : (⟨x.u, aftS x.l t⟩ : UsM).l.length = (aftS x.l t).length := rfl
   omega
  ·omega
theorem cnt_reset (s : SaM) : stCnt (resetS s) ≤ stCnt s := by
 have h := cntU_reset s.now s.op s.us
 unfold stCnt resetS
 simp only [List.length_nil]
 omega
theorem cnt_prune (s : SaM) : stCnt (pruneS s) ≤ stCnt s := by
 have h := cntU_prune s.hor s.us
 have h1 : (aftE s.su s.hor).length ≤ s.su.length := List.length_filter_le _ _
 unfold stCnt pruneS
 simp only
 omega
theorem cnt_go (s : SaM) (k a n st : Int) (u o : ByteArray) : stCnt (goS s k a n st u o) ≤ stCnt s + 1 := by
 have h1 := openR_len s.op ⟨n, u, st, a⟩
 have h2 := chgR_len s.op n u st a
 have h3 := cloR_len s.op n u
 have h4 := cntU_add s.us u (fndS s.op n u a)
 have h5 := grant_len s.su (mkE u o a)
 have h6 := revoke_len s.su u o a
 have h7 : (s.op.filter (notU u)).length ≤ s.op.length := List.length_filter_le _ _
 have h8 : (withoutS s.su u).length ≤ s.su.length := List.length_filter_le _ _
 have h9 := cntU_put s.us u []
 have h10 : (tombU s.tb u a).length ≤ s.tb.length + 1 := insK_len
 simp only [List.length_nil] at h9
 unfold stCnt goS
 repeat' split
 all_goals (simp only; omega)
end Go.Proofs.YtjhdhfokhkcamaaGreat
namespace Go.Proofs.YtjhdhfokhkcamaaGreat
open Go.RowKit Go.Proofs
set_option linter.unusedVariables false
set_option maxRecDepth 100000
theorem txt_dec (a b : ByteArray) : (a.toList == b.toList) = decide (a = b) := by
 by_cases h : a = b
 ·subst h; rw [txt_eq, decide_eq_true rfl]
 ·rw [txt_ne h, decide_eq_false h]
theorem txt_ndec (a b : ByteArray) : (a.toList != b.toList) = !decide (a = b) := by unfold bne; rw [txt_dec]
set_option maxHeartbeats 1000000 in
theorem userName_any (u : ByteArray) (a : Option Addr) (n c : Nat) (W : World) :
  Calls Tryz.prog 63 #[.agg #[.string u, .slice a n c]] W fun r w' => r = .returned (.string u) ∧ Below W.heap.size W w' := by
 have HB := Lib.hid (below_one W (.cells #[.string u, .slice a n c] 89))
 go_enter Tryz.func63, Tryz.ntmps63
 go_wp2
 go_ret
 exact ⟨rfl, HB.out⟩
set_option maxHeartbeats 1000000 in
theorem tombName_any (u : ByteArray) (n : Int) (W : World) :
  Calls Tryz.prog 72 #[.agg #[.string u, .int .i64 n]] W fun r w' => r = .returned (.string u) ∧ Below W.heap.size W w' := by
 have HB := Lib.hid (below_one W (.cells #[.string u, .int .i64 n] 87))
 go_enter Tryz.func72, Tryz.ntmps72
 go_wp2
 go_ret
 exact ⟨rfl, HB.out⟩
set_option maxHeartbeats 1000000 in
theorem c_staysOf (x : UsL) (u : ByteArray) (g : Nat) (W : World) (h : CapO W g (.string u)) :
  Calls Tryz.prog 147 #[.agg #[.string x.u, .slice x.a x.l.length x.c], .pointer (some ⟨g, 0, none⟩)] W fun r w' => r = .returned (.bool (decide (x.u = u))) ∧ Below W.heap.size W w' := by
 have hb := below_one W (.cells #[.string x.u, .slice x.a x.l.length x.c] 89)
 obtain ⟨c0, hg⟩ := h.below hb
 have HB := Lib.hid hb
 have HE := Lib.hid (txt_dec x.u u)
 clear hb hg h
 go_enter Tryz.func147, Tryz.ntmps147
 go_wp2
 go_ret
 exact ⟨retB HE.out, HB.out⟩
set_option maxHeartbeats 1000000 in
theorem c_erased (x : UsL) (u : ByteArray) (g : Nat) (W : World) (h : CapO W g (.string u)) :
  Calls Tryz.prog 171 #[.agg #[.string x.u, .slice x.a x.l.length x.c], .pointer (some ⟨g, 0, none⟩)] W fun r w' => r = .returned (.bool (!decide (x.u = u))) ∧ Below W.heap.size W w' := by
 have hb := below_one W (.cells #[.string x.u, .slice x.a x.l.length x.c] 89)
 obtain ⟨c0, hg⟩ := h.below hb
 have HB := Lib.hid hb
 have HE := Lib.hid (txt_ndec x.u u)
 clear hb hg h
 go_enter Tryz.func171, Tryz.ntmps171
 go_wp2
 go_ret
 exact ⟨retB HE.out, HB.out⟩
set_option maxHeartbeats 1000000 in
theorem c_has1 (x : OpM) (u : ByteArray) (g : Nat) (W : World) (h : CapO W g (.string u)) :
  Calls Tryz.prog 96 #[.agg #[.int .i64 x.n, .string x.u, .int .i64 x.s, .int .i64 x.f], .pointer (some ⟨g, 0, none⟩)] W fun r w' => r = .returned (.bool (decide (x.u = u))) ∧ Below W.heap.size W w' := by
 have hb := below_one W (.cells #[.int .i64 x.n, .string x.u, .int .i64 x.s, .int .i64 x.f] 112)
 obtain ⟨c0, hg⟩ := h.below hb
 have HB := Lib.hid hb
 have HE := Lib.hid (txt_dec x.u u)
 clear hb hg h
 go_enter Tryz.func96, Tryz.ntmps96
 go_wp2
 go_ret
 exact ⟨retB HE.out, HB.out⟩
set_option maxHeartbeats 1000000 in
theorem c_has3 (x : TbM) (u : ByteArray) (g : Nat) (W : World) (h : CapO W g (.string u)) :
  Calls Tryz.prog 101 #[.agg #[.string x.u, .int .i64 x.a], .pointer (some ⟨g, 0, none⟩)] W fun r w' => r = .returned (.bool (decide (x.u = u))) ∧ Below W.heap.size W w' := by
 have hb := below_one W (.cells #[.string x.u, .int .i64 x.a] 87)
 obtain ⟨c0, hg⟩ := h.below hb
 have HB := Lib.hid hb
 have HE := Lib.hid (txt_dec x.u u)
 clear hb hg h
 go_enter Tryz.func101, Tryz.ntmps101
 go_wp2
 go_ret
 exact ⟨retB HE.out, HB.out⟩
set_option maxHeartbeats 1000000 in
theorem pHas_any (p q u : ByteArray) (W : World) :
  Calls Tryz.prog 99 #[.agg #[.string p, .string q], .string u] W fun r w' => r = .returned (.bool (decide (p = u ∨ q = u))) ∧ Below W.heap.size W w' := by
 have HB := Lib.hid (below_one W (.cells #[.string p, .string q] 121))
 by_cases h1 : u = p
 ·have d1 : (u.toList == p.toList) = true := by rw [h1]; exact txt_eq p
  have HE : Hid (true = decide (p = u ∨ q = u)) := by unfold Hid; rw [decide_eq_true (.inl h1.symm)]
  clear h1
  go_enter Tryz.func99, Tryz.ntmps99
  go_wp2
  go_ret
  exact ⟨retB HE.out, HB.out⟩
 ·have d1 := txt_ne h1
  have HE : Hid ((u.toList == q.toList) = decide (p = u ∨ q = u)) := by
   unfold Hid
   rw [txt_dec]
   by_cases h2 : u = q
   ·rw [decide_eq_true h2, decide_eq_true (.inr h2.symm)]
   ·rw [decide_eq_false h2, decide_eq_false (fun h => h.elim (fun e => h1 e.symm) (fun e => h2 e.symm))]
  clear h1
  go_enter Tryz.func99, Tryz.ntmps99
  go_wp2
  go_ret
  exact ⟨retB HE.out, HB.out⟩
set_option maxHeartbeats 1000000 in
theorem c_has2 (x : EnM) (u : ByteArray) (g : Nat) (W : World) (h : CapO W g (.string u)) :
  Calls Tryz.prog 98 #[.agg #[.string x.w, .string x.u, .int .i64 x.f, .int .i64 x.t], .pointer (some ⟨g, 0, none⟩)] W fun r w' => r = .returned (.bool (prE u x)) ∧ Below W.heap.size W w' := by
 have hb := below_one W (.cells #[.string x.w, .string x.u, .int .i64 x.f, .int .i64 x.t] 123)
 obtain ⟨c0, hg⟩ := h.below hb
 have HB := Lib.hid hb
 have HC := Lib.hid (fun V => pHas_any x.w x.u u V)
 unfold prE
 clear hb hg h
 go_enter Tryz.func98, Tryz.ntmps98
 go_wp2_with fail
 refine (HC.out _).mono ?_
 rintro r w2 ⟨rfl, hB⟩
 go_wp2
 go_ret
 exact ⟨retB (by simp), HB.out.trans (hB.mono HB.out.size)⟩
set_option maxHeartbeats 1000000 in
theorem c_latest (x : OpM) (n : Int) (g : Nat) (W : World) (h : CapO W g (.int .i64 n)) :
  Calls Tryz.prog 182 #[.agg #[.int .i64 x.n, .string x.u, .int .i64 x.s, .int .i64 x.f], .pointer (some ⟨g, 0, none⟩)] W fun r w' => r = .returned (.bool (hasN n x)) ∧ Below W.heap.size W w' := by
 have hb := below_one W (.cells #[.int .i64 x.n, .string x.u, .int .i64 x.s, .int .i64 x.f] 112)
 obtain ⟨c0, hg⟩ := h.below hb
 have HB := Lib.hid hb
 have HE : Hid ((x.n == n) = hasN n x) := rfl
 clear hb hg h
 generalize hasN n x = r at *
 go_enter Tryz.func182, Tryz.ntmps182
 go_wp2
 go_ret
 exact ⟨retB HE.out, HB.out⟩
set_option maxHeartbeats 1000000 in
theorem c_those (x : UsL) (N g b : Nat) (q : Bool) (W : World) (h : CapO W b (.func (.func N) #[] #[.pointer (some ⟨g, 0, none⟩)])) (hF : ∀ args V, Sem.run Tryz.prog (callFunc N args) V = .ok (.enter N args) V)
  (hN : ∀ V, Below W.heap.size W V → Calls Tryz.prog N #[.agg #[.string x.u, .slice x.a x.l.length x.c], .pointer (some ⟨g, 0, none⟩)] V fun r w' => r = .returned (.bool q) ∧ Below V.heap.size V w') :
  Calls Tryz.prog 197 #[.agg #[.string x.u, .slice x.a x.l.length x.c], .pointer (some ⟨b, 0, none⟩)] W fun r w' => r = .returned (.bool !q) ∧ Below W.heap.size W w' := by
 have hb := below_one W (.cells #[.string x.u, .slice x.a x.l.length x.c] 89)
 obtain ⟨c0, hg⟩ := h.below hb
 have HB := Lib.hid hb
 have HC := Lib.hid (hN _ hb)
 clear hb hg h hN
 go_enter Tryz.func197, Tryz.ntmps197
 go_wp2_with fail
 refine HC.out.mono ?_
 rintro r w2 ⟨rfl, hB⟩
 go_wp2
 go_ret
 exact ⟨rfl, HB.out.trans (hB.mono HB.out.size)⟩
def butU (u : ByteArray) (D : List UsL) : List UsL := D.filter fun x => !decide (x.u = u)
theorem butU_m (u : ByteArray) (D : List UsL) : umS (butU u D) = (umS D).filter fun x => !isKy UsM.u u x := by
 unfold umS butU
 rw [List.filter_map]
 rfl
set_option maxHeartbeats 2000000 in
theorem those_any (a : Option Addr) (c : Nat) (D : List UsL) (u : ByteArray) (g : Nat) (w : World) (hr : UsSl w a D) (hc : Cp a D.length c) (hl : D.length ≤ 10000) (hg : CapO w g (.string u)) :
  Calls Tryz.prog 170 #[.slice a D.length c, .func (.func 171) #[] #[.pointer (some ⟨g, 0, none⟩)]] w fun e w' => ∃ x q, e = .returned (.slice x (butU u D).length q) ∧ UsSl w' x (butU u D) ∧ Cp x (butU u D).length q ∧ Below w.heap.size w w' := by
 have hb := below_one w (.cells #[.func (.func 171) #[] #[.pointer (some ⟨g, 0, none⟩)]] 118)
 have hcap : CapO (w.alloc (.cells #[.func (.func 171) #[] #[.pointer (some ⟨g, 0, none⟩)]] 118)) w.heap.size (.func (.func 171) #[] #[.pointer (some ⟨g, 0, none⟩)]) := ⟨cell_of_row _ _ 0 _ _ (0, 0) (heap_alloc_new w _), by rw [size1]; omega⟩
 have HCL := Lib.hid (pclone_us a c (D.map usp) (usp_one D) (w.alloc (.cells #[.func (.func 171) #[] #[.pointer (some ⟨g, 0, none⟩)]] 118)) (hr.row.below hb) (by rw [List.length_map]; exact hc) (by rw [List.length_map]; omega))
 rw [List.length_map] at HCL
 have HDE : Hid (∀ v V, (w.alloc (.cells #[.func (.func 171) #[] #[.pointer (some ⟨g, 0, none⟩)]] 118)).heap.size ≤ V.heap.size → Below (w.alloc (.cells #[.func (.func 171) #[] #[.pointer (some ⟨g, 0, none⟩)]] 118)).heap.size (w.alloc (.cells #[.func (.func 171) #[] #[.pointer (some ⟨g, 0, none⟩)]] 118)) V → V.ownsRow (w.alloc (.cells #[.func (.func 171) #[] #[.pointer (some ⟨g, 0, none⟩)]] 118)).heap.size 89 2 v D.length (usv D) →
   Calls Tryz.prog 196 #[v, .func (.func 197) #[] #[.pointer (some ⟨w.heap.size, 0, none⟩)]] V fun r w' => ∃ v', r = .returned v' ∧ w'.ownsRow (w.alloc (.cells #[.func (.func 171) #[] #[.pointer (some ⟨g, 0, none⟩)]] 118)).heap.size 89 2 v' (butU u D).length (usv (butU u D)) ∧ Below (w.alloc (.cells #[.func (.func 171) #[] #[.pointer (some ⟨g, 0, none⟩)]] 118)).heap.size V w') := fun v V hsz hbV hoV => by
  have h := del_us v D 197 w.heap.size (w.alloc (.cells #[.func (.func 171) #[] #[.pointer (some ⟨g, 0, none⟩)]] 118)).heap.size (fun x => decide (x.u = u))
   (fun V => CapO V w.heap.size (.func (.func 171) #[] #[.pointer (some ⟨g, 0, none⟩)]) ∧ CapO V g (.string u) ∧ (w.alloc (.cells #[.func (.func 171) #[] #[.pointer (some ⟨g, 0, none⟩)]] 118)).heap.size ≤ V.heap.size) V hoV ⟨hcap.below hbV, (hg.below hb).below hbV, hsz⟩ hsz (by omega) (call_known Tryz.func197 rfl)
   (fun W W' h q => by
    have hw1 : w.heap.size < (w.alloc (.cells #[.func (.func 171) #[] #[.pointer (some ⟨g, 0, none⟩)]] 118)).heap.size := by rw [size1]; omega
    have hw2 : g < (w.alloc (.cells #[.func (.func 171) #[] #[.pointer (some ⟨g, 0, none⟩)]] 118)).heap.size := Nat.lt_trans hg.2 hw1
    exact ⟨⟨(q.cell (p := ⟨w.heap.size, 0, none⟩) hw1).trans h.1.1, Nat.lt_of_lt_of_le h.1.2 q.size⟩, ⟨(q.cell (p := ⟨g, 0, none⟩) hw2).trans h.2.1.1, Nat.lt_of_lt_of_le h.2.1.2 q.size⟩, Nat.le_trans h.2.2 q.size⟩)
   (fun x hx V h => by
    have h2 := c_those x 171 g w.heap.size (!decide (x.u = u)) V h.1 (call_known Tryz.func171 rfl) (fun V' q => c_erased x u g V' (h.2.1.below q))
    rw [Bool.not_not] at h2
    exact h2)
  exact h
 have HU := Lib.hid hr
 have HB := Lib.hid hb
 clear hr hb hcap hg hc
 go_enter Tryz.func170, Tryz.ntmps170
 go_wp2_with fail
 refine HCL.out.mono ?_
 rintro e w2 ⟨v, rfl, ho, hB2⟩
 go_wp2_with fail
 refine (HDE.out v w2 hB2.size hB2 ho).mono ?_
 rintro e w3 ⟨v3, rfl, ho3, hB3⟩
 have hB4 : Below w.heap.size w w3 := HB.out.trans ((hB2.trans hB3).mono HB.out.size)
 have HO := Lib.hid ho3
 have HB4 := Lib.hid hB4
 clear hB2 hB3 ho3 ho hB4 HB HDE HCL
 go_wp2
 go_ret
 obtain ⟨x, q, rfl, h1, h2, h3, h4⟩ := own_us HO.out
 exact ⟨x, q, rfl, ⟨h3, fun y hy => (HU.out.at_ y (List.mem_filter.1 hy).1).below HB4.out⟩, ⟨h1, h2, h4⟩, HB4.out⟩
theorem fst_key {D : List UsL} {u : ByteArray} {k : Nat} (hk : D.findIdx (fun x => decide (x.u = u)) = k) : (k = D.length ∧ ofU (umS D) u = []) ∨ ∃ h : k < D.length, ofU (umS D) u = D[k].l ∧ D[k].u = u := by
 have hf : (umS D).find? (isKy UsM.u u) = (D.find? (fun x => decide (x.u = u))).map UsL.m := by
  unfold umS
  rw [List.find?_map]
  rfl
 have hle : D.findIdx (fun x => decide (x.u = u)) ≤ D.length := List.findIdx_le_length
 rcases Nat.lt_or_ge k D.length with h1 | h1
 ·refine .inr ⟨h1, ?_, ?_⟩
  ·have h2 : D.find? (fun x => decide (x.u = u)) = some D[k] := by
    rw [List.find?_eq_some_iff_getElem]
    refine ⟨?_, k, h1, rfl, fun j hj => ?_⟩
    ·have := (List.findIdx_eq h1).1 hk
     exact this.1
    ·have := ((List.findIdx_eq h1).1 hk).2 j hj
     simpa using this
   unfold ofU
   rw [hf, h2]
   rfl
  ·exact of_decide_eq_true ((List.findIdx_eq h1).1 hk).1
 ·refine .inl ⟨by omega, ?_⟩
  have h2 : D.find? (fun x => decide (x.u = u)) = none := by
   rw [List.find?_eq_none]
   intro x hx
   have := List.findIdx_eq_length.1 (show D.findIdx (fun x => decide (x.u = u)) = D.length by omega) x hx
   simpa using this
  unfold ofU
  rw [hf, h2]
  rfl
set_option maxHeartbeats 2000000 in
theorem staysOf_any (a : Option Addr) (c : Nat) (D : List UsL) (u : ByteArray) (w : World) (hr : UsSl w a D) (hl : D.length ≤ 10000) :
  Calls Tryz.prog 89 #[.slice a D.length c, .string u] w fun e w' => ∃ x q, e = .returned (.slice x (ofU (umS D) u).length q) ∧ StSl w' x (ofU (umS D) u) ∧ Cp x (ofU (umS D) u).length q ∧ Below w.heap.size w w' := by
 have hb := below_one w (.cells #[.string u] 9)
 have hcap : CapO (w.alloc (.cells #[.string u] 9)) w.heap.size (.string u) := ⟨cell_of_row _ _ 0 _ _ (0, 0) (heap_alloc_new w _), by rw [size1]; omega⟩
 have HF := Lib.hid (find_us a c D 147 w.heap.size (fun x => decide (x.u = u)) (fun V => CapO V w.heap.size (.string u)) _ (hr.below hb) hcap (by omega) (call_known Tryz.func147 rfl) (fun W W' h q => h.below q) (fun x hx V _ h => c_staysOf x u w.heap.size V h))
 have HK := Lib.hid (fst_key (D := D) (u := u) rfl)
 have HB := Lib.hid hb
 have HR := Lib.hid hr
 clear hr hb hcap
 generalize D.findIdx (fun x => decide (x.u = u)) = k at *
 generalize ofU (umS D) u = m at *
 rcases HK.out with ⟨h1, h2⟩ | ⟨h1, h2, _⟩
 ·subst h2
  have d1 : ((k : Int) == (D.length : Int)) = true := by rw [h1]; exact beq_self_eq_true _
  clear h1 HK HR
  go_enter Tryz.func89, Tryz.ntmps89
  go_wp2_with fail
  refine HF.out.mono ?_
  rintro e w2 ⟨rfl, hB2⟩
  go_wp2
  go_ret
  exact ⟨none, 0, rfl, StSl.nil _ _, Cp.none, HB.out.trans (hB2.mono HB.out.size)⟩
 ·have d1 : ((k : Int) == (D.length : Int)) = false := by rw [beq_eq_false_iff_ne]; omega
  have HM := Lib.hid h2
  clear HK h2
  go_enter Tryz.func89, Tryz.ntmps89
  go_wp2_with fail
  refine HF.out.mono ?_
  rintro e w2 ⟨rfl, hB2⟩
  have hB3 : Below w.heap.size w w2 := HB.out.trans (hB2.mono HB.out.size)
  obtain ⟨b, off, rfl, hbl, hc0, hc1, hat⟩ := (HR.out.below hB3).get h1
  have HB3 := Lib.hid hB3
  have HA := Lib.hid hat
  clear hB2 hB3 HF HB HR hat
  generalize D[k] = x at *
  go_wp2
  go_ret
  exact ⟨x.a, x.c, by rw [HM.out]; rfl, by rw [HM.out]; exact HA.out.st, by rw [HM.out]; exact ⟨HA.out.le, HA.out.mx, HA.out.nil⟩, HB3.out⟩
theorem no_key {α : Type} {key : α → ByteArray} {u : ByteArray} {l : List α} (hr : RiseK key l) {k : Nat} (h : IsFst (notBel key u) l k) (hk : ∀ h : k < l.length, key l[k] ≠ u) : ∀ x ∈ l, key x ≠ u := fun x hx e => by
 obtain ⟨h1, h2⟩ := fst_parts hr h
 obtain ⟨i, hi, rfl⟩ := List.getElem_of_mem hx
 rcases Nat.lt_trichotomy i k with h3 | h3 | h3
 ·have h4 : l[i] ∈ l.filter (belK key u) := by rw [h1]; exact List.mem_take_iff_getElem.2 ⟨i, by omega, rfl⟩
  exact cmpS_ne (belK_iff.1 (List.mem_filter.1 h4).2) e
 ·subst h3; exact hk hi e
 ·have hkl : k < l.length := by omega
  have h5 := List.pairwise_iff_getElem.1 hr k i hkl hi h3
  rw [e] at h5
  exact h2 l[k] (List.mem_drop_iff_getElem.2 ⟨0, by omega, by simp⟩) h5
def geqK {α : Type} (key : α → ByteArray) (u : ByteArray) (x : α) : Bool := decide (0 ≤ cmpS (key x) u)
theorem geq_bel {α : Type} (key : α → ByteArray) (u : ByteArray) (x : α) : geqK key u x = notBel key u x := by
 unfold geqK notBel belK
 by_cases h : cmpS (key x) u < 0
 ·rw [decide_eq_true h, decide_eq_false (by omega)]; rfl
 ·rw [decide_eq_false h, decide_eq_true (by omega)]; rfl
theorem geq_fst {α : Type} {key : α → ByteArray} {u : ByteArray} {l : List α} {k : Nat} (h : l.findIdx (geqK key u) = k) : IsFst (notBel key u) l k := by
 subst h
 have h1 := fst_idx (geqK key u) l
 have e : geqK key u = notBel key u := funext fun x => geq_bel key u x
 rw [e] at h1 ⊢
 exact h1
theorem umS_idx (u : ByteArray) (D : List UsL) : D.findIdx (fun x => decide (0 ≤ cmpS x.u u)) = (umS D).findIdx (geqK UsM.u u) := by
 unfold umS
 rw [List.findIdx_map]
 rfl
theorem umS_put (D : List UsL) (p : UsL) (i j : Nat) : umS (D.take i ++ p :: D.drop j) = (umS D).take i ++ ([p.m] ++ (umS D).drop j) := by
 unfold umS
 rw [List.map_append, List.map_cons, List.map_take, List.map_drop]
 rfl
theorem put_new {D : List UsL} {p : UsL} {k : Nat} (hr : RiseK UsM.u (umS D)) (hk : D.findIdx (fun x => decide (0 ≤ cmpS x.u p.u)) = k) (hn : ∀ h : k < D.length, D[k].u ≠ p.u) : umS (D.take k ++ p :: D.drop k) = insK UsM.u p.u [p.m] (umS D) := by
 rw [umS_idx] at hk
 have hf := geq_fst hk
 rw [umS_put, ins_new hr hf (no_key hr hf fun h => by have := hn (by rwa [umS_len] at h); simpa [umS, UsL.m] using this)]
theorem put_old {D : List UsL} {p : UsL} {k : Nat} (hr : RiseK UsM.u (umS D)) (hk : k < D.length) (he : D[k].u = p.u) : umS (D.take k ++ p :: D.drop (k + 1)) = insK UsM.u p.u [p.m] (umS D) := by
 rw [umS_put, ins_old hr (k := k) (by rw [umS_len]; exact hk) (by simpa [umS, UsL.m] using he)]
theorem tput_new {D : List TbM} {p : TbM} {k : Nat} (hr : RiseK TbM.u D) (hk : D.findIdx (fun x => decide (0 ≤ cmpS x.u p.u)) = k) (hn : ∀ h : k < D.length, D[k].u ≠ p.u) : D.take k ++ p :: D.drop k = insK TbM.u p.u [p] D := by
 have hf := geq_fst (key := TbM.u) hk
 rw [ins_new hr hf (no_key hr hf hn)]
 rfl
theorem tput_old {D : List TbM} {p : TbM} {k : Nat} (hr : RiseK TbM.u D) (hk : k < D.length) (he : D[k].u = p.u) : D.take k ++ p :: D.drop (k + 1) = insK TbM.u p.u [p] D := by
 rw [ins_old hr hk he]
 rfl
theorem psl_drew3 (W : World) (xs : Array Value) (t : TypeId) : Sl (W.alloc (.cells xs t)).drew (some ⟨W.heap.size, 0, none⟩) xs.toList := (sl_lit W xs t).drewN 1
theorem own_low2 {w : World} {B B' e k n : Nat} {v : Value} {xs : List Value} (h : w.ownsRow B e k v n xs) (hB : B' ≤ B) : w.ownsRow B' e k v n xs := own_base h hB
theorem pconcat3_us (x y : Option Addr) (A B : List (Value × Value)) (c1 c2 n1 n2 : Nat) (s0 s1 : Value) (h0 : s0.oneCell' = true) (h1' : s1.oneCell' = true) (W : World) (g1 g2 : Nat) (T : TypeId) (h1 : n1 = A.length) (h2 : n2 = B.length) (hA : PpSl W x A) (hB : PpSl W y B) (oA : OneP A) (oB : OneP B) (k1 : x = none → c1 = 0) (k2 : y = none → c2 = 0) (hg1 : g1 = W.heap.size) (hg2 : g2 = W.heap.size + 1) (hl : A.length + B.length ≤ 10000) :
  Calls Tryz.prog 191 #[.slice (some ⟨g2, 0, none⟩) 3 3] ((W.alloc (.cells #[s0, s1] 89)).alloc (.cells #[.slice x n1 c1, .slice (some ⟨g1, 0, none⟩) 1 1, .slice y n2 c2] T)).drew fun e w' => ∃ v, e = .returned v ∧ w'.ownsRow W.heap.size 89 2 v (A ++ (s0, s1) :: B).length (pps (A ++ (s0, s1) :: B)) ∧ Below W.heap.size W w' := by
 subst hg1 h1 h2
 have hcat : catP [⟨x, A, c1⟩, ⟨some ⟨W.heap.size, 0, none⟩, [(s0, s1)], 1⟩, ⟨y, B, c2⟩] = A ++ (s0, s1) :: B := by simp [catP]
 have hb1 := below_one W (.cells #[s0, s1] 89)
 have hS := cells_pp W [(s0, s1)] #[s0, s1] 89 _ rfl rfl
 generalize hW1 : W.alloc (.cells #[s0, s1] 89) = W1 at *
 have hz : W1.heap.size = W.heap.size + 1 := by rw [← hW1, size1]
 have hb2 := below_one W1 (.cells #[.slice x A.length c1, .slice (some ⟨W.heap.size, 0, none⟩) 1 1, .slice y B.length c2] T)
 have hb2 := hb2.drew
 have hb := hb1.trans (hb2.mono hb1.size)
 have hlen : (catP [⟨x, A, c1⟩, ⟨some ⟨W.heap.size, 0, none⟩, [(s0, s1)], 1⟩, ⟨y, B, c2⟩]).length ≤ 100000 := by rw [hcat, List.length_append, List.length_cons]; omega
 rw [hg2, ← hz]
 refine (pconcat_us (some ⟨W1.heap.size, 0, none⟩) 3 [⟨x, A, c1⟩, ⟨some ⟨W.heap.size, 0, none⟩, [(s0, s1)], 1⟩, ⟨y, B, c2⟩] _ (psl_drew3 W1 #[.slice x A.length c1, .slice (some ⟨W.heap.size, 0, none⟩) 1 1, .slice y B.length c2] T) ?_ (by show 3 ≤ _; decide) hlen).mono ?_
 ·intro r hr
  simp only [List.mem_cons, List.mem_nil_iff, or_false] at hr
  rcases hr with rfl | rfl | rfl
  ·exact ⟨hA.below hb, oA, k1⟩
  ·exact ⟨hS.below hb2, fun y hy => by rw [List.mem_singleton.1 hy]; exact ⟨h0, h1'⟩, fun h => by cases h⟩
  ·exact ⟨hB.below hb, oB, k2⟩
 ·rintro e w' ⟨v, rfl, ho, hbb⟩
  rw [hcat] at ho
  exact ⟨v, rfl, own_low2 ho hb.size, hb.trans (hbb.mono hb.size)⟩
structure Ptus (w : World) (gf gp : Nat) (p : UsL) (a : Option Addr) (l : List UsL) (W : World) : Prop where
 f : CapO W gf (.func (.func 63) #[] #[])
 p : W.heap[gp]? = some (.cells #[.string p.u, .slice p.a p.l.length p.c] 89 (0, 0))
 row : PpSl W a (l.map usp)
 frame : Below w.heap.size w W
theorem Ptus.below {w W W' : World} {gf gp : Nat} {p : UsL} {a : Option Addr} {l : List UsL} (h : Ptus w gf gp p a l W) (q : Below W.heap.size W W') : Ptus w gf gp p a l W' :=
 ⟨h.f.below q, (q.block _ (heap_lt h.p)).trans h.p, h.row.below q, h.frame.trans (q.mono h.frame.size)⟩
theorem Ptus.cells {w W : World} {gf gp : Nat} {p : UsL} {a : Option Addr} {l : List UsL} (h : Ptus w gf gp p a l W) : W.cell? ⟨gf, 0, none⟩ = some (.func (.func 63) #[] #[]) ∧ W.cell? ⟨gp, 0, none⟩ = some (.string p.u) ∧ W.cell? ⟨gp, 1, none⟩ = some (.slice p.a p.l.length p.c) := ⟨h.f.1, pcell2 h.p⟩
theorem Ptus.at_ {w W : World} {gf gp : Nat} {p : UsL} {b off : Nat} {l : List UsL} (h : Ptus w gf gp p (some ⟨b, off, none⟩) l W) {j : Nat} (hj : j < l.length) : W.cell? ⟨b, off + j * 2, none⟩ = some (.string l[j].u) ∧ W.cell? ⟨b, off + j * 2 + 1, none⟩ = some (.slice l[j].a l[j].l.length l[j].c) := by
 obtain ⟨b', off', e, _, h0, h1⟩ := h.row.at_ (k := j) (by rw [List.length_map]; exact hj)
 cases e
 rw [List.getElem_map] at h0 h1
 exact ⟨h0, h1⟩
set_option maxHeartbeats 4000000 in
theorem c_put_us (x p : UsL) (gf gp : Nat) (W : World) (hf : CapO W gf (.func (.func 63) #[] #[])) (hp : W.heap[gp]? = some (.cells #[.string p.u, .slice p.a p.l.length p.c] 89 (0, 0))) :
  Calls Tryz.prog 190 #[.agg #[.string x.u, .slice x.a x.l.length x.c], .pointer (some ⟨gf, 0, none⟩), .pointer (some ⟨gp, 0, none⟩)] W fun r w' => r = .returned (.bool (decide (0 ≤ cmpS x.u p.u))) ∧ Below W.heap.size W w' := by
 have hb := below_one W (.cells #[.string x.u, .slice x.a x.l.length x.c] 89)
 have K0 : Ptus W gf gp p none [] (W.alloc (.cells #[.string x.u, .slice x.a x.l.length x.c] 89)) := ⟨hf.below hb, (hb.block _ (heap_lt hp)).trans hp, PpSl.nil _ _, hb⟩
 have HX : Hid (∀ V, Below (W.alloc (.cells #[.string x.u, .slice x.a x.l.length x.c] 89)).heap.size (W.alloc (.cells #[.string x.u, .slice x.a x.l.length x.c] 89)) V → V.cell? ⟨W.heap.size, 0, none⟩ = some (.string x.u) ∧ V.cell? ⟨W.heap.size, 1, none⟩ = some (.slice x.a x.l.length x.c)) := fun V q => pcell2 ((q.block _ (by rw [size1]; omega)).trans (heap_alloc_new W _))
 have HSC : Hid (∀ V, Ptus W gf gp p none [] V → Below (W.alloc (.cells #[.string x.u, .slice x.a x.l.length x.c] 89)).heap.size (W.alloc (.cells #[.string x.u, .slice x.a x.l.length x.c] 89)) V → V.cell? ⟨gf, 0, none⟩ = some (.func (.func 63) #[] #[]) ∧ V.cell? ⟨gp, 0, none⟩ = some (.string p.u) ∧ V.cell? ⟨gp, 1, none⟩ = some (.slice p.a p.l.length p.c) ∧ V.cell? ⟨W.heap.size, 0, none⟩ = some (.string x.u) ∧ V.cell? ⟨W.heap.size, 1, none⟩ = some (.slice x.a x.l.length x.c)) := fun V h q => ⟨h.f.1, (pcell2 h.p).1, (pcell2 h.p).2, (HX.out V q).1, (HX.out V q).2⟩
 have HU := Lib.hid userName_any
 have HC := Lib.hid (fun V => cmp_any x.u p.u V)
 have HE : Hid (Lib.compareBytes x.u.data.toList p.u.data.toList = cmpS x.u p.u) := rfl
 rw [HE.out] at HC
 have hq : Below (W.alloc (.cells #[.string x.u, .slice x.a x.l.length x.c] 89)).heap.size (W.alloc (.cells #[.string x.u, .slice x.a x.l.length x.c] 89)) (W.alloc (.cells #[.string x.u, .slice x.a x.l.length x.c] 89)).drew := (Below.refl _ _).drew
 have K1 := K0.below hq
 have Q1 := Lib.hid hq
 have hcl := K0.cells
 obtain ⟨c0, c1, c2⟩ := hcl
 clear hf hp hb HX K0 HE hq
 generalize cmpS x.u p.u = z at *
 go_enter Tryz.func190, Tryz.ntmps190
 go_wp2_with fail
 go_region_held3 (fun V => V.cell? ⟨gf, 0, none⟩ = some (.func (.func 63) #[] #[]) ∧ V.cell? ⟨gp, 0, none⟩ = some (.string p.u) ∧ V.cell? ⟨gp, 1, none⟩ = some (.slice p.a p.l.length p.c) ∧ V.cell? ⟨W.heap.size, 0, none⟩ = some (.string x.u) ∧ V.cell? ⟨W.heap.size, 1, none⟩ = some (.slice x.a x.l.length x.c))
  (first | exact HSC.out _ K3 Q3.out | exact HSC.out _ K2 Q2.out | exact HSC.out _ K1 Q1.out)
  (first | (have hseen := K3; clear hseen; go_at_call 128; refine (HC.out _).mono ?_; rintro e w4 ⟨rfl, rfl⟩) | (have hseen := K2; clear hseen; go_at_call 63; refine (HU.out _ _ _ _ _).mono ?_; rintro e w3 ⟨rfl, h3⟩; have K3 := K2.below h3; have Q3 := Lib.hid (Q2.out.trans (h3.mono Q2.out.size))) | (have hseen := K1; clear hseen; go_at_call 63; refine (HU.out _ _ _ _ _).mono ?_; rintro e w2 ⟨rfl, h2⟩; have K2 := K1.below h2; have Q2 := Lib.hid (Q1.out.trans (h2.mono Q1.out.size))))
 go_wp2
 go_ret
 exact ⟨rfl, K3.frame⟩
theorem pconcat3_tb (x y : Option Addr) (A B : List (Value × Value)) (c1 c2 n1 n2 : Nat) (s0 s1 : Value) (h0 : s0.oneCell' = true) (h1' : s1.oneCell' = true) (W : World) (g1 g2 : Nat) (T : TypeId) (h1 : n1 = A.length) (h2 : n2 = B.length) (hA : PpSl W x A) (hB : PpSl W y B) (oA : OneP A) (oB : OneP B) (k1 : x = none → c1 = 0) (k2 : y = none → c2 = 0) (hg1 : g1 = W.heap.size) (hg2 : g2 = W.heap.size + 1) (hl : A.length + B.length ≤ 10000) :
  Calls Tryz.prog 200 #[.slice (some ⟨g2, 0, none⟩) 3 3] ((W.alloc (.cells #[s0, s1] 87)).alloc (.cells #[.slice x n1 c1, .slice (some ⟨g1, 0, none⟩) 1 1, .slice y n2 c2] T)).drew fun e w' => ∃ v, e = .returned v ∧ w'.ownsRow W.heap.size 87 2 v (A ++ (s0, s1) :: B).length (pps (A ++ (s0, s1) :: B)) ∧ Below W.heap.size W w' := by
 subst hg1 h1 h2
 have hcat : catP [⟨x, A, c1⟩, ⟨some ⟨W.heap.size, 0, none⟩, [(s0, s1)], 1⟩, ⟨y, B, c2⟩] = A ++ (s0, s1) :: B := by simp [catP]
 have hb1 := below_one W (.cells #[s0, s1] 87)
 have hS := cells_pp W [(s0, s1)] #[s0, s1] 87 _ rfl rfl
 generalize hW1 : W.alloc (.cells #[s0, s1] 87) = W1 at *
 have hz : W1.heap.size = W.heap.size + 1 := by rw [← hW1, size1]
 have hb2 := below_one W1 (.cells #[.slice x A.length c1, .slice (some ⟨W.heap.size, 0, none⟩) 1 1, .slice y B.length c2] T)
 have hb2 := hb2.drew
 have hb := hb1.trans (hb2.mono hb1.size)
 have hlen : (catP [⟨x, A, c1⟩, ⟨some ⟨W.heap.size, 0, none⟩, [(s0, s1)], 1⟩, ⟨y, B, c2⟩]).length ≤ 100000 := by rw [hcat, List.length_append, List.length_cons]; omega
 rw [hg2, ← hz]
 refine (pconcat_tb (some ⟨W1.heap.size, 0, none⟩) 3 [⟨x, A, c1⟩, ⟨some ⟨W.heap.size, 0, none⟩, [(s0, s1)], 1⟩, ⟨y, B, c2⟩] _ (psl_drew3 W1 #[.slice x A.length c1, .slice (some ⟨W.heap.size, 0, none⟩) 1 1, .slice y B.length c2] T) ?_ (by show 3 ≤ _; decide) hlen).mono ?_
 ·intro r hr
  simp only [List.mem_cons, List.mem_nil_iff, or_false] at hr
  rcases hr with rfl | rfl | rfl
  ·exact ⟨hA.below hb, oA, k1⟩
  ·exact ⟨hS.below hb2, fun y hy => by rw [List.mem_singleton.1 hy]; exact ⟨h0, h1'⟩, fun h => by cases h⟩
  ·exact ⟨hB.below hb, oB, k2⟩
 ·rintro e w' ⟨v, rfl, ho, hbb⟩
  rw [hcat] at ho
  exact ⟨v, rfl, own_low2 ho hb.size, hb.trans (hbb.mono hb.size)⟩
structure Pttb (w : World) (gf gp : Nat) (p : TbM) (a : Option Addr) (l : List TbM) (W : World) : Prop where
 f : CapO W gf (.func (.func 72) #[] #[])
 p : W.heap[gp]? = some (.cells #[.string p.u, .int .i64 p.a] 87 (0, 0))
 row : PpSl W a (l.map tbp)
 frame : Below w.heap.size w W
theorem Pttb.below {w W W' : World} {gf gp : Nat} {p : TbM} {a : Option Addr} {l : List TbM} (h : Pttb w gf gp p a l W) (q : Below W.heap.size W W') : Pttb w gf gp p a l W' :=
 ⟨h.f.below q, (q.block _ (heap_lt h.p)).trans h.p, h.row.below q, h.frame.trans (q.mono h.frame.size)⟩
theorem Pttb.cells {w W : World} {gf gp : Nat} {p : TbM} {a : Option Addr} {l : List TbM} (h : Pttb w gf gp p a l W) : W.cell? ⟨gf, 0, none⟩ = some (.func (.func 72) #[] #[]) ∧ W.cell? ⟨gp, 0, none⟩ = some (.string p.u) ∧ W.cell? ⟨gp, 1, none⟩ = some (.int .i64 p.a) := ⟨h.f.1, pcell2 h.p⟩
theorem Pttb.at_ {w W : World} {gf gp : Nat} {p : TbM} {b off : Nat} {l : List TbM} (h : Pttb w gf gp p (some ⟨b, off, none⟩) l W) {j : Nat} (hj : j < l.length) : W.cell? ⟨b, off + j * 2, none⟩ = some (.string l[j].u) ∧ W.cell? ⟨b, off + j * 2 + 1, none⟩ = some (.int .i64 l[j].a) := by
 obtain ⟨b', off', e, _, h0, h1⟩ := h.row.at_ (k := j) (by rw [List.length_map]; exact hj)
 cases e
 rw [List.getElem_map] at h0 h1
 exact ⟨h0, h1⟩
set_option maxHeartbeats 4000000 in
theorem c_put_tb (x p : TbM) (gf gp : Nat) (W : World) (hf : CapO W gf (.func (.func 72) #[] #[])) (hp : W.heap[gp]? = some (.cells #[.string p.u, .int .i64 p.a] 87 (0, 0))) :
  Calls Tryz.prog 199 #[.agg #[.string x.u, .int .i64 x.a], .pointer (some ⟨gf, 0, none⟩), .pointer (some ⟨gp, 0, none⟩)] W fun r w' => r = .returned (.bool (decide (0 ≤ cmpS x.u p.u))) ∧ Below W.heap.size W w' := by
 have hb := below_one W (.cells #[.string x.u, .int .i64 x.a] 87)
 have K0 : Pttb W gf gp p none [] (W.alloc (.cells #[.string x.u, .int .i64 x.a] 87)) := ⟨hf.below hb, (hb.block _ (heap_lt hp)).trans hp, PpSl.nil _ _, hb⟩
 have HX : Hid (∀ V, Below (W.alloc (.cells #[.string x.u, .int .i64 x.a] 87)).heap.size (W.alloc (.cells #[.string x.u, .int .i64 x.a] 87)) V → V.cell? ⟨W.heap.size, 0, none⟩ = some (.string x.u) ∧ V.cell? ⟨W.heap.size, 1, none⟩ = some (.int .i64 x.a)) := fun V q => pcell2 ((q.block _ (by rw [size1]; omega)).trans (heap_alloc_new W _))
 have HSC : Hid (∀ V, Pttb W gf gp p none [] V → Below (W.alloc (.cells #[.string x.u, .int .i64 x.a] 87)).heap.size (W.alloc (.cells #[.string x.u, .int .i64 x.a] 87)) V → V.cell? ⟨gf, 0, none⟩ = some (.func (.func 72) #[] #[]) ∧ V.cell? ⟨gp, 0, none⟩ = some (.string p.u) ∧ V.cell? ⟨gp, 1, none⟩ = some (.int .i64 p.a) ∧ V.cell? ⟨W.heap.size, 0, none⟩ = some (.string x.u) ∧ V.cell? ⟨W.heap.size, 1, none⟩ = some (.int .i64 x.a)) := fun V h q => ⟨h.f.1, (pcell2 h.p).1, (pcell2 h.p).2, (HX.out V q).1, (HX.out V q).2⟩
 have HU := Lib.hid tombName_any
 have HC := Lib.hid (fun V => cmp_any x.u p.u V)
 have HE : Hid (Lib.compareBytes x.u.data.toList p.u.data.toList = cmpS x.u p.u) := rfl
 rw [HE.out] at HC
 have hq : Below (W.alloc (.cells #[.string x.u, .int .i64 x.a] 87)).heap.size (W.alloc (.cells #[.string x.u, .int .i64 x.a] 87)) (W.alloc (.cells #[.string x.u, .int .i64 x.a] 87)).drew := (Below.refl _ _).drew
 have K1 := K0.below hq
 have Q1 := Lib.hid hq
 have hcl := K0.cells
 obtain ⟨c0, c1, c2⟩ := hcl
 clear hf hp hb HX K0 HE hq
 generalize cmpS x.u p.u = z at *
 go_enter Tryz.func199, Tryz.ntmps199
 go_wp2_with fail
 go_region_held3 (fun V => V.cell? ⟨gf, 0, none⟩ = some (.func (.func 72) #[] #[]) ∧ V.cell? ⟨gp, 0, none⟩ = some (.string p.u) ∧ V.cell? ⟨gp, 1, none⟩ = some (.int .i64 p.a) ∧ V.cell? ⟨W.heap.size, 0, none⟩ = some (.string x.u) ∧ V.cell? ⟨W.heap.size, 1, none⟩ = some (.int .i64 x.a))
  (first | exact HSC.out _ K3 Q3.out | exact HSC.out _ K2 Q2.out | exact HSC.out _ K1 Q1.out)
  (first | (have hseen := K3; clear hseen; go_at_call 128; refine (HC.out _).mono ?_; rintro e w4 ⟨rfl, rfl⟩) | (have hseen := K2; clear hseen; go_at_call 72; refine (HU.out _ _ _).mono ?_; rintro e w3 ⟨rfl, h3⟩; have K3 := K2.below h3; have Q3 := Lib.hid (Q2.out.trans (h3.mono Q2.out.size))) | (have hseen := K1; clear hseen; go_at_call 72; refine (HU.out _ _ _).mono ?_; rintro e w2 ⟨rfl, h2⟩; have K2 := K1.below h2; have Q2 := Lib.hid (Q1.out.trans (h2.mono Q1.out.size))))
 go_wp2
 go_ret
 exact ⟨rfl, K3.frame⟩
end Go.Proofs.YtjhdhfokhkcamaaGreat
namespace Go.Proofs.YtjhdhfokhkcamaaGreat
set_option linter.unusedVariables false
def an11 : ByteArray := ⟨#[97, 110, 110]⟩
def no11 : ByteArray := ⟨#[]⟩
def sA1 : SaM := ⟨3, 0, [⟨1, an11, 1, 3⟩], [], [], []⟩
def sA2 : SaM := ⟨7, 0, [⟨1, an11, 2, 7⟩], [⟨an11, [⟨3, 7, 1, 1⟩]⟩], [], []⟩
def sA3 : SaM := ⟨9, 0, [], [], [], [⟨an11, 9⟩]⟩
def sA4 : SaM := ⟨7, 0, [], [⟨an11, [⟨3, 7, 1, 1⟩]⟩], [], []⟩
theorem an_name : nameB an11 = true := by decide
theorem no_name : nameB no11 = false := by decide
theorem rv1 : RightV 1 3 1 1 an11 no11 := ⟨by decide, by decide, .inl ⟨.inl rfl, by decide, by decide, an_name, rfl, by decide, by decide⟩⟩
theorem rv2 : RightV 2 7 1 2 an11 no11 := ⟨by decide, by decide, .inl ⟨.inr rfl, by decide, by decide, an_name, rfl, by decide, by decide⟩⟩
theorem rv7 (a : Int) (h : 0 ≤ a) (k : a < 1099511627776) : RightV 7 a 0 0 an11 no11 := ⟨h, k, .inr (.inr (.inr (.inr ⟨rfl, an_name, rfl, rfl, rfl⟩)))⟩
theorem rv8 : ¬ RightV 7 8 0 0 no11 no11 := by
 rintro ⟨_, _, h⟩
 rcases h with ⟨h, _⟩ | ⟨h, _⟩ | ⟨h, _⟩ | ⟨h, _⟩ | ⟨_, h, _⟩
 ·omega
 ·omega
 ·omega
 ·omega
 ·rw [no_name] at h; cases h
theorem aE1 : errS saZ 1 3 1 1 an11 no11 = 0 := by unfold errS; rw [if_pos rv1, if_neg (by decide)]; rfl
theorem aT1 : tellS saZ 1 3 1 1 an11 no11 = sA1 := by unfold tellS; rw [aE1, if_pos rfl]; rfl
theorem aF : findC [⟨1, an11, 1, 3⟩] 1 an11 = 0 ∧ findE [⟨1, an11, 1, 3⟩] 1 an11 = ⟨1, an11, 1, 3⟩ ∧ findP [⟨1, an11, 1, 3⟩] 1 an11 = 0 := fc_hit (l := [⟨1, an11, 1, 3⟩]) (n := 1) (k := 0) ⟨by decide, fun i hi h => absurd h (by omega), fun _ => rfl⟩ (by decide) rfl
theorem aE2 : errS sA1 2 7 1 2 an11 no11 = 0 := by unfold errS; rw [if_pos rv2, if_neg (by decide)]; exact aF.1
theorem aC2 : chgR [⟨1, an11, 1, 3⟩] 1 an11 2 7 = [⟨1, an11, 2, 7⟩] := by unfold chgR; rw [if_pos aF.1, aF.2.2, chgAt_at (by decide)]; rfl
theorem aS2 : fndS [⟨1, an11, 1, 3⟩] 1 an11 7 = ⟨3, 7, 1, 1⟩ := by unfold fndS; rw [if_pos aF.1, aF.2.1]; rfl
theorem aG2 : goS sA1 2 7 1 2 an11 no11 = { sA1 with now := 7, op := chgR [⟨1, an11, 1, 3⟩] 1 an11 2 7, us := addU [] an11 (fndS [⟨1, an11, 1, 3⟩] 1 an11 7) } := rfl
theorem aT2 : tellS sA1 2 7 1 2 an11 no11 = sA2 := by
 unfold tellS
 rw [aE2, if_pos rfl, aG2, aC2, aS2]
 rfl
theorem aE3 : errS sA2 7 6 0 0 an11 no11 = 111 := by unfold errS; rw [if_pos (rv7 6 (by decide) (by decide)), if_pos (by decide)]
theorem aE4 : errS sA2 7 8 0 0 no11 no11 = 110 := by unfold errS; rw [if_neg rv8]
theorem aE5 : errS sA2 7 9 0 0 an11 no11 = 0 := by unfold errS; rw [if_pos (rv7 9 (by decide) (by decide)), if_neg (by decide)]; rfl
theorem aT5 : tellS sA2 7 9 0 0 an11 no11 = sA3 := by
 unfold tellS
 rw [aE5, if_pos rfl]
 show SaM.mk 9 0 ([⟨1, an11, 2, 7⟩].filter (notU an11)) (putU [⟨an11, [⟨3, 7, 1, 1⟩]⟩] an11 []) (withoutS [] an11) (tombU [] an11 9) = sA3
 have h1 : [(⟨1, an11, 2, 7⟩ : OpM)].filter (notU an11) = [] := List.filter_eq_nil_iff.2 fun x hx h => by rw [List.mem_singleton.1 hx] at h; exact (of_decide_eq_true h) rfl
 have h2 : putU [⟨an11, [⟨3, 7, 1, 1⟩]⟩] an11 [] = [] := by
  refine List.eq_nil_iff_forall_not_mem.2 fun x hx => ?_
  rcases putU_mem.1 hx with ⟨_, h⟩ | ⟨h, k⟩
  ·exact h rfl
  ·rw [List.mem_singleton.1 h] at k; exact k rfl
 rw [h1, h2]
 rfl
theorem aRS : resetS sA2 = sA4 := by
 show SaM.mk 7 0 [] (addU [⟨an11, [⟨3, 7, 1, 1⟩]⟩] an11 ⟨7, 7, 1, 2⟩) [] [] = sA4
 have : addU [⟨an11, [⟨3, 7, 1, 1⟩]⟩] an11 ⟨7, 7, 1, 2⟩ = [⟨an11, [⟨3, 7, 1, 1⟩]⟩] := by unfold addU; rw [if_neg (by decide)]
 rw [this]
 rfl
theorem aR1 : RightS sA1 := by have := right_go RightS.zero aE1; have h2 := aT1; unfold tellS at h2; rw [aE1, if_pos rfl] at h2; rw [h2] at this; exact this
theorem aR2 : RightS sA2 := by have := right_go aR1 aE2; have h2 := aT2; unfold tellS at h2; rw [aE2, if_pos rfl] at h2; rw [h2] at this; exact this
theorem aR3 : RightS sA3 := by have := right_go aR2 aE5; have h2 := aT5; unfold tellS at h2; rw [aE5, if_pos rfl] at h2; rw [h2] at this; exact this
theorem aR4 : RightS sA4 := by have := right_reset aR2; rw [aRS] at this; exact this
theorem aOF : ofU [⟨an11, [⟨3, 7, 1, 1⟩]⟩] an11 = [⟨3, 7, 1, 1⟩] := by
 have h := ofU_mem (l := [⟨an11, [⟨3, 7, 1, 1⟩]⟩]) aR2.ur (x := ⟨an11, [⟨3, 7, 1, 1⟩]⟩) (List.mem_singleton.2 rfl)
 exact h
theorem aST : staysS sA2 an11 9 = [⟨3, 7, 1, 1⟩, ⟨7, 9, 1, 2⟩] := by
 have h1 : staysO [⟨1, an11, 2, 7⟩] an11 9 = [⟨7, 9, 1, 2⟩] := by
  show (if an11 = an11 then addS [] ⟨7, 9, 1, 2⟩ else []) = _
  rw [if_pos rfl]
  rfl
 show addsS (staysO [⟨1, an11, 2, 7⟩] an11 9) (ofU [⟨an11, [⟨3, 7, 1, 1⟩]⟩] an11) = _
 rw [h1, aOF]
 rfl
theorem aHS : stHas sA3 an11 = true := by
 have : hasT [⟨an11, 9⟩] an11 = true := by unfold hasT isKy; simp
 unfold stHas
 rw [show sA3.tb = [⟨an11, 9⟩] from rfl, this]
 rfl
theorem aPR : pruneS sA4 = sA4 := rfl
theorem aNE : ¬ sA4 = sA3 := fun h => by
 have := congrArg SaM.now h
 exact absurd this (by decide)
theorem aRR : resetS sA4 = sA4 := rfl
end Go.Proofs.YtjhdhfokhkcamaaGreat
namespace Go.Proofs.YtjhdhfokhkcamaaGreat
open Go.RowKit Go.Proofs
set_option linter.unusedVariables false
set_option maxRecDepth 100000
set_option maxHeartbeats 2000000 in
theorem count_any11 (x : SaL) (w : World) (h : SaAt w x) (hs : stCnt x.m ≤ 1000000) (hu : x.us.length ≤ 1000000) :
  Calls Tryz.prog 33 #[saV x] w fun e w' => e = .returned (.int .i64 (stCnt x.m : Nat)) ∧ Below w.heap.size w w' := by
 have S0 := SB.new (Below.refl w.heap.size w) h 38
 have HS := Lib.hid S0
 obtain ⟨c0, c1, c2, c3, c4, c5⟩ := S0.cells
 have hs2 : x.op.length + x.su.length + x.tb.length + cntU (umS x.us) ≤ 1000000 := hs
 have HE : Hid (stCnt x.m = x.op.length + x.su.length + x.tb.length + cntU (umS x.us)) := rfl
 have hw1 : IntKind.i64.wrap ((x.op.length : Int) + (x.su.length : Int)) = (x.op.length : Int) + (x.su.length : Int) := by rw [IntWalk.i64_in] <;> omega
 have hw2 : IntKind.i64.wrap ((x.op.length : Int) + (x.su.length : Int) + (x.tb.length : Int)) = ((x.op.length + x.su.length + x.tb.length : Nat) : Int) := by rw [IntWalk.i64_in] <;> omega
 have HU := Lib.hid S0.at_.us
 have HFR := Lib.hid S0.frame
 have HT := Lib.hid (fun j (hj : j < (umS x.us).length) => cntU_take (umS x.us) j hj)
 have HL := Lib.hid (umS_len x.us)
 have HLE : Hid (∀ j, cntU ((umS x.us).take j) ≤ cntU (umS x.us)) := fun j => by
  have := cntU_append ((umS x.us).take j) ((umS x.us).drop j)
  rw [List.take_append_drop] at this
  omega
 have HM : Hid (∀ j (h1 : j < x.us.length) (h2 : j < (umS x.us).length), ((umS x.us)[j]).l.length = x.us[j].l.length) := fun j h1 h2 => by simp [umS, UsL.m]
 unfold saV saC at *
 clear h hs S0
 obtain ⟨n0, hn0⟩ : ∃ n0, n0 = x.op.length + x.su.length + x.tb.length := ⟨_, rfl⟩
 rw [← hn0] at hw2 hs2 HE
 clear HS
 generalize x.ua = ua at *
 go_enter Tryz.func33, Tryz.ntmps33
 go_wp2
 go_loopw [3, 20] (fun v i wr => ∃ (j s : Nat), j ≤ x.us.length ∧ i = .int .i64 j ∧ v = .int .i64 s ∧ s ≤ 1000000 ∧ Hid (s = n0 + cntU ((umS x.us).take j)) ∧ Hid (Below w.heap.size w wr) ∧ Hid (UsSl wr ua x.us)) (fun _ i _ => x.us.length - (intOf i).toNat)
 case atStart => exact ⟨0, n0, by omega, rfl, congrArg (Value.int .i64) (by omega), by omega, by simp [Hid, cntU], HFR.out, HU.out⟩
 case round =>
  obtain ⟨j, s, hj, rfl, rfl, hsm, HSS, HB, HUU⟩ := hrel
  by_cases hjl : j < x.us.length
  ·obtain ⟨b, off, rfl, hbl, hc0, hc1, -⟩ := HUU.out.get hjl
   have hnx : s + x.us[j].l.length ≤ 1000000 := by
    have h1 := HT.out j (by rw [HL.out]; exact hjl)
    have h2 := HLE.out (j + 1)
    have h3 := HSS.out
    have h4 := HM.out j hjl (by rw [HL.out]; exact hjl)
    omega
   have HN : Hid (s + x.us[j].l.length = n0 + cntU ((umS x.us).take (j + 1))) := by
    have h1 := HT.out j (by rw [HL.out]; exact hjl)
    have h3 := HSS.out
    have h4 := HM.out j hjl (by rw [HL.out]; exact hjl)
    unfold Hid
    omega
   have hb1 := below_one wr (.cells #[.string x.us[j].u, .slice x.us[j].a x.us[j].l.length x.us[j].c] 89)
   have HB1 := Lib.hid (HB.out.trans (hb1.mono HB.out.size))
   have HU1 := Lib.hid (HUU.out.below hb1)
   clear hb1 HM HLE HT HSS HUU
   generalize x.us[j] = y at *
   have hwr : IntKind.i64.wrap ((s : Int) + (y.l.length : Int)) = ((s + y.l.length : Nat) : Int) := by rw [IntWalk.i64_in] <;> omega
   go_wp2
   go_roundw
   case rel => exact ⟨j + 1, s + y.l.length, by omega, by go_num, by first | rfl | go_num, hnx, HN, HB1.out, HU1.out⟩
   case measure => simp [intOf]; omega
  ·obtain rfl : j = x.us.length := by omega
   have hE2 : s = stCnt x.m := by
    have h3 := HSS.out
    rw [List.take_of_length_le (by rw [HL.out]; exact Nat.le_refl _)] at h3
    rw [HE.out]
    exact h3
   have HE2 := Lib.hid hE2
   clear hE2 HM HLE HT HSS
   go_wp2
   go_ret
   exact ⟨by rw [← HE2.out]; rfl, HB.out⟩
set_option maxHeartbeats 2000000 in
theorem rcount_any (x : SaL) (w : World) (h : SaAt w x) (hs : stCnt x.m ≤ 10000000) (hu : x.us.length ≤ 10000000) :
  Calls Tryz.prog 34 #[saV x] w fun e w' => e = .returned (.int .i64 (stCnt x.m : Nat)) ∧ Below w.heap.size w w' := by
 have S0 := SB.new (Below.refl w.heap.size w) h 27
 obtain ⟨c0, c1, c2, c3, c4, c5⟩ := S0.cells
 have hs2 : x.op.length + x.su.length + x.tb.length + cntU (umS x.us) ≤ 10000000 := hs
 have HE : Hid (stCnt x.m = x.op.length + x.su.length + x.tb.length + cntU (umS x.us)) := rfl
 have hw1 : IntKind.i64.wrap ((x.op.length : Int) + (x.su.length : Int)) = (x.op.length : Int) + (x.su.length : Int) := by rw [IntWalk.i64_in] <;> omega
 have hw2 : IntKind.i64.wrap ((x.op.length : Int) + (x.su.length : Int) + (x.tb.length : Int)) = ((x.op.length + x.su.length + x.tb.length : Nat) : Int) := by rw [IntWalk.i64_in] <;> omega
 have HU := Lib.hid S0.at_.us
 have HFR := Lib.hid S0.frame
 have HT := Lib.hid (fun j (hj : j < (umS x.us).length) => cntU_take (umS x.us) j hj)
 have HL := Lib.hid (umS_len x.us)
 have HLE : Hid (∀ j, cntU ((umS x.us).take j) ≤ cntU (umS x.us)) := fun j => by
  have := cntU_append ((umS x.us).take j) ((umS x.us).drop j)
  rw [List.take_append_drop] at this
  omega
 have HM : Hid (∀ j (h1 : j < x.us.length) (h2 : j < (umS x.us).length), ((umS x.us)[j]).l.length = x.us[j].l.length) := fun j h1 h2 => by simp [umS, UsL.m]
 unfold saV saC at *
 clear h hs S0
 obtain ⟨n0, hn0⟩ : ∃ n0, n0 = x.op.length + x.su.length + x.tb.length := ⟨_, rfl⟩
 rw [← hn0] at hw2 hs2 HE
 generalize x.ua = ua at *
 go_enter Tryz.func34, Tryz.ntmps34
 go_wp2
 go_loopw [3, 4] (fun v i wr => ∃ (j s : Nat), j ≤ x.us.length ∧ i = .int .i64 j ∧ v = .int .i64 s ∧ s ≤ 10000000 ∧ Hid (s = n0 + cntU ((umS x.us).take j)) ∧ wr = w.alloc (.cells #[.int .i64 x.now, .int .i64 x.hor, .slice x.oa x.op.length x.oc, .slice ua x.us.length x.uc, .slice x.sa x.su.length x.sc, .slice x.ta x.tb.length x.tc] 27)) (fun _ i _ => x.us.length - (intOf i).toNat)
 case atStart => exact ⟨0, n0, by omega, rfl, congrArg (Value.int .i64) (by omega), by omega, by simp [Hid, cntU], rfl⟩
 case round =>
  obtain ⟨j, s, hj, rfl, rfl, hsm, HSS, rfl⟩ := hrel
  by_cases hjl : j < x.us.length
  ·obtain ⟨b, off, rfl, hbl, hc0, hc1, -⟩ := HU.out.get hjl
   have hnx : s + x.us[j].l.length ≤ 10000000 := by
    have h1 := HT.out j (by rw [HL.out]; exact hjl)
    have h2 := HLE.out (j + 1)
    have h3 := HSS.out
    have h4 := HM.out j hjl (by rw [HL.out]; exact hjl)
    omega
   have HN : Hid (s + x.us[j].l.length = n0 + cntU ((umS x.us).take (j + 1))) := by
    have h1 := HT.out j (by rw [HL.out]; exact hjl)
    have h3 := HSS.out
    have h4 := HM.out j hjl (by rw [HL.out]; exact hjl)
    unfold Hid
    omega
   clear HM HLE HT HSS
   generalize x.us[j] = y at *
   have hwr : IntKind.i64.wrap ((s : Int) + (y.l.length : Int)) = ((s + y.l.length : Nat) : Int) := by rw [IntWalk.i64_in] <;> omega
   go_wp2
   go_roundw
   case rel => exact ⟨j + 1, s + y.l.length, by omega, by go_num, by first | rfl | go_num, hnx, HN, by first | rfl | trivial⟩
   case measure => simp [intOf]; omega
  ·obtain rfl : j = x.us.length := by omega
   have hE2 : s = stCnt x.m := by
    have h3 := HSS.out
    rw [List.take_of_length_le (by rw [HL.out]; exact Nat.le_refl _)] at h3
    rw [HE.out]
    exact h3
   have HE2 := Lib.hid hE2
   clear hE2 HM HLE HT HSS
   go_wp2
   go_ret
   exact ⟨by rw [← HE2.out]; rfl, HFR.out⟩
end Go.Proofs.YtjhdhfokhkcamaaGreat
namespace Go.Proofs.YtjhdhfokhkcamaaGreat
open Go.ChangeShapes Go.WideShapes Go.ChangeAt Go.RowKit
set_option linter.unusedVariables false
set_option maxRecDepth 100000
set_option maxRecDepth 100000
theorem opFields : ∃ f0 f1 f2 f3 : Field, Tryz.prog.underlying 75 = some (.struct #[f0, f1, f2, f3]) ∧ f0.offset = 0 ∧ f1.offset = 1 ∧ f2.offset = 2 ∧ f3.offset = 3 ∧ f0.type = 3 ∧ f1.type = 9 ∧ f2.type = 3 ∧ f3.type = 3 := ⟨_, _, _, _, Tryz.underlying75, rfl, rfl, rfl, rfl, rfl, rfl, rfl, rfl⟩
theorem read_sess {H : Type} {enc : TypeId × Value → H} {W : World} {n : Nat} {cs : List Value} {x : DataW H × List MemPlace}
  (h : DataW.trod enc Tryz.prog W 0 (fun _ => true) true n 22 cs = some x) :
  ∃ (a : Option Addr) (c : Nat) (l : List OpM), cs = [.slice a l.length c] ∧ OpSl W a l ∧ SzO l ∧ l.length ≤ c ∧ c ≤ maxLen ∧ (a = none → c = 0) := by
 obtain ⟨f0, f1, f2, f3, he, o0, o1, o2, o3, t0, t1, t2, t3⟩ := opFields
 have ci : Tryz.prog.cellsOf 3 = 1 := by kernel_rfl
 have cs' : Tryz.prog.cellsOf 9 = 1 := by kernel_rfl
 rcases open_quads Tryz.underlying22 he (by kernel_rfl) o0 o1 o2 o3 (by rw [t0]; exact ci) (by rw [t1]; exact cs') (by rw [t2]; exact ci) (by rw [t3]; exact ci) h with ⟨rfl, _⟩ | ⟨a, len, cap, rfl, hl, hm, hx⟩
 ·exact ⟨none, 0, [], rfl, OpSl.nil _ _, (fun s hs => by cases hs), by simp, by decide, fun _ => rfl⟩
 ·have each : ∀ i, i < len → ∃ x : OpM, W.cell? (a.add (i * 4)) = some (.int .i64 x.n) ∧ W.cell? (a.add (i * 4 + 1)) = some (.string x.u) ∧ W.cell? (a.add (i * 4 + 2)) = some (.int .i64 x.s) ∧ W.cell? (a.add (i * 4 + 3)) = some (.int .i64 x.f) ∧ x.u.size ≤ maxLen := fun i hi => by
   obtain ⟨v0, v1, v2, v3, y0, y1, y2, y3, n, k0, k1, k2, k3, g0, g1, g2, g3⟩ := hx i hi
   rw [t0] at g0
   rw [t1] at g1
   rw [t2] at g2
   rw [t3] at g3
   obtain ⟨z0, e0, _, w0⟩ := DataW.trod_int Tryz.underlying3 g0
   obtain ⟨z1, e1, _, w1⟩ := DataW.trod_string Tryz.underlying9 g1
   obtain ⟨z2, e2, _, w2⟩ := DataW.trod_int Tryz.underlying3 g2
   obtain ⟨z3, e3, _, w3⟩ := DataW.trod_int Tryz.underlying3 g3
   simp at e0 e1 e2 e3
   exact ⟨⟨z0, z1, z2, z3⟩, by rw [k0, e0], by rw [k1, e1], by rw [k2, e2], by rw [k3, e3], w1⟩
  have some_x : ∃ f : Nat → OpM, ∀ i, i < len → W.cell? (a.add (i * 4)) = some (.int .i64 (f i).n) ∧ W.cell? (a.add (i * 4 + 1)) = some (.string (f i).u) ∧ W.cell? (a.add (i * 4 + 2)) = some (.int .i64 (f i).s) ∧ W.cell? (a.add (i * 4 + 3)) = some (.int .i64 (f i).f) ∧ (f i).u.size ≤ maxLen := by
   refine ⟨fun i => if h : i < len then (each i h).choose else opZ, fun i hi => ?_⟩
   simp only [hi, ↓reduceDIte]
   exact (each i hi).choose_spec
  obtain ⟨f, hf2⟩ := some_x
  have hlen : ((List.range len).map f).length = len := by simp
  refine ⟨some a, cap, (List.range len).map f, by rw [hlen], fun k hk => ?_, fun x hxm => ?_, by omega, hm, fun h => by cases h⟩
  ·rw [hlen] at hk
   obtain ⟨b, off, spot⟩ := a
   have h0 := (hf2 0 (by omega)).1
   have hspot : spot = none := by simpa [Addr.add] using World.cell?_spot h0
   subst hspot
   obtain ⟨g0, g1, g2, g3, _⟩ := hf2 k (by omega)
   rw [Go.WideShapes.add_plain] at g0 g1 g2 g3
   simp only [List.getElem_map, List.getElem_range]
   exact ⟨b, off, rfl, World.block_lt_of_cell? W ⟨b, off + k * 4, none⟩ g0, g0, g1, g2, g3⟩
  ·obtain ⟨i, hi, rfl⟩ := List.mem_map.1 hxm
   exact (hf2 i (by have := List.mem_range.1 hi; omega)).2.2.2.2
end Go.Proofs.YtjhdhfokhkcamaaGreat
