/- Texts of mine, one behind the other, of each what is wanted. -/
import Derived.Test.YtjhdhfokhkcamaaGreatS00
import Derived.Test.YtjhdhfokhkcamaaGreatShelf
import Derived.Test.YtjhdhfokhkcamaaGreatS01
import Derived.Test.YtjhdhfokhkcamaaGreatS02
import Derived.Test.YtjhdhfokhkcamaaGreatS03
import Derived.Test.YtjhdhfokhkcamaaGreatS04
import Derived.Test.YtjhdhfokhkcamaaGreatS06
import Derived.Test.YtjhdhfokhkcamaaGreatS07
import Derived.Test.YtjhdhfokhkcamaaGreatS09
import Derived.Test.YtjhdhfokhkcamaaGreatS11
import Derived.Test.YtjhdhfokhkcamaaGreatS14
namespace Go.Proofs.YtjhdhfokhkcamaaGreat
set_option linter.unusedVariables false
set_option maxRecDepth 100000
def addsS (l : List StM) (r : List StM) : List StM := l.foldl addS r
def staysS (s : SaM) (u : ByteArray) (w : Int) : List StM := addsS (staysO s.op u w) (ofU s.us u)
theorem addsS_len : ∀ (l r : List StM), (addsS l r).length ≤ r.length + l.length
 | [], r => by simp [addsS]
 | x :: l, r => by
  have h1 := addsS_len l (addS r x)
  have h2 := addS_len r x
  show (addsS l (addS r x)).length ≤ _
  rw [List.length_cons]
  omega
theorem addsS_next (l : List StM) (r : List StM) (j : Nat) (h : j < l.length) : addsS (l.take (j + 1)) r = addS (addsS (l.take j) r) l[j] := by
 unfold addsS
 rw [List.take_succ_eq_append_getElem h, List.foldl_append]
 rfl
def hasO (l : List OpM) (u : ByteArray) : Bool := l.any (isU u)
def hasU (l : List UsM) (u : ByteArray) : Bool := l.any (isKy UsM.u u)
def hasT (l : List TbM) (u : ByteArray) : Bool := l.any (isKy TbM.u u)
def prE (u : ByteArray) (e : EnM) : Bool := decide (e.w = u ∨ e.u = u)
def hasE (l : List EnM) (u : ByteArray) : Bool := l.any (prE u)
def stHas (s : SaM) (u : ByteArray) : Bool := hasT s.tb u || hasU s.us u || hasO s.op u || hasE s.su u
def cntU (l : List UsM) : Nat := (l.map fun x => x.l.length).sum
def stCnt (s : SaM) : Nat := s.op.length + s.su.length + s.tb.length + cntU s.us
theorem cntU_cons (x : UsM) (l : List UsM) : cntU (x :: l) = x.l.length + cntU l := by simp [cntU]
theorem cntU_append (a b : List UsM) : cntU (a ++ b) = cntU a + cntU b := by simp [cntU]
theorem cntU_take (l : List UsM) (j : Nat) (h : j < l.length) : cntU (l.take (j + 1)) = cntU (l.take j) + l[j].l.length := by
 rw [List.take_succ_eq_append_getElem h, cntU_append]
 simp [cntU]
theorem cntU_parts (u : ByteArray) : ∀ l : List UsM, cntU (l.filter (belK UsM.u u)) + cntU (l.filter (abvK UsM.u u)) + (ofU l u).length ≤ cntU l
 | [] => by simp [cntU, ofU]
 | x :: l => by
  have ih := cntU_parts u l
  rw [List.filter_cons, List.filter_cons, cntU_cons]
  by_cases h : x.u = u
  ·have h1 : ¬ belK UsM.u u x = true := fun h1 => cmpS_ne (belK_iff.1 h1) h
   have h2 : ¬ abvK UsM.u u x = true := fun h1 => cmpS_ne (abvK_iff.1 h1) h.symm
   have h3 : ofU (x :: l) u = x.l := by
    unfold ofU
    rw [List.find?_cons_of_pos (isKy_iff.2 h)]
   rw [if_neg h1, if_neg h2, h3]
   omega
  ·have h3 : ofU (x :: l) u = ofU l u := by
    unfold ofU
    rw [List.find?_cons_of_neg (fun h1 => h (isKy_iff.1 h1))]
   rw [h3]
   by_cases h1 : belK UsM.u u x = true
   ·have h2 : ¬ abvK UsM.u u x = true := fun h2 => cmpS_asym (belK_iff.1 h1) (abvK_iff.1 h2)
    rw [if_pos h1, if_neg h2, cntU_cons]
    omega
   ·rw [if_neg h1]
    split
    ·rw [cntU_cons]; omega
    ·omega
theorem cntU_put (l : List UsM) (u : ByteArray) (r : List StM) : cntU (putU l u r) + (ofU l u).length ≤ cntU l + r.length := by
 have h := cntU_parts u l
 have h1 : cntU (rowU u r) = r.length := by
  unfold rowU
  cases r with
  | nil => rfl
  | cons a r => simp [cntU]
 unfold putU insK
 rw [cntU_append, cntU_append, h1]
 omega
theorem cntU_add (l : List UsM) (u : ByteArray) (x : StM) : cntU (addU l u x) ≤ cntU l + 1 := by
 unfold addU
 split
 ·have h1 := cntU_put l u (addS (ofU l u) x)
  have h2 := addS_len (ofU l u) x
  omega
 ·omega
theorem cntU_reset (now : Int) : ∀ (l : List OpM) (us : List UsM), cntU (resetU l now us) ≤ cntU us + l.length
 | [], us => by simp [resetU]
 | e :: l, us => by
  have h1 := cntU_reset now l (addU us e.u (stayO e now))
  have h2 := cntU_add us e.u (stayO e now)
  show cntU (resetU l now (addU us e.u (stayO e now))) ≤ _
  rw [List.length_cons]
  omega
theorem cntU_prune (t : Int) : ∀ l : List UsM, cntU (pruneU l t) ≤ cntU l
 | [] => by simp [pruneU]
 | x :: l => by
  have ih := cntU_prune t l
  have h1 : (aftS x.l t).length ≤ x.l.length := List.length_filter_le _ _
  unfold pruneU at ih ⊢
  rw [List.map_cons, List.filter_cons, cntU_cons]
  split
  ·rw [cntU_cons]
   have h2 : (⟨x.u, aftS x.l t⟩ : UsM).l.length = (aftS x.l t).length := rfl
   omega
  ·omega
theorem cnt_reset (s : SaM) : stCnt (resetS s) ≤ stCnt s := by
 have h := cntU_reset s.now s.op s.us
 unfold stCnt resetS
 simp only [List.length_nil]
 omega
theorem cnt_prune (s : SaM) : stCnt (pruneS s) ≤ stCnt s := by
 have h := cntU_prune s.hor s.us
 have h1 : (aftE s.su s.hor).length ≤ s.su.length := List.length_filter_le _ _
 unfold stCnt pruneS
 simp only
 omega
theorem cnt_go (s : SaM) (k a n st : Int) (u o : ByteArray) : stCnt (goS s k a n st u o) ≤ stCnt s + 1 := by
 have h1 := openR_len s.op ⟨n, u, st, a⟩
 have h2 := chgR_len s.op n u st a
 have h3 := cloR_len s.op n u
 have h4 := cntU_add s.us u (fndS s.op n u a)
 have h5 := grant_len s.su (mkE u o a)
 have h6 := revoke_len s.su u o a
 have h7 : (s.op.filter (notU u)).length ≤ s.op.length := List.length_filter_le _ _
 have h8 : (withoutS s.su u).length ≤ s.su.length := List.length_filter_le _ _
 have h9 := cntU_put s.us u []
 have h10 : (tombU s.tb u a).length ≤ s.tb.length + 1 := insK_len
 simp only [List.length_nil] at h9
 unfold stCnt goS
 repeat' split
 all_goals (simp only; omega)
end Go.Proofs.YtjhdhfokhkcamaaGreat
namespace Go.Proofs.YtjhdhfokhkcamaaGreat
open Go.RowKit
set_option linter.unusedVariables false
set_option maxRecDepth 100000
set_option maxHeartbeats 400000 in
theorem all_any (a : Option Addr) (c : Nat) (l : List ByteArray) (w : World) (hr : Sl w a (strs l)) (hf : Fits l) :
  Calls Tryz.prog 183 #[.slice a l.length c] w fun e w' => e = .returned (.bool (l.all nameB)) ∧ w = w' := by
 have hm := hf.1
 unfold maxLen at hm
 have HR := Lib.hid hr
 have HF := Lib.hid hf
 clear hr hf
 go_enter Tryz.func183, Tryz.ntmps183
 go_wp2
 go_loop [7] (fun i => ∃ k : Nat, k ≤ l.length ∧ i = .int .i64 k ∧ Hid ((l.take k).all nameB = true)) (fun i => l.length - (intOf i).toNat)
 case atStart => exact ⟨0, by omega, rfl, by simp [Hid]⟩
 case round =>
  obtain ⟨k, hk, rfl, H⟩ := hrel
  by_cases hlt : k < l.length
  ·obtain ⟨b, off, rfl, hbl, hcell⟩ := HR.out.str hlt
   have hsz : l[k].size ≤ maxLen := HF.out.2 _ (List.getElem_mem hlt)
   cases hB : isName l[k].data.toList
   ·have HB := Lib.hid (all_not_at nameB l k hlt hB)
    go_wp2_with (go_at_call 127; refine (right_any _ _ hsz).mono ?_; rintro e w' ⟨rfl, rfl⟩)
    go_ret
    exact ⟨retB HB.out.symm, rfl⟩
   ·have HB := Lib.hid (all_take_next nameB l k hlt H.out hB)
    go_wp2_with (go_at_call 127; refine (right_any _ _ hsz).mono ?_; rintro e w' ⟨rfl, rfl⟩)
    go_round
    case rel => exact ⟨k + 1, by omega, by go_num, HB⟩
    case measure => simp [intOf]; omega
  ·have HB := Lib.hid (all_take_end nameB l k (by omega) H.out)
   go_wp2
   go_ret
   exact ⟨retB HB.out.symm, rfl⟩
def pr (a b : ByteArray) : Value := .agg #[.string a, .string b]
theorem sl_two (w : World) (x y : Value) (t : TypeId) : Sl (w.alloc (.cells #[x, y] t)) (some ⟨w.heap.size, 0, none⟩) [x, y] := fun k hk => by
 refine ⟨_, _, rfl, by simp, ?_⟩
 match k, hk with
 | 0, _ => simp
 | 1, _ => simp
set_option maxHeartbeats 400000 in
theorem pairRight_any (a b : ByteArray) (w : World) (ha : a.size ≤ maxLen) (hb : b.size ≤ maxLen) :
  Calls Tryz.prog 136 #[pr a b] w fun e w' => e = .returned (.bool (nameB a && nameB b)) ∧ Below w.heap.size w w' := by
 have hall : ∀ t (W : World) (g : Nat), g = W.heap.size → Calls Tryz.prog 183 #[.slice (some ⟨g, 0, none⟩) 2 2] (W.alloc (.cells #[.string a, .string b] t)) fun e w' => e = .returned (.bool (nameB a && nameB b)) ∧ (W.alloc (.cells #[.string a, .string b] t)) = w' := fun t W g hg => by
  subst hg
  have h := all_any (some ⟨W.heap.size, 0, none⟩) 2 [a, b] _ (sl_two W (.string a) (.string b) t) ⟨by simp [maxLen], by simp [ha, hb]⟩
  simpa using h
 have HA := Lib.hid hall
 clear hall
 unfold pr
 go_enter Tryz.func136, Tryz.ntmps136
 go_wp2_with (go_at_call 183; refine (HA.out _ _ _ (by simp)).mono ?_; rintro e w' ⟨rfl, rfl⟩)
 go_ret
 exact ⟨rfl, ((Below.refl _ _).alloc (Nat.le_refl _) _).alloc (by simp) _⟩
set_option maxHeartbeats 400000 in
theorem pairCmp_any (a b c d : ByteArray) (w : World) :
  Calls Tryz.prog 192 #[pr a b, pr c d] w fun e w' => e = .returned (.int .i64 (cmpP a b c d)) ∧ Below w.heap.size w w' := by
 unfold pr
 have HB : Hid (∀ o o', Below w.heap.size w ((w.alloc o).alloc o')) := fun o o' => ((Below.refl _ _).alloc (Nat.le_refl _) _).alloc (by simp) _
 have hcm : ∀ x y W, Calls Tryz.prog 128 #[.string x, .string y] W fun e w' => e = .returned (.int .i64 (cmpS x y)) ∧ W = w' := fun x y W => cmp_any x y W
 have HC := Lib.hid hcm
 clear hcm
 cases h : (cmpS a c != 0)
 ·have HE : Hid (cmpP a b c d = cmpS b d) := if_pos (by simpa using h)
  go_enter Tryz.func192, Tryz.ntmps192
  go_wp2_with (go_at_call 128; refine (HC.out _ _ _).mono ?_; rintro e w' ⟨rfl, rfl⟩)
  go_ret
  exact ⟨retI HE.out.symm, HB.out _ _⟩
 ·have HE : Hid (cmpP a b c d = cmpS a c) := if_neg (by simpa using h)
  go_enter Tryz.func192, Tryz.ntmps192
  go_wp2_with (go_at_call 128; refine (HC.out _ _ _).mono ?_; rintro e w' ⟨rfl, rfl⟩)
  go_ret
  exact ⟨retI HE.out.symm, HB.out _ _⟩
def eqS (a b : ByteArray) : Bool := a.toList == b.toList
theorem eqS_iff (a b : ByteArray) : eqS a b = true ↔ a = b := by
 unfold eqS
 rw [beq_iff_eq, ByteArray.toList_eq, ByteArray.toList_eq]
 constructor
 ·intro h
  cases a; cases b
  simp at h
  rw [h]
 ·intro h; rw [h]
set_option maxHeartbeats 400000 in
theorem pairHas_any (a b s : ByteArray) (w : World) :
  Calls Tryz.prog 99 #[pr a b, .string s] w fun e w' => e = .returned (.bool (eqS s a || eqS s b)) ∧ Below w.heap.size w w' := by
 unfold pr
 have HB : Hid (∀ o, Below w.heap.size w (w.alloc o)) := fun o => (Below.refl _ _).alloc (Nat.le_refl _) _
 cases h : (s.toList == a.toList)
 ·have HE : Hid ((s.toList == b.toList) = (eqS s a || eqS s b)) := by unfold Hid eqS; rw [h]; rfl
  go_enter Tryz.func99, Tryz.ntmps99
  go_wp2
  go_ret
  exact ⟨retB HE.out, HB.out _⟩
 ·have HE : Hid (true = (eqS s a || eqS s b)) := by unfold Hid eqS; rw [h]; rfl
  go_enter Tryz.func99, Tryz.ntmps99
  go_wp2
  go_ret
  exact ⟨retB HE.out, HB.out _⟩
end Go.Proofs.YtjhdhfokhkcamaaGreat
namespace Go.Proofs.YtjhdhfokhkcamaaGreat
open Go.RowKit
set_option linter.unusedVariables false
set_option maxRecDepth 100000
set_option maxRecDepth 100000
theorem ebelow_one (w : World) (o : Obj) : Below w.heap.size w (w.alloc o) := (Below.refl _ _).alloc (Nat.le_refl _) _
def PcAt (W : World) (g : Nat) (w u : ByteArray) : Prop := W.cell? ⟨g, 0, none⟩ = some (.string w) ∧ W.cell? ⟨g, 1, none⟩ = some (.string u) ∧ g < W.heap.size
theorem PcAt.below {W W' : World} {g : Nat} {w u : ByteArray} (h : PcAt W g w u) (q : Below W.heap.size W W') : PcAt W' g w u :=
 ⟨(q.cell (p := ⟨g, 0, none⟩) h.2.2).trans h.1, (q.cell (p := ⟨g, 1, none⟩) h.2.2).trans h.2.1, Nat.lt_of_lt_of_le h.2.2 q.size⟩
theorem PcAt.new (W : World) (w u : ByteArray) (t : TypeId) : PcAt (W.alloc (.cells #[.string w, .string u] t)) W.heap.size w u :=
 ⟨cell_of_row _ _ _ _ _ _ (heap_alloc_new W _), cell_of_row _ _ _ _ _ _ (heap_alloc_new W _), by rw [size1]; omega⟩
theorem str_ne {a b : ByteArray} (h : ¬ a = b) : (a.toList == b.toList) = false := by
 have h1 := eqS_iff a b
 unfold eqS at h1
 cases hc : (a.toList == b.toList) with
 | false => rfl
 | true => exact absurd (h1.1 hc) h
theorem str_eq (a : ByteArray) : (a.toList == a.toList) = true := beq_self_eq_true _
set_option maxHeartbeats 1000000 in
theorem infc_any (e : EnM) (w u : ByteArray) (g : Nat) (W : World) (h : PcAt W g w u) :
  Calls Tryz.prog 195 #[enV e, .pointer (some ⟨g, 0, none⟩)] W fun r w' => r = .returned (.bool (infE w u e)) ∧ Below W.heap.size W w' := by
 have HB := Lib.hid (ebelow_one W)
 obtain ⟨c0, c1, hg⟩ := h
 unfold enV
 obtain ⟨ew, eu, ef, et⟩ := e
 have HF : Hid (∀ b : Bool, (b = true ↔ ew = w ∧ eu = u ∧ et = 1099511627776) → b = infE w u ⟨ew, eu, ef, et⟩) := fun b hb => by
  have h1 := infE_iff (w := w) (u := u) (e := ⟨ew, eu, ef, et⟩)
  cases hc : infE w u ⟨ew, eu, ef, et⟩ with
  | true => rw [hc] at h1; exact hb.2 (h1.1 rfl)
  | false =>
   rw [hc] at h1
   cases b with
   | false => rfl
   | true => exact absurd (h1.2 (hb.1 rfl)) Bool.false_ne_true
 dsimp only
 by_cases h0 : ew = w
 ·subst h0
  have e0 := str_eq ew
  by_cases h1 : eu = u
  ·subst h1
   have e1 := str_eq eu
   by_cases h2 : et = 1099511627776
   ·subst h2
    have HE := Lib.hid (HF.out true ⟨fun _ => ⟨rfl, rfl, rfl⟩, fun _ => rfl⟩)
    clear HF
    go_enter Tryz.func195, Tryz.ntmps195
    go_wp2
    go_ret
    exact ⟨retB HE.out, HB.out _⟩
   ·have e2 : (et == 1099511627776) = false := beq_eq_false_iff_ne.2 h2
    have HE := Lib.hid (HF.out false ⟨fun h => (by cases h), fun h => absurd h.2.2 h2⟩)
    clear HF h2
    go_enter Tryz.func195, Tryz.ntmps195
    go_wp2
    go_ret
    exact ⟨retB HE.out, HB.out _⟩
  ·have e1 := str_ne h1
   have HE := Lib.hid (HF.out false ⟨fun h => (by cases h), fun h => absurd h.2.1 h1⟩)
   clear HF h1
   go_enter Tryz.func195, Tryz.ntmps195
   go_wp2
   go_ret
   exact ⟨retB HE.out, HB.out _⟩
 ·have e0 := str_ne h0
  have HE := Lib.hid (HF.out false ⟨fun h => (by cases h), fun h => absurd h.1 h0⟩)
  clear HF h0
  go_enter Tryz.func195, Tryz.ntmps195
  go_wp2
  go_ret
  exact ⟨retB HE.out, HB.out _⟩
def idxI (p : EnM → Bool) (l : List EnM) : Int := if l.findIdx p < l.length then (l.findIdx p : Nat) else -1
theorem idx_hit {p : EnM → Bool} {l : List EnM} {k : Nat} (h : IsFirst p l k) (hk : k < l.length) : idxI p l = k := by
 unfold idxI
 rw [h.idx, if_pos hk]
theorem idx_miss {p : EnM → Bool} {l : List EnM} (h : IsFirst p l l.length) : idxI p l = -1 := by
 unfold idxI
 rw [h.idx, if_neg (by omega)]
theorem idx_any (p : EnM → Bool) (l : List EnM) : decide (0 ≤ idxI p l) = l.any p := by
 have h := first_idx p l
 rw [h.any]
 by_cases h1 : l.findIdx p < l.length
 ·rw [idx_hit h h1, decide_eq_true h1]
  exact decide_eq_true (by omega)
 ·rw [decide_eq_false h1]
  unfold idxI
  rw [if_neg h1]
  rfl
def LowTo (p : EnM → Bool) (l : List EnM) (j : Nat) : Prop := ∀ i (h : i < l.length), i < j → p l[i] = false
theorem LowTo.next {p : EnM → Bool} {l : List EnM} {j : Nat} (h : LowTo p l j) (hj : j < l.length) (hp : p l[j] = false) : LowTo p l (j + 1) := fun i hi hij => by
 rcases Nat.lt_or_ge i j with h1 | h1
 ·exact h i hi h1
 ·obtain rfl : i = j := by omega
  exact hp
theorem LowTo.hit {p : EnM → Bool} {l : List EnM} {j : Nat} (h : LowTo p l j) (hj : j < l.length) (hp : p l[j] = true) : IsFirst p l j := ⟨Nat.le_of_lt hj, h, fun _ => hp⟩
theorem LowTo.miss {p : EnM → Bool} {l : List EnM} (h : LowTo p l l.length) : IsFirst p l l.length := ⟨Nat.le_refl _, h, fun h => absurd h (by omega)⟩
set_option maxHeartbeats 2000000 in
theorem index_any (a : Option Addr) (c : Nat) (l : List EnM) (w u : ByteArray) (g : Nat) (W : World) (hr : EnSl W a l) (h : PcAt W g w u) (hl : l.length ≤ 1000000) :
  Calls Tryz.prog 194 #[.slice a l.length c, .func (.func 195) #[] #[.pointer (some ⟨g, 0, none⟩)]] W fun r w' => r = .returned (.int .i64 (idxI (infE w u) l)) ∧ Below W.heap.size W w' := by
 have HR := Lib.hid hr
 have HP := Lib.hid h
 have HC := Lib.hid (fun e V k => infc_any e w u g V k)
 unfold enV at HC
 clear hr h
 go_enter Tryz.func194, Tryz.ntmps194
 go_wp2
 go_loopw [8] (fun i wr => ∃ (j : Nat), j ≤ l.length ∧ i = .int .i64 j ∧ Hid (LowTo (infE w u) l j) ∧ Hid (Below W.heap.size W wr)) (fun i _ => l.length - (intOf i).toNat)
 case atStart => exact ⟨0, by omega, rfl, fun k _ h => absurd h (by omega), Below.refl _ _⟩
 case round =>
  obtain ⟨j, hj, rfl, HO, HB⟩ := hrel
  by_cases hjl : j < l.length
  ·obtain ⟨b, off, rfl, hbl, hc0, hc1, hc2, hc3⟩ := (HR.out.below HB.out).at_ hjl
   have HPW := Lib.hid (HP.out.below HB.out)
   have HNX := Lib.hid (HO.out.next hjl)
   have HHT := Lib.hid (HO.out.hit hjl)
   generalize l[j] = x at *
   cases hb : infE w u x with
   | false =>
    have HN := Lib.hid (HNX.out hb)
    have HCC := Lib.hid (HC.out x wr HPW.out)
    rw [hb] at HCC
    clear HNX HHT hb HC
    go_wp2_with fail
    refine HCC.out.mono ?_
    rintro r w2 ⟨rfl, hB⟩
    go_wp2
    go_roundw
    case rel => exact ⟨j + 1, by omega, by go_num, HN, HB.out.trans (hB.mono HB.out.size)⟩
    case measure => simp [intOf]; omega
   | true =>
    have HN := Lib.hid (idx_hit (HHT.out hb) hjl)
    have HCC := Lib.hid (HC.out x wr HPW.out)
    rw [hb] at HCC
    clear HNX HHT hb HC
    go_wp2_with fail
    refine HCC.out.mono ?_
    rintro r w2 ⟨rfl, hB⟩
    go_wp2
    go_ret
    exact ⟨by rw [HN.out]; rfl, HB.out.trans (hB.mono HB.out.size)⟩
  ·obtain rfl : j = l.length := by omega
   have HE := Lib.hid (idx_miss HO.out.miss)
   go_wp2
   go_ret
   exact ⟨by rw [HE.out]; rfl, HB.out⟩
set_option maxHeartbeats 1000000 in
theorem inforce_any (a : Option Addr) (c : Nat) (l : List EnM) (w u : ByteArray) (W : World) (hr : EnSl W a l) (hl : l.length ≤ 1000000) :
  Calls Tryz.prog 168 #[.slice a l.length c, pr w u] W fun r w' => r = .returned (.int .i64 (idxI (infE w u) l)) ∧ Below W.heap.size W w' := by
 have hb := ebelow_one W (.cells #[.string w, .string u] 121)
 have HC := Lib.hid (index_any a c l w u W.heap.size (W.alloc (.cells #[.string w, .string u] 121)) (hr.below hb) (PcAt.new _ _ _ _) hl)
 have HB := Lib.hid hb
 unfold pr
 clear hr hb
 go_enter Tryz.func168, Tryz.ntmps168
 go_wp2_with fail
 refine HC.out.mono ?_
 rintro r w2 ⟨rfl, hB⟩
 go_wp2
 go_ret
 exact ⟨rfl, HB.out.trans (hB.mono HB.out.size)⟩
set_option maxHeartbeats 1000000 in
theorem inForce_any (a : Option Addr) (c : Nat) (l : List EnM) (w u : ByteArray) (W : World) (hr : EnSl W a l) (hl : l.length ≤ 1000000) :
  Calls Tryz.prog 165 #[.slice a l.length c, pr w u] W fun r w' => r = .returned (.bool (l.any (infE w u))) ∧ Below W.heap.size W w' := by
 have hb := ebelow_one W (.cells #[.string w, .string u] 121)
 have HC := Lib.hid (inforce_any a c l w u (W.alloc (.cells #[.string w, .string u] 121)) (hr.below hb) hl)
 have HB := Lib.hid hb
 have HE := Lib.hid (idx_any (infE w u) l)
 unfold pr at *
 clear hr hb
 generalize idxI (infE w u) l = n at *
 go_enter Tryz.func165, Tryz.ntmps165
 go_wp2_with fail
 refine HC.out.mono ?_
 rintro r w2 ⟨rfl, hB⟩
 go_wp2
 go_ret
 exact ⟨by rw [← HE.out]; rfl, HB.out.trans (hB.mono HB.out.size)⟩
end Go.Proofs.YtjhdhfokhkcamaaGreat
namespace Go.Proofs.YtjhdhfokhkcamaaGreat
open Go.RowKit Go.Proofs
set_option linter.unusedVariables false
set_option maxRecDepth 100000
theorem infoUs : (Tryz.prog.info? 89).map (fun i => (i.zero, i.size, i.bytes)) = some (some (.agg #[.string ⟨#[]⟩, .slice none 0 0]), 2, 40) := by kernel_rfl
theorem infoTb : (Tryz.prog.info? 87).map (fun i => (i.zero, i.size, i.bytes)) = some (some (.agg #[.string ⟨#[]⟩, .int .i64 0]), 2, 24) := by kernel_rfl
theorem infoUsR : (Tryz.prog.info? 77).map (fun i => (i.zero, i.size, i.bytes)) = some (some (.agg #[.string ⟨#[]⟩, .slice none 0 0]), 2, 40) := by kernel_rfl
theorem infoTbR : (Tryz.prog.info? 69).map (fun i => (i.zero, i.size, i.bytes)) = some (some (.agg #[.string ⟨#[]⟩, .int .i64 0]), 2, 24) := by kernel_rfl
set_option maxHeartbeats 1000000 in
theorem clone_op (a : Option Addr) (c : Nat) (l : List OpM) (w : World) (hr : OpSl w a l) (hc : Cp a l.length c) (hl : l.length ≤ 100000) :
  Calls Tryz.prog 116 #[.slice a l.length c] w fun e w' => ∃ v, e = .returned v ∧ w'.ownsRow w.heap.size 112 4 v l.length (oes l) ∧ Below w.heap.size w w' := by
 obtain ⟨i0, hi, hz0, hz1, hz2⟩ := info_parts infoOp
 have q22 : ∀ (W : World) (a : Option Addr) (n c n' c' : Nat), (binOp .eql 33 (.slice a n c) (.slice none n' c')).run Tryz.prog W = .ok (.bool a.isNone) W := fun W a n c n' c' => Lib.run_eql_slice_nil W _ _ a n c n' c' Tryz.underlying33
 cases a with
 | none =>
  have hc0 := hc.nil rfl
  subst hc0
  have hl0 : l = [] := List.eq_nil_of_length_eq_zero (by have := hc.le; omega)
  subst hl0
  clear hr hc
  go_enter Tryz.func116, Tryz.ntmps116
  go_wp2
  go_ret
  exact ⟨_, rfl, ⟨rfl, .inl ⟨rfl, rfl⟩⟩, Below.refl _ _⟩
 | some ad =>
  have HO := Lib.hid (own_emptyO w 112 4 w.heap.size (Nat.le_refl _))
  have HB := Lib.hid (below_one w (.cells #[] 112))
  have HX1 := Lib.hid (hr.below HB.out)
  clear hr hc
  go_enter Tryz.func116, Tryz.ntmps116
  go_wp2_with (at_builtin; refine wpList_append_op _ rfl (.tmp 5) (.tmp 6) 33 rfl w.heap.size 112 i0 _ Tryz.underlying33 hi hz0 hz1 hz2 rfl _ [] rfl HO.out (some ad) c l rfl HX1.out (fun h => by cases h) (by simpa using (show l.length ≤ 1000000 by omega)) HB.out.size ?_; intro v2 w2 hown2 hB2)
  have HO2 := Lib.hid hown2
  have HB2 := Lib.hid (HB.out.trans hB2)
  clear hown2 hB2
  go_wp2
  go_ret
  exact ⟨_, rfl, (by have ho := HO2.out; rw [List.nil_append] at ho; exact ho), HB2.out⟩
set_option maxHeartbeats 1000000 in
theorem clone_en (a : Option Addr) (c : Nat) (l : List EnM) (w : World) (hr : EnSl w a l) (hc : Cp a l.length c) (hl : l.length ≤ 100000) :
  Calls Tryz.prog 117 #[.slice a l.length c] w fun e w' => ∃ v, e = .returned v ∧ w'.ownsRow w.heap.size 123 4 v l.length (ens l) ∧ Below w.heap.size w w' := by
 obtain ⟨i0, hi, hz0, hz1, hz2⟩ := info_parts infoEn
 have q22 : ∀ (W : World) (a : Option Addr) (n c n' c' : Nat), (binOp .eql 35 (.slice a n c) (.slice none n' c')).run Tryz.prog W = .ok (.bool a.isNone) W := fun W a n c n' c' => Lib.run_eql_slice_nil W _ _ a n c n' c' Tryz.underlying35
 cases a with
 | none =>
  have hc0 := hc.nil rfl
  subst hc0
  have hl0 : l = [] := List.eq_nil_of_length_eq_zero (by have := hc.le; omega)
  subst hl0
  clear hr hc
  go_enter Tryz.func117, Tryz.ntmps117
  go_wp2
  go_ret
  exact ⟨_, rfl, ⟨rfl, .inl ⟨rfl, rfl⟩⟩, Below.refl _ _⟩
 | some ad =>
  have HO := Lib.hid (own_emptyO w 123 4 w.heap.size (Nat.le_refl _))
  have HB := Lib.hid (below_one w (.cells #[] 123))
  have HX1 := Lib.hid (hr.below HB.out)
  clear hr hc
  go_enter Tryz.func117, Tryz.ntmps117
  go_wp2_with (at_builtin; refine wpList_append_en _ rfl (.tmp 5) (.tmp 6) 35 rfl w.heap.size 123 i0 _ Tryz.underlying35 hi hz0 hz1 hz2 rfl _ [] rfl HO.out (some ad) c l rfl HX1.out (fun h => by cases h) (by simpa using (show l.length ≤ 1000000 by omega)) HB.out.size ?_; intro v2 w2 hown2 hB2)
  have HO2 := Lib.hid hown2
  have HB2 := Lib.hid (HB.out.trans hB2)
  clear hown2 hB2
  go_wp2
  go_ret
  exact ⟨_, rfl, (by have ho := HO2.out; rw [List.nil_append] at ho; exact ho), HB2.out⟩
set_option maxHeartbeats 1000000 in
theorem clone_st (a : Option Addr) (c : Nat) (l : List StM) (w : World) (hr : StSl w a l) (hc : Cp a l.length c) (hl : l.length ≤ 100000) :
  Calls Tryz.prog 88 #[.slice a l.length c] w fun e w' => ∃ v, e = .returned v ∧ w'.ownsRow w.heap.size 86 4 v l.length (sts l) ∧ Below w.heap.size w w' := by
 obtain ⟨i0, hi, hz0, hz1, hz2⟩ := info_parts infoStay
 have q22 : ∀ (W : World) (a : Option Addr) (n c n' c' : Nat), (binOp .eql 60 (.slice a n c) (.slice none n' c')).run Tryz.prog W = .ok (.bool a.isNone) W := fun W a n c n' c' => Lib.run_eql_slice_nil W _ _ a n c n' c' Tryz.underlying60
 cases a with
 | none =>
  have hc0 := hc.nil rfl
  subst hc0
  have hl0 : l = [] := List.eq_nil_of_length_eq_zero (by have := hc.le; omega)
  subst hl0
  clear hr hc
  go_enter Tryz.func88, Tryz.ntmps88
  go_wp2
  go_ret
  exact ⟨_, rfl, ⟨rfl, .inl ⟨rfl, rfl⟩⟩, Below.refl _ _⟩
 | some ad =>
  have HO := Lib.hid (own_emptyO w 86 4 w.heap.size (Nat.le_refl _))
  have HB := Lib.hid (below_one w (.cells #[] 86))
  have HX1 := Lib.hid (hr.below HB.out)
  clear hr hc
  go_enter Tryz.func88, Tryz.ntmps88
  go_wp2_with (at_builtin; refine wpList_append_st _ rfl (.tmp 5) (.tmp 6) 60 rfl w.heap.size 86 i0 _ Tryz.underlying60 hi hz0 hz1 hz2 rfl _ [] rfl HO.out (some ad) c l rfl HX1.out (fun h => by cases h) (by simpa using (show l.length ≤ 1000000 by omega)) HB.out.size ?_; intro v2 w2 hown2 hB2)
  have HO2 := Lib.hid hown2
  have HB2 := Lib.hid (HB.out.trans hB2)
  clear hown2 hB2
  go_wp2
  go_ret
  exact ⟨_, rfl, (by have ho := HO2.out; rw [List.nil_append] at ho; exact ho), HB2.out⟩
set_option maxHeartbeats 1000000 in
theorem pclone_us (a : Option Addr) (c : Nat) (l : List (Value × Value)) (h1 : OneP l) (w : World) (hr : PpSl w a l) (hc : Cp a l.length c) (hl : l.length ≤ 100000) :
  Calls Tryz.prog 119 #[.slice a l.length c] w fun e w' => ∃ v, e = .returned v ∧ w'.ownsRow w.heap.size 89 2 v l.length (pps l) ∧ Below w.heap.size w w' := by
 obtain ⟨i0, hi, hz0, hz1, hz2⟩ := info_parts infoUs
 have q22 : ∀ (W : World) (a : Option Addr) (n c n' c' : Nat), (binOp .eql 34 (.slice a n c) (.slice none n' c')).run Tryz.prog W = .ok (.bool a.isNone) W := fun W a n c n' c' => Lib.run_eql_slice_nil W _ _ a n c n' c' Tryz.underlying34
 cases a with
 | none =>
  have hc0 := hc.nil rfl
  subst hc0
  have hl0 : l = [] := List.eq_nil_of_length_eq_zero (by have := hc.le; omega)
  subst hl0
  clear hr hc
  go_enter Tryz.func119, Tryz.ntmps119
  go_wp2
  go_ret
  exact ⟨_, rfl, ⟨rfl, .inl ⟨rfl, rfl⟩⟩, Below.refl _ _⟩
 | some ad =>
  have HO := Lib.hid (own_emptyO w 89 2 w.heap.size (Nat.le_refl _))
  have HB := Lib.hid (below_one w (.cells #[] 89))
  have HX1 := Lib.hid (hr.below HB.out)
  clear hr hc
  go_enter Tryz.func119, Tryz.ntmps119
  go_wp2_with (at_builtin; refine wpList_append_pp _ rfl (.tmp 5) (.tmp 6) 34 rfl w.heap.size 89 i0 _ 40 Tryz.underlying34 hi hz0 hz1 hz2 (by decide) rfl _ [] rfl HO.out (some ad) c l rfl HX1.out h1 (fun h => by cases h) (by simpa using (show l.length ≤ 1000000 by omega)) HB.out.size ?_; intro v2 w2 hown2 hB2)
  have HO2 := Lib.hid hown2
  have HB2 := Lib.hid (HB.out.trans hB2)
  clear hown2 hB2
  go_wp2
  go_ret
  exact ⟨_, rfl, (by have ho := HO2.out; rw [List.nil_append] at ho; exact ho), HB2.out⟩
set_option maxHeartbeats 1000000 in
theorem pclone_tb (a : Option Addr) (c : Nat) (l : List (Value × Value)) (h1 : OneP l) (w : World) (hr : PpSl w a l) (hc : Cp a l.length c) (hl : l.length ≤ 100000) :
  Calls Tryz.prog 118 #[.slice a l.length c] w fun e w' => ∃ v, e = .returned v ∧ w'.ownsRow w.heap.size 87 2 v l.length (pps l) ∧ Below w.heap.size w w' := by
 obtain ⟨i0, hi, hz0, hz1, hz2⟩ := info_parts infoTb
 have q22 : ∀ (W : World) (a : Option Addr) (n c n' c' : Nat), (binOp .eql 36 (.slice a n c) (.slice none n' c')).run Tryz.prog W = .ok (.bool a.isNone) W := fun W a n c n' c' => Lib.run_eql_slice_nil W _ _ a n c n' c' Tryz.underlying36
 cases a with
 | none =>
  have hc0 := hc.nil rfl
  subst hc0
  have hl0 : l = [] := List.eq_nil_of_length_eq_zero (by have := hc.le; omega)
  subst hl0
  clear hr hc
  go_enter Tryz.func118, Tryz.ntmps118
  go_wp2
  go_ret
  exact ⟨_, rfl, ⟨rfl, .inl ⟨rfl, rfl⟩⟩, Below.refl _ _⟩
 | some ad =>
  have HO := Lib.hid (own_emptyO w 87 2 w.heap.size (Nat.le_refl _))
  have HB := Lib.hid (below_one w (.cells #[] 87))
  have HX1 := Lib.hid (hr.below HB.out)
  clear hr hc
  go_enter Tryz.func118, Tryz.ntmps118
  go_wp2_with (at_builtin; refine wpList_append_pp _ rfl (.tmp 5) (.tmp 6) 36 rfl w.heap.size 87 i0 _ 24 Tryz.underlying36 hi hz0 hz1 hz2 (by decide) rfl _ [] rfl HO.out (some ad) c l rfl HX1.out h1 (fun h => by cases h) (by simpa using (show l.length ≤ 1000000 by omega)) HB.out.size ?_; intro v2 w2 hown2 hB2)
  have HO2 := Lib.hid hown2
  have HB2 := Lib.hid (HB.out.trans hB2)
  clear hown2 hB2
  go_wp2
  go_ret
  exact ⟨_, rfl, (by have ho := HO2.out; rw [List.nil_append] at ho; exact ho), HB2.out⟩
structure PpR where
 a : Option Addr
 l : List (Value × Value)
 c : Nat
def pprV (r : PpR) : Value := .slice r.a r.l.length r.c
def catP (R : List PpR) : List (Value × Value) := R.flatMap (·.l)
theorem catP_take (R : List PpR) (j : Nat) (h : j < R.length) : catP (R.take (j + 1)) = catP (R.take j) ++ R[j].l := by
 unfold catP
 rw [List.take_succ_eq_append_getElem h, List.flatMap_append]
 simp
theorem catP_le (R : List PpR) (j : Nat) : (catP (R.take j)).length ≤ (catP R).length := by
 have : catP R = catP (R.take j) ++ catP (R.drop j) := by
  unfold catP
  rw [← List.flatMap_append, List.take_append_drop]
 rw [this, List.length_append]
 omega
def PpRAt (w : World) (r : PpR) : Prop := PpSl w r.a r.l ∧ OneP r.l ∧ (r.a = none → r.c = 0)
theorem prows_at {w : World} {a : Option Addr} {R : List PpR} (h : Sl w a (R.map pprV)) {k : Nat} (hk : k < R.length) : ∃ b off, a = some ⟨b, off, none⟩ ∧ b < w.heap.size ∧ w.cell? ⟨b, off + k, none⟩ = some (pprV R[k]) := by
 obtain ⟨b, off, e, hlt, hc⟩ := h k (by simpa using hk)
 exact ⟨b, off, e, hlt, by rw [hc]; simp⟩
theorem pgrow_us (n : Nat) (w : World) (hn : n ≤ 1000000) : Calls Tryz.prog 214 #[.slice none 0 0, .int .i64 n] w fun e w' => ∃ v, e = .returned v ∧ w'.ownsRow w.heap.size 89 2 v 0 [] ∧ Below w.heap.size w w' := by
 obtain ⟨i0, hi, hz0, hz1, hz2⟩ := info_parts infoUs
 rcases Nat.eq_zero_or_pos n with h0 | h0
 ·subst h0
  have h := Any8.slices_Grow_room Tryz.laysGrowUs none 0 0 0 w (by omega) (by omega) (by omega) (by omega)
  refine Calls.mono h ?_
  rintro e w' ⟨rfl, rfl⟩
  exact ⟨_, rfl, ⟨rfl, .inl ⟨rfl, rfl⟩⟩, Below.refl _ _⟩
 ·have h := Any8.slices_Grow_grow Tryz.laysGrowUs i0 _ hi hz0 (by rw [hz1]; omega) none 0 0 n [] w (by omega) (by omega) (by rw [hz2]; omega) (by omega) (by simp) (fun _ => rfl) (fun a h => by cases h)
  refine Calls.mono h ?_
  rintro e w' ⟨rfl, rfl⟩
  have hge := grownCap_ge w (0 + n) 0 89
  have hle := grownCap_le_maxLen w (0 + n) 0 89 (by unfold maxLen; omega)
  refine ⟨_, rfl, ⟨rfl, .inr ⟨w.heap.size, _, _, rfl, Nat.le_refl _, heap_alloc_new w.drew _, Nat.zero_le _, hle, ?_, by simp⟩⟩, ?_⟩
  ·simp only [Array.size_append, size_zeroCells]
   show 0 + (0 + n - 0) * 2 + (grownCap w (0 + n) 0 89 - (0 + n)) * 2 = grownCap w (0 + n) 0 89 * 2
   omega
  ·exact (Below.refl w.heap.size w).drew.alloc (Nat.le_refl _) _
set_option maxHeartbeats 1000000 in
theorem pconcat_us (a : Option Addr) (c : Nat) (R : List PpR) (w : World) (hr : Sl w a (R.map pprV)) (hR : ∀ r ∈ R, PpRAt w r) (hl : R.length ≤ 100000) (hs : (catP R).length ≤ 100000) :
  Calls Tryz.prog 191 #[.slice a R.length c] w fun e w' => ∃ v, e = .returned v ∧ w'.ownsRow w.heap.size 89 2 v (catP R).length (pps (catP R)) ∧ Below w.heap.size w w' := by
 obtain ⟨i0, hi, hz0, hz1, hz2⟩ := info_parts infoUs
 have HR := Lib.hid hr
 have HRR := Lib.hid hR
 have HG := Lib.hid (pgrow_us (catP R).length w (by omega))
 clear hr hR
 go_enter Tryz.func191, Tryz.ntmps191
 go_wp2
 go_loopw [3, 11] (fun v i wr => ∃ (j s : Nat), j ≤ R.length ∧ i = .int .i64 j ∧ v = .int .i64 s ∧ s ≤ 100000 ∧ Hid (s = (catP (R.take j)).length) ∧ wr = w) (fun _ i _ => R.length - (intOf i).toNat)
 case atStart => exact ⟨0, 0, by omega, rfl, rfl, by omega, rfl, rfl⟩
 case round =>
  obtain ⟨j, s, hj, rfl, rfl, hs1, HS, hw⟩ := hrel
  obtain rfl : w = wr := hw.symm
  clear hw
  by_cases hjl : j < R.length
  ·obtain ⟨b, off, rfl, hbl, hc0⟩ := prows_at HR.out hjl
   have HN := Lib.hid (catP_take R j hjl)
   have hle := catP_le R (j + 1)
   rw [HN.out, List.length_append, ← HS.out] at hle
   generalize R[j] = x at *
   unfold pprV at hc0
   obtain ⟨xa, xl, xc⟩ := x
   simp only at hc0 hle HN
   have hsum : s + xl.length ≤ 100000 := by omega
   clear hle
   go_wp2
   go_roundw
   case rel => exact ⟨j + 1, s + xl.length, by omega, by go_num, by go_num, hsum, (by unfold Hid; rw [HN.out, List.length_append, ← HS.out]), (by first | rfl | trivial)⟩
   case measure => simp [intOf]; omega
  ·obtain rfl : j = R.length := by omega
   rw [List.take_of_length_le (Nat.le_refl _)] at HS
   have HS2 := HS.out
   subst HS2
   go_wp2_with fail
   refine HG.out.mono ?_
   rintro e w1 ⟨v, rfl, ho, hb⟩
   have HO := Lib.hid ho
   have HB := Lib.hid hb
   clear ho hb HG HS
   go_wp2
   go_loopw [6, 27] (fun v i wx => ∃ (j : Nat), j ≤ R.length ∧ i = .int .i64 j ∧ Hid (wx.ownsRow w.heap.size 89 2 v (catP (R.take j)).length (pps (catP (R.take j)))) ∧ Hid (Below w.heap.size w wx)) (fun _ i _ => R.length - (intOf i).toNat)
   case atStart => exact ⟨0, by omega, rfl, HO.out, HB.out⟩
   case round =>
    obtain ⟨j, hj, rfl, HO, HB⟩ := hrel
    by_cases hjl : j < R.length
    ·obtain ⟨b, off, rfl, hbl, hc0⟩ := prows_at (HR.out.below HB.out) hjl
     have HN := Lib.hid (catP_take R j hjl)
     have hle := catP_le R (j + 1)
     have hle2 := catP_le R j
     rw [HN.out, List.length_append] at hle
     have HX := Lib.hid (HRR.out _ (List.getElem_mem hjl))
     generalize R[j] = x at *
     unfold pprV at hc0
     obtain ⟨xa, xl, xc⟩ := x
     simp only at hc0 hle HN
     obtain ⟨hx1, hx3, hx2⟩ := HX.out
     simp only at hx1 hx2 hx3
     have HX1 := Lib.hid (hx1.below HB.out)
     have HX2 := Lib.hid hx2
     have HX3 := Lib.hid hx3
     generalize hct : catP (R.take j) = ct at *
     have hsum : ct.length + xl.length ≤ 1000000 := by omega
     clear hle hle2 hx1 hx2 hx3 HX hct
     go_wp2_with (at_builtin; refine wpList_append_pp _ rfl (.tmp 31) (.tmp 32) 34 rfl w.heap.size 89 i0 _ 40 Tryz.underlying34 hi hz0 hz1 hz2 (by decide) rfl _ ct rfl HO.out xa xc xl rfl HX1.out HX3.out HX2.out hsum HB.out.size ?_; intro v2 w2 hown2 hB2)
     have HO2 := Lib.hid hown2
     have HB2 := Lib.hid (HB.out.trans hB2)
     clear hown2 hB2
     go_wp2
     go_roundw
     case rel => exact ⟨j + 1, by omega, by go_num, (by unfold Hid; rw [HN.out]; exact HO2.out), HB2⟩
     case measure => simp [intOf]; omega
    ·obtain rfl : j = R.length := by omega
     rw [List.take_of_length_le (Nat.le_refl _)] at HO
     go_wp2
     go_ret
     exact ⟨_, rfl, HO.out, HB.out⟩
theorem pgrow_tb (n : Nat) (w : World) (hn : n ≤ 1000000) : Calls Tryz.prog 216 #[.slice none 0 0, .int .i64 n] w fun e w' => ∃ v, e = .returned v ∧ w'.ownsRow w.heap.size 87 2 v 0 [] ∧ Below w.heap.size w w' := by
 obtain ⟨i0, hi, hz0, hz1, hz2⟩ := info_parts infoTb
 rcases Nat.eq_zero_or_pos n with h0 | h0
 ·subst h0
  have h := Any8.slices_Grow_room Tryz.laysGrowTb none 0 0 0 w (by omega) (by omega) (by omega) (by omega)
  refine Calls.mono h ?_
  rintro e w' ⟨rfl, rfl⟩
  exact ⟨_, rfl, ⟨rfl, .inl ⟨rfl, rfl⟩⟩, Below.refl _ _⟩
 ·have h := Any8.slices_Grow_grow Tryz.laysGrowTb i0 _ hi hz0 (by rw [hz1]; omega) none 0 0 n [] w (by omega) (by omega) (by rw [hz2]; omega) (by omega) (by simp) (fun _ => rfl) (fun a h => by cases h)
  refine Calls.mono h ?_
  rintro e w' ⟨rfl, rfl⟩
  have hge := grownCap_ge w (0 + n) 0 87
  have hle := grownCap_le_maxLen w (0 + n) 0 87 (by unfold maxLen; omega)
  refine ⟨_, rfl, ⟨rfl, .inr ⟨w.heap.size, _, _, rfl, Nat.le_refl _, heap_alloc_new w.drew _, Nat.zero_le _, hle, ?_, by simp⟩⟩, ?_⟩
  ·simp only [Array.size_append, size_zeroCells]
   show 0 + (0 + n - 0) * 2 + (grownCap w (0 + n) 0 87 - (0 + n)) * 2 = grownCap w (0 + n) 0 87 * 2
   omega
  ·exact (Below.refl w.heap.size w).drew.alloc (Nat.le_refl _) _
set_option maxHeartbeats 1000000 in
theorem pconcat_tb (a : Option Addr) (c : Nat) (R : List PpR) (w : World) (hr : Sl w a (R.map pprV)) (hR : ∀ r ∈ R, PpRAt w r) (hl : R.length ≤ 100000) (hs : (catP R).length ≤ 100000) :
  Calls Tryz.prog 200 #[.slice a R.length c] w fun e w' => ∃ v, e = .returned v ∧ w'.ownsRow w.heap.size 87 2 v (catP R).length (pps (catP R)) ∧ Below w.heap.size w w' := by
 obtain ⟨i0, hi, hz0, hz1, hz2⟩ := info_parts infoTb
 have HR := Lib.hid hr
 have HRR := Lib.hid hR
 have HG := Lib.hid (pgrow_tb (catP R).length w (by omega))
 clear hr hR
 go_enter Tryz.func200, Tryz.ntmps200
 go_wp2
 go_loopw [3, 11] (fun v i wr => ∃ (j s : Nat), j ≤ R.length ∧ i = .int .i64 j ∧ v = .int .i64 s ∧ s ≤ 100000 ∧ Hid (s = (catP (R.take j)).length) ∧ wr = w) (fun _ i _ => R.length - (intOf i).toNat)
 case atStart => exact ⟨0, 0, by omega, rfl, rfl, by omega, rfl, rfl⟩
 case round =>
  obtain ⟨j, s, hj, rfl, rfl, hs1, HS, hw⟩ := hrel
  obtain rfl : w = wr := hw.symm
  clear hw
  by_cases hjl : j < R.length
  ·obtain ⟨b, off, rfl, hbl, hc0⟩ := prows_at HR.out hjl
   have HN := Lib.hid (catP_take R j hjl)
   have hle := catP_le R (j + 1)
   rw [HN.out, List.length_append, ← HS.out] at hle
   generalize R[j] = x at *
   unfold pprV at hc0
   obtain ⟨xa, xl, xc⟩ := x
   simp only at hc0 hle HN
   have hsum : s + xl.length ≤ 100000 := by omega
   clear hle
   go_wp2
   go_roundw
   case rel => exact ⟨j + 1, s + xl.length, by omega, by go_num, by go_num, hsum, (by unfold Hid; rw [HN.out, List.length_append, ← HS.out]), (by first | rfl | trivial)⟩
   case measure => simp [intOf]; omega
  ·obtain rfl : j = R.length := by omega
   rw [List.take_of_length_le (Nat.le_refl _)] at HS
   have HS2 := HS.out
   subst HS2
   go_wp2_with fail
   refine HG.out.mono ?_
   rintro e w1 ⟨v, rfl, ho, hb⟩
   have HO := Lib.hid ho
   have HB := Lib.hid hb
   clear ho hb HG HS
   go_wp2
   go_loopw [6, 27] (fun v i wx => ∃ (j : Nat), j ≤ R.length ∧ i = .int .i64 j ∧ Hid (wx.ownsRow w.heap.size 87 2 v (catP (R.take j)).length (pps (catP (R.take j)))) ∧ Hid (Below w.heap.size w wx)) (fun _ i _ => R.length - (intOf i).toNat)
   case atStart => exact ⟨0, by omega, rfl, HO.out, HB.out⟩
   case round =>
    obtain ⟨j, hj, rfl, HO, HB⟩ := hrel
    by_cases hjl : j < R.length
    ·obtain ⟨b, off, rfl, hbl, hc0⟩ := prows_at (HR.out.below HB.out) hjl
     have HN := Lib.hid (catP_take R j hjl)
     have hle := catP_le R (j + 1)
     have hle2 := catP_le R j
     rw [HN.out, List.length_append] at hle
     have HX := Lib.hid (HRR.out _ (List.getElem_mem hjl))
     generalize R[j] = x at *
     unfold pprV at hc0
     obtain ⟨xa, xl, xc⟩ := x
     simp only at hc0 hle HN
     obtain ⟨hx1, hx3, hx2⟩ := HX.out
     simp only at hx1 hx2 hx3
     have HX1 := Lib.hid (hx1.below HB.out)
     have HX2 := Lib.hid hx2
     have HX3 := Lib.hid hx3
     generalize hct : catP (R.take j) = ct at *
     have hsum : ct.length + xl.length ≤ 1000000 := by omega
     clear hle hle2 hx1 hx2 hx3 HX hct
     go_wp2_with (at_builtin; refine wpList_append_pp _ rfl (.tmp 31) (.tmp 32) 36 rfl w.heap.size 87 i0 _ 24 Tryz.underlying36 hi hz0 hz1 hz2 (by decide) rfl _ ct rfl HO.out xa xc xl rfl HX1.out HX3.out HX2.out hsum HB.out.size ?_; intro v2 w2 hown2 hB2)
     have HO2 := Lib.hid hown2
     have HB2 := Lib.hid (HB.out.trans hB2)
     clear hown2 hB2
     go_wp2
     go_roundw
     case rel => exact ⟨j + 1, by omega, by go_num, (by unfold Hid; rw [HN.out]; exact HO2.out), HB2⟩
     case measure => simp [intOf]; omega
    ·obtain rfl : j = R.length := by omega
     rw [List.take_of_length_le (Nat.le_refl _)] at HO
     go_wp2
     go_ret
     exact ⟨_, rfl, HO.out, HB.out⟩
def arr4 (n : Nat → Int) : Array Value := #[.int .i64 (n 0), .int .i64 (n 1), .int .i64 (n 2), .int .i64 (n 3)]
def clampN (n l m : Nat → Int) (i : Nat) : Int := min (max (n i) (l i)) (m i)
def upN (n l m : Nat → Int) (j i : Nat) : Int := if i < j then clampN n l m i else n i
theorem arr4_get (n : Nat → Int) {i : Nat} (h : i < 4) : (arr4 n)[i]? = some (.int .i64 (n i)) := by
 have : i = 0 ∨ i = 1 ∨ i = 2 ∨ i = 3 := by omega
 rcases this with rfl | rfl | rfl | rfl <;> rfl
structure WiK (w : World) (g : Nat) (n l m v : Nat → Int) (W : World) : Prop where
 n : W.heap[g]? = some (.cells (arr4 n) 108 (0, 0))
 l : W.heap[g + 1]? = some (.cells (arr4 l) 108 (0, 0))
 m : W.heap[g + 2]? = some (.cells (arr4 m) 108 (0, 0))
 v : W.heap[g + 3]? = some (.cells (arr4 v) 108 (0, 0))
 ge : w.heap.size ≤ g
 frame : Below w.heap.size w W
theorem arr4_set (n l m : Nat → Int) {j : Nat} (h : j < 4) : (arr4 (upN n l m j)).setIfInBounds j (.int .i64 (clampN n l m j)) = arr4 (upN n l m (j + 1)) := by
 have : j = 0 ∨ j = 1 ∨ j = 2 ∨ j = 3 := by omega
 rcases this with rfl | rfl | rfl | rfl <;> simp [arr4, upN]
theorem WiK.next {w W : World} {g : Nat} {n l m : Nat → Int} {j : Nat} (h : WiK w g n l m (upN n l m j) W) (hj : j < 4) : WiK w g n l m (upN n l m (j + 1)) (W.setCell ⟨g + 3, j, none⟩ (.int .i64 (clampN n l m j))) :=
 ⟨(block_far (by omega)).trans h.n, (block_far (by omega)).trans h.l, (block_far (by omega)).trans h.m, (heap_setCell_at h.v j _).trans (by rw [arr4_set n l m hj]), h.ge, h.frame.setCell (p := ⟨g + 3, j, none⟩) (by have := h.ge; show w.heap.size ≤ g + 3; omega) _⟩
theorem WiK.drew {w W : World} {g : Nat} {n l m v : Nat → Int} (h : WiK w g n l m v W) (k : Nat) : WiK w g n l m v (W.drewN k) := ⟨h.n, h.l, h.m, h.v, h.ge, h.frame.trans (Drew.below ⟨k, rfl⟩ _)⟩
def wiB (n l m : Nat → Int) : Bool := (clampN n l m 0 == n 0) && ((clampN n l m 1 == n 1) && ((clampN n l m 2 == n 2) && (clampN n l m 3 == n 3)))
theorem eqNs (a b c d e f g h : Int) (w : World) : (Op.equalIn 10000 108 (.agg #[.int .i64 a, .int .i64 b, .int .i64 c, .int .i64 d]) (.agg #[.int .i64 e, .int .i64 f, .int .i64 g, .int .i64 h])).run Tryz.prog w = .ok ((a == e) && ((b == f) && ((c == g) && (d == h)))) w := by
 have u3 := Tryz.underlying3
 have a3 := Tryz.isAgg3
 have z3 := Tryz.sizeOf3
 rw [show (10000 : Nat) = 9999 + 1 from rfl, Op.equalIn]
 simp only [Sem.run_bind, run_underlying Tryz.underlying108, Result.andThen_ok]
 simp only [Std.Legacy.Range.forIn_eq_forIn_range', Std.Legacy.Range.size, Nat.sub_zero, Nat.add_sub_cancel, Nat.div_one, List.range'_succ, List.range'_zero, List.forIn_cons, List.forIn_nil]
 go_simp
 by_cases h1 : a = e <;> by_cases h2 : b = f <;> by_cases h3 : c = g <;> by_cases h4 : d = h <;> simp [h1, h2, h3, h4]
set_option maxHeartbeats 4000000 in
theorem within4_any (n l m : Nat → Int) (w : World) :
  Calls Tryz.prog 58 #[.agg (arr4 n), .agg (arr4 l), .agg (arr4 m)] w fun e w' => e = .returned (.bool (wiB n l m)) ∧ Below w.heap.size w w' := by
 have K0 : Hid (WiK w w.heap.size n l m (upN n l m 0) ((((w.alloc (.cells (arr4 n) 108)).alloc (.cells (arr4 l) 108)).alloc (.cells (arr4 m) 108)).alloc (.cells (arr4 n) 108))) := by
  have h1 := heap_alloc_new w (.cells (arr4 n) 108)
  have b1 := below_one w (.cells (arr4 n) 108)
  have z1 := size1 w (.cells (arr4 n) 108)
  generalize w.alloc (.cells (arr4 n) 108) = w1 at *
  have h2 := heap_alloc_new w1 (.cells (arr4 l) 108)
  have b2 := below_one w1 (.cells (arr4 l) 108)
  have z2 := size1 w1 (.cells (arr4 l) 108)
  generalize w1.alloc (.cells (arr4 l) 108) = w2 at *
  have h3 := heap_alloc_new w2 (.cells (arr4 m) 108)
  have b3 := below_one w2 (.cells (arr4 m) 108)
  have z3 := size1 w2 (.cells (arr4 m) 108)
  generalize w2.alloc (.cells (arr4 m) 108) = w3 at *
  have h4 := heap_alloc_new w3 (.cells (arr4 n) 108)
  have b4 := below_one w3 (.cells (arr4 n) 108)
  generalize w3.alloc (.cells (arr4 n) 108) = w4 at *
  have e1 : w1.heap.size = w.heap.size + 1 := z1
  have e2 : w2.heap.size = w.heap.size + 2 := by omega
  have e3 : w3.heap.size = w.heap.size + 3 := by omega
  rw [e1] at h2
  rw [e2] at h3
  rw [e3] at h4
  refine ⟨?_, ?_, ?_, ?_, Nat.le_refl _, ?_⟩
  ·rw [b4.block _ (by omega), b3.block _ (by omega), b2.block _ (by omega)]; exact h1
  ·rw [b4.block _ (by omega), b3.block _ (by omega)]; exact h2
  ·rw [b4.block _ (by omega)]; exact h3
  ·exact h4
  ·exact ((b1.trans (b2.mono (by omega))).trans (b3.mono (by omega))).trans (b4.mono (by omega))
 have HLD : Hid (∀ W, WiK w w.heap.size n l m (upN n l m 4) W → ∀ i, i < 4 → W.cell? ⟨w.heap.size + 1 + 1 + 1, i, none⟩ = some (.int .i64 (clampN n l m i)) ∧ W.cell? ⟨w.heap.size, i, none⟩ = some (.int .i64 (n i))) := fun W h i hi => by
  refine ⟨?_, ?_⟩
  ·rw [cell_of_row _ _ _ _ _ (0, 0) h.v, arr4_get _ hi]
   unfold upN
   rw [if_pos hi]
  ·rw [cell_of_row _ _ _ _ _ (0, 0) h.n, arr4_get _ hi]
 have HWI : Hid (wiB n l m = ((clampN n l m 0 == n 0) && ((clampN n l m 1 == n 1) && ((clampN n l m 2 == n 2) && (clampN n l m 3 == n 3))))) := rfl
 unfold arr4 at *
 go_enter Tryz.func58, Tryz.ntmps58
 go_wp2
 go_loopw [10] (fun i wr => ∃ (j : Nat), j ≤ 4 ∧ i = .int .i64 j ∧ Hid (WiK w w.heap.size n l m (upN n l m j) wr)) (fun i _ => 4 - (intOf i).toNat)
 case atStart => exact ⟨0, by omega, rfl, K0.out⟩
 case round =>
  clear K0
  obtain ⟨j, hj, rfl, HK⟩ := hrel
  by_cases hjl : j < 4
  ·have c0 : wr.cell? ⟨w.heap.size + 1 + 1 + 1, j, none⟩ = some (.int .i64 (n j)) := by
    rw [cell_of_row _ _ _ _ _ (0, 0) HK.out.v, arr4_get _ hjl]
    unfold upN
    rw [if_neg (by omega)]
   have c1 : wr.cell? ⟨w.heap.size + 1, j, none⟩ = some (.int .i64 (l j)) := by rw [cell_of_row _ _ _ _ _ (0, 0) HK.out.l, arr4_get _ hjl]
   have c2 : wr.cell? ⟨w.heap.size + 1 + 1, j, none⟩ = some (.int .i64 (m j)) := by rw [cell_of_row _ _ _ _ _ (0, 0) HK.out.m, arr4_get _ hjl]
   have f0 : wr.frozen? ⟨w.heap.size + 1 + 1 + 1, j, none⟩ = false := frozen_of_row _ _ j _ _ HK.out.v
   have hlt : w.heap.size + 1 + 1 + 1 < wr.heap.size := heap_lt HK.out.v
   have HN : Hid (WiK w w.heap.size n l m (upN n l m (j + 1)) (wr.setCell ⟨w.heap.size + 3, j, none⟩ (.int .i64 (clampN n l m j))).drew) := (HK.out.next hjl).drew 1
   have hjI : (j : Int) < 4 := by omega
   have hj0 : (0 : Int) ≤ (j : Int) := by omega
   clear HK HLD
   unfold clampN at HN
   generalize n j = nj at *
   generalize l j = lj at *
   generalize m j = mj at *
   go_wp2_with fail
   go_region
   go_wp2
   go_roundw
   case rel => exact ⟨j + 1, by omega, by go_num, HN⟩
   case measure => simp [intOf]; omega
  ·have hj4 : j = 4 := by omega
   have hlt : ¬ (j : Int) < 4 := by omega
   rw [hj4] at HK
   obtain ⟨a0, b0⟩ := HLD.out _ HK.out 0 (by decide)
   obtain ⟨a1, b1⟩ := HLD.out _ HK.out 1 (by decide)
   obtain ⟨a2, b2⟩ := HLD.out _ HK.out 2 (by decide)
   obtain ⟨a3, b3⟩ := HLD.out _ HK.out 3 (by decide)
   generalize clampN n l m 0 = z0 at *
   generalize clampN n l m 1 = z1 at *
   generalize clampN n l m 2 = z2 at *
   generalize clampN n l m 3 = z3 at *
   generalize n 0 = n0 at *
   generalize n 1 = n1 at *
   generalize n 2 = n2 at *
   generalize n 3 = n3 at *
   clear hj4
   have HF := Lib.hid HK.out.frame
   have heq := eqNs z0 z1 z2 z3 n0 n1 n2 n3
   clear HK HLD
   go_wp2
   go_ret
   exact ⟨retB HWI.out.symm, HF.out⟩
end Go.Proofs.YtjhdhfokhkcamaaGreat
namespace Go.Proofs.YtjhdhfokhkcamaaGreat
set_option linter.unusedVariables false
def an11 : ByteArray := ⟨#[97, 110, 110]⟩
def no11 : ByteArray := ⟨#[]⟩
def sA1 : SaM := ⟨3, 0, [⟨1, an11, 1, 3⟩], [], [], []⟩
def sA2 : SaM := ⟨7, 0, [⟨1, an11, 2, 7⟩], [⟨an11, [⟨3, 7, 1, 1⟩]⟩], [], []⟩
def sA3 : SaM := ⟨9, 0, [], [], [], [⟨an11, 9⟩]⟩
def sA4 : SaM := ⟨7, 0, [], [⟨an11, [⟨3, 7, 1, 1⟩]⟩], [], []⟩
theorem an_name : nameB an11 = true := by decide
theorem no_name : nameB no11 = false := by decide
theorem rv1 : RightV 1 3 1 1 an11 no11 := ⟨by decide, by decide, .inl ⟨.inl rfl, by decide, by decide, an_name, rfl, by decide, by decide⟩⟩
theorem rv2 : RightV 2 7 1 2 an11 no11 := ⟨by decide, by decide, .inl ⟨.inr rfl, by decide, by decide, an_name, rfl, by decide, by decide⟩⟩
theorem rv7 (a : Int) (h : 0 ≤ a) (k : a < 1099511627776) : RightV 7 a 0 0 an11 no11 := ⟨h, k, .inr (.inr (.inr (.inr ⟨rfl, an_name, rfl, rfl, rfl⟩)))⟩
theorem rv8 : ¬ RightV 7 8 0 0 no11 no11 := by
 rintro ⟨_, _, h⟩
 rcases h with ⟨h, _⟩ | ⟨h, _⟩ | ⟨h, _⟩ | ⟨h, _⟩ | ⟨_, h, _⟩
 ·omega
 ·omega
 ·omega
 ·omega
 ·rw [no_name] at h; cases h
theorem aE1 : errS saZ 1 3 1 1 an11 no11 = 0 := by unfold errS; rw [if_pos rv1, if_neg (by decide)]; rfl
theorem aT1 : tellS saZ 1 3 1 1 an11 no11 = sA1 := by unfold tellS; rw [aE1, if_pos rfl]; rfl
theorem aF : findC [⟨1, an11, 1, 3⟩] 1 an11 = 0 ∧ findE [⟨1, an11, 1, 3⟩] 1 an11 = ⟨1, an11, 1, 3⟩ ∧ findP [⟨1, an11, 1, 3⟩] 1 an11 = 0 := fc_hit (l := [⟨1, an11, 1, 3⟩]) (n := 1) (k := 0) ⟨by decide, fun i hi h => absurd h (by omega), fun _ => rfl⟩ (by decide) rfl
theorem aE2 : errS sA1 2 7 1 2 an11 no11 = 0 := by unfold errS; rw [if_pos rv2, if_neg (by decide)]; exact aF.1
theorem aC2 : chgR [⟨1, an11, 1, 3⟩] 1 an11 2 7 = [⟨1, an11, 2, 7⟩] := by unfold chgR; rw [if_pos aF.1, aF.2.2, chgAt_at (by decide)]; rfl
theorem aS2 : fndS [⟨1, an11, 1, 3⟩] 1 an11 7 = ⟨3, 7, 1, 1⟩ := by unfold fndS; rw [if_pos aF.1, aF.2.1]; rfl
theorem aG2 : goS sA1 2 7 1 2 an11 no11 = { sA1 with now := 7, op := chgR [⟨1, an11, 1, 3⟩] 1 an11 2 7, us := addU [] an11 (fndS [⟨1, an11, 1, 3⟩] 1 an11 7) } := rfl
theorem aT2 : tellS sA1 2 7 1 2 an11 no11 = sA2 := by
 unfold tellS
 rw [aE2, if_pos rfl, aG2, aC2, aS2]
 rfl
theorem aE3 : errS sA2 7 6 0 0 an11 no11 = 111 := by unfold errS; rw [if_pos (rv7 6 (by decide) (by decide)), if_pos (by decide)]
theorem aE4 : errS sA2 7 8 0 0 no11 no11 = 110 := by unfold errS; rw [if_neg rv8]
theorem aE5 : errS sA2 7 9 0 0 an11 no11 = 0 := by unfold errS; rw [if_pos (rv7 9 (by decide) (by decide)), if_neg (by decide)]; rfl
theorem aT5 : tellS sA2 7 9 0 0 an11 no11 = sA3 := by
 unfold tellS
 rw [aE5, if_pos rfl]
 show SaM.mk 9 0 ([⟨1, an11, 2, 7⟩].filter (notU an11)) (putU [⟨an11, [⟨3, 7, 1, 1⟩]⟩] an11 []) (withoutS [] an11) (tombU [] an11 9) = sA3
 have h1 : [(⟨1, an11, 2, 7⟩ : OpM)].filter (notU an11) = [] := List.filter_eq_nil_iff.2 fun x hx h => by rw [List.mem_singleton.1 hx] at h; exact (of_decide_eq_true h) rfl
 have h2 : putU [⟨an11, [⟨3, 7, 1, 1⟩]⟩] an11 [] = [] := by
  refine List.eq_nil_iff_forall_not_mem.2 fun x hx => ?_
  rcases putU_mem.1 hx with ⟨_, h⟩ | ⟨h, k⟩
  ·exact h rfl
  ·rw [List.mem_singleton.1 h] at k; exact k rfl
 rw [h1, h2]
 rfl
theorem aRS : resetS sA2 = sA4 := by
 show SaM.mk 7 0 [] (addU [⟨an11, [⟨3, 7, 1, 1⟩]⟩] an11 ⟨7, 7, 1, 2⟩) [] [] = sA4
 have : addU [⟨an11, [⟨3, 7, 1, 1⟩]⟩] an11 ⟨7, 7, 1, 2⟩ = [⟨an11, [⟨3, 7, 1, 1⟩]⟩] := by unfold addU; rw [if_neg (by decide)]
 rw [this]
 rfl
theorem aR1 : RightS sA1 := by have := right_go RightS.zero aE1; have h2 := aT1; unfold tellS at h2; rw [aE1, if_pos rfl] at h2; rw [h2] at this; exact this
theorem aR2 : RightS sA2 := by have := right_go aR1 aE2; have h2 := aT2; unfold tellS at h2; rw [aE2, if_pos rfl] at h2; rw [h2] at this; exact this
theorem aR3 : RightS sA3 := by have := right_go aR2 aE5; have h2 := aT5; unfold tellS at h2; rw [aE5, if_pos rfl] at h2; rw [h2] at this; exact this
theorem aR4 : RightS sA4 := by have := right_reset aR2; rw [aRS] at this; exact this
theorem aOF : ofU [⟨an11, [⟨3, 7, 1, 1⟩]⟩] an11 = [⟨3, 7, 1, 1⟩] := by
 have h := ofU_mem (l := [⟨an11, [⟨3, 7, 1, 1⟩]⟩]) aR2.ur (x := ⟨an11, [⟨3, 7, 1, 1⟩]⟩) (List.mem_singleton.2 rfl)
 exact h
theorem aST : staysS sA2 an11 9 = [⟨3, 7, 1, 1⟩, ⟨7, 9, 1, 2⟩] := by
 have h1 : staysO [⟨1, an11, 2, 7⟩] an11 9 = [⟨7, 9, 1, 2⟩] := by
  show (if an11 = an11 then addS [] ⟨7, 9, 1, 2⟩ else []) = _
  rw [if_pos rfl]
  rfl
 show addsS (staysO [⟨1, an11, 2, 7⟩] an11 9) (ofU [⟨an11, [⟨3, 7, 1, 1⟩]⟩] an11) = _
 rw [h1, aOF]
 rfl
theorem aHS : stHas sA3 an11 = true := by
 have : hasT [⟨an11, 9⟩] an11 = true := by unfold hasT isKy; simp
 unfold stHas
 rw [show sA3.tb = [⟨an11, 9⟩] from rfl, this]
 rfl
theorem aPR : pruneS sA4 = sA4 := rfl
theorem aNE : ¬ sA4 = sA3 := fun h => by
 have := congrArg SaM.now h
 exact absurd this (by decide)
theorem aRR : resetS sA4 = sA4 := rfl
end Go.Proofs.YtjhdhfokhkcamaaGreat
