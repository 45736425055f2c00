/- Texts of mine, one behind the other, of each what is wanted. -/
import Derived.Test.YtjhdhfokhkcamaaGreatS00
import Derived.Test.YtjhdhfokhkcamaaGreatShelf
import Derived.Test.YtjhdhfokhkcamaaGreatS01
import Derived.Test.YtjhdhfokhkcamaaGreatS02
import Derived.Test.YtjhdhfokhkcamaaGreatS03
import Derived.Test.YtjhdhfokhkcamaaGreatS04
import Derived.Test.YtjhdhfokhkcamaaGreatS06
import Derived.Test.YtjhdhfokhkcamaaGreatS07
import Derived.Test.YtjhdhfokhkcamaaGreatS08
import Derived.Test.YtjhdhfokhkcamaaGreatS09
import Derived.Test.YtjhdhfokhkcamaaGreatS10
import Derived.Test.YtjhdhfokhkcamaaGreatS11
import Derived.Test.YtjhdhfokhkcamaaGreatS14
import Derived.Test.YtjhdhfokhkcamaaGreatS16
import Derived.Test.YtjhdhfokhkcamaaGreatS17
namespace Go.Proofs.YtjhdhfokhkcamaaGreat
open Go.RowKit Go.Proofs
set_option linter.unusedVariables false
set_option maxRecDepth 100000
theorem txt_dec (a b : ByteArray) : (a.toList == b.toList) = decide (a = b) := by
 by_cases h : a = b
 ·subst h; rw [txt_eq, decide_eq_true rfl]
 ·rw [txt_ne h, decide_eq_false h]
theorem txt_ndec (a b : ByteArray) : (a.toList != b.toList) = !decide (a = b) := by unfold bne; rw [txt_dec]
set_option maxHeartbeats 1000000 in
theorem userName_any (u : ByteArray) (a : Option Addr) (n c : Nat) (W : World) :
  Calls Tryz.prog 63 #[.agg #[.string u, .slice a n c]] W fun r w' => r = .returned (.string u) ∧ Below W.heap.size W w' := by
 have HB := Lib.hid (below_one W (.cells #[.string u, .slice a n c] 89))
 go_enter Tryz.func63, Tryz.ntmps63
 go_wp2
 go_ret
 exact ⟨rfl, HB.out⟩
set_option maxHeartbeats 1000000 in
theorem tombName_any (u : ByteArray) (n : Int) (W : World) :
  Calls Tryz.prog 72 #[.agg #[.string u, .int .i64 n]] W fun r w' => r = .returned (.string u) ∧ Below W.heap.size W w' := by
 have HB := Lib.hid (below_one W (.cells #[.string u, .int .i64 n] 87))
 go_enter Tryz.func72, Tryz.ntmps72
 go_wp2
 go_ret
 exact ⟨rfl, HB.out⟩
set_option maxHeartbeats 1000000 in
theorem c_staysOf (x : UsL) (u : ByteArray) (g : Nat) (W : World) (h : CapO W g (.string u)) :
  Calls Tryz.prog 147 #[.agg #[.string x.u, .slice x.a x.l.length x.c], .pointer (some ⟨g, 0, none⟩)] W fun r w' => r = .returned (.bool (decide (x.u = u))) ∧ Below W.heap.size W w' := by
 have hb := below_one W (.cells #[.string x.u, .slice x.a x.l.length x.c] 89)
 obtain ⟨c0, hg⟩ := h.below hb
 have HB := Lib.hid hb
 have HE := Lib.hid (txt_dec x.u u)
 clear hb hg h
 go_enter Tryz.func147, Tryz.ntmps147
 go_wp2
 go_ret
 exact ⟨retB HE.out, HB.out⟩
set_option maxHeartbeats 1000000 in
theorem c_erased (x : UsL) (u : ByteArray) (g : Nat) (W : World) (h : CapO W g (.string u)) :
  Calls Tryz.prog 171 #[.agg #[.string x.u, .slice x.a x.l.length x.c], .pointer (some ⟨g, 0, none⟩)] W fun r w' => r = .returned (.bool (!decide (x.u = u))) ∧ Below W.heap.size W w' := by
 have hb := below_one W (.cells #[.string x.u, .slice x.a x.l.length x.c] 89)
 obtain ⟨c0, hg⟩ := h.below hb
 have HB := Lib.hid hb
 have HE := Lib.hid (txt_ndec x.u u)
 clear hb hg h
 go_enter Tryz.func171, Tryz.ntmps171
 go_wp2
 go_ret
 exact ⟨retB HE.out, HB.out⟩
set_option maxHeartbeats 1000000 in
theorem c_has1 (x : OpM) (u : ByteArray) (g : Nat) (W : World) (h : CapO W g (.string u)) :
  Calls Tryz.prog 96 #[.agg #[.int .i64 x.n, .string x.u, .int .i64 x.s, .int .i64 x.f], .pointer (some ⟨g, 0, none⟩)] W fun r w' => r = .returned (.bool (decide (x.u = u))) ∧ Below W.heap.size W w' := by
 have hb := below_one W (.cells #[.int .i64 x.n, .string x.u, .int .i64 x.s, .int .i64 x.f] 112)
 obtain ⟨c0, hg⟩ := h.below hb
 have HB := Lib.hid hb
 have HE := Lib.hid (txt_dec x.u u)
 clear hb hg h
 go_enter Tryz.func96, Tryz.ntmps96
 go_wp2
 go_ret
 exact ⟨retB HE.out, HB.out⟩
set_option maxHeartbeats 1000000 in
theorem c_has3 (x : TbM) (u : ByteArray) (g : Nat) (W : World) (h : CapO W g (.string u)) :
  Calls Tryz.prog 101 #[.agg #[.string x.u, .int .i64 x.a], .pointer (some ⟨g, 0, none⟩)] W fun r w' => r = .returned (.bool (decide (x.u = u))) ∧ Below W.heap.size W w' := by
 have hb := below_one W (.cells #[.string x.u, .int .i64 x.a] 87)
 obtain ⟨c0, hg⟩ := h.below hb
 have HB := Lib.hid hb
 have HE := Lib.hid (txt_dec x.u u)
 clear hb hg h
 go_enter Tryz.func101, Tryz.ntmps101
 go_wp2
 go_ret
 exact ⟨retB HE.out, HB.out⟩
set_option maxHeartbeats 1000000 in
theorem pHas_any (p q u : ByteArray) (W : World) :
  Calls Tryz.prog 99 #[.agg #[.string p, .string q], .string u] W fun r w' => r = .returned (.bool (decide (p = u ∨ q = u))) ∧ Below W.heap.size W w' := by
 have HB := Lib.hid (below_one W (.cells #[.string p, .string q] 121))
 by_cases h1 : u = p
 ·have d1 : (u.toList == p.toList) = true := by rw [h1]; exact txt_eq p
  have HE : Hid (true = decide (p = u ∨ q = u)) := by unfold Hid; rw [decide_eq_true (.inl h1.symm)]
  clear h1
  go_enter Tryz.func99, Tryz.ntmps99
  go_wp2
  go_ret
  exact ⟨retB HE.out, HB.out⟩
 ·have d1 := txt_ne h1
  have HE : Hid ((u.toList == q.toList) = decide (p = u ∨ q = u)) := by
   unfold Hid
   rw [txt_dec]
   by_cases h2 : u = q
   ·rw [decide_eq_true h2, decide_eq_true (.inr h2.symm)]
   ·rw [decide_eq_false h2, decide_eq_false (fun h => h.elim (fun e => h1 e.symm) (fun e => h2 e.symm))]
  clear h1
  go_enter Tryz.func99, Tryz.ntmps99
  go_wp2
  go_ret
  exact ⟨retB HE.out, HB.out⟩
set_option maxHeartbeats 1000000 in
theorem c_has2 (x : EnM) (u : ByteArray) (g : Nat) (W : World) (h : CapO W g (.string u)) :
  Calls Tryz.prog 98 #[.agg #[.string x.w, .string x.u, .int .i64 x.f, .int .i64 x.t], .pointer (some ⟨g, 0, none⟩)] W fun r w' => r = .returned (.bool (prE u x)) ∧ Below W.heap.size W w' := by
 have hb := below_one W (.cells #[.string x.w, .string x.u, .int .i64 x.f, .int .i64 x.t] 123)
 obtain ⟨c0, hg⟩ := h.below hb
 have HB := Lib.hid hb
 have HC := Lib.hid (fun V => pHas_any x.w x.u u V)
 unfold prE
 clear hb hg h
 go_enter Tryz.func98, Tryz.ntmps98
 go_wp2_with fail
 refine (HC.out _).mono ?_
 rintro r w2 ⟨rfl, hB⟩
 go_wp2
 go_ret
 exact ⟨retB (by simp), HB.out.trans (hB.mono HB.out.size)⟩
set_option maxHeartbeats 1000000 in
theorem c_latest (x : OpM) (n : Int) (g : Nat) (W : World) (h : CapO W g (.int .i64 n)) :
  Calls Tryz.prog 182 #[.agg #[.int .i64 x.n, .string x.u, .int .i64 x.s, .int .i64 x.f], .pointer (some ⟨g, 0, none⟩)] W fun r w' => r = .returned (.bool (hasN n x)) ∧ Below W.heap.size W w' := by
 have hb := below_one W (.cells #[.int .i64 x.n, .string x.u, .int .i64 x.s, .int .i64 x.f] 112)
 obtain ⟨c0, hg⟩ := h.below hb
 have HB := Lib.hid hb
 have HE : Hid ((x.n == n) = hasN n x) := rfl
 clear hb hg h
 generalize hasN n x = r at *
 go_enter Tryz.func182, Tryz.ntmps182
 go_wp2
 go_ret
 exact ⟨retB HE.out, HB.out⟩
set_option maxHeartbeats 1000000 in
theorem c_those (x : UsL) (N g b : Nat) (q : Bool) (W : World) (h : CapO W b (.func (.func N) #[] #[.pointer (some ⟨g, 0, none⟩)])) (hF : ∀ args V, Sem.run Tryz.prog (callFunc N args) V = .ok (.enter N args) V)
  (hN : ∀ V, Below W.heap.size W V → Calls Tryz.prog N #[.agg #[.string x.u, .slice x.a x.l.length x.c], .pointer (some ⟨g, 0, none⟩)] V fun r w' => r = .returned (.bool q) ∧ Below V.heap.size V w') :
  Calls Tryz.prog 197 #[.agg #[.string x.u, .slice x.a x.l.length x.c], .pointer (some ⟨b, 0, none⟩)] W fun r w' => r = .returned (.bool !q) ∧ Below W.heap.size W w' := by
 have hb := below_one W (.cells #[.string x.u, .slice x.a x.l.length x.c] 89)
 obtain ⟨c0, hg⟩ := h.below hb
 have HB := Lib.hid hb
 have HC := Lib.hid (hN _ hb)
 clear hb hg h hN
 go_enter Tryz.func197, Tryz.ntmps197
 go_wp2_with fail
 refine HC.out.mono ?_
 rintro r w2 ⟨rfl, hB⟩
 go_wp2
 go_ret
 exact ⟨rfl, HB.out.trans (hB.mono HB.out.size)⟩
def butU (u : ByteArray) (D : List UsL) : List UsL := D.filter fun x => !decide (x.u = u)
theorem butU_m (u : ByteArray) (D : List UsL) : umS (butU u D) = (umS D).filter fun x => !isKy UsM.u u x := by
 unfold umS butU
 rw [List.filter_map]
 rfl
set_option maxHeartbeats 2000000 in
theorem those_any (a : Option Addr) (c : Nat) (D : List UsL) (u : ByteArray) (g : Nat) (w : World) (hr : UsSl w a D) (hc : Cp a D.length c) (hl : D.length ≤ 10000) (hg : CapO w g (.string u)) :
  Calls Tryz.prog 170 #[.slice a D.length c, .func (.func 171) #[] #[.pointer (some ⟨g, 0, none⟩)]] w fun e w' => ∃ x q, e = .returned (.slice x (butU u D).length q) ∧ UsSl w' x (butU u D) ∧ Cp x (butU u D).length q ∧ Below w.heap.size w w' := by
 have hb := below_one w (.cells #[.func (.func 171) #[] #[.pointer (some ⟨g, 0, none⟩)]] 118)
 have hcap : CapO (w.alloc (.cells #[.func (.func 171) #[] #[.pointer (some ⟨g, 0, none⟩)]] 118)) w.heap.size (.func (.func 171) #[] #[.pointer (some ⟨g, 0, none⟩)]) := ⟨cell_of_row _ _ 0 _ _ (0, 0) (heap_alloc_new w _), by rw [size1]; omega⟩
 have HCL := Lib.hid (pclone_us a c (D.map usp) (usp_one D) (w.alloc (.cells #[.func (.func 171) #[] #[.pointer (some ⟨g, 0, none⟩)]] 118)) (hr.row.below hb) (by rw [List.length_map]; exact hc) (by rw [List.length_map]; omega))
 rw [List.length_map] at HCL
 have HDE : Hid (∀ v V, (w.alloc (.cells #[.func (.func 171) #[] #[.pointer (some ⟨g, 0, none⟩)]] 118)).heap.size ≤ V.heap.size → Below (w.alloc (.cells #[.func (.func 171) #[] #[.pointer (some ⟨g, 0, none⟩)]] 118)).heap.size (w.alloc (.cells #[.func (.func 171) #[] #[.pointer (some ⟨g, 0, none⟩)]] 118)) V → V.ownsRow (w.alloc (.cells #[.func (.func 171) #[] #[.pointer (some ⟨g, 0, none⟩)]] 118)).heap.size 89 2 v D.length (usv D) →
   Calls Tryz.prog 196 #[v, .func (.func 197) #[] #[.pointer (some ⟨w.heap.size, 0, none⟩)]] V fun r w' => ∃ v', r = .returned v' ∧ w'.ownsRow (w.alloc (.cells #[.func (.func 171) #[] #[.pointer (some ⟨g, 0, none⟩)]] 118)).heap.size 89 2 v' (butU u D).length (usv (butU u D)) ∧ Below (w.alloc (.cells #[.func (.func 171) #[] #[.pointer (some ⟨g, 0, none⟩)]] 118)).heap.size V w') := fun v V hsz hbV hoV => by
  have h := del_us v D 197 w.heap.size (w.alloc (.cells #[.func (.func 171) #[] #[.pointer (some ⟨g, 0, none⟩)]] 118)).heap.size (fun x => decide (x.u = u))
   (fun V => CapO V w.heap.size (.func (.func 171) #[] #[.pointer (some ⟨g, 0, none⟩)]) ∧ CapO V g (.string u) ∧ (w.alloc (.cells #[.func (.func 171) #[] #[.pointer (some ⟨g, 0, none⟩)]] 118)).heap.size ≤ V.heap.size) V hoV ⟨hcap.below hbV, (hg.below hb).below hbV, hsz⟩ hsz (by omega) (call_known Tryz.func197 rfl)
   (fun W W' h q => by
    have hw1 : w.heap.size < (w.alloc (.cells #[.func (.func 171) #[] #[.pointer (some ⟨g, 0, none⟩)]] 118)).heap.size := by rw [size1]; omega
    have hw2 : g < (w.alloc (.cells #[.func (.func 171) #[] #[.pointer (some ⟨g, 0, none⟩)]] 118)).heap.size := Nat.lt_trans hg.2 hw1
    exact ⟨⟨(q.cell (p := ⟨w.heap.size, 0, none⟩) hw1).trans h.1.1, Nat.lt_of_lt_of_le h.1.2 q.size⟩, ⟨(q.cell (p := ⟨g, 0, none⟩) hw2).trans h.2.1.1, Nat.lt_of_lt_of_le h.2.1.2 q.size⟩, Nat.le_trans h.2.2 q.size⟩)
   (fun x hx V h => by
    have h2 := c_those x 171 g w.heap.size (!decide (x.u = u)) V h.1 (call_known Tryz.func171 rfl) (fun V' q => c_erased x u g V' (h.2.1.below q))
    rw [Bool.not_not] at h2
    exact h2)
  exact h
 have HU := Lib.hid hr
 have HB := Lib.hid hb
 clear hr hb hcap hg hc
 go_enter Tryz.func170, Tryz.ntmps170
 go_wp2_with fail
 refine HCL.out.mono ?_
 rintro e w2 ⟨v, rfl, ho, hB2⟩
 go_wp2_with fail
 refine (HDE.out v w2 hB2.size hB2 ho).mono ?_
 rintro e w3 ⟨v3, rfl, ho3, hB3⟩
 have hB4 : Below w.heap.size w w3 := HB.out.trans ((hB2.trans hB3).mono HB.out.size)
 have HO := Lib.hid ho3
 have HB4 := Lib.hid hB4
 clear hB2 hB3 ho3 ho hB4 HB HDE HCL
 go_wp2
 go_ret
 obtain ⟨x, q, rfl, h1, h2, h3, h4⟩ := own_us HO.out
 exact ⟨x, q, rfl, ⟨h3, fun y hy => (HU.out.at_ y (List.mem_filter.1 hy).1).below HB4.out⟩, ⟨h1, h2, h4⟩, HB4.out⟩
theorem fst_key {D : List UsL} {u : ByteArray} {k : Nat} (hk : D.findIdx (fun x => decide (x.u = u)) = k) : (k = D.length ∧ ofU (umS D) u = []) ∨ ∃ h : k < D.length, ofU (umS D) u = D[k].l ∧ D[k].u = u := by
 have hf : (umS D).find? (isKy UsM.u u) = (D.find? (fun x => decide (x.u = u))).map UsL.m := by
  unfold umS
  rw [List.find?_map]
  rfl
 have hle : D.findIdx (fun x => decide (x.u = u)) ≤ D.length := List.findIdx_le_length
 rcases Nat.lt_or_ge k D.length with h1 | h1
 ·refine .inr ⟨h1, ?_, ?_⟩
  ·have h2 : D.find? (fun x => decide (x.u = u)) = some D[k] := by
    rw [List.find?_eq_some_iff_getElem]
    refine ⟨?_, k, h1, rfl, fun j hj => ?_⟩
    ·have := (List.findIdx_eq h1).1 hk
     exact this.1
    ·have := ((List.findIdx_eq h1).1 hk).2 j hj
     simpa using this
   unfold ofU
   rw [hf, h2]
   rfl
  ·exact of_decide_eq_true ((List.findIdx_eq h1).1 hk).1
 ·refine .inl ⟨by omega, ?_⟩
  have h2 : D.find? (fun x => decide (x.u = u)) = none := by
   rw [List.find?_eq_none]
   intro x hx
   have := List.findIdx_eq_length.1 (show D.findIdx (fun x => decide (x.u = u)) = D.length by omega) x hx
   simpa using this
  unfold ofU
  rw [hf, h2]
  rfl
set_option maxHeartbeats 2000000 in
theorem staysOf_any (a : Option Addr) (c : Nat) (D : List UsL) (u : ByteArray) (w : World) (hr : UsSl w a D) (hl : D.length ≤ 10000) :
  Calls Tryz.prog 89 #[.slice a D.length c, .string u] w fun e w' => ∃ x q, e = .returned (.slice x (ofU (umS D) u).length q) ∧ StSl w' x (ofU (umS D) u) ∧ Cp x (ofU (umS D) u).length q ∧ Below w.heap.size w w' := by
 have hb := below_one w (.cells #[.string u] 9)
 have hcap : CapO (w.alloc (.cells #[.string u] 9)) w.heap.size (.string u) := ⟨cell_of_row _ _ 0 _ _ (0, 0) (heap_alloc_new w _), by rw [size1]; omega⟩
 have HF := Lib.hid (find_us a c D 147 w.heap.size (fun x => decide (x.u = u)) (fun V => CapO V w.heap.size (.string u)) _ (hr.below hb) hcap (by omega) (call_known Tryz.func147 rfl) (fun W W' h q => h.below q) (fun x hx V _ h => c_staysOf x u w.heap.size V h))
 have HK := Lib.hid (fst_key (D := D) (u := u) rfl)
 have HB := Lib.hid hb
 have HR := Lib.hid hr
 clear hr hb hcap
 generalize D.findIdx (fun x => decide (x.u = u)) = k at *
 generalize ofU (umS D) u = m at *
 rcases HK.out with ⟨h1, h2⟩ | ⟨h1, h2, _⟩
 ·subst h2
  have d1 : ((k : Int) == (D.length : Int)) = true := by rw [h1]; exact beq_self_eq_true _
  clear h1 HK HR
  go_enter Tryz.func89, Tryz.ntmps89
  go_wp2_with fail
  refine HF.out.mono ?_
  rintro e w2 ⟨rfl, hB2⟩
  go_wp2
  go_ret
  exact ⟨none, 0, rfl, StSl.nil _ _, Cp.none, HB.out.trans (hB2.mono HB.out.size)⟩
 ·have d1 : ((k : Int) == (D.length : Int)) = false := by rw [beq_eq_false_iff_ne]; omega
  have HM := Lib.hid h2
  clear HK h2
  go_enter Tryz.func89, Tryz.ntmps89
  go_wp2_with fail
  refine HF.out.mono ?_
  rintro e w2 ⟨rfl, hB2⟩
  have hB3 : Below w.heap.size w w2 := HB.out.trans (hB2.mono HB.out.size)
  obtain ⟨b, off, rfl, hbl, hc0, hc1, hat⟩ := (HR.out.below hB3).get h1
  have HB3 := Lib.hid hB3
  have HA := Lib.hid hat
  clear hB2 hB3 HF HB HR hat
  generalize D[k] = x at *
  go_wp2
  go_ret
  exact ⟨x.a, x.c, by rw [HM.out]; rfl, by rw [HM.out]; exact HA.out.st, by rw [HM.out]; exact ⟨HA.out.le, HA.out.mx, HA.out.nil⟩, HB3.out⟩
theorem no_key {α : Type} {key : α → ByteArray} {u : ByteArray} {l : List α} (hr : RiseK key l) {k : Nat} (h : IsFst (notBel key u) l k) (hk : ∀ h : k < l.length, key l[k] ≠ u) : ∀ x ∈ l, key x ≠ u := fun x hx e => by
 obtain ⟨h1, h2⟩ := fst_parts hr h
 obtain ⟨i, hi, rfl⟩ := List.getElem_of_mem hx
 rcases Nat.lt_trichotomy i k with h3 | h3 | h3
 ·have h4 : l[i] ∈ l.filter (belK key u) := by rw [h1]; exact List.mem_take_iff_getElem.2 ⟨i, by omega, rfl⟩
  exact cmpS_ne (belK_iff.1 (List.mem_filter.1 h4).2) e
 ·subst h3; exact hk hi e
 ·have hkl : k < l.length := by omega
  have h5 := List.pairwise_iff_getElem.1 hr k i hkl hi h3
  rw [e] at h5
  exact h2 l[k] (List.mem_drop_iff_getElem.2 ⟨0, by omega, by simp⟩) h5
def geqK {α : Type} (key : α → ByteArray) (u : ByteArray) (x : α) : Bool := decide (0 ≤ cmpS (key x) u)
theorem geq_bel {α : Type} (key : α → ByteArray) (u : ByteArray) (x : α) : geqK key u x = notBel key u x := by
 unfold geqK notBel belK
 by_cases h : cmpS (key x) u < 0
 ·rw [decide_eq_true h, decide_eq_false (by omega)]; rfl
 ·rw [decide_eq_false h, decide_eq_true (by omega)]; rfl
theorem geq_fst {α : Type} {key : α → ByteArray} {u : ByteArray} {l : List α} {k : Nat} (h : l.findIdx (geqK key u) = k) : IsFst (notBel key u) l k := by
 subst h
 have h1 := fst_idx (geqK key u) l
 have e : geqK key u = notBel key u := funext fun x => geq_bel key u x
 rw [e] at h1 ⊢
 exact h1
theorem umS_idx (u : ByteArray) (D : List UsL) : D.findIdx (fun x => decide (0 ≤ cmpS x.u u)) = (umS D).findIdx (geqK UsM.u u) := by
 unfold umS
 rw [List.findIdx_map]
 rfl
theorem umS_put (D : List UsL) (p : UsL) (i j : Nat) : umS (D.take i ++ p :: D.drop j) = (umS D).take i ++ ([p.m] ++ (umS D).drop j) := by
 unfold umS
 rw [List.map_append, List.map_cons, List.map_take, List.map_drop]
 rfl
theorem put_new {D : List UsL} {p : UsL} {k : Nat} (hr : RiseK UsM.u (umS D)) (hk : D.findIdx (fun x => decide (0 ≤ cmpS x.u p.u)) = k) (hn : ∀ h : k < D.length, D[k].u ≠ p.u) : umS (D.take k ++ p :: D.drop k) = insK UsM.u p.u [p.m] (umS D) := by
 rw [umS_idx] at hk
 have hf := geq_fst hk
 rw [umS_put, ins_new hr hf (no_key hr hf fun h => by have := hn (by rwa [umS_len] at h); simpa [umS, UsL.m] using this)]
theorem put_old {D : List UsL} {p : UsL} {k : Nat} (hr : RiseK UsM.u (umS D)) (hk : k < D.length) (he : D[k].u = p.u) : umS (D.take k ++ p :: D.drop (k + 1)) = insK UsM.u p.u [p.m] (umS D) := by
 rw [umS_put, ins_old hr (k := k) (by rw [umS_len]; exact hk) (by simpa [umS, UsL.m] using he)]
theorem tput_new {D : List TbM} {p : TbM} {k : Nat} (hr : RiseK TbM.u D) (hk : D.findIdx (fun x => decide (0 ≤ cmpS x.u p.u)) = k) (hn : ∀ h : k < D.length, D[k].u ≠ p.u) : D.take k ++ p :: D.drop k = insK TbM.u p.u [p] D := by
 have hf := geq_fst (key := TbM.u) hk
 rw [ins_new hr hf (no_key hr hf hn)]
 rfl
theorem tput_old {D : List TbM} {p : TbM} {k : Nat} (hr : RiseK TbM.u D) (hk : k < D.length) (he : D[k].u = p.u) : D.take k ++ p :: D.drop (k + 1) = insK TbM.u p.u [p] D := by
 rw [ins_old hr hk he]
 rfl
theorem psl_drew3 (W : World) (xs : Array Value) (t : TypeId) : Sl (W.alloc (.cells xs t)).drew (some ⟨W.heap.size, 0, none⟩) xs.toList := (sl_lit W xs t).drewN 1
theorem own_low2 {w : World} {B B' e k n : Nat} {v : Value} {xs : List Value} (h : w.ownsRow B e k v n xs) (hB : B' ≤ B) : w.ownsRow B' e k v n xs := own_base h hB
theorem pconcat3_us (x y : Option Addr) (A B : List (Value × Value)) (c1 c2 n1 n2 : Nat) (s0 s1 : Value) (h0 : s0.oneCell' = true) (h1' : s1.oneCell' = true) (W : World) (g1 g2 : Nat) (T : TypeId) (h1 : n1 = A.length) (h2 : n2 = B.length) (hA : PpSl W x A) (hB : PpSl W y B) (oA : OneP A) (oB : OneP B) (k1 : x = none → c1 = 0) (k2 : y = none → c2 = 0) (hg1 : g1 = W.heap.size) (hg2 : g2 = W.heap.size + 1) (hl : A.length + B.length ≤ 10000) :
  Calls Tryz.prog 191 #[.slice (some ⟨g2, 0, none⟩) 3 3] ((W.alloc (.cells #[s0, s1] 89)).alloc (.cells #[.slice x n1 c1, .slice (some ⟨g1, 0, none⟩) 1 1, .slice y n2 c2] T)).drew fun e w' => ∃ v, e = .returned v ∧ w'.ownsRow W.heap.size 89 2 v (A ++ (s0, s1) :: B).length (pps (A ++ (s0, s1) :: B)) ∧ Below W.heap.size W w' := by
 subst hg1 h1 h2
 have hcat : catP [⟨x, A, c1⟩, ⟨some ⟨W.heap.size, 0, none⟩, [(s0, s1)], 1⟩, ⟨y, B, c2⟩] = A ++ (s0, s1) :: B := by simp [catP]
 have hb1 := below_one W (.cells #[s0, s1] 89)
 have hS := cells_pp W [(s0, s1)] #[s0, s1] 89 _ rfl rfl
 generalize hW1 : W.alloc (.cells #[s0, s1] 89) = W1 at *
 have hz : W1.heap.size = W.heap.size + 1 := by rw [← hW1, size1]
 have hb2 := below_one W1 (.cells #[.slice x A.length c1, .slice (some ⟨W.heap.size, 0, none⟩) 1 1, .slice y B.length c2] T)
 have hb2 := hb2.drew
 have hb := hb1.trans (hb2.mono hb1.size)
 have hlen : (catP [⟨x, A, c1⟩, ⟨some ⟨W.heap.size, 0, none⟩, [(s0, s1)], 1⟩, ⟨y, B, c2⟩]).length ≤ 100000 := by rw [hcat, List.length_append, List.length_cons]; omega
 rw [hg2, ← hz]
 refine (pconcat_us (some ⟨W1.heap.size, 0, none⟩) 3 [⟨x, A, c1⟩, ⟨some ⟨W.heap.size, 0, none⟩, [(s0, s1)], 1⟩, ⟨y, B, c2⟩] _ (psl_drew3 W1 #[.slice x A.length c1, .slice (some ⟨W.heap.size, 0, none⟩) 1 1, .slice y B.length c2] T) ?_ (by show 3 ≤ _; decide) hlen).mono ?_
 ·intro r hr
  simp only [List.mem_cons, List.mem_nil_iff, or_false] at hr
  rcases hr with rfl | rfl | rfl
  ·exact ⟨hA.below hb, oA, k1⟩
  ·exact ⟨hS.below hb2, fun y hy => by rw [List.mem_singleton.1 hy]; exact ⟨h0, h1'⟩, fun h => by cases h⟩
  ·exact ⟨hB.below hb, oB, k2⟩
 ·rintro e w' ⟨v, rfl, ho, hbb⟩
  rw [hcat] at ho
  exact ⟨v, rfl, own_low2 ho hb.size, hb.trans (hbb.mono hb.size)⟩
structure Ptus (w : World) (gf gp : Nat) (p : UsL) (a : Option Addr) (l : List UsL) (W : World) : Prop where
 f : CapO W gf (.func (.func 63) #[] #[])
 p : W.heap[gp]? = some (.cells #[.string p.u, .slice p.a p.l.length p.c] 89 (0, 0))
 row : PpSl W a (l.map usp)
 frame : Below w.heap.size w W
theorem Ptus.below {w W W' : World} {gf gp : Nat} {p : UsL} {a : Option Addr} {l : List UsL} (h : Ptus w gf gp p a l W) (q : Below W.heap.size W W') : Ptus w gf gp p a l W' :=
 ⟨h.f.below q, (q.block _ (heap_lt h.p)).trans h.p, h.row.below q, h.frame.trans (q.mono h.frame.size)⟩
theorem Ptus.cells {w W : World} {gf gp : Nat} {p : UsL} {a : Option Addr} {l : List UsL} (h : Ptus w gf gp p a l W) : W.cell? ⟨gf, 0, none⟩ = some (.func (.func 63) #[] #[]) ∧ W.cell? ⟨gp, 0, none⟩ = some (.string p.u) ∧ W.cell? ⟨gp, 1, none⟩ = some (.slice p.a p.l.length p.c) := ⟨h.f.1, pcell2 h.p⟩
theorem Ptus.at_ {w W : World} {gf gp : Nat} {p : UsL} {b off : Nat} {l : List UsL} (h : Ptus w gf gp p (some ⟨b, off, none⟩) l W) {j : Nat} (hj : j < l.length) : W.cell? ⟨b, off + j * 2, none⟩ = some (.string l[j].u) ∧ W.cell? ⟨b, off + j * 2 + 1, none⟩ = some (.slice l[j].a l[j].l.length l[j].c) := by
 obtain ⟨b', off', e, _, h0, h1⟩ := h.row.at_ (k := j) (by rw [List.length_map]; exact hj)
 cases e
 rw [List.getElem_map] at h0 h1
 exact ⟨h0, h1⟩
set_option maxHeartbeats 4000000 in
theorem c_put_us (x p : UsL) (gf gp : Nat) (W : World) (hf : CapO W gf (.func (.func 63) #[] #[])) (hp : W.heap[gp]? = some (.cells #[.string p.u, .slice p.a p.l.length p.c] 89 (0, 0))) :
  Calls Tryz.prog 190 #[.agg #[.string x.u, .slice x.a x.l.length x.c], .pointer (some ⟨gf, 0, none⟩), .pointer (some ⟨gp, 0, none⟩)] W fun r w' => r = .returned (.bool (decide (0 ≤ cmpS x.u p.u))) ∧ Below W.heap.size W w' := by
 have hb := below_one W (.cells #[.string x.u, .slice x.a x.l.length x.c] 89)
 have K0 : Ptus W gf gp p none [] (W.alloc (.cells #[.string x.u, .slice x.a x.l.length x.c] 89)) := ⟨hf.below hb, (hb.block _ (heap_lt hp)).trans hp, PpSl.nil _ _, hb⟩
 have HX : Hid (∀ V, Below (W.alloc (.cells #[.string x.u, .slice x.a x.l.length x.c] 89)).heap.size (W.alloc (.cells #[.string x.u, .slice x.a x.l.length x.c] 89)) V → V.cell? ⟨W.heap.size, 0, none⟩ = some (.string x.u) ∧ V.cell? ⟨W.heap.size, 1, none⟩ = some (.slice x.a x.l.length x.c)) := fun V q => pcell2 ((q.block _ (by rw [size1]; omega)).trans (heap_alloc_new W _))
 have HSC : Hid (∀ V, Ptus W gf gp p none [] V → Below (W.alloc (.cells #[.string x.u, .slice x.a x.l.length x.c] 89)).heap.size (W.alloc (.cells #[.string x.u, .slice x.a x.l.length x.c] 89)) V → V.cell? ⟨gf, 0, none⟩ = some (.func (.func 63) #[] #[]) ∧ V.cell? ⟨gp, 0, none⟩ = some (.string p.u) ∧ V.cell? ⟨gp, 1, none⟩ = some (.slice p.a p.l.length p.c) ∧ V.cell? ⟨W.heap.size, 0, none⟩ = some (.string x.u) ∧ V.cell? ⟨W.heap.size, 1, none⟩ = some (.slice x.a x.l.length x.c)) := fun V h q => ⟨h.f.1, (pcell2 h.p).1, (pcell2 h.p).2, (HX.out V q).1, (HX.out V q).2⟩
 have HU := Lib.hid userName_any
 have HC := Lib.hid (fun V => cmp_any x.u p.u V)
 have HE : Hid (Lib.compareBytes x.u.data.toList p.u.data.toList = cmpS x.u p.u) := rfl
 rw [HE.out] at HC
 have hq : Below (W.alloc (.cells #[.string x.u, .slice x.a x.l.length x.c] 89)).heap.size (W.alloc (.cells #[.string x.u, .slice x.a x.l.length x.c] 89)) (W.alloc (.cells #[.string x.u, .slice x.a x.l.length x.c] 89)).drew := (Below.refl _ _).drew
 have K1 := K0.below hq
 have Q1 := Lib.hid hq
 have hcl := K0.cells
 obtain ⟨c0, c1, c2⟩ := hcl
 clear hf hp hb HX K0 HE hq
 generalize cmpS x.u p.u = z at *
 go_enter Tryz.func190, Tryz.ntmps190
 go_wp2_with fail
 go_region_held3 (fun V => V.cell? ⟨gf, 0, none⟩ = some (.func (.func 63) #[] #[]) ∧ V.cell? ⟨gp, 0, none⟩ = some (.string p.u) ∧ V.cell? ⟨gp, 1, none⟩ = some (.slice p.a p.l.length p.c) ∧ V.cell? ⟨W.heap.size, 0, none⟩ = some (.string x.u) ∧ V.cell? ⟨W.heap.size, 1, none⟩ = some (.slice x.a x.l.length x.c))
  (first | exact HSC.out _ K3 Q3.out | exact HSC.out _ K2 Q2.out | exact HSC.out _ K1 Q1.out)
  (first | (have hseen := K3; clear hseen; go_at_call 128; refine (HC.out _).mono ?_; rintro e w4 ⟨rfl, rfl⟩) | (have hseen := K2; clear hseen; go_at_call 63; refine (HU.out _ _ _ _ _).mono ?_; rintro e w3 ⟨rfl, h3⟩; have K3 := K2.below h3; have Q3 := Lib.hid (Q2.out.trans (h3.mono Q2.out.size))) | (have hseen := K1; clear hseen; go_at_call 63; refine (HU.out _ _ _ _ _).mono ?_; rintro e w2 ⟨rfl, h2⟩; have K2 := K1.below h2; have Q2 := Lib.hid (Q1.out.trans (h2.mono Q1.out.size))))
 go_wp2
 go_ret
 exact ⟨rfl, K3.frame⟩
theorem pconcat3_tb (x y : Option Addr) (A B : List (Value × Value)) (c1 c2 n1 n2 : Nat) (s0 s1 : Value) (h0 : s0.oneCell' = true) (h1' : s1.oneCell' = true) (W : World) (g1 g2 : Nat) (T : TypeId) (h1 : n1 = A.length) (h2 : n2 = B.length) (hA : PpSl W x A) (hB : PpSl W y B) (oA : OneP A) (oB : OneP B) (k1 : x = none → c1 = 0) (k2 : y = none → c2 = 0) (hg1 : g1 = W.heap.size) (hg2 : g2 = W.heap.size + 1) (hl : A.length + B.length ≤ 10000) :
  Calls Tryz.prog 200 #[.slice (some ⟨g2, 0, none⟩) 3 3] ((W.alloc (.cells #[s0, s1] 87)).alloc (.cells #[.slice x n1 c1, .slice (some ⟨g1, 0, none⟩) 1 1, .slice y n2 c2] T)).drew fun e w' => ∃ v, e = .returned v ∧ w'.ownsRow W.heap.size 87 2 v (A ++ (s0, s1) :: B).length (pps (A ++ (s0, s1) :: B)) ∧ Below W.heap.size W w' := by
 subst hg1 h1 h2
 have hcat : catP [⟨x, A, c1⟩, ⟨some ⟨W.heap.size, 0, none⟩, [(s0, s1)], 1⟩, ⟨y, B, c2⟩] = A ++ (s0, s1) :: B := by simp [catP]
 have hb1 := below_one W (.cells #[s0, s1] 87)
 have hS := cells_pp W [(s0, s1)] #[s0, s1] 87 _ rfl rfl
 generalize hW1 : W.alloc (.cells #[s0, s1] 87) = W1 at *
 have hz : W1.heap.size = W.heap.size + 1 := by rw [← hW1, size1]
 have hb2 := below_one W1 (.cells #[.slice x A.length c1, .slice (some ⟨W.heap.size, 0, none⟩) 1 1, .slice y B.length c2] T)
 have hb2 := hb2.drew
 have hb := hb1.trans (hb2.mono hb1.size)
 have hlen : (catP [⟨x, A, c1⟩, ⟨some ⟨W.heap.size, 0, none⟩, [(s0, s1)], 1⟩, ⟨y, B, c2⟩]).length ≤ 100000 := by rw [hcat, List.length_append, List.length_cons]; omega
 rw [hg2, ← hz]
 refine (pconcat_tb (some ⟨W1.heap.size, 0, none⟩) 3 [⟨x, A, c1⟩, ⟨some ⟨W.heap.size, 0, none⟩, [(s0, s1)], 1⟩, ⟨y, B, c2⟩] _ (psl_drew3 W1 #[.slice x A.length c1, .slice (some ⟨W.heap.size, 0, none⟩) 1 1, .slice y B.length c2] T) ?_ (by show 3 ≤ _; decide) hlen).mono ?_
 ·intro r hr
  simp only [List.mem_cons, List.mem_nil_iff, or_false] at hr
  rcases hr with rfl | rfl | rfl
  ·exact ⟨hA.below hb, oA, k1⟩
  ·exact ⟨hS.below hb2, fun y hy => by rw [List.mem_singleton.1 hy]; exact ⟨h0, h1'⟩, fun h => by cases h⟩
  ·exact ⟨hB.below hb, oB, k2⟩
 ·rintro e w' ⟨v, rfl, ho, hbb⟩
  rw [hcat] at ho
  exact ⟨v, rfl, own_low2 ho hb.size, hb.trans (hbb.mono hb.size)⟩
structure Pttb (w : World) (gf gp : Nat) (p : TbM) (a : Option Addr) (l : List TbM) (W : World) : Prop where
 f : CapO W gf (.func (.func 72) #[] #[])
 p : W.heap[gp]? = some (.cells #[.string p.u, .int .i64 p.a] 87 (0, 0))
 row : PpSl W a (l.map tbp)
 frame : Below w.heap.size w W
theorem Pttb.below {w W W' : World} {gf gp : Nat} {p : TbM} {a : Option Addr} {l : List TbM} (h : Pttb w gf gp p a l W) (q : Below W.heap.size W W') : Pttb w gf gp p a l W' :=
 ⟨h.f.below q, (q.block _ (heap_lt h.p)).trans h.p, h.row.below q, h.frame.trans (q.mono h.frame.size)⟩
theorem Pttb.cells {w W : World} {gf gp : Nat} {p : TbM} {a : Option Addr} {l : List TbM} (h : Pttb w gf gp p a l W) : W.cell? ⟨gf, 0, none⟩ = some (.func (.func 72) #[] #[]) ∧ W.cell? ⟨gp, 0, none⟩ = some (.string p.u) ∧ W.cell? ⟨gp, 1, none⟩ = some (.int .i64 p.a) := ⟨h.f.1, pcell2 h.p⟩
theorem Pttb.at_ {w W : World} {gf gp : Nat} {p : TbM} {b off : Nat} {l : List TbM} (h : Pttb w gf gp p (some ⟨b, off, none⟩) l W) {j : Nat} (hj : j < l.length) : W.cell? ⟨b, off + j * 2, none⟩ = some (.string l[j].u) ∧ W.cell? ⟨b, off + j * 2 + 1, none⟩ = some (.int .i64 l[j].a) := by
 obtain ⟨b', off', e, _, h0, h1⟩ := h.row.at_ (k := j) (by rw [List.length_map]; exact hj)
 cases e
 rw [List.getElem_map] at h0 h1
 exact ⟨h0, h1⟩
set_option maxHeartbeats 4000000 in
theorem c_put_tb (x p : TbM) (gf gp : Nat) (W : World) (hf : CapO W gf (.func (.func 72) #[] #[])) (hp : W.heap[gp]? = some (.cells #[.string p.u, .int .i64 p.a] 87 (0, 0))) :
  Calls Tryz.prog 199 #[.agg #[.string x.u, .int .i64 x.a], .pointer (some ⟨gf, 0, none⟩), .pointer (some ⟨gp, 0, none⟩)] W fun r w' => r = .returned (.bool (decide (0 ≤ cmpS x.u p.u))) ∧ Below W.heap.size W w' := by
 have hb := below_one W (.cells #[.string x.u, .int .i64 x.a] 87)
 have K0 : Pttb W gf gp p none [] (W.alloc (.cells #[.string x.u, .int .i64 x.a] 87)) := ⟨hf.below hb, (hb.block _ (heap_lt hp)).trans hp, PpSl.nil _ _, hb⟩
 have HX : Hid (∀ V, Below (W.alloc (.cells #[.string x.u, .int .i64 x.a] 87)).heap.size (W.alloc (.cells #[.string x.u, .int .i64 x.a] 87)) V → V.cell? ⟨W.heap.size, 0, none⟩ = some (.string x.u) ∧ V.cell? ⟨W.heap.size, 1, none⟩ = some (.int .i64 x.a)) := fun V q => pcell2 ((q.block _ (by rw [size1]; omega)).trans (heap_alloc_new W _))
 have HSC : Hid (∀ V, Pttb W gf gp p none [] V → Below (W.alloc (.cells #[.string x.u, .int .i64 x.a] 87)).heap.size (W.alloc (.cells #[.string x.u, .int .i64 x.a] 87)) V → V.cell? ⟨gf, 0, none⟩ = some (.func (.func 72) #[] #[]) ∧ V.cell? ⟨gp, 0, none⟩ = some (.string p.u) ∧ V.cell? ⟨gp, 1, none⟩ = some (.int .i64 p.a) ∧ V.cell? ⟨W.heap.size, 0, none⟩ = some (.string x.u) ∧ V.cell? ⟨W.heap.size, 1, none⟩ = some (.int .i64 x.a)) := fun V h q => ⟨h.f.1, (pcell2 h.p).1, (pcell2 h.p).2, (HX.out V q).1, (HX.out V q).2⟩
 have HU := Lib.hid tombName_any
 have HC := Lib.hid (fun V => cmp_any x.u p.u V)
 have HE : Hid (Lib.compareBytes x.u.data.toList p.u.data.toList = cmpS x.u p.u) := rfl
 rw [HE.out] at HC
 have hq : Below (W.alloc (.cells #[.string x.u, .int .i64 x.a] 87)).heap.size (W.alloc (.cells #[.string x.u, .int .i64 x.a] 87)) (W.alloc (.cells #[.string x.u, .int .i64 x.a] 87)).drew := (Below.refl _ _).drew
 have K1 := K0.below hq
 have Q1 := Lib.hid hq
 have hcl := K0.cells
 obtain ⟨c0, c1, c2⟩ := hcl
 clear hf hp hb HX K0 HE hq
 generalize cmpS x.u p.u = z at *
 go_enter Tryz.func199, Tryz.ntmps199
 go_wp2_with fail
 go_region_held3 (fun V => V.cell? ⟨gf, 0, none⟩ = some (.func (.func 72) #[] #[]) ∧ V.cell? ⟨gp, 0, none⟩ = some (.string p.u) ∧ V.cell? ⟨gp, 1, none⟩ = some (.int .i64 p.a) ∧ V.cell? ⟨W.heap.size, 0, none⟩ = some (.string x.u) ∧ V.cell? ⟨W.heap.size, 1, none⟩ = some (.int .i64 x.a))
  (first | exact HSC.out _ K3 Q3.out | exact HSC.out _ K2 Q2.out | exact HSC.out _ K1 Q1.out)
  (first | (have hseen := K3; clear hseen; go_at_call 128; refine (HC.out _).mono ?_; rintro e w4 ⟨rfl, rfl⟩) | (have hseen := K2; clear hseen; go_at_call 72; refine (HU.out _ _ _).mono ?_; rintro e w3 ⟨rfl, h3⟩; have K3 := K2.below h3; have Q3 := Lib.hid (Q2.out.trans (h3.mono Q2.out.size))) | (have hseen := K1; clear hseen; go_at_call 72; refine (HU.out _ _ _).mono ?_; rintro e w2 ⟨rfl, h2⟩; have K2 := K1.below h2; have Q2 := Lib.hid (Q1.out.trans (h2.mono Q1.out.size))))
 go_wp2
 go_ret
 exact ⟨rfl, K3.frame⟩
end Go.Proofs.YtjhdhfokhkcamaaGreat
