/- Texts of mine, one behind the other, of each what is wanted: DB5 DE1. -/
import Derived.Test.YtjhdhfokhkcamaaGreatProg
import Derived.WalkKit
import Derived.WalkLawsBesides
import Derived.Lib.Hide
import Derived.Lib.Bytealg
import Derived.Deep.QuietTactic
import Derived.BigQuiet
import Derived.Deep.Draws
import Derived.Below
import Derived.WalkSmall
import Derived.OwnWalk
import Derived.Maps.AppendAt
import Derived.Laws.AppendOwnNone
import Derived.BigRegion
import Derived.Deep.MidRow
import Derived.Deep.RegionHeld3
import Derived.Shelf.SlSortCmp.QuietGrown
import Derived.Shelf.SlSorted.Search
import Derived.Laws.ResultCell
import Derived.WalkMore
import Derived.Shelf.Spec.SlicesGrow
import Derived.Test.YtjhdhfokhkcamaaGreatShelf
import Derived.Shelf.SlicesG.Cmp
import Derived.Lib.SliceRun
import Derived.Deep.WholeRow
import Derived.Shelf.SlSortCmp.WholeK
import Derived.Shelf.SlSortCmp.NoneTotal
import Derived.Lib.SlicesCompact
import Derived.Shelf.Slices.Clone
import Derived.Shelf.Slices.CompactS
import Derived.Sort.OwnSorted
import Derived.Sort.Grow
import Derived.Lib.OwnBridge
import Derived.Deep.AppendLies
import Derived.ArgAppend
import Derived.Test.YtjhdhfokhkcamaaGreatRows
import Derived.ProofKit
import Derived.OpenShut
import Derived.ShutString
import Derived.SliceStrings
import Derived.Carry
import Derived.Deep.SlicePairs
import Derived.Lib.SmallJoins
import Derived.Deep.DeepCutAuto
import Derived.Test.YtjhdhfokhkcamaaGreatP01
import Derived.Test.YtjhdhfokhkcamaaGreatP09
import Derived.Test.YtjhdhfokhkcamaaGreatP10
import Derived.Test.YtjhdhfokhkcamaaGreatP12
import Derived.Test.YtjhdhfokhkcamaaGreatP13
import Derived.Test.YtjhdhfokhkcamaaGreatP17
import Derived.Test.YtjhdhfokhkcamaaGreatP22
import Derived.Test.YtjhdhfokhkcamaaGreatP25
namespace Go.Proofs.YtjhdhfokhkcamaaGreat
open Go.RowKit Go.Proofs
set_option linter.unusedVariables false
set_option maxRecDepth 100000
theorem txt_dec (a b : ByteArray) : (a.toList == b.toList) = decide (a = b) := by
  by_cases h : a = b
  · subst h; rw [txt_eq, decide_eq_true rfl]
  · rw [txt_ne h, decide_eq_false h]
theorem txt_ndec (a b : ByteArray) : (a.toList != b.toList) = !decide (a = b) := by unfold bne; rw [txt_dec]
set_option maxHeartbeats 1000000 in
theorem userName_any (u : ByteArray) (a : Option Addr) (n c : Nat) (W : World) :
    Calls Tryz.prog 63 #[.agg #[.string u, .slice a n c]] W fun r w' => r = .returned (.string u) ∧ Below W.heap.size W w' := by
  have HB := Lib.hid (below_one W (.cells #[.string u, .slice a n c] 89))
  go_enter Tryz.func63, Tryz.ntmps63
  go_wp2
  go_ret
  exact ⟨rfl, HB.out⟩
set_option maxHeartbeats 1000000 in
theorem tombName_any (u : ByteArray) (n : Int) (W : World) :
    Calls Tryz.prog 72 #[.agg #[.string u, .int .i64 n]] W fun r w' => r = .returned (.string u) ∧ Below W.heap.size W w' := by
  have HB := Lib.hid (below_one W (.cells #[.string u, .int .i64 n] 87))
  go_enter Tryz.func72, Tryz.ntmps72
  go_wp2
  go_ret
  exact ⟨rfl, HB.out⟩
set_option maxHeartbeats 1000000 in
theorem c_staysOf (x : UsL) (u : ByteArray) (g : Nat) (W : World) (h : CapO W g (.string u)) :
    Calls Tryz.prog 147 #[.agg #[.string x.u, .slice x.a x.l.length x.c], .pointer (some ⟨g, 0, none⟩)] W fun r w' => r = .returned (.bool (decide (x.u = u))) ∧ Below W.heap.size W w' := by
  have hb := below_one W (.cells #[.string x.u, .slice x.a x.l.length x.c] 89)
  obtain ⟨c0, hg⟩ := h.below hb
  have HB := Lib.hid hb
  have HE := Lib.hid (txt_dec x.u u)
  clear hb hg h
  go_enter Tryz.func147, Tryz.ntmps147
  go_wp2
  go_ret
  exact ⟨retB HE.out, HB.out⟩
set_option maxHeartbeats 1000000 in
theorem c_erased (x : UsL) (u : ByteArray) (g : Nat) (W : World) (h : CapO W g (.string u)) :
    Calls Tryz.prog 171 #[.agg #[.string x.u, .slice x.a x.l.length x.c], .pointer (some ⟨g, 0, none⟩)] W fun r w' => r = .returned (.bool (!decide (x.u = u))) ∧ Below W.heap.size W w' := by
  have hb := below_one W (.cells #[.string x.u, .slice x.a x.l.length x.c] 89)
  obtain ⟨c0, hg⟩ := h.below hb
  have HB := Lib.hid hb
  have HE := Lib.hid (txt_ndec x.u u)
  clear hb hg h
  go_enter Tryz.func171, Tryz.ntmps171
  go_wp2
  go_ret
  exact ⟨retB HE.out, HB.out⟩
set_option maxHeartbeats 1000000 in
theorem c_has1 (x : OpM) (u : ByteArray) (g : Nat) (W : World) (h : CapO W g (.string u)) :
    Calls Tryz.prog 96 #[.agg #[.int .i64 x.n, .string x.u, .int .i64 x.s, .int .i64 x.f], .pointer (some ⟨g, 0, none⟩)] W fun r w' => r = .returned (.bool (decide (x.u = u))) ∧ Below W.heap.size W w' := by
  have hb := below_one W (.cells #[.int .i64 x.n, .string x.u, .int .i64 x.s, .int .i64 x.f] 112)
  obtain ⟨c0, hg⟩ := h.below hb
  have HB := Lib.hid hb
  have HE := Lib.hid (txt_dec x.u u)
  clear hb hg h
  go_enter Tryz.func96, Tryz.ntmps96
  go_wp2
  go_ret
  exact ⟨retB HE.out, HB.out⟩
set_option maxHeartbeats 1000000 in
theorem c_has3 (x : TbM) (u : ByteArray) (g : Nat) (W : World) (h : CapO W g (.string u)) :
    Calls Tryz.prog 101 #[.agg #[.string x.u, .int .i64 x.a], .pointer (some ⟨g, 0, none⟩)] W fun r w' => r = .returned (.bool (decide (x.u = u))) ∧ Below W.heap.size W w' := by
  have hb := below_one W (.cells #[.string x.u, .int .i64 x.a] 87)
  obtain ⟨c0, hg⟩ := h.below hb
  have HB := Lib.hid hb
  have HE := Lib.hid (txt_dec x.u u)
  clear hb hg h
  go_enter Tryz.func101, Tryz.ntmps101
  go_wp2
  go_ret
  exact ⟨retB HE.out, HB.out⟩
set_option maxHeartbeats 1000000 in
theorem pHas_any (p q u : ByteArray) (W : World) :
    Calls Tryz.prog 99 #[.agg #[.string p, .string q], .string u] W fun r w' => r = .returned (.bool (decide (p = u ∨ q = u))) ∧ Below W.heap.size W w' := by
  have HB := Lib.hid (below_one W (.cells #[.string p, .string q] 121))
  by_cases h1 : u = p
  · have d1 : (u.toList == p.toList) = true := by rw [h1]; exact txt_eq p
    have HE : Hid (true = decide (p = u ∨ q = u)) := by unfold Hid; rw [decide_eq_true (.inl h1.symm)]
    clear h1
    go_enter Tryz.func99, Tryz.ntmps99
    go_wp2
    go_ret
    exact ⟨retB HE.out, HB.out⟩
  · have d1 := txt_ne h1
    have HE : Hid ((u.toList == q.toList) = decide (p = u ∨ q = u)) := by
      unfold Hid
      rw [txt_dec]
      by_cases h2 : u = q
      · rw [decide_eq_true h2, decide_eq_true (.inr h2.symm)]
      · rw [decide_eq_false h2, decide_eq_false (fun h => h.elim (fun e => h1 e.symm) (fun e => h2 e.symm))]
    clear h1
    go_enter Tryz.func99, Tryz.ntmps99
    go_wp2
    go_ret
    exact ⟨retB HE.out, HB.out⟩
set_option maxHeartbeats 1000000 in
theorem c_has2 (x : EnM) (u : ByteArray) (g : Nat) (W : World) (h : CapO W g (.string u)) :
    Calls Tryz.prog 98 #[.agg #[.string x.w, .string x.u, .int .i64 x.f, .int .i64 x.t], .pointer (some ⟨g, 0, none⟩)] W fun r w' => r = .returned (.bool (prE u x)) ∧ Below W.heap.size W w' := by
  have hb := below_one W (.cells #[.string x.w, .string x.u, .int .i64 x.f, .int .i64 x.t] 123)
  obtain ⟨c0, hg⟩ := h.below hb
  have HB := Lib.hid hb
  have HC := Lib.hid (fun V => pHas_any x.w x.u u V)
  unfold prE
  clear hb hg h
  go_enter Tryz.func98, Tryz.ntmps98
  go_wp2_with fail
  refine (HC.out _).mono ?_
  rintro r w2 ⟨rfl, hB⟩
  go_wp2
  go_ret
  exact ⟨retB (by simp), HB.out.trans (hB.mono HB.out.size)⟩
set_option maxHeartbeats 1000000 in
theorem c_latest (x : OpM) (n : Int) (g : Nat) (W : World) (h : CapO W g (.int .i64 n)) :
    Calls Tryz.prog 182 #[.agg #[.int .i64 x.n, .string x.u, .int .i64 x.s, .int .i64 x.f], .pointer (some ⟨g, 0, none⟩)] W fun r w' => r = .returned (.bool (hasN n x)) ∧ Below W.heap.size W w' := by
  have hb := below_one W (.cells #[.int .i64 x.n, .string x.u, .int .i64 x.s, .int .i64 x.f] 112)
  obtain ⟨c0, hg⟩ := h.below hb
  have HB := Lib.hid hb
  have HE : Hid ((x.n == n) = hasN n x) := rfl
  clear hb hg h
  generalize hasN n x = r at *
  go_enter Tryz.func182, Tryz.ntmps182
  go_wp2
  go_ret
  exact ⟨retB HE.out, HB.out⟩
set_option maxHeartbeats 1000000 in
theorem c_those (x : UsL) (N g b : Nat) (q : Bool) (W : World) (h : CapO W b (.func (.func N) #[] #[.pointer (some ⟨g, 0, none⟩)])) (hF : ∀ args V, Sem.run Tryz.prog (callFunc N args) V = .ok (.enter N args) V)
    (hN : ∀ V, Below W.heap.size W V → Calls Tryz.prog N #[.agg #[.string x.u, .slice x.a x.l.length x.c], .pointer (some ⟨g, 0, none⟩)] V fun r w' => r = .returned (.bool q) ∧ Below V.heap.size V w') :
    Calls Tryz.prog 197 #[.agg #[.string x.u, .slice x.a x.l.length x.c], .pointer (some ⟨b, 0, none⟩)] W fun r w' => r = .returned (.bool !q) ∧ Below W.heap.size W w' := by
  have hb := below_one W (.cells #[.string x.u, .slice x.a x.l.length x.c] 89)
  obtain ⟨c0, hg⟩ := h.below hb
  have HB := Lib.hid hb
  have HC := Lib.hid (hN _ hb)
  clear hb hg h hN
  go_enter Tryz.func197, Tryz.ntmps197
  go_wp2_with fail
  refine HC.out.mono ?_
  rintro r w2 ⟨rfl, hB⟩
  go_wp2
  go_ret
  exact ⟨rfl, HB.out.trans (hB.mono HB.out.size)⟩
def butU (u : ByteArray) (D : List UsL) : List UsL := D.filter fun x => !decide (x.u = u)
theorem butU_m (u : ByteArray) (D : List UsL) : umS (butU u D) = (umS D).filter fun x => !isKy UsM.u u x := by
  unfold umS butU
  rw [List.filter_map]
  rfl
set_option maxHeartbeats 2000000 in
theorem those_any (a : Option Addr) (c : Nat) (D : List UsL) (u : ByteArray) (g : Nat) (w : World) (hr : UsSl w a D) (hc : Cp a D.length c) (hl : D.length ≤ 10000) (hg : CapO w g (.string u)) :
    Calls Tryz.prog 170 #[.slice a D.length c, .func (.func 171) #[] #[.pointer (some ⟨g, 0, none⟩)]] w fun e w' => ∃ x q, e = .returned (.slice x (butU u D).length q) ∧ UsSl w' x (butU u D) ∧ Cp x (butU u D).length q ∧ Below w.heap.size w w' := by
  have hb := below_one w (.cells #[.func (.func 171) #[] #[.pointer (some ⟨g, 0, none⟩)]] 118)
  have hcap : CapO (w.alloc (.cells #[.func (.func 171) #[] #[.pointer (some ⟨g, 0, none⟩)]] 118)) w.heap.size (.func (.func 171) #[] #[.pointer (some ⟨g, 0, none⟩)]) := ⟨cell_of_row _ _ 0 _ _ (0, 0) (heap_alloc_new w _), by rw [size1]; omega⟩
  have HCL := Lib.hid (pclone_us a c (D.map usp) (usp_one D) (w.alloc (.cells #[.func (.func 171) #[] #[.pointer (some ⟨g, 0, none⟩)]] 118)) (hr.row.below hb) (by rw [List.length_map]; exact hc) (by rw [List.length_map]; omega))
  rw [List.length_map] at HCL
  have HDE : Hid (∀ v V, (w.alloc (.cells #[.func (.func 171) #[] #[.pointer (some ⟨g, 0, none⟩)]] 118)).heap.size ≤ V.heap.size → Below (w.alloc (.cells #[.func (.func 171) #[] #[.pointer (some ⟨g, 0, none⟩)]] 118)).heap.size (w.alloc (.cells #[.func (.func 171) #[] #[.pointer (some ⟨g, 0, none⟩)]] 118)) V → V.ownsRow (w.alloc (.cells #[.func (.func 171) #[] #[.pointer (some ⟨g, 0, none⟩)]] 118)).heap.size 89 2 v D.length (usv D) →
      Calls Tryz.prog 196 #[v, .func (.func 197) #[] #[.pointer (some ⟨w.heap.size, 0, none⟩)]] V fun r w' => ∃ v', r = .returned v' ∧ w'.ownsRow (w.alloc (.cells #[.func (.func 171) #[] #[.pointer (some ⟨g, 0, none⟩)]] 118)).heap.size 89 2 v' (butU u D).length (usv (butU u D)) ∧ Below (w.alloc (.cells #[.func (.func 171) #[] #[.pointer (some ⟨g, 0, none⟩)]] 118)).heap.size V w') := fun v V hsz hbV hoV => by
    have h := del_us v D 197 w.heap.size (w.alloc (.cells #[.func (.func 171) #[] #[.pointer (some ⟨g, 0, none⟩)]] 118)).heap.size (fun x => decide (x.u = u))
      (fun V => CapO V w.heap.size (.func (.func 171) #[] #[.pointer (some ⟨g, 0, none⟩)]) ∧ CapO V g (.string u) ∧ (w.alloc (.cells #[.func (.func 171) #[] #[.pointer (some ⟨g, 0, none⟩)]] 118)).heap.size ≤ V.heap.size) V hoV ⟨hcap.below hbV, (hg.below hb).below hbV, hsz⟩ hsz (by omega) (call_known Tryz.func197 rfl)
      (fun W W' h q => by
        have hw1 : w.heap.size < (w.alloc (.cells #[.func (.func 171) #[] #[.pointer (some ⟨g, 0, none⟩)]] 118)).heap.size := by rw [size1]; omega
        have hw2 : g < (w.alloc (.cells #[.func (.func 171) #[] #[.pointer (some ⟨g, 0, none⟩)]] 118)).heap.size := Nat.lt_trans hg.2 hw1
        exact ⟨⟨(q.cell (p := ⟨w.heap.size, 0, none⟩) hw1).trans h.1.1, Nat.lt_of_lt_of_le h.1.2 q.size⟩, ⟨(q.cell (p := ⟨g, 0, none⟩) hw2).trans h.2.1.1, Nat.lt_of_lt_of_le h.2.1.2 q.size⟩, Nat.le_trans h.2.2 q.size⟩)
      (fun x hx V h => by
        have h2 := c_those x 171 g w.heap.size (!decide (x.u = u)) V h.1 (call_known Tryz.func171 rfl) (fun V' q => c_erased x u g V' (h.2.1.below q))
        rw [Bool.not_not] at h2
        exact h2)
    exact h
  have HU := Lib.hid hr
  have HB := Lib.hid hb
  clear hr hb hcap hg hc
  go_enter Tryz.func170, Tryz.ntmps170
  go_wp2_with fail
  refine HCL.out.mono ?_
  rintro e w2 ⟨v, rfl, ho, hB2⟩
  go_wp2_with fail
  refine (HDE.out v w2 hB2.size hB2 ho).mono ?_
  rintro e w3 ⟨v3, rfl, ho3, hB3⟩
  have hB4 : Below w.heap.size w w3 := HB.out.trans ((hB2.trans hB3).mono HB.out.size)
  have HO := Lib.hid ho3
  have HB4 := Lib.hid hB4
  clear hB2 hB3 ho3 ho hB4 HB HDE HCL
  go_wp2
  go_ret
  obtain ⟨x, q, rfl, h1, h2, h3, h4⟩ := own_us HO.out
  exact ⟨x, q, rfl, ⟨h3, fun y hy => (HU.out.at_ y (List.mem_filter.1 hy).1).below HB4.out⟩, ⟨h1, h2, h4⟩, HB4.out⟩
theorem fst_key {D : List UsL} {u : ByteArray} {k : Nat} (hk : D.findIdx (fun x => decide (x.u = u)) = k) : (k = D.length ∧ ofU (umS D) u = []) ∨ ∃ h : k < D.length, ofU (umS D) u = D[k].l ∧ D[k].u = u := by
  have hf : (umS D).find? (isKy UsM.u u) = (D.find? (fun x => decide (x.u = u))).map UsL.m := by
    unfold umS
    rw [List.find?_map]
    rfl
  have hle : D.findIdx (fun x => decide (x.u = u)) ≤ D.length := List.findIdx_le_length
  rcases Nat.lt_or_ge k D.length with h1 | h1
  · refine .inr ⟨h1, ?_, ?_⟩
    · have h2 : D.find? (fun x => decide (x.u = u)) = some D[k] := by
        rw [List.find?_eq_some_iff_getElem]
        refine ⟨?_, k, h1, rfl, fun j hj => ?_⟩
        · have := (List.findIdx_eq h1).1 hk
          exact this.1
        · have := ((List.findIdx_eq h1).1 hk).2 j hj
          simpa using this
      unfold ofU
      rw [hf, h2]
      rfl
    · exact of_decide_eq_true ((List.findIdx_eq h1).1 hk).1
  · refine .inl ⟨by omega, ?_⟩
    have h2 : D.find? (fun x => decide (x.u = u)) = none := by
      rw [List.find?_eq_none]
      intro x hx
      have := List.findIdx_eq_length.1 (show D.findIdx (fun x => decide (x.u = u)) = D.length by omega) x hx
      simpa using this
    unfold ofU
    rw [hf, h2]
    rfl
set_option maxHeartbeats 2000000 in
theorem staysOf_any (a : Option Addr) (c : Nat) (D : List UsL) (u : ByteArray) (w : World) (hr : UsSl w a D) (hl : D.length ≤ 10000) :
    Calls Tryz.prog 89 #[.slice a D.length c, .string u] w fun e w' => ∃ x q, e = .returned (.slice x (ofU (umS D) u).length q) ∧ StSl w' x (ofU (umS D) u) ∧ Cp x (ofU (umS D) u).length q ∧ Below w.heap.size w w' := by
  have hb := below_one w (.cells #[.string u] 9)
  have hcap : CapO (w.alloc (.cells #[.string u] 9)) w.heap.size (.string u) := ⟨cell_of_row _ _ 0 _ _ (0, 0) (heap_alloc_new w _), by rw [size1]; omega⟩
  have HF := Lib.hid (find_us a c D 147 w.heap.size (fun x => decide (x.u = u)) (fun V => CapO V w.heap.size (.string u)) _ (hr.below hb) hcap (by omega) (call_known Tryz.func147 rfl) (fun W W' h q => h.below q) (fun x hx V _ h => c_staysOf x u w.heap.size V h))
  have HK := Lib.hid (fst_key (D := D) (u := u) rfl)
  have HB := Lib.hid hb
  have HR := Lib.hid hr
  clear hr hb hcap
  generalize D.findIdx (fun x => decide (x.u = u)) = k at *
  generalize ofU (umS D) u = m at *
  rcases HK.out with ⟨h1, h2⟩ | ⟨h1, h2, _⟩
  · subst h2
    have d1 : ((k : Int) == (D.length : Int)) = true := by rw [h1]; exact beq_self_eq_true _
    clear h1 HK HR
    go_enter Tryz.func89, Tryz.ntmps89
    go_wp2_with fail
    refine HF.out.mono ?_
    rintro e w2 ⟨rfl, hB2⟩
    go_wp2
    go_ret
    exact ⟨none, 0, rfl, StSl.nil _ _, Cp.none, HB.out.trans (hB2.mono HB.out.size)⟩
  · have d1 : ((k : Int) == (D.length : Int)) = false := by rw [beq_eq_false_iff_ne]; omega
    have HM := Lib.hid h2
    clear HK h2
    go_enter Tryz.func89, Tryz.ntmps89
    go_wp2_with fail
    refine HF.out.mono ?_
    rintro e w2 ⟨rfl, hB2⟩
    have hB3 : Below w.heap.size w w2 := HB.out.trans (hB2.mono HB.out.size)
    obtain ⟨b, off, rfl, hbl, hc0, hc1, hat⟩ := (HR.out.below hB3).get h1
    have HB3 := Lib.hid hB3
    have HA := Lib.hid hat
    clear hB2 hB3 HF HB HR hat
    generalize D[k] = x at *
    go_wp2
    go_ret
    exact ⟨x.a, x.c, by rw [HM.out]; rfl, by rw [HM.out]; exact HA.out.st, by rw [HM.out]; exact ⟨HA.out.le, HA.out.mx, HA.out.nil⟩, HB3.out⟩
end Go.Proofs.YtjhdhfokhkcamaaGreat
namespace Go.Proofs.YtjhdhfokhkcamaaGreat
open Go.RowKit Go.Proofs
set_option linter.unusedVariables false
set_option maxRecDepth 100000
theorem staysO_few (l : List OpM) (u : ByteArray) (t : Int) {n : Nat} (h : l.length ≤ n) : (staysO l u t).length ≤ n := by
  have := staysO_len l u t l.length
  rw [List.take_length] at this
  omega
theorem ofU_few {s : SaM} {n : Nat} (h : Few s n) (u : ByteArray) : (ofU s.us u).length ≤ n := by
  rcases ofU_cases s.us u with h1 | h1
  · rw [h1]; exact Nat.zero_le _
  · exact h.st _ h1
set_option maxHeartbeats 8000000 in
theorem stays_any11 (x : SaL) (u : ByteArray) (t : Int) (w : World) (h : SaAt w x) (hf : Few x.m 400) :
    Calls Tryz.prog 29 #[saV x, .string u, .int .i64 t] w fun e w' => ∃ a q, e = .returned (.slice a (staysS x.m u t).length q) ∧ StSl w' a (staysS x.m u t) ∧ Below w.heap.size w w' := by
  have HK := SB.new (Below.refl w.heap.size w) h 38
  have hol : (ofU x.m.us u).length ≤ 400 := ofU_few hf u
  have hsl : (staysO x.m.op u t).length ≤ 400 := staysO_few _ _ _ hf.op
  have HSO := Lib.hid (fun V (h : UsSl V x.ua x.us) => staysOf_any x.ua x.uc x.us u V h (by have := hf.us; unfold SaL.m at this; simp only at this; rw [umS_len] at this; omega))
  have HOS := Lib.hid (fun V (h : OpSl V x.oa x.op) => o_stays x.oa x.oc x.op u t V h (Nat.le_trans hf.op (by decide)))
  have HCL := Lib.hid (fun V a c (h : StSl V a (ofU x.m.us u)) (k : Cp a (ofU x.m.us u).length c) => clone_st a c (ofU x.m.us u) V h k (by omega))
  have HAN := Lib.hid (fun j (hj : j < (staysO x.m.op u t).length) => addsS_next (staysO x.m.op u t) (ofU x.m.us u) j hj)
  have HAL := Lib.hid (fun j => addsS_len ((staysO x.m.op u t).take j) (ofU x.m.us u))
  have HAD := Lib.hid (fun V a c (l : List StM) (s : StM) (h : StSl V a l) (k : Cp a l.length c) (hl : l.length ≤ 1000) => add8_any a c l s V h k.nil hl k.le k.mx)
  have HS := Lib.hid HK
  obtain ⟨c0, c1, c2, c3, c4, c5⟩ := HK.cells
  rw [show staysS x.m u t = addsS (staysO x.m.op u t) (ofU x.m.us u) from rfl]
  rw [show umS x.us = x.m.us from rfl] at HSO
  rw [show x.op = x.m.op from rfl] at HOS c2
  generalize hL : staysO x.m.op u t = L at *
  generalize ofU x.m.us u = O at *
  obtain ⟨now, hor, oa, op, oc, ua, us, uc, sa, su, sc, ta, tb, tc⟩ := x
  unfold saV saC stV at *
  dsimp only at *
  clear h hf HK hL
  go_enter Tryz.func29, Tryz.ntmps29
  go_wp2_with fail
  refine (HSO.out _ HS.out.at_.us).mono ?_
  rintro e w1 ⟨x1, q1, rfl, l1, k1, h1⟩
  have A1 := Lib.hid (HS.out.below h1)
  have L1 := Lib.hid l1
  clear c0 c1 c2 c3 c4 c5 h1 l1 HS HSO
  go_wp2_with fail
  refine (HCL.out _ _ _ L1.out k1).mono ?_
  rintro e w2 ⟨v2, rfl, o2, h2⟩
  obtain ⟨x2, q2, rfl, i2, j2, k2, l2⟩ := own_st o2
  have A2 := Lib.hid (A1.out.below h2)
  have L2 := Lib.hid k2
  obtain ⟨c0, c1, c2, c3, c4, c5⟩ := A2.out.cells
  dsimp only at *
  clear A1 L1 HCL k1 h2 o2 k2
  go_wp2_with fail
  refine (HOS.out _ A2.out.at_.op).mono ?_
  rintro e w3 ⟨x3, q3, rfl, i3, j3, k3, l3, h3⟩
  have L3 := Lib.hid (L2.out.below h3)
  have M3 := Lib.hid l3
  have B3 := Lib.hid (A2.out.frame.trans (h3.mono A2.out.frame.size))
  have C2 := Lib.hid (Cp.mk i2 j2 l2)
  clear c0 c1 c2 c3 c4 c5 A2 L2 HOS i2 j2 l2 i3 j3 k3 l3 h3
  go_wp2
  go_loopw [7, 21] (fun v iv wr => ∃ (j : Nat) (a : Option Addr) (c : Nat), j ≤ L.length ∧ iv = .int .i64 j ∧ v = .slice a (addsS (L.take j) O).length c ∧ Hid (StSl wr a (addsS (L.take j) O)) ∧ Hid (Cp a (addsS (L.take j) O).length c) ∧ Hid (Below w3.heap.size w3 wr)) (fun _ iv _ => L.length - (intOf iv).toNat)
  case atStart => exact ⟨0, _, _, by omega, rfl, rfl, L3.out, C2.out, Below.refl _ _⟩
  case round =>
    clear L3 C2
    obtain ⟨j, a, c, hj, rfl, rfl, HR, HC, HB⟩ := hrel
    by_cases hjl : j < L.length
    · obtain ⟨b, off, rfl, hbl, r0, r1, r2, r3⟩ := (M3.out.below HB.out) j hjl
      have hb1 := below_one wr (.cells #[.int .i64 L[j].f, .int .i64 L[j].t, .int .i64 L[j].n, .int .i64 L[j].s] 86)
      have HN := Lib.hid (HAN.out j hjl)
      have hal := HAL.out j
      have hal2 : (L.take j).length ≤ 400 := by rw [List.length_take]; omega
      have HAJ := Lib.hid (HAD.out _ a c (addsS (L.take j) O) L[j] (HR.out.below hb1) HC.out (by omega))
      have HB1 := Lib.hid (HB.out.trans (hb1.mono HB.out.size))
      clear hb1 HAN HAL HAD HR HC HB hal hal2
      generalize addsS (L.take j) O = R at *
      generalize L[j] = s at *
      go_wp2_with fail
      refine HAJ.out.mono ?_
      rintro e w4 ⟨v4, rfl, o4, h4⟩
      obtain ⟨x4, q4, rfl, i4, j4, k4, l4⟩ := own_st o4
      have HB2 := Lib.hid (HB1.out.trans (h4.mono HB1.out.size))
      have HC2 := Lib.hid (Cp.mk i4 j4 l4)
      have HS4 := Lib.hid k4
      clear HAJ HB1 h4 o4 i4 j4 k4 l4 r0 r1 r2 r3
      go_wp2
      go_roundw
      case rel => exact ⟨j + 1, x4, q4, by omega, by go_num, by rw [HN.out], (by unfold Hid; rw [HN.out]; exact HS4.out), (by unfold Hid; rw [HN.out]; exact HC2.out), HB2.out⟩
      case measure => simp [intOf]; omega
    · obtain rfl : j = L.length := by omega
      rw [List.take_length] at HR HC
      rw [List.take_length]
      have HF := Lib.hid (B3.out.trans (HB.out.mono B3.out.size))
      clear HAN HAL HAD HC HB B3 M3
      go_wp2
      go_ret
      exact ⟨a, c, rfl, HR.out, HF.out⟩
theorem hasU_stays {l : List UsM} (h : ∀ x ∈ l, x.l ≠ []) (u : ByteArray) : hasU l u = decide (0 < (ofU l u).length) := by
  rw [Bool.eq_iff_iff, decide_eq_true_iff]
  unfold hasU
  rw [List.any_eq_true]
  constructor
  · rintro ⟨x, hx, hk⟩
    unfold ofU
    cases hf : l.find? (isKy UsM.u u) with
    | none => exact absurd hk (by rw [List.find?_eq_none] at hf; exact hf x hx)
    | some y => exact List.length_pos_iff.2 (h y (List.mem_of_find?_eq_some hf))
  · intro h1
    rcases ofU_cases l u with h2 | h2
    · rw [h2] at h1; exact absurd h1 (Nat.lt_irrefl _)
    · exact ⟨_, h2, by unfold isKy; simp⟩
set_option maxHeartbeats 8000000 in
theorem has_any11 (x : SaL) (u : ByteArray) (w : World) (h : SaAt w x) (hr : RightS x.m) (hf : Few x.m 400) :
    Calls Tryz.prog 31 #[saV x, .string u] w fun e w' => e = .returned (.bool (stHas x.m u)) ∧ Below w.heap.size w w' := by
  have S0 := SB.new (Below.refl w.heap.size w) h 38
  have HK := S0.alloc (.cells #[.string u] 9)
  have hb1 := below_one (w.alloc (.cells (saC x) 38)) (.cells #[.string u] 9)
  have hnew := heap_alloc_new (w.alloc (.cells (saC x) 38)) (.cells #[.string u] 9)
  have hcap : CapO ((w.alloc (.cells (saC x) 38)).alloc (.cells #[.string u] 9)) (w.heap.size + 1) (.string u) := ⟨by rw [size1] at hnew; exact cell_of_row _ _ 0 _ _ (0, 0) hnew, by rw [size1, size1]; omega⟩
  have HC := Lib.hid hcap
  have HS := Lib.hid HK
  have HSO := Lib.hid (fun V (h : UsSl V x.ua x.us) => staysOf_any x.ua x.uc x.us u V h (by have := hf.us; unfold SaL.m at this; simp only at this; rw [umS_len] at this; omega))
  have H1 : Hid (∀ V, OpSl V x.oa x.op → CapO V (w.heap.size + 1) (.string u) → Calls Tryz.prog 95 #[.slice x.oa x.op.length x.oc, .func (.func 96) #[] #[.pointer (some ⟨w.heap.size + 1, 0, none⟩)]] V fun r w' => r = .returned (.bool (hasO x.m.op u)) ∧ Below V.heap.size V w') := fun V h k => by
    refine some_op x.oa x.oc x.op _ _ (isU u) (fun V => CapO V (w.heap.size + 1) (.string u)) V h k ?_ (call_known Tryz.func96 rfl) (fun _ _ h q => h.below q) (fun y _ V h => c_has1 y u _ V h)
    have := hf.op
    exact Nat.le_trans this (by decide)
  have H2 : Hid (∀ V, EnSl V x.sa x.su → CapO V (w.heap.size + 1) (.string u) → Calls Tryz.prog 97 #[.slice x.sa x.su.length x.sc, .func (.func 98) #[] #[.pointer (some ⟨w.heap.size + 1, 0, none⟩)]] V fun r w' => r = .returned (.bool (hasE x.m.su u)) ∧ Below V.heap.size V w') := fun V h k => by
    refine some_en x.sa x.sc x.su _ _ (prE u) (fun V => CapO V (w.heap.size + 1) (.string u)) V h k ?_ (call_known Tryz.func98 rfl) (fun _ _ h q => h.below q) (fun y _ V h => c_has2 y u _ V h)
    have := hf.su
    exact Nat.le_trans this (by decide)
  have H3 : Hid (∀ V, TbSl V x.ta x.tb → CapO V (w.heap.size + 1) (.string u) → Calls Tryz.prog 100 #[.slice x.ta x.tb.length x.tc, .func (.func 101) #[] #[.pointer (some ⟨w.heap.size + 1, 0, none⟩)]] V fun r w' => r = .returned (.bool (hasT x.m.tb u)) ∧ Below V.heap.size V w') := fun V h k => by
    refine some_tb x.ta x.tc x.tb _ _ (isKy TbM.u u) (fun V => CapO V (w.heap.size + 1) (.string u)) V h k ?_ (call_known Tryz.func101 rfl) (fun _ _ h q => h.below q) (fun y _ V h => c_has3 y u _ V h)
    have := hf.tb
    exact Nat.le_trans this (by decide)
  have hst : stHas x.m u = (hasT x.m.tb u || decide (0 < (ofU x.m.us u).length) || hasO x.m.op u || hasE x.m.su u) := by
    unfold stHas
    rw [hasU_stays fun y hy => (hr.us y hy).2.1]
  rw [hst]
  rw [show umS x.us = x.m.us from rfl] at HSO
  have hol := ofU_few hf u
  obtain ⟨c0, c1, c2, c3, c4, c5⟩ := HK.cells
  have hcell := hcap.1
  generalize hasO x.m.op u = b1 at *
  generalize hasE x.m.su u = b3 at *
  generalize hasT x.m.tb u = b4 at *
  generalize ofU x.m.us u = O at *
  obtain ⟨now, hor, oa, op, oc, ua, us, uc, sa, su, sc, ta, tb, tc⟩ := x
  unfold saV saC at *
  dsimp only at *
  clear h hr hf HK S0 hb1 hnew hcap hst
  cases b1
  · by_cases hO : 0 < O.length
    · go_enter Tryz.func31, Tryz.ntmps31
      go_wp2_with fail
      refine (H1.out _ HS.out.at_.op HC.out).mono ?_
      rintro e w1 ⟨rfl, h1⟩
      have A1 := Lib.hid (HS.out.below h1)
      have C1 := Lib.hid (HC.out.below h1)
      clear c0 c1 c2 c3 c4 c5 hcell HS HC h1 H1
      obtain ⟨c0, c1, c2, c3, c4, c5⟩ := A1.out.cells
      have hcell := C1.out.1
      dsimp only at *
      go_wp2_with fail
      refine (HSO.out _ A1.out.at_.us).mono ?_
      rintro e w2 ⟨x2, q2, rfl, -, -, h2⟩
      have A2 := Lib.hid (A1.out.below h2)
      have C2 := Lib.hid (C1.out.below h2)
      clear c0 c1 c2 c3 c4 c5 hcell A1 C1 h2 HSO
      obtain ⟨c0, c1, c2, c3, c4, c5⟩ := A2.out.cells
      dsimp only at *
      have hF := Lib.hid A2.out.frame
      go_wp2
      go_ret
      exact ⟨retB (by simp [hO]), hF.out⟩
    · cases b3
      · go_enter Tryz.func31, Tryz.ntmps31
        go_wp2_with fail
        refine (H1.out _ HS.out.at_.op HC.out).mono ?_
        rintro e w1 ⟨rfl, h1⟩
        have A1 := Lib.hid (HS.out.below h1)
        have C1 := Lib.hid (HC.out.below h1)
        clear c0 c1 c2 c3 c4 c5 hcell HS HC h1 H1
        obtain ⟨c0, c1, c2, c3, c4, c5⟩ := A1.out.cells
        have hcell := C1.out.1
        dsimp only at *
        go_wp2_with fail
        refine (HSO.out _ A1.out.at_.us).mono ?_
        rintro e w2 ⟨x2, q2, rfl, -, -, h2⟩
        have A2 := Lib.hid (A1.out.below h2)
        have C2 := Lib.hid (C1.out.below h2)
        clear c0 c1 c2 c3 c4 c5 hcell A1 C1 h2 HSO
        obtain ⟨c0, c1, c2, c3, c4, c5⟩ := A2.out.cells
        dsimp only at *
        go_wp2_with fail
        refine (H2.out _ A2.out.at_.su C2.out).mono ?_
        rintro e w3 ⟨rfl, h3⟩
        have A3 := Lib.hid (A2.out.below h3)
        have C3 := Lib.hid (C2.out.below h3)
        clear c0 c1 c2 c3 c4 c5 A2 C2 h3 H2
        obtain ⟨c0, c1, c2, c3, c4, c5⟩ := A3.out.cells
        dsimp only at *
        go_wp2_with fail
        refine (H3.out _ A3.out.at_.tb C3.out).mono ?_
        rintro e w4 ⟨rfl, h4⟩
        have hF := Lib.hid (A3.out.frame.trans (h4.mono A3.out.frame.size))
        go_wp2
        go_ret
        exact ⟨retB (by simp [hO]), hF.out⟩
      · go_enter Tryz.func31, Tryz.ntmps31
        go_wp2_with fail
        refine (H1.out _ HS.out.at_.op HC.out).mono ?_
        rintro e w1 ⟨rfl, h1⟩
        have A1 := Lib.hid (HS.out.below h1)
        have C1 := Lib.hid (HC.out.below h1)
        clear c0 c1 c2 c3 c4 c5 hcell HS HC h1 H1
        obtain ⟨c0, c1, c2, c3, c4, c5⟩ := A1.out.cells
        have hcell := C1.out.1
        dsimp only at *
        go_wp2_with fail
        refine (HSO.out _ A1.out.at_.us).mono ?_
        rintro e w2 ⟨x2, q2, rfl, -, -, h2⟩
        have A2 := Lib.hid (A1.out.below h2)
        have C2 := Lib.hid (C1.out.below h2)
        clear c0 c1 c2 c3 c4 c5 hcell A1 C1 h2 HSO
        obtain ⟨c0, c1, c2, c3, c4, c5⟩ := A2.out.cells
        dsimp only at *
        go_wp2_with fail
        refine (H2.out _ A2.out.at_.su C2.out).mono ?_
        rintro e w3 ⟨rfl, h3⟩
        have A3 := Lib.hid (A2.out.below h3)
        have C3 := Lib.hid (C2.out.below h3)
        clear c0 c1 c2 c3 c4 c5 A2 C2 h3 H2
        obtain ⟨c0, c1, c2, c3, c4, c5⟩ := A3.out.cells
        dsimp only at *
        have hF := Lib.hid A3.out.frame
        go_wp2
        go_ret
        exact ⟨retB (by simp [hO]), hF.out⟩
  · go_enter Tryz.func31, Tryz.ntmps31
    go_wp2_with fail
    refine (H1.out _ HS.out.at_.op HC.out).mono ?_
    rintro e w1 ⟨rfl, h1⟩
    have hF := Lib.hid (HS.out.frame.trans (h1.mono HS.out.frame.size))
    go_wp2
    go_ret
    exact ⟨retB (by simp), hF.out⟩
end Go.Proofs.YtjhdhfokhkcamaaGreat
