/- Texts of mine, one behind the other, of each what is wanted. -/
import Derived.Test.YtapacckmgmdnoaaGreatR00
import Derived.Test.YtapacckmgmdnoaaGreatShelf
import Derived.Test.YtapacckmgmdnoaaGreatR01
import Derived.Test.YtapacckmgmdnoaaGreatR02
import Derived.Test.YtapacckmgmdnoaaGreatR03
import Derived.Test.YtapacckmgmdnoaaGreatR04
import Derived.Test.YtapacckmgmdnoaaGreatR09
import Derived.Test.YtapacckmgmdnoaaGreatR12
namespace Go.Proofs.YtapacckmgmdnoaaGreat
open Go.RowKit
set_option linter.unusedVariables false
set_option maxRecDepth 100000
set_option maxRecDepth 100000
structure EvM where
 kind : Int
 at_ : Int
 user : ByteArray
 other : ByteArray
 n : Int
 status : Int
def evc (e : EvM) : List Value := [.int .i64 e.kind, .int .i64 e.at_, .string e.user, .string e.other, .int .i64 e.n, .int .i64 e.status]
def evV (e : EvM) : Value := .agg #[.int .i64 e.kind, .int .i64 e.at_, .string e.user, .string e.other, .int .i64 e.n, .int .i64 e.status]
def isN (s : ByteArray) : Bool := isName s.data.toList
def noT (s : ByteArray) : Bool := s.toList == (⟨#[]⟩ : ByteArray).toList
def inB (a b n : Int) : Bool := decide (a ≤ n) && decide (n ≤ b)
structure ShM where
 user : Bool
 other : Bool
 n0 : Int
 n1 : Int
 s0 : Int
 s1 : Int
def shK (k : Int) : ShM :=
 if k = 1 ∨ k = 2 then ⟨true, false, 1, 999, 1, 4⟩ else if k = 3 then ⟨true, false, 1, 999, 0, 0⟩ else if k = 7 then ⟨true, false, 0, 0, 0, 0⟩ else
 if k = 4 ∨ k = 5 then ⟨true, true, 0, 0, 0, 0⟩ else if k = 6 then ⟨false, false, 0, 1099511627775, 0, 0⟩ else ⟨false, false, 0, 0, 0, 0⟩
def isK (k : Int) : Bool := decide (1 ≤ k) && decide (k ≤ 7)
def rText (s : ByteArray) (named : Bool) : Bool := if named then isN s else noT s
def rightE (e : EvM) : Bool :=
 isK e.kind && (inB 0 1099511627775 e.at_ && (rText e.user (shK e.kind).user && (rText e.other (shK e.kind).other && (inB (shK e.kind).n0 (shK e.kind).n1 e.n && inB (shK e.kind).s0 (shK e.kind).s1 e.status))))
theorem results_cellT {fn : Func} {p u : Tmp} {ty : TypeId} (h : fn.results = #[.cell p ty, .tmp u]) (tmps : Array Value) (P : Program) (w : World) :
  (results fn tmps).run P w = ((asAddr (tmps.getD p undef)).run P w).andThen fun a w₁ => ((loadVar ty a).run P w₁).andThen fun x w₂ => .ok (.tuple #[x, tmps.getD u undef]) w₂ := by
 simp only [results, h]
 simp [Sem.run_bind, Result.andThen]
 try (split <;> simp)
 all_goals try (split <;> simp)
theorem infoNum : (Tryz.prog.info? 240).map (·.size) = some 2 := by kernel_rfl
theorem loadNum {W : World} {g : Nat} {a b : Value} {t : TypeId} (h : W.heap[g]? = some (.cells #[a, b] t (0, 0))) :
  (loadVar 240 ⟨g, 0, none⟩).run Tryz.prog W = .ok (.agg #[a, b]) W :=
 run_loadVar_mid (P := Tryz.prog) W g 0 240 [a, b] _ (fun j v hv => by
  rw [Nat.zero_add, cell_of_row _ _ _ _ _ (0, 0) h]
  simpa using hv) Tryz.underlying240 rfl infoNum
theorem times_any (w : World) : Calls Tryz.prog 189 #[] w fun e w' => e = .returned (.agg #[.int .i64 0, .int .i64 1099511627775]) ∧ Below w.heap.size w w' := by
 have HLD := Lib.hid (fun a b => loadNum (heap_alloc_new w (.cells #[a, b] 240)))
 have HBB := Lib.hid (fun o => (Below.refl w.heap.size w).alloc (Nat.le_refl _) o)
 go_enter Tryz.func189, Tryz.ntmps189
 go_wp2
 refine bodyPost_ret (v := .agg #[.int .i64 0, .int .i64 1099511627775]) ?_ rfl ?_
 ·rw [results_cell1 rfl]
  simp [asAddr, Result.andThen, HLD.out]
 ·exact ⟨rfl, HBB.out _⟩
theorem has_any (a b n : Int) (w : World) : Calls Tryz.prog 190 #[.agg #[.int .i64 a, .int .i64 b], .int .i64 n] w fun e w' => e = .returned (.bool (inB a b n)) ∧ Below w.heap.size w w' := by
 have HBB := Lib.hid (fun o => (Below.refl w.heap.size w).alloc (Nat.le_refl _) o)
 unfold inB
 by_cases h : a ≤ n
 ·go_enter Tryz.func190, Tryz.ntmps190
  go_wp2
  go_ret
  exact ⟨retB (by simp [h]), HBB.out _⟩
 ·go_enter Tryz.func190, Tryz.ntmps190
  go_wp2
  go_ret
  exact ⟨retB (by simp; omega), HBB.out _⟩
theorem rightText_any (s : ByteArray) (b : Bool) (w : World) (hs : s.size ≤ maxLen) : Calls Tryz.prog 191 #[.string s, .bool b] w fun e w' => e = .returned (.bool (rText s b)) ∧ w' = w := by
 have HR := Lib.hid (right_any s w hs)
 unfold rText isN noT
 cases b
 ·go_enter Tryz.func191, Tryz.ntmps191
  go_wp2
  go_ret
  exact ⟨retB (by simp), rfl⟩
 ·go_enter Tryz.func191, Tryz.ntmps191
  go_wp2_with fail
  refine (HR.out).mono ?_
  rintro e w1 ⟨rfl, rfl⟩
  go_wp2
  go_ret
  exact ⟨retB (by simp), rfl⟩
def shV (s : ShM) : Value := .agg #[.bool s.user, .bool s.other, .int .i64 s.n0, .int .i64 s.n1, .int .i64 s.s0, .int .i64 s.s1]
theorem heap_set_far {w : World} {b g i : Nat} {v : Value} (h : b ≠ g) : (w.setCell ⟨g, i, none⟩ v).heap[b]? = w.heap[b]? := Below.heap_setCell _ _ _ _ h
theorem infoShape : (Tryz.prog.info? 242).map (·.size) = some 6 := by kernel_rfl
theorem loadShape {W : World} {g : Nat} {a b c d e f : Value} {t : TypeId} (h : W.heap[g]? = some (.cells #[a, b, c, d, e, f] t (0, 0))) :
  (loadVar 242 ⟨g, 0, none⟩).run Tryz.prog W = .ok (.agg #[a, b, c, d, e, f]) W :=
 run_loadVar_mid (P := Tryz.prog) W g 0 242 [a, b, c, d, e, f] _ (fun j v hv => by
  rw [Nat.zero_add, cell_of_row _ _ _ _ _ (0, 0) h]
  simpa using hv) Tryz.underlying242 rfl infoShape
theorem cells6 {g : Nat} {a b c d e f : Value} {t : TypeId} {W : World} (h : W.heap[g]? = some (.cells #[a, b, c, d, e, f] t (0, 0))) : (W.cell? ⟨g, 0, none⟩ = some a ∧ W.cell? ⟨g, 1, none⟩ = some b ∧ W.cell? ⟨g, 2, none⟩ = some c ∧ W.cell? ⟨g, 3, none⟩ = some d ∧ W.cell? ⟨g, 4, none⟩ = some e ∧ W.cell? ⟨g, 5, none⟩ = some f) ∧
  (W.frozen? ⟨g, 0, none⟩ = false ∧ W.frozen? ⟨g, 1, none⟩ = false ∧ W.frozen? ⟨g, 2, none⟩ = false ∧ W.frozen? ⟨g, 3, none⟩ = false ∧ W.frozen? ⟨g, 4, none⟩ = false ∧ W.frozen? ⟨g, 5, none⟩ = false) :=
 ⟨⟨cell_of_row _ _ 0 _ _ _ h, cell_of_row _ _ 1 _ _ _ h, cell_of_row _ _ 2 _ _ _ h, cell_of_row _ _ 3 _ _ _ h, cell_of_row _ _ 4 _ _ _ h, cell_of_row _ _ 5 _ _ _ h⟩,
  frozen_of_row _ _ 0 _ _ h, frozen_of_row _ _ 1 _ _ h, frozen_of_row _ _ 2 _ _ h, frozen_of_row _ _ 3 _ _ h, frozen_of_row _ _ 4 _ _ h, frozen_of_row _ _ 5 _ _ h⟩
set_option maxHeartbeats 2000000 in
theorem shapeOf_any (k : Int) (w : World) : Calls Tryz.prog 188 #[.int .i64 k] w fun e w' => e = .returned (.tuple #[shV (shK k), .bool (isK k)]) ∧ Below w.heap.size w w' := by
 have HLD := Lib.hid (fun a b c d e f o => loadShape ((Below.heap_alloc (w.alloc (.cells #[a, b, c, d, e, f] 242)) o w.heap.size (by rw [size1]; omega)).trans (heap_alloc_new w (.cells #[a, b, c, d, e, f] 242))))
 have HBB := Lib.hid (fun o o' => ((Below.refl w.heap.size w).alloc (Nat.le_refl _) o).alloc (by rw [size1]; omega) o')
 have hcase : k = 1 ∨ k = 2 ∨ k = 3 ∨ k = 7 ∨ k = 4 ∨ k = 5 ∨ k = 6 ∨ (k < 1 ∨ 7 < k) := by omega
 rcases hcase with rfl | rfl | rfl | rfl | rfl | rfl | rfl | hk
 ·go_enter Tryz.func188, Tryz.ntmps188
  go_wp2
  refine bodyPost_ret (v := .tuple #[.agg #[.bool true, .bool false, .int .i64 1, .int .i64 999, .int .i64 1, .int .i64 4], .bool true]) ?_ rfl ?_
  ·rw [results_cellT rfl]
   simp [asAddr, Result.andThen, HLD.out]
  ·exact ⟨rfl, HBB.out _ _⟩
 ·go_enter Tryz.func188, Tryz.ntmps188
  go_wp2
  refine bodyPost_ret (v := .tuple #[.agg #[.bool true, .bool false, .int .i64 1, .int .i64 999, .int .i64 1, .int .i64 4], .bool true]) ?_ rfl ?_
  ·rw [results_cellT rfl]
   simp [asAddr, Result.andThen, HLD.out]
  ·exact ⟨rfl, HBB.out _ _⟩
 ·go_enter Tryz.func188, Tryz.ntmps188
  go_wp2
  refine bodyPost_ret (v := .tuple #[.agg #[.bool true, .bool false, .int .i64 1, .int .i64 999, .int .i64 0, .int .i64 0], .bool true]) ?_ rfl ?_
  ·rw [results_cellT rfl]
   simp [asAddr, Result.andThen, HLD.out]
  ·exact ⟨rfl, HBB.out _ _⟩
 ·go_enter Tryz.func188, Tryz.ntmps188
  go_wp2
  refine bodyPost_ret (v := .tuple #[.agg #[.bool true, .bool false, .int .i64 0, .int .i64 0, .int .i64 0, .int .i64 0], .bool true]) ?_ rfl ?_
  ·rw [results_cellT rfl]
   simp [asAddr, Result.andThen, HLD.out]
  ·exact ⟨rfl, HBB.out _ _⟩
 ·go_enter Tryz.func188, Tryz.ntmps188
  go_wp2
  refine bodyPost_ret (v := .tuple #[.agg #[.bool true, .bool true, .int .i64 0, .int .i64 0, .int .i64 0, .int .i64 0], .bool true]) ?_ rfl ?_
  ·rw [results_cellT rfl]
   simp [asAddr, Result.andThen, HLD.out]
  ·exact ⟨rfl, HBB.out _ _⟩
 ·go_enter Tryz.func188, Tryz.ntmps188
  go_wp2
  refine bodyPost_ret (v := .tuple #[.agg #[.bool true, .bool true, .int .i64 0, .int .i64 0, .int .i64 0, .int .i64 0], .bool true]) ?_ rfl ?_
  ·rw [results_cellT rfl]
   simp [asAddr, Result.andThen, HLD.out]
  ·exact ⟨rfl, HBB.out _ _⟩
 ·have HX : Hid (∀ W, Below ((w.alloc (.cells #[.bool false, .bool false, .int .i64 0, .int .i64 0, .int .i64 0, .int .i64 0] 242)).alloc (.cells #[.bool false, .bool false, .int .i64 0, .int .i64 0, .int .i64 0, .int .i64 0] 242)).heap.size ((w.alloc (.cells #[.bool false, .bool false, .int .i64 0, .int .i64 0, .int .i64 0, .int .i64 0] 242)).alloc (.cells #[.bool false, .bool false, .int .i64 0, .int .i64 0, .int .i64 0, .int .i64 0] 242)) W → W.heap[w.heap.size]? = some (.cells #[.bool false, .bool false, .int .i64 0, .int .i64 0, .int .i64 0, .int .i64 0] 242 (0, 0)) ∧ W.heap[w.heap.size + 1]? = some (.cells #[.bool false, .bool false, .int .i64 0, .int .i64 0, .int .i64 0, .int .i64 0] 242 (0, 0)) ∧ Below w.heap.size w W) := fun W hb => by
   have hz : ((w.alloc (.cells #[.bool false, .bool false, .int .i64 0, .int .i64 0, .int .i64 0, .int .i64 0] 242)).alloc (.cells #[.bool false, .bool false, .int .i64 0, .int .i64 0, .int .i64 0, .int .i64 0] 242)).heap.size = w.heap.size + 2 := by rw [size1, size1]
   refine ⟨(hb.block _ (by omega)).trans ((Below.heap_alloc _ _ w.heap.size (by rw [size1]; omega)).trans (heap_alloc_new w _)), (hb.block _ (by omega)).trans ?_, (HBB.out _ _).trans (hb.mono (by omega))⟩
   have := heap_alloc_new (w.alloc (.cells #[.bool false, .bool false, .int .i64 0, .int .i64 0, .int .i64 0, .int .i64 0] 242)) (.cells #[.bool false, .bool false, .int .i64 0, .int .i64 0, .int .i64 0, .int .i64 0] 242)
   rwa [size1] at this
  go_enter Tryz.func188, Tryz.ntmps188
  go_wp2_with fail
  refine (times_any _).mono ?_
  rintro e w1 ⟨rfl, h1⟩
  obtain ⟨q0, q1, q2⟩ := HX.out _ h1
  obtain ⟨⟨z0, z1, z2, z3, z4, z5⟩, g0, g1, g2, g3, g4, g5⟩ := cells6 q0
  obtain ⟨⟨x0, x1, x2, x3, x4, x5⟩, f0, f1, f2, f3, f4, f5⟩ := cells6 q1
  have r1 := heap_setCell_at (heap_setCell_at (heap_setCell_at (heap_setCell_at (heap_setCell_at (heap_setCell_at ((heap_set_far (b := w.heap.size) (g := w.heap.size + 1) (i := 3) (v := .int .i64 1099511627775) (by omega)).trans ((heap_set_far (b := w.heap.size) (g := w.heap.size + 1) (i := 2) (v := .int .i64 0) (by omega)).trans q0)) 0 (.bool false)) 1 (.bool false)) 2 (.int .i64 0)) 3 (.int .i64 1099511627775)) 4 (.int .i64 0)) 5 (.int .i64 0)
  have HL := Lib.hid (loadShape r1)
  have HB : Hid (Below w.heap.size w _) := (((((((q2.setCell (p := ⟨w.heap.size + 1, 2, none⟩) (by show w.heap.size ≤ w.heap.size + 1; omega) (.int .i64 0)).setCell (p := ⟨w.heap.size + 1, 3, none⟩) (by show w.heap.size ≤ w.heap.size + 1; omega) (.int .i64 1099511627775)).setCell (p := ⟨w.heap.size, 0, none⟩) (Nat.le_refl _) (.bool false)).setCell (p := ⟨w.heap.size, 1, none⟩) (Nat.le_refl _) (.bool false)).setCell (p := ⟨w.heap.size, 2, none⟩) (Nat.le_refl _) (.int .i64 0)).setCell (p := ⟨w.heap.size, 3, none⟩) (Nat.le_refl _) (.int .i64 1099511627775)).setCell (p := ⟨w.heap.size, 4, none⟩) (Nat.le_refl _) (.int .i64 0)).setCell (p := ⟨w.heap.size, 5, none⟩) (Nat.le_refl _) (.int .i64 0)
  clear h1 q0 q1 q2 r1
  go_wp2
  refine bodyPost_ret (v := .tuple #[.agg #[.bool false, .bool false, .int .i64 0, .int .i64 1099511627775, .int .i64 0, .int .i64 0], .bool true]) ?_ rfl ?_
  ·rw [results_cellT rfl]
   simp [asAddr, Result.andThen, HL.out]
  ·exact ⟨rfl, HB.out⟩
 ·have hx : shK k = ⟨false, false, 0, 0, 0, 0⟩ := by unfold shK; rw [if_neg (by omega), if_neg (by omega), if_neg (by omega), if_neg (by omega), if_neg (by omega)]
  have hi : isK k = false := by unfold isK; rcases hk with hk | hk <;> simp <;> omega
  rw [hx, hi]
  have k1 : (k == 1) = false := by simp; omega
  have k2 : (k == 2) = false := by simp; omega
  have k3 : (k == 3) = false := by simp; omega
  have k4 : (k == 4) = false := by simp; omega
  have k5 : (k == 5) = false := by simp; omega
  have k6 : (k == 6) = false := by simp; omega
  have k7 : (k == 7) = false := by simp; omega
  go_enter Tryz.func188, Tryz.ntmps188
  go_wp2
  refine bodyPost_ret (v := .tuple #[.agg #[.bool false, .bool false, .int .i64 0, .int .i64 0, .int .i64 0, .int .i64 0], .bool false]) ?_ rfl ?_
  ·rw [results_cellT rfl]
   simp [asAddr, Result.andThen, HLD.out]
  ·exact ⟨rfl, HBB.out _ _⟩
end Go.Proofs.YtapacckmgmdnoaaGreat
namespace Go.Proofs.YtapacckmgmdnoaaGreat
open Go.RowKit Go.Sort Go.Proofs
set_option linter.unusedVariables false
set_option maxRecDepth 100000
set_option maxRecDepth 100000
theorem orL4 (a b c d : Int) : orL [a, b, c, d] = if a = 0 then (if b = 0 then (if c = 0 then (if d = 0 then 0 else d) else c) else b) else a := rfl
theorem orL_cmp (a b : StM) : orL [Lib.compareInt a.f b.f, Lib.compareInt a.t b.t, Lib.compareInt a.n b.n, Lib.compareInt a.s b.s] = cmpSt a b := by
 have key : ∀ x y : Int, (x < y ∧ Lib.compareInt x y = -1) ∨ (x = y ∧ Lib.compareInt x y = 0) ∨ (y < x ∧ Lib.compareInt x y = 1) := fun x y => by
  unfold Lib.compareInt
  rcases Int.lt_trichotomy x y with h | h | h
  ·exact .inl ⟨h, by simp [h]⟩
  ·exact .inr (.inl ⟨h, by simp [h]⟩)
  ·exact .inr (.inr ⟨h, by simp [h]; omega⟩)
 have lo : (ltSt a b) → -1 = cmpSt a b := fun h => by unfold cmpSt; rw [if_pos h]
 have hi : (ltSt b a) → 1 = cmpSt a b := fun h => by unfold cmpSt; rw [if_neg (ltSt_asymm h), if_pos h]
 have eq : (¬ ltSt a b) → (¬ ltSt b a) → 0 = cmpSt a b := fun h k => by unfold cmpSt; rw [if_neg h, if_neg k]
 rw [orL4]
 rcases key a.f b.f with ⟨h, e⟩ | ⟨h, e⟩ | ⟨h, e⟩
 ·rw [e, if_neg (by decide)]; exact lo (by unfold ltSt; omega)
 ·rw [e, if_pos rfl]
  rcases key a.t b.t with ⟨k, e⟩ | ⟨k, e⟩ | ⟨k, e⟩
  ·rw [e, if_neg (by decide)]; exact lo (by unfold ltSt; omega)
  ·rw [e, if_pos rfl]
   rcases key a.n b.n with ⟨i, e⟩ | ⟨i, e⟩ | ⟨i, e⟩
   ·rw [e, if_neg (by decide)]; exact lo (by unfold ltSt; omega)
   ·rw [e, if_pos rfl]
    rcases key a.s b.s with ⟨j, e⟩ | ⟨j, e⟩ | ⟨j, e⟩
    ·rw [e, if_neg (by decide)]; exact lo (by unfold ltSt; omega)
    ·rw [e, if_pos rfl]; exact eq (by unfold ltSt; omega) (by unfold ltSt; omega)
    ·rw [e, if_neg (by decide)]; exact hi (by unfold ltSt; omega)
   ·rw [e, if_neg (by decide)]; exact hi (by unfold ltSt; omega)
  ·rw [e, if_neg (by decide)]; exact hi (by unfold ltSt; omega)
 ·rw [e, if_neg (by decide)]; exact hi (by unfold ltSt; omega)
def CmK (w : World) (p q : Nat) (a b : StM) (W : World) : Prop :=
 W.cell? ⟨p, 0, none⟩ = some (.int .i64 a.f) ∧ W.cell? ⟨p, 1, none⟩ = some (.int .i64 a.t) ∧ W.cell? ⟨p, 2, none⟩ = some (.int .i64 a.n) ∧ W.cell? ⟨p, 3, none⟩ = some (.int .i64 a.s) ∧
 W.cell? ⟨q, 0, none⟩ = some (.int .i64 b.f) ∧ W.cell? ⟨q, 1, none⟩ = some (.int .i64 b.t) ∧ W.cell? ⟨q, 2, none⟩ = some (.int .i64 b.n) ∧ W.cell? ⟨q, 3, none⟩ = some (.int .i64 b.s) ∧ (p < W.heap.size ∧ q < W.heap.size ∧ Grew w W)
theorem CmK.grew {w W W' : World} {p q : Nat} {a b : StM} (h : CmK w p q a b W) (g : Grew W W') : CmK w p q a b W' := by
 obtain ⟨h1, h2, h3, h4, h5, h6, h7, h8, hp, hq, hg⟩ := h
 have hb := g.below (Nat.le_refl _)
 exact ⟨(hb.cell (p := ⟨p, 0, none⟩) hp).trans h1, (hb.cell (p := ⟨p, 1, none⟩) hp).trans h2, (hb.cell (p := ⟨p, 2, none⟩) hp).trans h3, (hb.cell (p := ⟨p, 3, none⟩) hp).trans h4,
  (hb.cell (p := ⟨q, 0, none⟩) hq).trans h5, (hb.cell (p := ⟨q, 1, none⟩) hq).trans h6, (hb.cell (p := ⟨q, 2, none⟩) hq).trans h7, (hb.cell (p := ⟨q, 3, none⟩) hq).trans h8,
  Nat.lt_of_lt_of_le hp hb.size, Nat.lt_of_lt_of_le hq hb.size, hg.trans g⟩
theorem CmK.drew {w W : World} {p q : Nat} {a b : StM} (h : CmK w p q a b W) : CmK w p q a b W.drew := h.grew (Grew.refl _).drew
theorem CmK.alloc {w W : World} {p q : Nat} {a b : StM} (h : CmK w p q a b W) (o : Obj) : CmK w p q a b (W.alloc o) := h.grew ((Grew.refl _).alloc o)
theorem sl_lit_drew (w : World) (xs : Array Value) (t : TypeId) : Sl (w.alloc (.cells xs t)).drew (some ⟨w.heap.size, 0, none⟩) xs.toList := sl_lit w xs t
theorem or_lit (a b c d : Int) (t : TypeId) (W : World) : Calls Tryz.prog 167 #[.slice (some ⟨W.heap.size, 0, none⟩) 4 4] (W.alloc (.cells #[.int .i64 a, .int .i64 b, .int .i64 c, .int .i64 d] t)) fun e w' => e = .returned (.int .i64 (orL [a, b, c, d])) ∧ w' = W.alloc (.cells #[.int .i64 a, .int .i64 b, .int .i64 c, .int .i64 d] t) :=
 or_any (some ⟨W.heap.size, 0, none⟩) 4 [a, b, c, d] _ (sl_lit W #[.int .i64 a, .int .i64 b, .int .i64 c, .int .i64 d] t) (by simp)
theorem or_litd (a b c d : Int) (t : TypeId) (W : World) : Calls Tryz.prog 167 #[.slice (some ⟨W.heap.size, 0, none⟩) 4 4] (W.alloc (.cells #[.int .i64 a, .int .i64 b, .int .i64 c, .int .i64 d] t)).drew fun e w' => e = .returned (.int .i64 (orL [a, b, c, d])) ∧ w' = (W.alloc (.cells #[.int .i64 a, .int .i64 b, .int .i64 c, .int .i64 d] t)).drew :=
 or_any (some ⟨W.heap.size, 0, none⟩) 4 [a, b, c, d] _ (sl_lit_drew W #[.int .i64 a, .int .i64 b, .int .i64 c, .int .i64 d] t) (by simp)
set_option maxHeartbeats 4000000 in
theorem stcmp_any (a b : StM) (w : World) : Calls Tryz.prog 109 #[stV a, stV b] w fun e w' => e = .returned (.int .i64 (cmpSt a b)) ∧ Grew w w' := by
 have hcon := Lib.hid (fun x y W' => AnyG.cmp_Compare_int Tryz.laysCompare x y W')
 change Hid (∀ x y W', Calls Tryz.prog 168 _ _ _) at hcon
 have HE := Lib.hid (orL_cmp a b)
 have hor := Lib.hid or_lit
 have hord := Lib.hid or_litd
 have h0 : CmK w w.heap.size (w.heap.size + 1) a b ((w.alloc (.cells #[.int .i64 a.f, .int .i64 a.t, .int .i64 a.n, .int .i64 a.s] 111)).alloc (.cells #[.int .i64 b.f, .int .i64 b.t, .int .i64 b.n, .int .i64 b.s] 111)) := by
  have hb := heap_alloc_new (w.alloc (.cells #[.int .i64 a.f, .int .i64 a.t, .int .i64 a.n, .int .i64 a.s] 111)) (.cells #[.int .i64 b.f, .int .i64 b.t, .int .i64 b.n, .int .i64 b.s] 111)
  have ha := (Below.heap_alloc (w.alloc (.cells #[.int .i64 a.f, .int .i64 a.t, .int .i64 a.n, .int .i64 a.s] 111)) (.cells #[.int .i64 b.f, .int .i64 b.t, .int .i64 b.n, .int .i64 b.s] 111) w.heap.size (by rw [size1]; omega)).trans (heap_alloc_new w (.cells #[.int .i64 a.f, .int .i64 a.t, .int .i64 a.n, .int .i64 a.s] 111))
  rw [size1] at hb
  obtain ⟨a1, a2, a3, a4⟩ := cells4 ha
  obtain ⟨b1, b2, b3, b4⟩ := cells4 hb
  exact ⟨a1, a2, a3, a4, b1, b2, b3, b4, by rw [size1, size1]; omega, by rw [size1, size1]; omega, ((Grew.refl w).alloc _).alloc _⟩
 generalize Lib.compareInt = cI at hcon HE
 generalize cmpSt a b = r at *
 unfold stV
 obtain ⟨f1, t1, n1, s1⟩ := a
 obtain ⟨f2, t2, n2, s2⟩ := b
 dsimp only at *
 have h0' := Lib.hid h0
 clear h0
 go_enter Tryz.func109, Tryz.ntmps109
 go_wp2_with fail
 have h0 := h0'.out
 clear h0'
 generalize (w.alloc (.cells #[.int .i64 f1, .int .i64 t1, .int .i64 n1, .int .i64 s1] 111)).alloc (.cells #[.int .i64 f2, .int .i64 t2, .int .i64 n2, .int .i64 s2] 111) = W at *
 generalize hqq : w.heap.size + 1 = q at *
 generalize hpp : w.heap.size = p at *
 clear hqq hpp
 go_region_held3 (fun W => W.cell? ⟨p, 0, none⟩ = some (.int .i64 f1) ∧ W.cell? ⟨p, 1, none⟩ = some (.int .i64 t1) ∧ W.cell? ⟨p, 2, none⟩ = some (.int .i64 n1) ∧ W.cell? ⟨p, 3, none⟩ = some (.int .i64 s1) ∧
   W.cell? ⟨q, 0, none⟩ = some (.int .i64 f2) ∧ W.cell? ⟨q, 1, none⟩ = some (.int .i64 t2) ∧ W.cell? ⟨q, 2, none⟩ = some (.int .i64 n2) ∧ W.cell? ⟨q, 3, none⟩ = some (.int .i64 s2) ∧ (p < W.heap.size ∧ q < W.heap.size ∧ Grew w W))
  (first | exact CmK.drew h0 | exact CmK.alloc (a := ⟨f1, t1, n1, s1⟩) (b := ⟨f2, t2, n2, s2⟩) (by assumption) _ | assumption)
  (first | (go_at_call 168; refine (hcon.out _ _ _).mono ?_; rintro e w2 ⟨rfl, rfl⟩)
         | (go_at_call 167; (first | refine (hor.out _ _ _ _ _ _).mono ?_ | refine (hord.out _ _ _ _ _ _).mono ?_); rintro e w2 ⟨rfl, rfl⟩))
 go_wp2
 go_ret
 exact ⟨by rw [HE.out]; rfl, (show CmK w p q ⟨f1, t1, n1, s1⟩ ⟨f2, t2, n2, s2⟩ _ by assumption).2.2.2.2.2.2.2.2.2.2⟩
end Go.Proofs.YtapacckmgmdnoaaGreat
namespace Go.Proofs.YtapacckmgmdnoaaGreat
open Go.RowKit
set_option linter.unusedVariables false
set_option maxRecDepth 100000
set_option maxRecDepth 100000
set_option maxHeartbeats 4000000 in
theorem sequal_any (a b : Option Addr) (ca cb : Nat) (l m : List StM) (w : World) (ha : StSl w a l) (hb : StSl w b m) (hla : l.length ≤ maxLen) (hlb : m.length ≤ maxLen) :
  Calls Tryz.prog 129 #[.slice a l.length ca, .slice b m.length cb] w fun e w' => e = .returned (.bool (decide (l = m))) ∧ Below w.heap.size w w' := by
 have HA := Lib.hid ha
 have HB := Lib.hid hb
 clear ha hb
 unfold maxLen at hla hlb
 by_cases hll : l.length = m.length
 ·obtain ⟨n, hn⟩ : ∃ n, n = m.length := ⟨_, rfl⟩
  have HL : Hid (l.length = n) := hll.trans hn.symm
  have HM : Hid (m.length = n) := hn.symm
  rw [HL.out, HM.out]
  rw [HM.out] at hlb
  clear hll hn hla
  go_enter Tryz.func129, Tryz.ntmps129
  go_wp2
  go_loopw [13] (fun i wr => ∃ (j : Nat), j ≤ n ∧ i = .int .i64 j ∧ Hid (l.take j = m.take j) ∧ Hid (Drew w wr)) (fun i _ => n - (intOf i).toNat)
  case atStart => exact ⟨0, by omega, rfl, (by unfold Hid; rfl), Drew.refl _⟩
  case round =>
   obtain ⟨j, hj, rfl, HT, HD⟩ := hrel
   by_cases hjn : j < n
   ·have hjl : j < l.length := by have := HL.out; omega
    have hjm : j < m.length := by have := HM.out; omega
    obtain ⟨b1, o1, rfl, hb1, hc0, hc1, hc2, hc3⟩ := (HA.out.below (HD.out.below _)).at_ hjl
    obtain ⟨b2, o2, rfl, hb2, hd0, hd1, hd2, hd3⟩ := (HB.out.below (HD.out.below _)).at_ hjm
    have HN := Lib.hid (take_same hjl hjm HT.out)
    have HNE : Hid (l[j] ≠ m[j] → l ≠ m) := fun h e => h (by subst e; rfl)
    generalize l[j] = x at *
    generalize m[j] = y at *
    clear hjl hjm
    obtain ⟨f1, t1, n1, s1⟩ := x
    obtain ⟨f2, t2, n2, s2⟩ := y
    dsimp only at *
    by_cases h0 : f1 = f2
    ·subst h0
     have he0 : (f1 == f1) = true := beq_self_eq_true _
     by_cases h1 : t1 = t2
     ·subst h1
      have he1 : (t1 == t1) = true := beq_self_eq_true _
      by_cases h2 : n1 = n2
      ·subst h2
       have he2 : (n1 == n1) = true := beq_self_eq_true _
       by_cases h3 : s1 = s2
       ·subst h3
        have he3 : (s1 == s1) = true := beq_self_eq_true _
        have HN2 := Lib.hid (HN.out rfl)
        clear HN HNE
        go_wp2
        go_quiet (fail)
        go_wp2
        go_roundw
        case rel => exact ⟨j + 1, by omega, by go_num, HN2, HD.out.trans ⟨_, rfl⟩⟩
        case measure => simp [intOf]; omega
       ·have HF : Hid (decide (l = m) = false) := decide_eq_false (HNE.out (fun e => h3 (congrArg StM.s e)))
        have heq : (s1 == s2) = false := beq_eq_false_iff_ne.2 h3
        clear HN HNE
        go_wp2
        go_quiet (fail)
        go_wp2
        go_ret
        exact ⟨by rw [HF.out]; rfl, (HD.out.trans ⟨_, rfl⟩).below _⟩
      ·have HF : Hid (decide (l = m) = false) := decide_eq_false (HNE.out (fun e => h2 (congrArg StM.n e)))
       have heq : (n1 == n2) = false := beq_eq_false_iff_ne.2 h2
       clear HN HNE
       go_wp2
       go_quiet (fail)
       go_wp2
       go_ret
       exact ⟨by rw [HF.out]; rfl, (HD.out.trans ⟨_, rfl⟩).below _⟩
     ·have HF : Hid (decide (l = m) = false) := decide_eq_false (HNE.out (fun e => h1 (congrArg StM.t e)))
      have heq : (t1 == t2) = false := beq_eq_false_iff_ne.2 h1
      clear HN HNE
      go_wp2
      go_quiet (fail)
      go_wp2
      go_ret
      exact ⟨by rw [HF.out]; rfl, (HD.out.trans ⟨_, rfl⟩).below _⟩
    ·have HF : Hid (decide (l = m) = false) := decide_eq_false (HNE.out (fun e => h0 (congrArg StM.f e)))
     have heq : (f1 == f2) = false := beq_eq_false_iff_ne.2 h0
     clear HN HNE
     go_wp2
     go_quiet (fail)
     go_wp2
     go_ret
     exact ⟨by rw [HF.out]; rfl, (HD.out.trans ⟨_, rfl⟩).below _⟩
   ·obtain rfl : j = n := by omega
    have HE : Hid (decide (l = m) = true) := decide_eq_true (by
     have := HT.out
     rwa [List.take_of_length_le (Nat.le_of_eq HL.out), List.take_of_length_le (Nat.le_of_eq HM.out)] at this)
    go_wp2
    go_ret
    exact ⟨by rw [HE.out]; rfl, HD.out.below _⟩
 ·have HE : Hid (decide (l = m) = false) := decide_eq_false (fun e => hll (by rw [e]))
  have hne : ((l.length : Int) == (m.length : Int)) = false := beq_eq_false_iff_ne.2 (by omega)
  go_enter Tryz.func129, Tryz.ntmps129
  go_wp2
  go_ret
  exact ⟨by rw [HE.out]; rfl, Below.refl _ _⟩
theorem ssame_any (a b : Option Addr) (ca cb : Nat) (l m : List StM) (w : World) (ha : StSl w a l) (hb : StSl w b m) (hla : l.length ≤ maxLen) (hlb : m.length ≤ maxLen) :
  Calls Tryz.prog 59 #[.slice a l.length ca, .slice b m.length cb] w fun e w' => e = .returned (.bool (decide (l = m))) ∧ Below w.heap.size w w' := by
 have HC := Lib.hid (sequal_any a b ca cb l m w ha hb hla hlb)
 unfold maxLen at hla hlb
 clear ha hb
 go_enter Tryz.func59, Tryz.ntmps59
 go_wp2_with fail
 refine HC.out.mono ?_
 rintro e w2 ⟨rfl, h2⟩
 go_wp2
 go_ret
 exact ⟨rfl, h2⟩
set_option maxHeartbeats 4000000 in
theorem eequal_any (a b : Option Addr) (ca cb : Nat) (l m : List EnM) (w : World) (ha : EnSl w a l) (hb : EnSl w b m) (hla : l.length ≤ maxLen) (hlb : m.length ≤ maxLen) :
  Calls Tryz.prog 153 #[.slice a l.length ca, .slice b m.length cb] w fun e w' => e = .returned (.bool (decide (l = m))) ∧ Below w.heap.size w w' := by
 have HA := Lib.hid ha
 have HB := Lib.hid hb
 clear ha hb
 unfold maxLen at hla hlb
 by_cases hll : l.length = m.length
 ·obtain ⟨n, hn⟩ : ∃ n, n = m.length := ⟨_, rfl⟩
  have HL : Hid (l.length = n) := hll.trans hn.symm
  have HM : Hid (m.length = n) := hn.symm
  rw [HL.out, HM.out]
  rw [HM.out] at hlb
  clear hll hn hla
  go_enter Tryz.func153, Tryz.ntmps153
  go_wp2
  go_loopw [13] (fun i wr => ∃ (j : Nat), j ≤ n ∧ i = .int .i64 j ∧ Hid (l.take j = m.take j) ∧ Hid (Drew w wr)) (fun i _ => n - (intOf i).toNat)
  case atStart => exact ⟨0, by omega, rfl, (by unfold Hid; rfl), Drew.refl _⟩
  case round =>
   obtain ⟨j, hj, rfl, HT, HD⟩ := hrel
   by_cases hjn : j < n
   ·have hjl : j < l.length := by have := HL.out; omega
    have hjm : j < m.length := by have := HM.out; omega
    obtain ⟨b1, o1, rfl, hb1, hc0, hc1, hc2, hc3⟩ := (HA.out.below (HD.out.below _)).at_ hjl
    obtain ⟨b2, o2, rfl, hb2, hd0, hd1, hd2, hd3⟩ := (HB.out.below (HD.out.below _)).at_ hjm
    have HN := Lib.hid (take_same hjl hjm HT.out)
    have HNE : Hid (l[j] ≠ m[j] → l ≠ m) := fun h e => h (by subst e; rfl)
    generalize l[j] = x at *
    generalize m[j] = y at *
    clear hjl hjm
    obtain ⟨f1, t1, n1, s1⟩ := x
    obtain ⟨f2, t2, n2, s2⟩ := y
    dsimp only at *
    by_cases h0 : f1 = f2
    ·subst h0
     have he0 := str_eq f1
     by_cases h1 : t1 = t2
     ·subst h1
      have he1 := str_eq t1
      by_cases h2 : n1 = n2
      ·subst h2
       have he2 : (n1 == n1) = true := beq_self_eq_true _
       by_cases h3 : s1 = s2
       ·subst h3
        have he3 : (s1 == s1) = true := beq_self_eq_true _
        have HN2 := Lib.hid (HN.out rfl)
        clear HN HNE
        go_wp2
        go_quiet (fail)
        go_wp2
        go_roundw
        case rel => exact ⟨j + 1, by omega, by go_num, HN2, HD.out.trans ⟨_, rfl⟩⟩
        case measure => simp [intOf]; omega
       ·have HF : Hid (decide (l = m) = false) := decide_eq_false (HNE.out (fun e => h3 (congrArg EnM.t e)))
        have heq : (s1 == s2) = false := beq_eq_false_iff_ne.2 h3
        clear HN HNE
        go_wp2
        go_quiet (fail)
        go_wp2
        go_ret
        exact ⟨by rw [HF.out]; rfl, (HD.out.trans ⟨_, rfl⟩).below _⟩
      ·have HF : Hid (decide (l = m) = false) := decide_eq_false (HNE.out (fun e => h2 (congrArg EnM.f e)))
       have heq : (n1 == n2) = false := beq_eq_false_iff_ne.2 h2
       clear HN HNE
       go_wp2
       go_quiet (fail)
       go_wp2
       go_ret
       exact ⟨by rw [HF.out]; rfl, (HD.out.trans ⟨_, rfl⟩).below _⟩
     ·have HF : Hid (decide (l = m) = false) := decide_eq_false (HNE.out (fun e => h1 (congrArg EnM.u e)))
      have heq := str_ne h1
      clear HN HNE
      go_wp2
      go_quiet (fail)
      go_wp2
      go_ret
      exact ⟨by rw [HF.out]; rfl, (HD.out.trans ⟨_, rfl⟩).below _⟩
    ·have HF : Hid (decide (l = m) = false) := decide_eq_false (HNE.out (fun e => h0 (congrArg EnM.w e)))
     have heq := str_ne h0
     clear HN HNE
     go_wp2
     go_quiet (fail)
     go_wp2
     go_ret
     exact ⟨by rw [HF.out]; rfl, (HD.out.trans ⟨_, rfl⟩).below _⟩
   ·obtain rfl : j = n := by omega
    have HE : Hid (decide (l = m) = true) := decide_eq_true (by
     have := HT.out
     rwa [List.take_of_length_le (Nat.le_of_eq HL.out), List.take_of_length_le (Nat.le_of_eq HM.out)] at this)
    go_wp2
    go_ret
    exact ⟨by rw [HE.out]; rfl, HD.out.below _⟩
 ·have HE : Hid (decide (l = m) = false) := decide_eq_false (fun e => hll (by rw [e]))
  have hne : ((l.length : Int) == (m.length : Int)) = false := beq_eq_false_iff_ne.2 (by omega)
  go_enter Tryz.func153, Tryz.ntmps153
  go_wp2
  go_ret
  exact ⟨by rw [HE.out]; rfl, Below.refl _ _⟩
theorem esame_any (a b : Option Addr) (ca cb : Nat) (l m : List EnM) (w : World) (ha : EnSl w a l) (hb : EnSl w b m) (hla : l.length ≤ maxLen) (hlb : m.length ≤ maxLen) :
  Calls Tryz.prog 86 #[.slice a l.length ca, .slice b m.length cb] w fun e w' => e = .returned (.bool (decide (l = m))) ∧ Below w.heap.size w w' := by
 have HC := Lib.hid (eequal_any a b ca cb l m w ha hb hla hlb)
 unfold maxLen at hla hlb
 clear ha hb
 go_enter Tryz.func86, Tryz.ntmps86
 go_wp2_with fail
 refine HC.out.mono ?_
 rintro e w2 ⟨rfl, h2⟩
 go_wp2
 go_ret
 exact ⟨rfl, h2⟩
end Go.Proofs.YtapacckmgmdnoaaGreat
