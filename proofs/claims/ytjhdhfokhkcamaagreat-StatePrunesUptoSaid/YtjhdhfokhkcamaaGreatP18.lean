/- Texts of mine, one behind the other, of each what is wanted: EA1. -/
import Derived.BigRegion
import Derived.Test.YtjhdhfokhkcamaaGreatP01
import Derived.Test.YtjhdhfokhkcamaaGreatP10
namespace Go.Proofs.YtjhdhfokhkcamaaGreat
open Go.RowKit
set_option linter.unusedVariables false
set_option maxRecDepth 100000
structure EvM where
  kind : Int
  at_ : Int
  user : ByteArray
  other : ByteArray
  n : Int
  status : Int
def evc (e : EvM) : List Value := [.int .i64 e.kind, .int .i64 e.at_, .string e.user, .string e.other, .int .i64 e.n, .int .i64 e.status]
def evV (e : EvM) : Value := .agg #[.int .i64 e.kind, .int .i64 e.at_, .string e.user, .string e.other, .int .i64 e.n, .int .i64 e.status]
def isN (s : ByteArray) : Bool := isName s.data.toList
def noT (s : ByteArray) : Bool := s.toList == (⟨#[]⟩ : ByteArray).toList
def inB (a b n : Int) : Bool := decide (a ≤ n) && decide (n ≤ b)
structure ShM where
  user : Bool
  other : Bool
  n0 : Int
  n1 : Int
  s0 : Int
  s1 : Int
def shK (k : Int) : ShM :=
  if k = 1 ∨ k = 2 then ⟨true, false, 1, 999, 1, 4⟩ else if k = 3 then ⟨true, false, 1, 999, 0, 0⟩ else if k = 7 then ⟨true, false, 0, 0, 0, 0⟩ else
  if k = 4 ∨ k = 5 then ⟨true, true, 0, 0, 0, 0⟩ else if k = 6 then ⟨false, false, 0, 1099511627775, 0, 0⟩ else ⟨false, false, 0, 0, 0, 0⟩
def isK (k : Int) : Bool := decide (1 ≤ k) && decide (k ≤ 7)
def rText (s : ByteArray) (named : Bool) : Bool := if named then isN s else noT s
def rightE (e : EvM) : Bool :=
  isK e.kind && (inB 0 1099511627775 e.at_ && (rText e.user (shK e.kind).user && (rText e.other (shK e.kind).other && (inB (shK e.kind).n0 (shK e.kind).n1 e.n && inB (shK e.kind).s0 (shK e.kind).s1 e.status))))
theorem results_cellT {fn : Func} {p u : Tmp} {ty : TypeId} (h : fn.results = #[.cell p ty, .tmp u]) (tmps : Array Value) (P : Program) (w : World) :
    (results fn tmps).run P w = ((asAddr (tmps.getD p undef)).run P w).andThen fun a w₁ => ((loadVar ty a).run P w₁).andThen fun x w₂ => .ok (.tuple #[x, tmps.getD u undef]) w₂ := by
  simp only [results, h]
  simp [Sem.run_bind, Result.andThen]
  try (split <;> simp)
  all_goals try (split <;> simp)
theorem infoNum : (Tryz.prog.info? 157).map (·.size) = some 2 := by kernel_rfl
theorem loadNum {W : World} {g : Nat} {a b : Value} {t : TypeId} (h : W.heap[g]? = some (.cells #[a, b] t (0, 0))) :
    (loadVar 157 ⟨g, 0, none⟩).run Tryz.prog W = .ok (.agg #[a, b]) W :=
  run_loadVar_mid (P := Tryz.prog) W g 0 157 [a, b] _ (fun j v hv => by
    rw [Nat.zero_add, cell_of_row _ _ _ _ _ (0, 0) h]
    simpa using hv) Tryz.underlying157 rfl infoNum
theorem times_any (w : World) : Calls Tryz.prog 107 #[] w fun e w' => e = .returned (.agg #[.int .i64 0, .int .i64 1099511627775]) ∧ Below w.heap.size w w' := by
  have HLD := Lib.hid (fun a b => loadNum (heap_alloc_new w (.cells #[a, b] 157)))
  have HBB := Lib.hid (fun o => (Below.refl w.heap.size w).alloc (Nat.le_refl _) o)
  go_enter Tryz.func107, Tryz.ntmps107
  go_wp2
  refine bodyPost_ret (v := .agg #[.int .i64 0, .int .i64 1099511627775]) ?_ rfl ?_
  · rw [results_cell1 rfl]
    simp [asAddr, Result.andThen, HLD.out]
  · exact ⟨rfl, HBB.out _⟩
theorem has_any (a b n : Int) (w : World) : Calls Tryz.prog 108 #[.agg #[.int .i64 a, .int .i64 b], .int .i64 n] w fun e w' => e = .returned (.bool (inB a b n)) ∧ Below w.heap.size w w' := by
  have HBB := Lib.hid (fun o => (Below.refl w.heap.size w).alloc (Nat.le_refl _) o)
  unfold inB
  by_cases h : a ≤ n
  · go_enter Tryz.func108, Tryz.ntmps108
    go_wp2
    go_ret
    exact ⟨retB (by simp [h]), HBB.out _⟩
  · go_enter Tryz.func108, Tryz.ntmps108
    go_wp2
    go_ret
    exact ⟨retB (by simp; omega), HBB.out _⟩
theorem rightText_any (s : ByteArray) (b : Bool) (w : World) (hs : s.size ≤ maxLen) : Calls Tryz.prog 109 #[.string s, .bool b] w fun e w' => e = .returned (.bool (rText s b)) ∧ w' = w := by
  have HR := Lib.hid (right_any s w hs)
  unfold rText isN noT
  cases b
  · go_enter Tryz.func109, Tryz.ntmps109
    go_wp2
    go_ret
    exact ⟨retB (by simp), rfl⟩
  · go_enter Tryz.func109, Tryz.ntmps109
    go_wp2_with fail
    refine (HR.out).mono ?_
    rintro e w1 ⟨rfl, rfl⟩
    go_wp2
    go_ret
    exact ⟨retB (by simp), rfl⟩
def shV (s : ShM) : Value := .agg #[.bool s.user, .bool s.other, .int .i64 s.n0, .int .i64 s.n1, .int .i64 s.s0, .int .i64 s.s1]
theorem heap_set_far {w : World} {b g i : Nat} {v : Value} (h : b ≠ g) : (w.setCell ⟨g, i, none⟩ v).heap[b]? = w.heap[b]? := Below.heap_setCell _ _ _ _ h
theorem infoShape : (Tryz.prog.info? 159).map (·.size) = some 6 := by kernel_rfl
theorem loadShape {W : World} {g : Nat} {a b c d e f : Value} {t : TypeId} (h : W.heap[g]? = some (.cells #[a, b, c, d, e, f] t (0, 0))) :
    (loadVar 159 ⟨g, 0, none⟩).run Tryz.prog W = .ok (.agg #[a, b, c, d, e, f]) W :=
  run_loadVar_mid (P := Tryz.prog) W g 0 159 [a, b, c, d, e, f] _ (fun j v hv => by
    rw [Nat.zero_add, cell_of_row _ _ _ _ _ (0, 0) h]
    simpa using hv) Tryz.underlying159 rfl infoShape
theorem cells6 {g : Nat} {a b c d e f : Value} {t : TypeId} {W : World} (h : W.heap[g]? = some (.cells #[a, b, c, d, e, f] t (0, 0))) : (W.cell? ⟨g, 0, none⟩ = some a ∧ W.cell? ⟨g, 1, none⟩ = some b ∧ W.cell? ⟨g, 2, none⟩ = some c ∧ W.cell? ⟨g, 3, none⟩ = some d ∧ W.cell? ⟨g, 4, none⟩ = some e ∧ W.cell? ⟨g, 5, none⟩ = some f) ∧
    (W.frozen? ⟨g, 0, none⟩ = false ∧ W.frozen? ⟨g, 1, none⟩ = false ∧ W.frozen? ⟨g, 2, none⟩ = false ∧ W.frozen? ⟨g, 3, none⟩ = false ∧ W.frozen? ⟨g, 4, none⟩ = false ∧ W.frozen? ⟨g, 5, none⟩ = false) :=
  ⟨⟨cell_of_row _ _ 0 _ _ _ h, cell_of_row _ _ 1 _ _ _ h, cell_of_row _ _ 2 _ _ _ h, cell_of_row _ _ 3 _ _ _ h, cell_of_row _ _ 4 _ _ _ h, cell_of_row _ _ 5 _ _ _ h⟩,
   frozen_of_row _ _ 0 _ _ h, frozen_of_row _ _ 1 _ _ h, frozen_of_row _ _ 2 _ _ h, frozen_of_row _ _ 3 _ _ h, frozen_of_row _ _ 4 _ _ h, frozen_of_row _ _ 5 _ _ h⟩
set_option maxHeartbeats 2000000 in
theorem shapeOf_any (k : Int) (w : World) : Calls Tryz.prog 106 #[.int .i64 k] w fun e w' => e = .returned (.tuple #[shV (shK k), .bool (isK k)]) ∧ Below w.heap.size w w' := by
  have HLD := Lib.hid (fun a b c d e f o => loadShape ((Below.heap_alloc (w.alloc (.cells #[a, b, c, d, e, f] 159)) o w.heap.size (by rw [size1]; omega)).trans (heap_alloc_new w (.cells #[a, b, c, d, e, f] 159))))
  have HBB := Lib.hid (fun o o' => ((Below.refl w.heap.size w).alloc (Nat.le_refl _) o).alloc (by rw [size1]; omega) o')
  have hcase : k = 1 ∨ k = 2 ∨ k = 3 ∨ k = 7 ∨ k = 4 ∨ k = 5 ∨ k = 6 ∨ (k < 1 ∨ 7 < k) := by omega
  rcases hcase with rfl | rfl | rfl | rfl | rfl | rfl | rfl | hk
  · go_enter Tryz.func106, Tryz.ntmps106
    go_wp2
    refine bodyPost_ret (v := .tuple #[.agg #[.bool true, .bool false, .int .i64 1, .int .i64 999, .int .i64 1, .int .i64 4], .bool true]) ?_ rfl ?_
    · rw [results_cellT rfl]
      simp [asAddr, Result.andThen, HLD.out]
    · exact ⟨rfl, HBB.out _ _⟩
  · go_enter Tryz.func106, Tryz.ntmps106
    go_wp2
    refine bodyPost_ret (v := .tuple #[.agg #[.bool true, .bool false, .int .i64 1, .int .i64 999, .int .i64 1, .int .i64 4], .bool true]) ?_ rfl ?_
    · rw [results_cellT rfl]
      simp [asAddr, Result.andThen, HLD.out]
    · exact ⟨rfl, HBB.out _ _⟩
  · go_enter Tryz.func106, Tryz.ntmps106
    go_wp2
    refine bodyPost_ret (v := .tuple #[.agg #[.bool true, .bool false, .int .i64 1, .int .i64 999, .int .i64 0, .int .i64 0], .bool true]) ?_ rfl ?_
    · rw [results_cellT rfl]
      simp [asAddr, Result.andThen, HLD.out]
    · exact ⟨rfl, HBB.out _ _⟩
  · go_enter Tryz.func106, Tryz.ntmps106
    go_wp2
    refine bodyPost_ret (v := .tuple #[.agg #[.bool true, .bool false, .int .i64 0, .int .i64 0, .int .i64 0, .int .i64 0], .bool true]) ?_ rfl ?_
    · rw [results_cellT rfl]
      simp [asAddr, Result.andThen, HLD.out]
    · exact ⟨rfl, HBB.out _ _⟩
  · go_enter Tryz.func106, Tryz.ntmps106
    go_wp2
    refine bodyPost_ret (v := .tuple #[.agg #[.bool true, .bool true, .int .i64 0, .int .i64 0, .int .i64 0, .int .i64 0], .bool true]) ?_ rfl ?_
    · rw [results_cellT rfl]
      simp [asAddr, Result.andThen, HLD.out]
    · exact ⟨rfl, HBB.out _ _⟩
  · go_enter Tryz.func106, Tryz.ntmps106
    go_wp2
    refine bodyPost_ret (v := .tuple #[.agg #[.bool true, .bool true, .int .i64 0, .int .i64 0, .int .i64 0, .int .i64 0], .bool true]) ?_ rfl ?_
    · rw [results_cellT rfl]
      simp [asAddr, Result.andThen, HLD.out]
    · exact ⟨rfl, HBB.out _ _⟩
  · have HX : Hid (∀ W, Below ((w.alloc (.cells #[.bool false, .bool false, .int .i64 0, .int .i64 0, .int .i64 0, .int .i64 0] 159)).alloc (.cells #[.bool false, .bool false, .int .i64 0, .int .i64 0, .int .i64 0, .int .i64 0] 159)).heap.size ((w.alloc (.cells #[.bool false, .bool false, .int .i64 0, .int .i64 0, .int .i64 0, .int .i64 0] 159)).alloc (.cells #[.bool false, .bool false, .int .i64 0, .int .i64 0, .int .i64 0, .int .i64 0] 159)) W → W.heap[w.heap.size]? = some (.cells #[.bool false, .bool false, .int .i64 0, .int .i64 0, .int .i64 0, .int .i64 0] 159 (0, 0)) ∧ W.heap[w.heap.size + 1]? = some (.cells #[.bool false, .bool false, .int .i64 0, .int .i64 0, .int .i64 0, .int .i64 0] 159 (0, 0)) ∧ Below w.heap.size w W) := fun W hb => by
      have hz : ((w.alloc (.cells #[.bool false, .bool false, .int .i64 0, .int .i64 0, .int .i64 0, .int .i64 0] 159)).alloc (.cells #[.bool false, .bool false, .int .i64 0, .int .i64 0, .int .i64 0, .int .i64 0] 159)).heap.size = w.heap.size + 2 := by rw [size1, size1]
      refine ⟨(hb.block _ (by omega)).trans ((Below.heap_alloc _ _ w.heap.size (by rw [size1]; omega)).trans (heap_alloc_new w _)), (hb.block _ (by omega)).trans ?_, (HBB.out _ _).trans (hb.mono (by omega))⟩
      have := heap_alloc_new (w.alloc (.cells #[.bool false, .bool false, .int .i64 0, .int .i64 0, .int .i64 0, .int .i64 0] 159)) (.cells #[.bool false, .bool false, .int .i64 0, .int .i64 0, .int .i64 0, .int .i64 0] 159)
      rwa [size1] at this
    go_enter Tryz.func106, Tryz.ntmps106
    go_wp2_with fail
    refine (times_any _).mono ?_
    rintro e w1 ⟨rfl, h1⟩
    obtain ⟨q0, q1, q2⟩ := HX.out _ h1
    obtain ⟨⟨z0, z1, z2, z3, z4, z5⟩, g0, g1, g2, g3, g4, g5⟩ := cells6 q0
    obtain ⟨⟨x0, x1, x2, x3, x4, x5⟩, f0, f1, f2, f3, f4, f5⟩ := cells6 q1
    have r1 := heap_setCell_at (heap_setCell_at (heap_setCell_at (heap_setCell_at (heap_setCell_at (heap_setCell_at ((heap_set_far (b := w.heap.size) (g := w.heap.size + 1) (i := 3) (v := .int .i64 1099511627775) (by omega)).trans ((heap_set_far (b := w.heap.size) (g := w.heap.size + 1) (i := 2) (v := .int .i64 0) (by omega)).trans q0)) 0 (.bool false)) 1 (.bool false)) 2 (.int .i64 0)) 3 (.int .i64 1099511627775)) 4 (.int .i64 0)) 5 (.int .i64 0)
    have HL := Lib.hid (loadShape r1)
    have HB : Hid (Below w.heap.size w _) := (((((((q2.setCell (p := ⟨w.heap.size + 1, 2, none⟩) (by show w.heap.size ≤ w.heap.size + 1; omega) (.int .i64 0)).setCell (p := ⟨w.heap.size + 1, 3, none⟩) (by show w.heap.size ≤ w.heap.size + 1; omega) (.int .i64 1099511627775)).setCell (p := ⟨w.heap.size, 0, none⟩) (Nat.le_refl _) (.bool false)).setCell (p := ⟨w.heap.size, 1, none⟩) (Nat.le_refl _) (.bool false)).setCell (p := ⟨w.heap.size, 2, none⟩) (Nat.le_refl _) (.int .i64 0)).setCell (p := ⟨w.heap.size, 3, none⟩) (Nat.le_refl _) (.int .i64 1099511627775)).setCell (p := ⟨w.heap.size, 4, none⟩) (Nat.le_refl _) (.int .i64 0)).setCell (p := ⟨w.heap.size, 5, none⟩) (Nat.le_refl _) (.int .i64 0)
    clear h1 q0 q1 q2 r1
    go_wp2
    refine bodyPost_ret (v := .tuple #[.agg #[.bool false, .bool false, .int .i64 0, .int .i64 1099511627775, .int .i64 0, .int .i64 0], .bool true]) ?_ rfl ?_
    · rw [results_cellT rfl]
      simp [asAddr, Result.andThen, HL.out]
    · exact ⟨rfl, HB.out⟩
  · have hx : shK k = ⟨false, false, 0, 0, 0, 0⟩ := by unfold shK; rw [if_neg (by omega), if_neg (by omega), if_neg (by omega), if_neg (by omega), if_neg (by omega)]
    have hi : isK k = false := by unfold isK; rcases hk with hk | hk <;> simp <;> omega
    rw [hx, hi]
    have k1 : (k == 1) = false := by simp; omega
    have k2 : (k == 2) = false := by simp; omega
    have k3 : (k == 3) = false := by simp; omega
    have k4 : (k == 4) = false := by simp; omega
    have k5 : (k == 5) = false := by simp; omega
    have k6 : (k == 6) = false := by simp; omega
    have k7 : (k == 7) = false := by simp; omega
    go_enter Tryz.func106, Tryz.ntmps106
    go_wp2
    refine bodyPost_ret (v := .tuple #[.agg #[.bool false, .bool false, .int .i64 0, .int .i64 0, .int .i64 0, .int .i64 0], .bool false]) ?_ rfl ?_
    · rw [results_cellT rfl]
      simp [asAddr, Result.andThen, HLD.out]
    · exact ⟨rfl, HBB.out _ _⟩
end Go.Proofs.YtjhdhfokhkcamaaGreat
