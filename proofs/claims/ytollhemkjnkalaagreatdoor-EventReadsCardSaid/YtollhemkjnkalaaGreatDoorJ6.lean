/- Layer 6: the frame of an event. -/
import Derived.Test.YtollhemkjnkalaaGreatDoorJ5
import Derived.Deep.RegionHeld3
namespace Go.Proofs.YtollhemkjnkalaaGreatDoor
open Go.RowKit
set_option linter.unusedVariables false
set_option maxRecDepth 100000

def letterE (k : Int) : UInt8 := if k = 1 then 111 else if k = 2 then 99 else if k = 3 then 120 else if k = 4 then 103 else if k = 5 then 114 else if k = 6 then 104 else 101
def lineE (e : EvM) : List UInt8 := lineOf ((wordsE e).map toL)
def frK (k : UInt8) (b : List UInt8) : Value := .agg #[.int .u8 (k.toNat : Int), .string (tx b)]
def frameE (e : EvM) : Value := if rightE e then frK (letterE e.kind) (lineE e) else .agg #[.int .u8 0, .string ⟨#[]⟩]
theorem infoFr2 : (Tryz.prog.info? 42).map (·.size) = some 2 := by kernel_rfl
theorem loadFr {W : World} {g : Nat} {a b : Value} {t : TypeId} (h : W.heap[g]? = some (.cells #[a, b] t (0, 0))) :
    (loadVar 42 ⟨g, 0, none⟩).run Tryz.prog W = .ok (.agg #[a, b]) W :=
  run_loadVar_mid (P := Tryz.prog) W g 0 42 [a, b] _ (fun j v hv => by
    rw [Nat.zero_add, cell_of_row _ _ _ _ _ (0, 0) h]
    simpa using hv) Tryz.underlying42 rfl infoFr2
theorem cells2 {g : Nat} {a b : Value} {t : TypeId} {W : World} (h : W.heap[g]? = some (.cells #[a, b] t (0, 0))) : (W.cell? ⟨g, 0, none⟩ = some a ∧ W.cell? ⟨g, 1, none⟩ = some b) ∧ W.frozen? ⟨g, 0, none⟩ = false ∧ W.frozen? ⟨g, 1, none⟩ = false :=
  ⟨⟨cell_of_row _ _ 0 _ _ _ h, cell_of_row _ _ 1 _ _ _ h⟩, frozen_of_row _ _ 0 _ _ h, frozen_of_row _ _ 1 _ _ h⟩
/-- two cells, just stored -/
theorem loadFr2 {W : World} {g : Nat} {a b x y : Value} {t : TypeId} (h : W.heap[g]? = some (.cells #[a, b] t (0, 0))) :
    (loadVar 42 ⟨g, 0, none⟩).run Tryz.prog ((W.setCell ⟨g, 0, none⟩ x).setCell ⟨g, 1, none⟩ y) = .ok (.agg #[x, y]) ((W.setCell ⟨g, 0, none⟩ x).setCell ⟨g, 1, none⟩ y) :=
  loadFr (heap_setCell_at (heap_setCell_at h 0 x) 1 y)
/-- the event in its box, a result's block that is still empty; all that was there is as it was -/
structure FrW (w : World) (e : EvM) (W : World) : Prop where
  ev : W.heap[w.heap.size]? = some (.cells #[.int .i64 e.kind, .int .i64 e.at_, .string e.user, .string e.other, .int .i64 e.n, .int .i64 e.status] 40 (0, 0))
  res : W.heap[w.heap.size + 1]? = some (.cells #[.int .u8 0, .string ⟨#[]⟩] 42 (0, 0))
  size : w.heap.size + 2 ≤ W.heap.size
  frame : Below w.heap.size w W
theorem FrW.below {w W W' : World} {e : EvM} (h : FrW w e W) (k : Below W.heap.size W W') : FrW w e W' :=
  ⟨(k.block _ (by have := h.size; omega)).trans h.ev, (k.block _ (by have := h.size; omega)).trans h.res, Nat.le_trans h.size k.size, h.frame.trans (k.mono h.frame.size)⟩
theorem FrW.new (w : World) (e : EvM) : FrW w e ((w.alloc (.cells #[.int .i64 e.kind, .int .i64 e.at_, .string e.user, .string e.other, .int .i64 e.n, .int .i64 e.status] 40)).alloc (.cells #[.int .u8 0, .string ⟨#[]⟩] 42)) := by
  refine ⟨(Below.heap_alloc _ _ w.heap.size (by rw [size1]; omega)).trans (heap_alloc_new w _), ?_, by rw [size1, size1]; omega, ((Below.refl _ _).alloc (Nat.le_refl _) _).alloc (by rw [size1]; omega) _⟩
  have := heap_alloc_new (w.alloc (.cells #[.int .i64 e.kind, .int .i64 e.at_, .string e.user, .string e.other, .int .i64 e.n, .int .i64 e.status] 40)) (.cells #[.int .u8 0, .string ⟨#[]⟩] 42)
  rwa [size1] at this
set_option maxHeartbeats 2000000 in
theorem frame_no (e : EvM) (he : EFits e) (hr : rightE e = false) (w : World) : Calls Tryz.prog 15 #[evV e] w fun r w' => r = .returned (.tuple #[.agg #[.int .u8 0, .string ⟨#[]⟩], .bool false]) ∧ Below w.heap.size w w' := by
  have HR := Lib.hid (fun W => right_any e he W)
  rw [hr] at HR
  have HW := Lib.hid (FrW.new w e)
  have HB := Lib.hid (fun W W' (h : FrW w e W) (k : Below W.heap.size W W') => h.below k)
  unfold evV at *
  go_enter Tryz.func15, Tryz.ntmps15
  go_wp2_with fail
  refine (HR.out _).mono ?_
  rintro r w1 ⟨rfl, h1⟩
  have hw := HB.out _ _ HW.out h1
  obtain ⟨⟨z0, z1⟩, f0, f1⟩ := cells2 hw.res
  have HL := Lib.hid (loadFr2 (x := .int .u8 0) (y := .string ⟨#[]⟩) hw.res)
  have HQ : Hid (Below w.heap.size w ((w1.setCell ⟨w.heap.size + 1, 0, none⟩ (.int .u8 0)).setCell ⟨w.heap.size + 1, 1, none⟩ (.string ⟨#[]⟩))) := (hw.frame.setCell (p := ⟨w.heap.size + 1, 0, none⟩) (by show w.heap.size ≤ w.heap.size + 1; omega) _).setCell (p := ⟨w.heap.size + 1, 1, none⟩) (by show w.heap.size ≤ w.heap.size + 1; omega) _
  clear h1 hw HW HB
  go_wp2
  refine bodyPost_ret (v := .tuple #[.agg #[.int .u8 0, .string ⟨#[]⟩], .bool false]) ?_ rfl ?_
  · rw [results_cellT rfl]
    simp [asAddr, Result.andThen, HL.out]
  · exact ⟨rfl, HQ.out⟩
end Go.Proofs.YtollhemkjnkalaaGreatDoor
