/- Layer 6: the event of a frame: the walk. -/
import Derived.Test.YtollhemkjnkalaaGreatDoorJ12
namespace Go.Proofs.YtollhemkjnkalaaGreatDoor
open Go.RowKit Go.Shelf
set_option linter.unusedVariables false
set_option maxRecDepth 100000

def MaxIs (w : World) : Prop := ∃ m, w.cell? ⟨Tryz.laysSplit_ren.g 1, 0, none⟩ = some (.int .i64 m)
theorem MaxIs.below {w w' : World} (h : MaxIs w) (hb : Below w.heap.size w w') : MaxIs w' := by
  obtain ⟨m, hm⟩ := h
  refine ⟨m, ?_⟩
  have hlt : (Tryz.laysSplit_ren.g 1) < w.heap.size := by
    unfold World.cell? at hm
    cases hx : w.heap[(Tryz.laysSplit_ren.g 1)]? with
    | none => simp [hx] at hm
    | some o => exact (Array.getElem?_eq_some_iff.1 hx).1
  exact (hb.cell (p := ⟨Tryz.laysSplit_ren.g 1, 0, none⟩) hlt).trans hm
theorem split_fit (b : ByteArray) (hb : b.size ≤ 4294967200) : ∀ s ∈ (splitOf (toL b)).map tx, s.size ≤ maxLen := by
  have hsum : lsum ((cut [] (toL b)).map tx) ≤ 140737488355328 := by rw [cut_sum, toL_length]; simp only [List.length_nil]; omega
  have hfit := fits_of_sum _ hsum
  intro s hs
  unfold splitOf at hs
  split at hs
  · exact hfit.2 s hs
  · exact absurd hs (by simp)
/-- the frame in its box, a result's block that is still empty -/
structure OfW (w : World) (k : UInt8) (b : ByteArray) (W : World) : Prop where
  fr : W.heap[w.heap.size]? = some (.cells #[.int .u8 (k.toNat : Int), .string b] 42 (0, 0))
  res : W.heap[w.heap.size + 1]? = some (.cells #[.int .i64 0, .int .i64 0, .string ⟨#[]⟩, .string ⟨#[]⟩, .int .i64 0, .int .i64 0] 40 (0, 0))
  size : w.heap.size + 2 ≤ W.heap.size
  frame : Below w.heap.size w W
theorem OfW.below {w W W' : World} {k : UInt8} {b : ByteArray} (h : OfW w k b W) (q : Below W.heap.size W W') : OfW w k b W' :=
  ⟨(q.block _ (by have := h.size; omega)).trans h.fr, (q.block _ (by have := h.size; omega)).trans h.res, Nat.le_trans h.size q.size, h.frame.trans (q.mono h.frame.size)⟩
theorem OfW.new (w : World) (k : UInt8) (b : ByteArray) : OfW w k b ((w.alloc (.cells #[.int .u8 (k.toNat : Int), .string b] 42)).alloc (.cells #[.int .i64 0, .int .i64 0, .string ⟨#[]⟩, .string ⟨#[]⟩, .int .i64 0, .int .i64 0] 40)) := by
  refine ⟨(Below.heap_alloc _ _ w.heap.size (by rw [size1]; omega)).trans (heap_alloc_new w _), ?_, by rw [size1, size1]; omega, ((Below.refl _ _).alloc (Nat.le_refl _) _).alloc (by rw [size1]; omega) _⟩
  have := heap_alloc_new (w.alloc (.cells #[.int .u8 (k.toNat : Int), .string b] 42)) (.cells #[.int .i64 0, .int .i64 0, .string ⟨#[]⟩, .string ⟨#[]⟩, .int .i64 0, .int .i64 0] 40)
  rwa [size1] at this
end Go.Proofs.YtollhemkjnkalaaGreatDoor
