/- Layer 6: an event out of words. -/
import Derived.Test.YtollhemkjnkalaaGreatDoorJ9
namespace Go.Proofs.YtollhemkjnkalaaGreatDoor
open Go.RowKit
set_option linter.unusedVariables false
set_option maxRecDepth 100000

/-- an event of a kind of this shape, with these words in its fields -/
def fromS (s : ShM) (k : Int) (L : List ByteArray) : EvM :=
  let L1 := (tailW L)
  let L2 := if s.user then (tailW L1) else L1
  let L3 := if s.other then (tailW L2) else L2
  let L4 := if 0 < s.n1 then (tailW L3) else L3
  ⟨k, numW (headW L), if s.user then headW L1 else ⟨#[]⟩, if s.other then headW L2 else ⟨#[]⟩, if 0 < s.n1 then numW (headW L3) else 0, if 0 < s.s1 then numW (headW L4) else 0⟩
/-- the result's block, the shape, the words that are left, and the event so far -/
structure FW (w : World) (s : ShM) (X g E : Nat) (e : EvM) (L : List ByteArray) (W : World) : Prop where
  res : W.heap[w.heap.size]? = some (.cells #[.int .i64 0, .int .i64 0, .string ⟨#[]⟩, .string ⟨#[]⟩, .int .i64 0, .int .i64 0] 40 (0, 0))
  sh : W.heap[X]? = some (.cells #[.bool s.user, .bool s.other, .int .i64 s.n0, .int .i64 s.n1, .int .i64 s.s0, .int .i64 s.s1] 81 (0, 0))
  row : RowAt w.heap.size W g L
  ev : W.heap[E]? = some (.cells #[.int .i64 e.kind, .int .i64 e.at_, .string e.user, .string e.other, .int .i64 e.n, .int .i64 e.status] 40 (0, 0))
  frame : Below w.heap.size w W
  ord : w.heap.size < X ∧ X < g ∧ g < E ∧ E < W.heap.size
variable {w W W' : World} {s : ShM} {X g E : Nat} {e : EvM} {L L' : List ByteArray}
theorem FW.only (h : FW w s X g E e L W) (k : OnlyG g W W') (hr : RowAt w.heap.size W' g L') : FW w s X g E e L' W' := by
  obtain ⟨o1, o2, o3, o4⟩ := h.ord
  exact ⟨(k.block _ (by omega) (by omega)).trans h.res, (k.block _ (by omega) (by omega)).trans h.sh, hr, (k.block _ (by omega) (by omega)).trans h.ev, h.frame.trans (k.below (by have := h.frame.size; omega) (by omega)), o1, o2, o3, Nat.lt_of_lt_of_le o4 k.size⟩
theorem FW.below (h : FW w s X g E e L W) (k : Below W.heap.size W W') : FW w s X g E e L W' := h.only (OnlyG.of_below k) (h.row.below k)
theorem RowAt.set {B i : Nat} {v : Value} (h : RowAt B W g L) (hne : g ≠ E) (hB : B ≤ E) : RowAt B (W.setCell ⟨E, i, none⟩ v) g L := by
  obtain ⟨a, c, h1, h2, h3, h4, h5⟩ := h
  exact ⟨a, c, (heap_set_far hne).trans h1, h2.only (OnlyG.set W E i v) (fun b o ea hx => by have := h5 b o ea (fun hy => hx (by rw [hy]; rfl)); omega), h3, h4, h5⟩
theorem FW.set (h : FW w s X g E e L W) (i : Nat) (v : Value) (e' : EvM) (he : (#[.int .i64 e.kind, .int .i64 e.at_, .string e.user, .string e.other, .int .i64 e.n, .int .i64 e.status] : Array Value).setIfInBounds i v = #[.int .i64 e'.kind, .int .i64 e'.at_, .string e'.user, .string e'.other, .int .i64 e'.n, .int .i64 e'.status]) : FW w s X g E e' L (W.setCell ⟨E, i, none⟩ v) := by
  obtain ⟨o1, o2, o3, o4⟩ := h.ord
  exact ⟨(heap_set_far (by omega)).trans h.res, (heap_set_far (by omega)).trans h.sh, h.row.set (by omega) (by omega), he ▸ heap_setCell_at h.ev i v, h.frame.setCell (p := ⟨E, i, none⟩) (by show w.heap.size ≤ E; omega) v, o1, o2, o3, by simp [World.setCell]; exact o4⟩
theorem FW.text (h : FW w s X g E e L W) : Calls Tryz.prog 60 #[.pointer (some ⟨g, 0, none⟩)] W fun r W' => r = .returned (.string (headW L)) ∧ FW w s X g E e (tailW L) W' :=
  (text_any' g (by have := h.ord; omega) L W h.row).mono fun r W' ⟨q1, q2, q3⟩ => ⟨q1, h.only q3 q2⟩
theorem FW.number (h : FW w s X g E e L W) (hf : ∀ s ∈ L, s.size ≤ maxLen) : Calls Tryz.prog 59 #[.pointer (some ⟨g, 0, none⟩)] W fun r W' => r = .returned (.int .i64 (numW (headW L))) ∧ FW w s X g E e (tailW L) W' :=
  (number_any' g (by have := h.ord; omega) L W h.row hf).mono fun r W' ⟨q1, q2, q3⟩ => ⟨q1, h.only q3 q2⟩
theorem infoEv : (Tryz.prog.info? 40).map (·.size) = some 6 := by kernel_rfl
theorem loadEv {W : World} {g : Nat} {a b c d e f : Value} {t : TypeId} (h : W.heap[g]? = some (.cells #[a, b, c, d, e, f] t (0, 0))) :
    (loadVar 40 ⟨g, 0, none⟩).run Tryz.prog W = .ok (.agg #[a, b, c, d, e, f]) W :=
  run_loadVar_mid (P := Tryz.prog) W g 0 40 [a, b, c, d, e, f] _ (fun j v hv => by
    rw [Nat.zero_add, cell_of_row _ _ _ _ _ (0, 0) h]
    simpa using hv) Tryz.underlying40 rfl infoEv
/-- the end: the event in the result's block -/
theorem FW.fin (h : FW w s X g E e L W) : ∃ F, F = ((((((W.setCell ⟨w.heap.size, 0, none⟩ (.int .i64 e.kind)).setCell ⟨w.heap.size, 1, none⟩ (.int .i64 e.at_)).setCell ⟨w.heap.size, 2, none⟩ (.string e.user)).setCell ⟨w.heap.size, 3, none⟩ (.string e.other)).setCell ⟨w.heap.size, 4, none⟩ (.int .i64 e.n)).setCell ⟨w.heap.size, 5, none⟩ (.int .i64 e.status)) ∧
    (loadVar 40 ⟨w.heap.size, 0, none⟩).run Tryz.prog F = .ok (evV e) F ∧ Below w.heap.size w F := by
  have h6 := heap_setCell_at (heap_setCell_at (heap_setCell_at (heap_setCell_at (heap_setCell_at (heap_setCell_at h.res 0 (.int .i64 e.kind)) 1 (.int .i64 e.at_)) 2 (.string e.user)) 3 (.string e.other)) 4 (.int .i64 e.n)) 5 (.int .i64 e.status)
  exact ⟨_, rfl, loadEv h6, (((((h.frame.setCell (p := ⟨w.heap.size, 0, none⟩) (Nat.le_refl _) _).setCell (p := ⟨w.heap.size, 1, none⟩) (Nat.le_refl _) _).setCell (p := ⟨w.heap.size, 2, none⟩) (Nat.le_refl _) _).setCell (p := ⟨w.heap.size, 3, none⟩) (Nat.le_refl _) _).setCell (p := ⟨w.heap.size, 4, none⟩) (Nat.le_refl _) _).setCell (p := ⟨w.heap.size, 5, none⟩) (Nat.le_refl _) _⟩
end Go.Proofs.YtollhemkjnkalaaGreatDoor
