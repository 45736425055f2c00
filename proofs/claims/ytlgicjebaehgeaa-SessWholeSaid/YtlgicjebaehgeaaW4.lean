/- Layer 7: what two rows have in common: contract. -/
import Derived.Test.YtlgicjebaehgeaaW3
namespace Go.Proofs.Ytlgicjebaehgeaa
open Go.RowKit
set_option linter.unusedVariables false
set_option maxRecDepth 100000
set_option maxRecDepth 100000

theorem sizeSp (W : World) : (sizeOf (Try.prog.elem 75)).run Try.prog W = .ok 2 W := by rfl
/-- what is left behind the first span -/
theorem tail_slice (b off n c : Nat) (hn : n + 1 ≤ c) : ∃ x' : Option Addr, (∀ W : World, (Instr.slice 75 (.slice (some ⟨b, off, none⟩) (n + 1) c) (some (.int .i64 1)) none none).run Try.prog W = .ok (.slice x' n (c - 1)) W) ∧
    ∀ (W : World) (s : SpM) (l : List SpM), l.length = n → SpSl W (some ⟨b, off, none⟩) (s :: l) → SpSl W x' l := by
  refine ⟨if c = 1 then some ⟨b, off, none⟩ else some ⟨b, off + 2, none⟩, fun W => ?_, fun W s l hl h => ?_⟩
  · rw [run_slice_l W 75 (some ⟨b, off, none⟩) (n + 1) c (by kernel_rfl) .i64 1 (by omega) (by omega), sizeSp]
    show Result.ok (sliced (some ⟨b, off, none⟩) 1 (n + 1) c 2) W = _
    unfold sliced
    by_cases hc : c = 1
    · rw [if_pos hc, if_pos hc]; rfl
    · rw [if_neg hc, if_neg hc]; rfl
  · by_cases hc : c = 1
    · have : l = [] := List.eq_nil_of_length_eq_zero (by omega)
      subst this
      exact SpSl.nil _ _
    · rw [if_neg hc]
      exact h.tail
/-- the span of both heads in a block of its own, all else as it was -/
structure ComW (wr : World) (m : SpM) (G : Nat) (W : World) : Prop where
  blk : W.heap[G]? = some (.cells #[.int .i64 m.f, .int .i64 m.t] 42 (0, 0))
  low : wr.heap.size ≤ G
  frame : Below wr.heap.size wr W
theorem ComW.below {wr W W' : World} {m : SpM} {G : Nat} (h : ComW wr m G W) (q : Below W.heap.size W W') : ComW wr m G W' :=
  ⟨(q.block _ (heap_lt h.blk)).trans h.blk, h.low, h.frame.trans (q.mono h.frame.size)⟩
theorem set2_at {W : World} {G : Nat} {t : TypeId} {a0 b0 : Value} (h : W.heap[G]? = some (.cells #[a0, b0] t (0, 0))) (a b : Value) :
    ((W.setCell ⟨G, 0, none⟩ a).setCell ⟨G, 1, none⟩ b).heap[G]? = some (.cells #[a, b] t (0, 0)) := heap_setCell_at (heap_setCell_at h 0 a) 1 b
theorem cells2f {g : Nat} {a b : Value} {t : TypeId} {W : World} (h : W.heap[g]? = some (.cells #[a, b] t (0, 0))) : W.frozen? ⟨g, 0, none⟩ = false ∧ W.frozen? ⟨g, 1, none⟩ = false := ⟨frozen_of_row _ _ _ _ _ h, frozen_of_row _ _ _ _ _ h⟩

end Go.Proofs.Ytlgicjebaehgeaa
