/- Layer 7: the gaps of a row; what two rows have in common: contracts. -/
import Derived.Test.YtlgicjebaehgeaaW2
namespace Go.Proofs.Ytlgicjebaehgeaa
open Go.RowKit
set_option linter.unusedVariables false
set_option maxRecDepth 100000
set_option maxRecDepth 100000

theorem cells2 {g : Nat} {a b : Value} {t : TypeId} {W : World} (h : W.heap[g]? = some (.cells #[a, b] t (0, 0))) : W.cell? ⟨g, 0, none⟩ = some a ∧ W.cell? ⟨g, 1, none⟩ = some b := ⟨cell_of_row _ _ _ _ _ _ h, cell_of_row _ _ _ _ _ _ h⟩
def minI : Int := -9223372036854775808
def maxI : Int := 9223372036854775807
theorem gaps_next {acc : List SpM} {l g : List SpM} {c : Int} {j : Nat} (hj : j < l.length) (h : acc ++ gapsS c maxI (l.drop j) = g) : (acc ++ [⟨c, l[j].f⟩]) ++ gapsS l[j].t maxI (l.drop (j + 1)) = g := by
  rw [List.drop_eq_getElem_cons hj] at h
  rw [← h, List.append_assoc]; rfl

end Go.Proofs.Ytlgicjebaehgeaa
