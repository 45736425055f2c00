/- Layer 8: one more stay, as the program has it: contract. -/
import Derived.Test.YtlgicjebaehgeaaZ8
import Derived.Test.YtlgicjebaehgeaaW6
namespace Go.Proofs.Ytlgicjebaehgeaa
open Go.RowKit Go.Sort Go.Proofs
set_option linter.unusedVariables false
set_option maxRecDepth 100000
set_option maxRecDepth 100000

def UpTo (l : List StM) (s : StM) (p : Nat) : Prop := ∀ i (h : i < l.length), p ≤ i → ltSt s l[i]
theorem StSl.snil {w : World} {l : List StM} (h : StSl w none l) : l = [] := by
  cases l with
  | nil => rfl
  | cons y m => obtain ⟨_, _, e, _⟩ := h 0 (by simp); cases e

end Go.Proofs.Ytlgicjebaehgeaa
