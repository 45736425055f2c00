/- Layer 7: the program's Meet and Less of two rows: contracts. -/
import Derived.Test.YthaancmobpamhaaW12
namespace Go.Proofs.Ythaancmobpamhaa
open Go.RowKit Go.Sort Go.Proofs
set_option linter.unusedVariables false
set_option maxRecDepth 100000
set_option maxRecDepth 100000

theorem own_spm {w : World} {B e : Nat} {v : Value} {l : List SpM} (h : w.ownsRow B e 2 v l.length (sps l)) : ∃ a c, v = .slice a l.length c ∧ l.length ≤ c ∧ c ≤ maxLen ∧ SpSl w a l ∧ (a = none → c = 0) := by
  obtain ⟨a, c, rfl, hc, hs⟩ := own_sp h
  refine ⟨a, c, rfl, hc, ?_, hs, ?_⟩
  · rcases h.2 with ⟨h0, _⟩ | ⟨g, cap', _, h0, _, _, _, h1, _⟩
    · injection h0 with e1 e2 e3
      rw [e3]; unfold maxLen; omega
    · injection h0 with e1 e2 e3
      rw [e3]; exact h1
  · intro ha
    rcases h.2 with ⟨h0, _⟩ | ⟨g, cap', _, h0, _, _, _, h1, _⟩
    · injection h0 with e1 e2 e3
    · injection h0 with e1 e2 e3
      rw [ha] at e1; cases e1

end Go.Proofs.Ythaancmobpamhaa
