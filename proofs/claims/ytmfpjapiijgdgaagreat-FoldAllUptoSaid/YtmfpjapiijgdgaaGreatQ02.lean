/- Texts of mine, one behind the other, of each what is wanted. -/
import Derived.Test.YtmfpjapiijgdgaaGreatQ00
import Derived.Test.YtmfpjapiijgdgaaGreatQ01
namespace Go.Proofs.YtmfpjapiijgdgaaGreat
set_option linter.unusedVariables false
set_option maxRecDepth 100000
theorem OpM.same {a b : OpM} (h1 : a.n = b.n) (h2 : a.u = b.u) (h3 : a.s = b.s) (h4 : a.f = b.f) : a = b := by
 obtain ⟨_, _, _, _⟩ := a
 obtain ⟨_, _, _, _⟩ := b
 simp only at h1 h2 h3 h4
 rw [h1, h2, h3, h4]
theorem OpM.iff {a b : OpM} : a = b ↔ a.n = b.n ∧ a.u = b.u ∧ a.s = b.s ∧ a.f = b.f := ⟨fun h => by rw [h]; exact ⟨rfl, rfl, rfl, rfl⟩, fun h => OpM.same h.1 h.2.1 h.2.2.1 h.2.2.2⟩
instance opDec : DecidableEq OpM := fun a b => decidable_of_iff (a.n = b.n ∧ a.u = b.u ∧ a.s = b.s ∧ a.f = b.f) OpM.iff.symm
end Go.Proofs.YtmfpjapiijgdgaaGreat
