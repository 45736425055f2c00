/- Texts of mine, one behind the other, of each what is wanted. -/
import Derived.Test.YtapacckmgmdnoaaGreatR00
import Derived.Test.YtapacckmgmdnoaaGreatShelf
import Derived.Test.YtapacckmgmdnoaaGreatR03
import Derived.Test.YtapacckmgmdnoaaGreatR04
import Derived.Test.YtapacckmgmdnoaaGreatR23
namespace Go.Proofs.YtapacckmgmdnoaaGreat
open Go.RowKit Go.Proofs
set_option linter.unusedVariables false
set_option maxRecDepth 100000
set_option maxRecDepth 100000
def RiseN {α : Type} (key : α → ByteArray) (l : List α) (j : Nat) : Prop := ∀ k (h : k < l.length), k < j → nameB (key l[k]) = true ∧ (0 < k → cmpS (key (l[k - 1]'(by omega))) (key l[k]) < 0)
def riseNB {α : Type} (key : α → ByteArray) (l : List α) : Prop := RiseN key l l.length
instance riseNDec {α : Type} (key : α → ByteArray) (l : List α) : Decidable (riseNB key l) := by unfold riseNB RiseN; infer_instance
theorem riseN_iff {α : Type} {key : α → ByteArray} {l : List α} : riseNB key l ↔ (∀ x ∈ l, nameB (key x) = true) ∧ RiseK key l := by
 rw [riseK_at]
 constructor
 ·intro h
  refine ⟨fun x hx => ?_, fun k hk h0 => (h k hk hk).2 h0⟩
  obtain ⟨k, hk, rfl⟩ := List.getElem_of_mem hx
  exact (h k hk hk).1
 ·rintro ⟨h1, h2⟩ k hk _
  exact ⟨h1 _ (List.getElem_mem hk), fun h0 => h2 k hk h0⟩
end Go.Proofs.YtapacckmgmdnoaaGreat
