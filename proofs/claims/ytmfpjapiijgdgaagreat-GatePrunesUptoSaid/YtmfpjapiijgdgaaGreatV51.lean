/- Texts of mine, one behind the other, of each what is wanted. -/
import Derived.Test.YtmfpjapiijgdgaaGreatV00
import Derived.Test.YtmfpjapiijgdgaaGreatShelf
import Derived.Test.YtmfpjapiijgdgaaGreatRows
import Derived.Test.YtmfpjapiijgdgaaGreatV01
import Derived.Test.YtmfpjapiijgdgaaGreatV03
import Derived.Test.YtmfpjapiijgdgaaGreatV06
import Derived.Test.YtmfpjapiijgdgaaGreatV07
import Derived.Test.YtmfpjapiijgdgaaGreatV20
import Derived.Test.YtmfpjapiijgdgaaGreatV26
import Derived.Test.YtmfpjapiijgdgaaGreatV35
import Derived.Test.YtmfpjapiijgdgaaGreatV36
import Derived.Test.YtmfpjapiijgdgaaGreatV41
namespace Go.Proofs.YtmfpjapiijgdgaaGreat
open Go.RowKit Go.Proofs
set_option linter.unusedVariables false
set_option maxRecDepth 100000
def LastT (s : SaM) (p u : ByteArray) (n k : Int) (b : Bool) : Prop := ∃ m, GTold s (everM p u n) m ∧ k = (lastS m).1 ∧ b = (lastS m).2
theorem LastT.only {s : SaM} {p u : ByteArray} {n k k' : Int} {b b' : Bool} (h : LastT s p u n k b) (h' : LastT s p u n k' b') : k = k' ∧ b = b' := by
 obtain ⟨m, h1, rfl, rfl⟩ := h
 obtain ⟨m', h2, rfl, rfl⟩ := h'
 obtain rfl := h1.only h2
 exact ⟨rfl, rfl⟩
end Go.Proofs.YtmfpjapiijgdgaaGreat
