/- Texts of mine, one behind the other, of each what is wanted. -/
import Derived.Test.YtmfpjapiijgdgaaGreatQ00
import Derived.Test.YtmfpjapiijgdgaaGreatQ01
import Derived.Test.YtmfpjapiijgdgaaGreatQ04
import Derived.Test.YtmfpjapiijgdgaaGreatQ06
namespace Go.Proofs.YtmfpjapiijgdgaaGreat
set_option linter.unusedVariables false
theorem takenE_len : ∀ (l : List EvM) (s : SaM), (takenE s l).length ≤ l.length
 | [], _ => Nat.le_refl _
 | e :: l, s => by
  show (if errE s e = 0 then e :: takenE (goE s e) l else takenE s l).length ≤ l.length + 1
  split
  ·have := takenE_len l (goE s e); rw [List.length_cons]; omega
  ·have := takenE_len l s; omega
end Go.Proofs.YtmfpjapiijgdgaaGreat
