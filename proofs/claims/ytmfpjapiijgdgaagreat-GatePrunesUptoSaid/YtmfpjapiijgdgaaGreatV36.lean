/- Texts of mine, one behind the other, of each what is wanted. -/
import Derived.Test.YtmfpjapiijgdgaaGreatV00
import Derived.Test.YtmfpjapiijgdgaaGreatShelf
import Derived.Test.YtmfpjapiijgdgaaGreatRows
import Derived.Test.YtmfpjapiijgdgaaGreatV01
import Derived.Test.YtmfpjapiijgdgaaGreatV03
import Derived.Test.YtmfpjapiijgdgaaGreatV06
import Derived.Test.YtmfpjapiijgdgaaGreatV07
import Derived.Test.YtmfpjapiijgdgaaGreatV20
import Derived.Test.YtmfpjapiijgdgaaGreatV28
import Derived.Test.YtmfpjapiijgdgaaGreatV35
namespace Go.Proofs.YtmfpjapiijgdgaaGreat
open Go.RowKit Go.Proofs
set_option linter.unusedVariables false
set_option maxRecDepth 100000
theorem GTold.only {s : SaM} {q : AskM} {a b : List StM} (ha : GTold s q a) (hb : GTold s q b) : a = b := by
 by_cases h : whyV s q.w q.u q.n = 0
 ·exact (ha.1 h).only (hb.1 h)
 ·rw [ha.2 h, hb.2 h]
end Go.Proofs.YtmfpjapiijgdgaaGreat
