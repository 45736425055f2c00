/- Texts of mine, one behind the other, of each what is wanted. -/
import Derived.Test.YtmfpjapiijgdgaaGreatV00
import Derived.Test.YtmfpjapiijgdgaaGreatRows
import Derived.Test.YtmfpjapiijgdgaaGreatV46
namespace Go.Proofs.YtmfpjapiijgdgaaGreat
set_option maxRecDepth 100000
theorem closedGatePrunes : joinedFacts Tryz.pinned.checked.prog 14 Tryz.f14 (Rows.OpenSpec.upto Rows.gatePrunesSpec).bare Rows.gatePrunesUptoRow = true := by
 unfold joinedFacts
 rw [pf_heard, pf_maps, pf_laid, pf_keys, pf_lift, pf_enter]
 kernel_rfl
end Go.Proofs.YtmfpjapiijgdgaaGreat
