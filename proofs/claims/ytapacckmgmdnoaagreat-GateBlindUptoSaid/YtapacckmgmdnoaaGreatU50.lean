/- What the whole translated program satisfies, for one statement. -/
import Derived.Test.YtapacckmgmdnoaaGreatU00
import Derived.Test.YtapacckmgmdnoaaGreatRows
import Derived.Test.YtapacckmgmdnoaaGreatU11
namespace Go.Proofs.YtapacckmgmdnoaaGreat
set_option maxRecDepth 100000
theorem closedGateBlind : joinedFacts Tryz.pinned.checked.prog 12 Tryz.f12 (Rows.OpenSpec.upto Rows.gateBlindSpec).bare Rows.gateBlindUptoRow = true := by
 unfold joinedFacts
 rw [pf_heard, pf_maps, pf_laid, pf_keys, pf_lift, pf_enter]
 kernel_rfl
end Go.Proofs.YtapacckmgmdnoaaGreat
