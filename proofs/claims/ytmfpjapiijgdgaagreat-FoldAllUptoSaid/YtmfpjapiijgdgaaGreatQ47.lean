/- Texts of mine, one behind the other, of each what is wanted. -/
import Derived.Test.YtmfpjapiijgdgaaGreatQ00
import Derived.Test.YtmfpjapiijgdgaaGreatShelf
import Derived.Test.YtmfpjapiijgdgaaGreatRows
import Derived.Test.YtmfpjapiijgdgaaGreatQ01
import Derived.Test.YtmfpjapiijgdgaaGreatQ17
import Derived.Test.YtmfpjapiijgdgaaGreatQ32
import Derived.Test.YtmfpjapiijgdgaaGreatQ36
import Derived.Test.YtmfpjapiijgdgaaGreatQ37
import Derived.Test.YtmfpjapiijgdgaaGreatQ42
import Derived.Test.YtmfpjapiijgdgaaGreatQ44
namespace Go.Proofs.YtmfpjapiijgdgaaGreat
open Go.RowKit Go.Proofs
set_option linter.unusedVariables false
set_option maxRecDepth 100000
set_option maxRecDepth 100000
section
variable {M : SaM} (x y : SaL) (V : World) (h : SaAt V x) (k : SaAt V y) (hm : x.m = M) (km : y.m = M)
include h hm
theorem g_old (hf : Few M 900) : Calls Tryz.prog 27 #[saV x] V (Is V M) := by subst hm; exact lold_any x V h hf
include k km
theorem g_rsame (hf : Few M 900) : Calls Tryz.prog 26 #[saV x, saV y] V fun r w' => r = .returned (.bool true) ∧ Below V.heap.size V w' := by
 subst hm
 exact (rsame_any11 x y V h k hf (by rw [km]; exact hf)).mono fun r w' q => q.yes km.symm
end
end Go.Proofs.YtmfpjapiijgdgaaGreat
