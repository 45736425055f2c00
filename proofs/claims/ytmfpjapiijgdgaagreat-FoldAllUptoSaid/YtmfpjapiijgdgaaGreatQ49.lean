/- Texts of mine, one behind the other, of each what is wanted. -/
import Derived.Test.YtmfpjapiijgdgaaGreatQ00
import Derived.Test.YtmfpjapiijgdgaaGreatShelf
import Derived.Test.YtmfpjapiijgdgaaGreatRows
import Derived.Test.YtmfpjapiijgdgaaGreatQ01
import Derived.Test.YtmfpjapiijgdgaaGreatQ04
import Derived.Test.YtmfpjapiijgdgaaGreatQ06
import Derived.Test.YtmfpjapiijgdgaaGreatQ17
import Derived.Test.YtmfpjapiijgdgaaGreatQ38
namespace Go.Proofs.YtmfpjapiijgdgaaGreat
open Go.RowKit Go.Proofs
set_option linter.unusedVariables false
set_option maxRecDepth 100000
theorem h_taken (x : SaL) {M : SaM} (hm : x.m = M) (a : Option Addr) (c : Nat) (l : List EvM) (V : World) (h : SaAt V x) (hr : RightS M) (hs : EvSl V a l) (hf : FitsV l) (hc : stCnt M + l.length ≤ 200) : Calls Tryz.prog 31 #[saV x, .slice a l.length c] V (RowsTo V (takenE M l)) := by
 subst hm
 exact ptaken_any x a c l V h hr hs hf hc
end Go.Proofs.YtmfpjapiijgdgaaGreat
