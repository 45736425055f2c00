/- Texts of mine, one behind the other, of each what is wanted. -/
import Derived.Test.YtmfpjapiijgdgaaGreatQ00
import Derived.Test.YtmfpjapiijgdgaaGreatQ01
import Derived.Test.YtmfpjapiijgdgaaGreatQ04
import Derived.Test.YtmfpjapiijgdgaaGreatQ06
namespace Go.Proofs.YtmfpjapiijgdgaaGreat
set_option linter.unusedVariables false
theorem goE_now (s : SaM) (e : EvM) : (goE s e).now = e.at_ := by
 unfold goE goS
 repeat' split
 all_goals rfl
theorem errE_at {s : SaM} {e : EvM} (h : errE s e = 0) : s.now ≤ e.at_ := (errS_ok h).2.1
theorem now_fold : ∀ (l : List EvM) (s : SaM), s.now ≤ (foldE s l).now
 | [], _ => Int.le_refl _
 | e :: l, s => by
  have h1 := now_fold l (nxE s e)
  have h2 : s.now ≤ (nxE s e).now := by
   unfold nxE
   split
   ·rename_i he; rw [goE_now]; exact errE_at he
   ·exact Int.le_refl _
  rw [foldE_cons]
  omega
end Go.Proofs.YtmfpjapiijgdgaaGreat
