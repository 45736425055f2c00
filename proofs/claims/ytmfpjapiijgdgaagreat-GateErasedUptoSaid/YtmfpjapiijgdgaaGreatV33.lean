/- Texts of mine, one behind the other, of each what is wanted. -/
import Derived.Test.YtmfpjapiijgdgaaGreatV00
import Derived.Test.YtmfpjapiijgdgaaGreatShelf
import Derived.Test.YtmfpjapiijgdgaaGreatRows
import Derived.Test.YtmfpjapiijgdgaaGreatV01
import Derived.Test.YtmfpjapiijgdgaaGreatV03
import Derived.Test.YtmfpjapiijgdgaaGreatV04
import Derived.Test.YtmfpjapiijgdgaaGreatV06
import Derived.Test.YtmfpjapiijgdgaaGreatV07
import Derived.Test.YtmfpjapiijgdgaaGreatV20
import Derived.Test.YtmfpjapiijgdgaaGreatV28
namespace Go.Proofs.YtmfpjapiijgdgaaGreat
open Go.RowKit Go.Proofs
set_option linter.unusedVariables false
set_option maxRecDepth 100000
set_option maxHeartbeats 2000000 in
theorem why_any13 (x : SaL) (q : AskM) (w : World) (h : SaAt w x) (hw : q.w.size ≤ maxLen) (hu : q.u.size ≤ maxLen) :
  Calls Tryz.prog 63 #[saV x, askV q] w fun e w' => e = .returned (.int .i64 (whyV x.m q.w q.u q.n)) ∧ Below w.heap.size w w' := by
 have SS := SQ.new w q h 27 86
 have HR : Hid (∀ (s : ByteArray) (V : World) (b : Bool), nameB s = b → s.size ≤ maxLen → Calls Tryz.prog 36 #[.string s] V fun e w' => e = .returned (.bool b) ∧ V = w') := fun s V b h hs => by rw [← h]; exact refRight_any s V hs
 have HF := Lib.hid SS.s.frame
 have HV : Hid (whyV x.m q.w q.u q.n = if nameB q.w = true ∧ nameB q.u = true then (if q.n < x.now ∨ 1099511627776 ≤ q.n then 130 else 0) else 1) := rfl
 generalize whyV x.m q.w q.u q.n = Y at *
 obtain ⟨c0, c1, c2, c3, c4, c5⟩ := SS.s.cells
 obtain ⟨a0, a1, a2, a3, a4⟩ := SS.q.cells
 obtain ⟨now, hor, oa, op, oc, ua, us, uc, sa, su, sc, ta, tb, tc⟩ := x
 obtain ⟨qw, qu, qf, qt, qn⟩ := q
 unfold saV saC askV askC at *
 dsimp only at *
 clear h SS
 cases h1 : nameB qw
 ·go_enter Tryz.func63, Tryz.ntmps63
  go_wp2_with (go_at_call 36; refine (HR.out _ _ _ (by assumption) (by assumption)).mono ?_; rintro e w' ⟨rfl, rfl⟩)
  go_ret
  exact ⟨retI (by rw [HV.out]; simp [h1]), HF.out⟩
 ·cases h2 : nameB qu
  ·go_enter Tryz.func63, Tryz.ntmps63
   go_wp2_with (go_at_call 36; refine (HR.out _ _ _ (by assumption) (by assumption)).mono ?_; rintro e w' ⟨rfl, rfl⟩)
   go_ret
   exact ⟨retI (by rw [HV.out]; simp [h1, h2]), HF.out⟩
  ·by_cases h3 : qn < now
   ·go_enter Tryz.func63, Tryz.ntmps63
    go_wp2_with (go_at_call 36; refine (HR.out _ _ _ (by assumption) (by assumption)).mono ?_; rintro e w' ⟨rfl, rfl⟩)
    go_ret
    exact ⟨retI (by rw [HV.out]; simp [h1, h2, h3]), HF.out⟩
   ·by_cases h4 : 1099511627776 ≤ qn
    ·go_enter Tryz.func63, Tryz.ntmps63
     go_wp2_with (go_at_call 36; refine (HR.out _ _ _ (by assumption) (by assumption)).mono ?_; rintro e w' ⟨rfl, rfl⟩)
     go_ret
     exact ⟨retI (by rw [HV.out]; simp [h1, h2, h4]), HF.out⟩
    ·go_enter Tryz.func63, Tryz.ntmps63
     go_wp2_with (go_at_call 36; refine (HR.out _ _ _ (by assumption) (by assumption)).mono ?_; rintro e w' ⟨rfl, rfl⟩)
     go_ret
     exact ⟨retI (by rw [HV.out]; simp [h1, h2, h3, h4]), HF.out⟩
end Go.Proofs.YtmfpjapiijgdgaaGreat
