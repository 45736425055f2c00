/- Texts of mine, one behind the other, of each what is wanted. -/
import Derived.Test.YtmfpjapiijgdgaaGreatV00
import Derived.Test.YtmfpjapiijgdgaaGreatShelf
import Derived.Test.YtmfpjapiijgdgaaGreatRows
import Derived.Test.YtmfpjapiijgdgaaGreatV01
import Derived.Test.YtmfpjapiijgdgaaGreatV03
import Derived.Test.YtmfpjapiijgdgaaGreatV05
import Derived.Test.YtmfpjapiijgdgaaGreatV06
import Derived.Test.YtmfpjapiijgdgaaGreatV07
import Derived.Test.YtmfpjapiijgdgaaGreatV18
import Derived.Test.YtmfpjapiijgdgaaGreatV20
import Derived.Test.YtmfpjapiijgdgaaGreatV24
import Derived.Test.YtmfpjapiijgdgaaGreatV30
namespace Go.Proofs.YtmfpjapiijgdgaaGreat
open Go.RowKit Go.Proofs
set_option linter.unusedVariables false
set_option maxRecDepth 100000
set_option maxHeartbeats 2000000 in
theorem rsees_any13 (x : SaL) (p u : ByteArray) (at_ : Int) (w : World) (h : SaAt w x) (hf : x.m.su.length ≤ 1000) :
  Calls Tryz.prog 54 #[saV x, pr p u, .int .i64 at_] w fun e w' => e = .returned (.bool (hasB (perS x.m.su p u) at_)) ∧ Below w.heap.size w w' := by
 have S := SB.new (Below.refl w.heap.size w) h 27
 have S := S.alloc (.cells #[.string p, .string u] 97)
 have HP := Lib.hid (fun V (h : EnSl V x.sa x.su) => refPeriods_any x.sa x.sc x.su p u V h hf)
 have HS := Lib.hid S
 obtain ⟨c0, c1, c2, c3, c4, c5⟩ := S.cells
 have hnew := heap_alloc_new (w.alloc (.cells (saC x) 27)) (.cells #[.string p, .string u] 97)
 rw [size1] at hnew
 have p0 := cell_of_row _ _ 0 _ _ (0, 0) hnew
 have p1 := cell_of_row _ _ 1 _ _ (0, 0) hnew
 have hf' : x.su.length ≤ 1000 := hf
 rw [show x.m.su = x.su from rfl]
 obtain ⟨now, hor, oa, op, oc, ua, us, uc, sa, su, sc, ta, tb, tc⟩ := x
 unfold saV saC pr at *
 dsimp only at *
 clear h hf S hnew
 go_enter Tryz.func54, Tryz.ntmps54
 go_wp2_with fail
 refine (HP.out _ HS.out.at_.su).mono ?_
 rintro e w1 ⟨v, r, rfl, k1, k2, k3, h1⟩
 obtain ⟨y, q, rfl, -, -, k6, -⟩ := own_spm k3
 have hr : hasB r at_ = hasB (perS su p u) at_ := by rw [Bool.eq_iff_iff, hasB_iff, hasB_iff]; exact k1.2 at_
 have HH := Lib.hid (refHas_any y q r at_ w1 k6 (Nat.le_trans k2 (by unfold maxLen; omega)))
 have HF := Lib.hid (HS.out.frame.trans (h1.mono HS.out.frame.size))
 rw [hr] at HH
 clear HP HS k1 k2 k3 k6 h1 c0 c1 c2 c3 c4 c5 p0 p1
 go_wp2_with fail
 refine HH.out.mono ?_
 rintro e w2 ⟨rfl, rfl⟩
 go_wp2
 go_ret
 exact ⟨rfl, HF.out⟩
end Go.Proofs.YtmfpjapiijgdgaaGreat
