/- Texts of mine, one behind the other, of each what is wanted. -/
import Derived.Test.YtapacckmgmdnoaaGreatR00
import Derived.Test.YtapacckmgmdnoaaGreatShelf
import Derived.Test.YtapacckmgmdnoaaGreatRows
import Derived.Test.YtapacckmgmdnoaaGreatR03
import Derived.Test.YtapacckmgmdnoaaGreatR04
import Derived.Test.YtapacckmgmdnoaaGreatR18
import Derived.Test.YtapacckmgmdnoaaGreatR23
import Derived.Test.YtapacckmgmdnoaaGreatR28
import Derived.Test.YtapacckmgmdnoaaGreatR34
import Derived.Test.YtapacckmgmdnoaaGreatR35
import Derived.Test.YtapacckmgmdnoaaGreatR36
import Derived.Test.YtapacckmgmdnoaaGreatR38
import Derived.Test.YtapacckmgmdnoaaGreatR40
namespace Go.Proofs.YtapacckmgmdnoaaGreat
open Go.RowKit Go.Proofs
set_option linter.unusedVariables false
set_option maxRecDepth 100000
set_option maxRecDepth 100000
theorem cntU_le : ∀ {l : List UsM}, ∀ x ∈ l, x.l.length ≤ cntU l
 | y :: l, x, hx => by
  rw [cntU_cons]
  rcases List.mem_cons.1 hx with rfl | hx
  ·omega
  ·have := cntU_le x hx
   omega
theorem few_cnt {x : SaL} {n : Nat} (h : stCnt x.m + x.us.length ≤ n) : Few x.m n := by
 have h0 : stCnt x.m = x.op.length + x.su.length + x.tb.length + cntU (umS x.us) := rfl
 have h1 : x.m.us.length = x.us.length := umS_len _
 refine ⟨?_, by omega, ?_, ?_, fun u hu => ?_⟩
 ·show x.op.length ≤ n; omega
 ·show x.su.length ≤ n; omega
 ·show x.tb.length ≤ n; omega
 ·have := cntU_le u hu
  show u.l.length ≤ n
  have h2 : cntU x.m.us = cntU (umS x.us) := rfl
  omega
section
variable {M : SaM} (x y : SaL) (V : World) (h : SaAt V x) (k : SaAt V y) (hm : x.m = M) (km : y.m = M)
include h hm
theorem g_new (hf : Few M 900) : Calls Tryz.prog 23 #[saV x] V (Is V M) := by subst hm; exact lnew_any x V h hf
theorem g_rrightB (hz : SzS M) (hf : Few M 900) : Calls Tryz.prog 19 #[saV x] V fun r w' => r = .returned (.bool (rightB M)) ∧ Below V.heap.size V w' := by
 subst hm
 have := rright_any11 x V h hz (Nat.le_trans hf.op (by decide)) (Nat.le_trans (few_us hf) (by decide)) (Nat.le_trans hf.su (by decide)) (Nat.le_trans hf.tb (by decide)) (fun z hz => Nat.le_trans (umS_st hf.st z hz) (by decide))
 refine this.mono fun r w' q => ?_
 cases hb : rightB x.m
 ·exact q.no (fun hr => by rw [(rightB_iff _).2 hr] at hb; cases hb)
 ·exact q.yes ((rightB_iff _).1 hb)
theorem g_rright (hz : SzS M) (hf : Few M 900) (hr : RightS M) : Calls Tryz.prog 19 #[saV x] V fun r w' => r = .returned (.bool true) ∧ Below V.heap.size V w' := by
 have := g_rrightB x V h hm hz hf
 rwa [(rightB_iff _).2 hr] at this
theorem g_rwrong (hz : SzS M) (hf : Few M 900) (hr : ¬ RightS M) : Calls Tryz.prog 19 #[saV x] V fun r w' => r = .returned (.bool false) ∧ Below V.heap.size V w' := by
 have := g_rrightB x V h hm hz hf
 rwa [Bool.eq_false_iff.2 fun hb => hr ((rightB_iff _).1 hb)] at this
include k km
end
end Go.Proofs.YtapacckmgmdnoaaGreat
