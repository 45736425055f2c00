/- StateApplies: what any event makes of any state that may be, or why it is refused, is what the document says; what was given stays as it was; for all states of at most 1048576 things and all events. -/
import Derived.Test.YtjhdhfokhkcamaaGreatQ05
import Derived.Test.YtjhdhfokhkcamaaGreatQ06
import Derived.Test.YtjhdhfokhkcamaaGreatQ09
import Derived.Test.YtjhdhfokhkcamaaGreatQ11
import Derived.Test.YtjhdhfokhkcamaaGreatQ13
import Derived.Test.YtjhdhfokhkcamaaGreatQ14
import Derived.Test.YtjhdhfokhkcamaaGreatQ21
import Derived.Test.YtjhdhfokhkcamaaGreatQ27
import Derived.Test.YtjhdhfokhkcamaaGreatQ28
import Derived.Test.YtjhdhfokhkcamaaGreatQ32
import Derived.Test.YtjhdhfokhkcamaaGreatQ33
import Derived.Test.YtjhdhfokhkcamaaGreatQ34
import Derived.Test.YtjhdhfokhkcamaaGreatQ43
import Derived.JoinedCond
import Derived.Deep.RegionHeld3
import Derived.OrdersHeld
import Derived.Test.YtjhdhfokhkcamaaGreatRows
import Derived.Test.YtjhdhfokhkcamaaGreatQ46
import Derived.Test.YtjhdhfokhkcamaaGreatTQ
namespace Go.Proofs.YtjhdhfokhkcamaaGreat.stateApplies
open Go.ChangeShapes Go.WideShapes Go.ChangeAt Go.RowKit Go.Proofs
open Go.ChangeMaps (open_string shut_string)
set_option linter.unusedVariables false
set_option maxRecDepth 100000

structure ApK (w : World) (g1 : Nat) (g2 : Nat) (g3 : Nat) (x : SaL) (y : SaL) (z : SaL) (v : SaL) (W : World) : Prop where
 s : SB w w.heap.size 27 x W
 y : SB w g1 38 y W
 g : SB w g2 38 z W
 v : SB w g3 27 v W
theorem ApK.below {w W W' : World} {g1 : Nat} {g2 : Nat} {g3 : Nat} {x : SaL} {y : SaL} {z : SaL} {v : SaL} (h : ApK w g1 g2 g3 x y z v W) (qB : Below W.heap.size W W') : ApK w g1 g2 g3 x y z v W' := ⟨h.s.below qB, h.y.below qB, h.g.below qB, h.v.below qB⟩
set_option maxHeartbeats 8000000 in
theorem walk (w : World) (x : SaL) (h : SaAt w x) (z : SzS x.m) (b : stCnt x.m + x.us.length ≤ 1048576) (e : EvM) (he : EFits e) :
  Calls Tryz.prog 3 #[saV x, evV e] w fun e w' => e = .returned (.bool true) ∧ Below w.heap.size w w' := by
 obtain ⟨S, E⟩ := in_event h e 27 29
 unfold saC at S E
 replace S := Lib.hid S
 replace E := Lib.hid E
 unfold evV
 have HAL := Lib.hid alive11
 have HMA := Lib.hid (fun V (h : SaAt V x) => many_any x V h b)
 by_cases g1 : 100 < stCnt x.m + x.us.length
 ·have d1 : decide ((100 : Int) < (stCnt x.m : Int) + (x.us.length : Int)) = true := decide_eq_true (by omega)
  clear h z b g1 he
  unfold saV saC
  obtain ⟨cS0, cS1, cS2, cS3, cS4, cS5⟩ := S.out.cells
  obtain ⟨cE0, cE1, cE2, cE3, cE4, cE5⟩ := E.out.cells
  go_enter Tryz.func3, Tryz.ntmps3
  go_wp2_with fail
  refine (HMA.out _ S.out.at_).mono ?_
  rintro r1 w1 ⟨rfl, h1⟩
  clear cS0 cS1 cS2 cS3 cS4 cS5 cE0 cE1 cE2 cE3 cE4 cE5
  replace S := Lib.hid (S.out.below h1)
  replace E := Lib.hid (E.out.below h1)
  clear h1
  obtain ⟨cS0, cS1, cS2, cS3, cS4, cS5⟩ := S.out.cells
  obtain ⟨cE0, cE1, cE2, cE3, cE4, cE5⟩ := E.out.cells
  go_wp2_with fail
  refine (HAL.out _).mono ?_
  rintro r2 w2 ⟨rfl, h2⟩
  clear cS0 cS1 cS2 cS3 cS4 cS5 cE0 cE1 cE2 cE3 cE4 cE5
  replace S := Lib.hid (S.out.below h2)
  replace E := Lib.hid (E.out.below h2)
  clear h2
  go_wp2
  go_ret
  exact ⟨rfl, S.out.frame⟩
 have d1 : decide ((100 : Int) < (stCnt x.m : Int) + (x.us.length : Int)) = false := decide_eq_false (by omega)
 have hf0 : Few x.m 100 := few_cnt (by omega)
 by_cases hr0 : RightS x.m
 case neg =>
  have HRR := Lib.hid (fun V (h : SaAt V x) => g_rwrong x V h rfl z (hf0.mono (by decide)) hr0)
  clear h z b g1 hf0 hr0 he
  unfold saV saC
  obtain ⟨cS0, cS1, cS2, cS3, cS4, cS5⟩ := S.out.cells
  obtain ⟨cE0, cE1, cE2, cE3, cE4, cE5⟩ := E.out.cells
  go_enter Tryz.func3, Tryz.ntmps3
  go_wp2_with fail
  refine (HMA.out _ S.out.at_).mono ?_
  rintro r1 w1 ⟨rfl, h1⟩
  clear cS0 cS1 cS2 cS3 cS4 cS5 cE0 cE1 cE2 cE3 cE4 cE5
  replace S := Lib.hid (S.out.below h1)
  replace E := Lib.hid (E.out.below h1)
  clear h1
  obtain ⟨cS0, cS1, cS2, cS3, cS4, cS5⟩ := S.out.cells
  obtain ⟨cE0, cE1, cE2, cE3, cE4, cE5⟩ := E.out.cells
  go_wp2_with fail
  refine (HRR.out _ S.out.at_).mono ?_
  rintro r2 w2 ⟨rfl, h2⟩
  clear cS0 cS1 cS2 cS3 cS4 cS5 cE0 cE1 cE2 cE3 cE4 cE5
  replace S := Lib.hid (S.out.below h2)
  replace E := Lib.hid (E.out.below h2)
  clear h2
  obtain ⟨cS0, cS1, cS2, cS3, cS4, cS5⟩ := S.out.cells
  obtain ⟨cE0, cE1, cE2, cE3, cE4, cE5⟩ := E.out.cells
  go_wp2_with fail
  refine (HAL.out _).mono ?_
  rintro r3 w3 ⟨rfl, h3⟩
  clear cS0 cS1 cS2 cS3 cS4 cS5 cE0 cE1 cE2 cE3 cE4 cE5
  replace S := Lib.hid (S.out.below h3)
  replace E := Lib.hid (E.out.below h3)
  clear h3
  go_wp2
  go_ret
  exact ⟨rfl, S.out.frame⟩
 have HRR := Lib.hid (fun V (h : SaAt V x) => g_rright x V h rfl z (hf0.mono (by decide)) hr0)
 have hc0 : stCnt x.m ≤ 100 := by omega
 clear b g1
 obtain ⟨M, hM⟩ : ∃ M, x.m = M := ⟨_, rfl⟩
 have hr : RightS M := hM ▸ hr0
 have hf : Few M 100 := hM ▸ hf0
 have hz : SzS M := hM ▸ z
 have hc : stCnt M ≤ 100 := hM ▸ hc0
 have HNW := Lib.hid (fun V (h : SaAt V x) => g_new x V h hM (hf.mono (by decide)))
 have HAP := Lib.hid (fun y V (h : SaAt V y) hm => g_apply (M := M) y e V h hm hr (Nat.le_trans hc (by decide)) he)
 have HRA := Lib.hid (fun V (h : SaAt V x) => g_rapply (M := M) x e V h hM hr (Nat.le_trans hc (by decide)) he)
 have hr1 := te_right hr e
 have hc1 := te_cnt hr e
 have hf1 : Few (teV M e) 900 := (few_of hr1 (Nat.le_refl _)).mono (by omega)
 have HO1 := Lib.hid (fun y V (h : SaAt V y) hm => g_old (M := teV M e) y V h hm hf1)
 have HS1 := Lib.hid (fun p q V (h : SaAt V p) (k : SaAt V q) hm km => g_rsame (M := teV M e) p q V h k hm km hf1)
 have HO0 := Lib.hid (fun y V (h : SaAt V y) hm => g_old (M := M) y V h hm (hf.mono (by decide)))
 have HS0 := Lib.hid (fun p V (h : SaAt V p) (k : SaAt V x) hm => g_rsame (M := M) p x V h k hm hM (hf.mono (by decide)))
 have HRT := Lib.hid (fun p V (h : SaAt V p) hm => g_right (M := teV M e) p V h hm (sz_right hr1) hf1 hr1)
 replace hM := Lib.hid hM
 clear h z hf0 hr0 hc0 hr hf hz hc hc1 hr1 hf1 he
 generalize teV M e = M1 at *
 generalize erV M e = er at *
 have e1 : (er == er) = true := beq_self_eq_true _
 unfold saV saC
 obtain ⟨cS0, cS1, cS2, cS3, cS4, cS5⟩ := S.out.cells
 obtain ⟨cE0, cE1, cE2, cE3, cE4, cE5⟩ := E.out.cells
 go_enter Tryz.func3, Tryz.ntmps3
 go_wp2_with fail
 refine (HMA.out _ S.out.at_).mono ?_
 rintro r1 w1 ⟨rfl, h1⟩
 clear cS0 cS1 cS2 cS3 cS4 cS5 cE0 cE1 cE2 cE3 cE4 cE5
 replace S := Lib.hid (S.out.below h1)
 replace E := Lib.hid (E.out.below h1)
 clear h1
 obtain ⟨cS0, cS1, cS2, cS3, cS4, cS5⟩ := S.out.cells
 obtain ⟨cE0, cE1, cE2, cE3, cE4, cE5⟩ := E.out.cells
 go_wp2_with fail
 refine (HRR.out _ S.out.at_).mono ?_
 rintro r2 w2 ⟨rfl, h2⟩
 clear cS0 cS1 cS2 cS3 cS4 cS5 cE0 cE1 cE2 cE3 cE4 cE5
 replace S := Lib.hid (S.out.below h2)
 replace E := Lib.hid (E.out.below h2)
 clear h2
 obtain ⟨cS0, cS1, cS2, cS3, cS4, cS5⟩ := S.out.cells
 obtain ⟨cE0, cE1, cE2, cE3, cE4, cE5⟩ := E.out.cells
 go_wp2_with fail
 refine (HNW.out _ S.out.at_).mono ?_
 rintro r3 w3 ⟨y, rfl, hy, hm, h3⟩
 clear cS0 cS1 cS2 cS3 cS4 cS5 cE0 cE1 cE2 cE3 cE4 cE5
 unfold saV saC
 have hb3 := below_one w3 (.cells #[.int .i64 y.now, .int .i64 y.hor, .slice y.oa y.op.length y.oc, .slice y.ua y.us.length y.uc, .slice y.sa y.su.length y.sc, .slice y.ta y.tb.length y.tc] 38)
 have hc3 := h3.trans (hb3.mono h3.size)
 have Y : Hid (SB w w3.heap.size 38 y (w3.alloc (.cells #[.int .i64 y.now, .int .i64 y.hor, .slice y.oa y.op.length y.oc, .slice y.ua y.us.length y.uc, .slice y.sa y.su.length y.sc, .slice y.ta y.tb.length y.tc] 38))) := Lib.hid (SB.new (S.out.frame.trans (h3.mono S.out.frame.size)) hy 38)
 replace S := Lib.hid (S.out.below hc3)
 replace E := Lib.hid (E.out.below hc3)
 clear hb3 hc3 h3 hy
 obtain ⟨cS0, cS1, cS2, cS3, cS4, cS5⟩ := S.out.cells
 obtain ⟨cE0, cE1, cE2, cE3, cE4, cE5⟩ := E.out.cells
 obtain ⟨cY0, cY1, cY2, cY3, cY4, cY5⟩ := Y.out.cells
 go_wp2_with fail
 refine (HAP.out y _ Y.out.at_ hm).mono ?_
 rintro r4 w4 ⟨z, rfl, hz, hn, h4⟩
 clear cS0 cS1 cS2 cS3 cS4 cS5 cE0 cE1 cE2 cE3 cE4 cE5 cY0 cY1 cY2 cY3 cY4 cY5
 unfold saV saC
 have hb4 := below_one w4 (.cells #[.int .i64 z.now, .int .i64 z.hor, .slice z.oa z.op.length z.oc, .slice z.ua z.us.length z.uc, .slice z.sa z.su.length z.sc, .slice z.ta z.tb.length z.tc] 38)
 have hc4 := h4.trans (hb4.mono h4.size)
 have Z : Hid (SB w w4.heap.size 38 z (w4.alloc (.cells #[.int .i64 z.now, .int .i64 z.hor, .slice z.oa z.op.length z.oc, .slice z.ua z.us.length z.uc, .slice z.sa z.su.length z.sc, .slice z.ta z.tb.length z.tc] 38))) := Lib.hid (SB.new (S.out.frame.trans (h4.mono S.out.frame.size)) hz 38)
 replace S := Lib.hid (S.out.below hc4)
 replace E := Lib.hid (E.out.below hc4)
 replace Y := Lib.hid (Y.out.below hc4)
 clear hb4 hc4 h4 hz
 obtain ⟨cS0, cS1, cS2, cS3, cS4, cS5⟩ := S.out.cells
 obtain ⟨cE0, cE1, cE2, cE3, cE4, cE5⟩ := E.out.cells
 obtain ⟨cY0, cY1, cY2, cY3, cY4, cY5⟩ := Y.out.cells
 obtain ⟨cZ0, cZ1, cZ2, cZ3, cZ4, cZ5⟩ := Z.out.cells
 go_wp2_with fail
 refine (HRA.out _ S.out.at_).mono ?_
 rintro r5 w5 ⟨v, rfl, hv, ho, h5⟩
 clear cS0 cS1 cS2 cS3 cS4 cS5 cE0 cE1 cE2 cE3 cE4 cE5 cY0 cY1 cY2 cY3 cY4 cY5 cZ0 cZ1 cZ2 cZ3 cZ4 cZ5
 unfold saV saC
 have hb5 := below_one w5 (.cells #[.int .i64 v.now, .int .i64 v.hor, .slice v.oa v.op.length v.oc, .slice v.ua v.us.length v.uc, .slice v.sa v.su.length v.sc, .slice v.ta v.tb.length v.tc] 27)
 have hc5 := h5.trans (hb5.mono h5.size)
 have U : Hid (SB w w5.heap.size 27 v (w5.alloc (.cells #[.int .i64 v.now, .int .i64 v.hor, .slice v.oa v.op.length v.oc, .slice v.ua v.us.length v.uc, .slice v.sa v.su.length v.sc, .slice v.ta v.tb.length v.tc] 27))) := Lib.hid (SB.new (S.out.frame.trans (h5.mono S.out.frame.size)) hv 27)
 replace S := Lib.hid (S.out.below hc5)
 replace E := Lib.hid (E.out.below hc5)
 replace Y := Lib.hid (Y.out.below hc5)
 replace Z := Lib.hid (Z.out.below hc5)
 clear hb5 hc5 h5 hv
 clear HMA HRR HNW HAP HRA E
 have KK : ApK w w3.heap.size w4.heap.size w5.heap.size x y z v _ := ⟨S.out, Y.out, Z.out, U.out⟩
 have HSC : Hid (∀ V, ApK w w3.heap.size w4.heap.size w5.heap.size x y z v V → V.cell? ⟨w.heap.size, 0, none⟩ = some (.int .i64 x.now) ∧ V.cell? ⟨w.heap.size, 1, none⟩ = some (.int .i64 x.hor) ∧ V.cell? ⟨w.heap.size, 2, none⟩ = some (.slice x.oa x.op.length x.oc) ∧ V.cell? ⟨w.heap.size, 3, none⟩ = some (.slice x.ua x.us.length x.uc) ∧ V.cell? ⟨w.heap.size, 4, none⟩ = some (.slice x.sa x.su.length x.sc) ∧ V.cell? ⟨w.heap.size, 5, none⟩ = some (.slice x.ta x.tb.length x.tc) ∧ V.cell? ⟨w3.heap.size, 0, none⟩ = some (.int .i64 y.now) ∧ V.cell? ⟨w3.heap.size, 1, none⟩ = some (.int .i64 y.hor) ∧ V.cell? ⟨w3.heap.size, 2, none⟩ = some (.slice y.oa y.op.length y.oc) ∧ V.cell? ⟨w3.heap.size, 3, none⟩ = some (.slice y.ua y.us.length y.uc) ∧ V.cell? ⟨w3.heap.size, 4, none⟩ = some (.slice y.sa y.su.length y.sc) ∧ V.cell? ⟨w3.heap.size, 5, none⟩ = some (.slice y.ta y.tb.length y.tc) ∧ V.cell? ⟨w4.heap.size, 0, none⟩ = some (.int .i64 z.now) ∧ V.cell? ⟨w4.heap.size, 1, none⟩ = some (.int .i64 z.hor) ∧ V.cell? ⟨w4.heap.size, 2, none⟩ = some (.slice z.oa z.op.length z.oc) ∧ V.cell? ⟨w4.heap.size, 3, none⟩ = some (.slice z.ua z.us.length z.uc) ∧ V.cell? ⟨w4.heap.size, 4, none⟩ = some (.slice z.sa z.su.length z.sc) ∧ V.cell? ⟨w4.heap.size, 5, none⟩ = some (.slice z.ta z.tb.length z.tc) ∧ V.cell? ⟨w5.heap.size, 0, none⟩ = some (.int .i64 v.now) ∧ V.cell? ⟨w5.heap.size, 1, none⟩ = some (.int .i64 v.hor) ∧ V.cell? ⟨w5.heap.size, 2, none⟩ = some (.slice v.oa v.op.length v.oc) ∧ V.cell? ⟨w5.heap.size, 3, none⟩ = some (.slice v.ua v.us.length v.uc) ∧ V.cell? ⟨w5.heap.size, 4, none⟩ = some (.slice v.sa v.su.length v.sc) ∧ V.cell? ⟨w5.heap.size, 5, none⟩ = some (.slice v.ta v.tb.length v.tc)) := fun V h => by
  obtain ⟨s0, s1, s2, s3, s4, s5⟩ := h.s.cells
  obtain ⟨y0, y1, y2, y3, y4, y5⟩ := h.y.cells
  obtain ⟨g0, g1, g2, g3, g4, g5⟩ := h.g.cells
  obtain ⟨v0, v1, v2, v3, v4, v5⟩ := h.v.cells
  exact ⟨s0, s1, s2, s3, s4, s5, y0, y1, y2, y3, y4, y5, g0, g1, g2, g3, g4, g5, v0, v1, v2, v3, v4, v5⟩
 have HBL : Hid (∀ V V', ApK w w3.heap.size w4.heap.size w5.heap.size x y z v V → Below V.heap.size V V' → ApK w w3.heap.size w4.heap.size w5.heap.size x y z v V') := fun V V' h q => h.below q
 obtain ⟨k0, k1, k2, k3, k4, k5, k6, k7, k8, k9, k10, k11, k12, k13, k14, k15, k16, k17, k18, k19, k20, k21, k22, k23⟩ := HSC.out _ KK
 have K0 := KK.below (Below.refl _ _).drew
 clear S Y Z U KK
 by_cases g : er = 0
 ·subst g
  have g1 : ((0 : Int) == 0) = true := rfl
  have g2 : ((0 : Int) != 0) = false := rfl
  go_wp2_with fail
  go_region_held3 (fun V => V.cell? ⟨w.heap.size, 0, none⟩ = some (.int .i64 x.now) ∧ V.cell? ⟨w.heap.size, 1, none⟩ = some (.int .i64 x.hor) ∧ V.cell? ⟨w.heap.size, 2, none⟩ = some (.slice x.oa x.op.length x.oc) ∧ V.cell? ⟨w.heap.size, 3, none⟩ = some (.slice x.ua x.us.length x.uc) ∧ V.cell? ⟨w.heap.size, 4, none⟩ = some (.slice x.sa x.su.length x.sc) ∧ V.cell? ⟨w.heap.size, 5, none⟩ = some (.slice x.ta x.tb.length x.tc) ∧ V.cell? ⟨w3.heap.size, 0, none⟩ = some (.int .i64 y.now) ∧ V.cell? ⟨w3.heap.size, 1, none⟩ = some (.int .i64 y.hor) ∧ V.cell? ⟨w3.heap.size, 2, none⟩ = some (.slice y.oa y.op.length y.oc) ∧ V.cell? ⟨w3.heap.size, 3, none⟩ = some (.slice y.ua y.us.length y.uc) ∧ V.cell? ⟨w3.heap.size, 4, none⟩ = some (.slice y.sa y.su.length y.sc) ∧ V.cell? ⟨w3.heap.size, 5, none⟩ = some (.slice y.ta y.tb.length y.tc) ∧ V.cell? ⟨w4.heap.size, 0, none⟩ = some (.int .i64 z.now) ∧ V.cell? ⟨w4.heap.size, 1, none⟩ = some (.int .i64 z.hor) ∧ V.cell? ⟨w4.heap.size, 2, none⟩ = some (.slice z.oa z.op.length z.oc) ∧ V.cell? ⟨w4.heap.size, 3, none⟩ = some (.slice z.ua z.us.length z.uc) ∧ V.cell? ⟨w4.heap.size, 4, none⟩ = some (.slice z.sa z.su.length z.sc) ∧ V.cell? ⟨w4.heap.size, 5, none⟩ = some (.slice z.ta z.tb.length z.tc) ∧ V.cell? ⟨w5.heap.size, 0, none⟩ = some (.int .i64 v.now) ∧ V.cell? ⟨w5.heap.size, 1, none⟩ = some (.int .i64 v.hor) ∧ V.cell? ⟨w5.heap.size, 2, none⟩ = some (.slice v.oa v.op.length v.oc) ∧ V.cell? ⟨w5.heap.size, 3, none⟩ = some (.slice v.ua v.us.length v.uc) ∧ V.cell? ⟨w5.heap.size, 4, none⟩ = some (.slice v.sa v.su.length v.sc) ∧ V.cell? ⟨w5.heap.size, 5, none⟩ = some (.slice v.ta v.tb.length v.tc))
   (first | with_reducible exact HSC.out _ K6 | with_reducible exact HSC.out _ K5 | with_reducible exact HSC.out _ K4 | with_reducible exact HSC.out _ K3 | with_reducible exact HSC.out _ K2 | with_reducible exact HSC.out _ K1 | with_reducible exact HSC.out _ K0)
   (first | (have hseen := K5; clear hseen; go_at_call 20; refine (HRT.out z _ K5.g.at_ hn).mono ?_; rintro r v6 ⟨rfl, h6⟩; have K6 := HBL.out _ _ K5 h6) | (have hseen := K4; clear hseen; go_at_call 18; refine (HS0.out o3 _ p3 K4.s.at_ m3).mono ?_; rintro r v5 ⟨rfl, h5⟩; have K5 := HBL.out _ _ K4 h5) | (have hseen := K3; clear hseen; go_at_call 19; refine (HO0.out y _ K3.y.at_ hm).mono ?_; rintro r v4 ⟨o3, rfl, p3, m3, h4⟩; have K4 := HBL.out _ _ K3 h4) | (have hseen := K2; clear hseen; go_at_call 18; refine (HS1.out o1 v _ p1 K2.v.at_ m1 ho).mono ?_; rintro r v3 ⟨rfl, h3⟩; have K3 := HBL.out _ _ K2 h3) | (have hseen := K1; clear hseen; go_at_call 19; refine (HO1.out z _ K1.g.at_ hn).mono ?_; rintro r v2 ⟨o1, rfl, p1, m1, h2⟩; have K2 := HBL.out _ _ K1 h2) | (have hseen := K0; clear hseen; go_at_call 14; refine (HAL.out _).mono ?_; rintro r v1 ⟨rfl, h1⟩; have K1 := HBL.out _ _ K0 h1))
  all_goals
   have HF := Lib.hid K6.s.frame
   clear K0 K1 K2 K3 K4 K5 K6
   go_wp2
   go_ret
   exact ⟨rfl, HF.out⟩
 ·have g1 : (er == 0) = false := beq_false_of_ne g
  have g2 : (er != 0) = true := bne_iff_ne.2 g
  go_wp2_with fail
  refine wp_region_held_drew (S := (fun V => V.cell? ⟨w.heap.size, 0, none⟩ = some (.int .i64 x.now) ∧ V.cell? ⟨w.heap.size, 1, none⟩ = some (.int .i64 x.hor) ∧ V.cell? ⟨w.heap.size, 2, none⟩ = some (.slice x.oa x.op.length x.oc) ∧ V.cell? ⟨w.heap.size, 3, none⟩ = some (.slice x.ua x.us.length x.uc) ∧ V.cell? ⟨w.heap.size, 4, none⟩ = some (.slice x.sa x.su.length x.sc) ∧ V.cell? ⟨w.heap.size, 5, none⟩ = some (.slice x.ta x.tb.length x.tc) ∧ V.cell? ⟨w3.heap.size, 0, none⟩ = some (.int .i64 y.now) ∧ V.cell? ⟨w3.heap.size, 1, none⟩ = some (.int .i64 y.hor) ∧ V.cell? ⟨w3.heap.size, 2, none⟩ = some (.slice y.oa y.op.length y.oc) ∧ V.cell? ⟨w3.heap.size, 3, none⟩ = some (.slice y.ua y.us.length y.uc) ∧ V.cell? ⟨w3.heap.size, 4, none⟩ = some (.slice y.sa y.su.length y.sc) ∧ V.cell? ⟨w3.heap.size, 5, none⟩ = some (.slice y.ta y.tb.length y.tc) ∧ V.cell? ⟨w4.heap.size, 0, none⟩ = some (.int .i64 z.now) ∧ V.cell? ⟨w4.heap.size, 1, none⟩ = some (.int .i64 z.hor) ∧ V.cell? ⟨w4.heap.size, 2, none⟩ = some (.slice z.oa z.op.length z.oc) ∧ V.cell? ⟨w4.heap.size, 3, none⟩ = some (.slice z.ua z.us.length z.uc) ∧ V.cell? ⟨w4.heap.size, 4, none⟩ = some (.slice z.sa z.su.length z.sc) ∧ V.cell? ⟨w4.heap.size, 5, none⟩ = some (.slice z.ta z.tb.length z.tc) ∧ V.cell? ⟨w5.heap.size, 0, none⟩ = some (.int .i64 v.now) ∧ V.cell? ⟨w5.heap.size, 1, none⟩ = some (.int .i64 v.hor) ∧ V.cell? ⟨w5.heap.size, 2, none⟩ = some (.slice v.oa v.op.length v.oc) ∧ V.cell? ⟨w5.heap.size, 3, none⟩ = some (.slice v.ua v.us.length v.uc) ∧ V.cell? ⟨w5.heap.size, 4, none⟩ = some (.slice v.sa v.su.length v.sc) ∧ V.cell? ⟨w5.heap.size, 5, none⟩ = some (.slice v.ta v.tb.length v.tc))) (by kernel_rfl) ?_ (fun hHeld => ?_)
  ·exact HSC.out _ K0
  refine wpAnyH_ready (rs := [0]) (by kernel_rfl) (by simp) ?_
  refine AllReadyH.cons (o := ⟨some 33, _, _, _, _, _⟩) rfl (fun K hK => ?_) AllReadyH.nil
  go_simp
  refine (HAL.out _).mono ?_
  rintro r v1 ⟨rfl, h1⟩
  have K1 := HBL.out _ _ K0 h1
  go_wp2_with fail
  refine hK.out _ _ ?_ (fun hH0 => ?_)
  ·exact HSC.out _ K1
  clear hK K
  (try simp only [Act.put, List.setIfInBounds_toArray, List.set_cons_zero, List.set_cons_succ])
  refine tV 1 34 ?_
  refine tV 2 35 ?_
  refine tV 4 37 ?_
  refine wpAnyH_ready (rs := [3]) (by kernel_rfl) (by simp) ?_
  refine AllReadyH.cons (o := ⟨some 36, _, _, _, _, _⟩) rfl (fun K hK => ?_) AllReadyH.nil
  go_simp
  refine (HO1.out z _ K1.g.at_ hn).mono ?_
  rintro r v2 ⟨o1, rfl, p1, m1, h2⟩
  have K2 := HBL.out _ _ K1 h2
  go_wp2_with fail
  refine hK.out _ _ ?_ (fun hH3 => ?_)
  ·exact HSC.out _ K2
  clear hK K
  (try simp only [Act.put, List.setIfInBounds_toArray, List.set_cons_zero, List.set_cons_succ])
  refine wpAnyH_ready (rs := [5]) (by kernel_rfl) (by simp) ?_
  refine AllReadyH.cons (o := ⟨some 38, _, _, _, _, _⟩) rfl (fun K hK => ?_) AllReadyH.nil
  go_simp
  refine (HS1.out o1 v _ p1 K2.v.at_ m1 ho).mono ?_
  rintro r v3 ⟨rfl, h3⟩
  have K3 := HBL.out _ _ K2 h3
  go_wp2_with fail
  refine hK.out _ _ ?_ (fun hH5 => ?_)
  ·exact HSC.out _ K3
  clear hK K
  (try simp only [Act.put, List.setIfInBounds_toArray, List.set_cons_zero, List.set_cons_succ])
  refine tV 6 39 ?_
  refine tV 7 40 ?_
  refine tV 8 41 ?_
  refine tV 9 42 ?_
  refine tV 10 43 ?_
  refine tV 11 44 ?_
  refine tV 12 45 ?_
  refine tV 13 46 ?_
  refine tV 15 48 ?_
  refine wpAnyH_ready (rs := [14]) (by kernel_rfl) (by simp) ?_
  refine AllReadyH.cons (o := ⟨some 47, _, _, _, _, _⟩) rfl (fun K hK => ?_) AllReadyH.nil
  go_simp
  refine (HO0.out y _ K3.y.at_ hm).mono ?_
  rintro r v4 ⟨o3, rfl, p3, m3, h4⟩
  have K4 := HBL.out _ _ K3 h4
  go_wp2_with fail
  refine hK.out _ _ ?_ (fun hH14 => ?_)
  ·exact HSC.out _ K4
  clear hK K
  (try simp only [Act.put, List.setIfInBounds_toArray, List.set_cons_zero, List.set_cons_succ])
  refine wpAnyH_ready (rs := [16]) (by kernel_rfl) (by simp) ?_
  refine AllReadyH.cons (o := ⟨some 49, _, _, _, _, _⟩) rfl (fun K hK => ?_) AllReadyH.nil
  go_simp
  refine (HS0.out o3 _ p3 K4.s.at_ m3).mono ?_
  rintro r v5 ⟨rfl, h5⟩
  have K5 := HBL.out _ _ K4 h5
  go_wp2_with fail
  refine hK.out _ _ ?_ (fun hH16 => ?_)
  ·exact HSC.out _ K5
  clear hK K
  (try simp only [Act.put, List.setIfInBounds_toArray, List.set_cons_zero, List.set_cons_succ])
  refine tV 17 50 ?_
  refine tV 18 51 ?_
  refine tV 19 52 ?_
  refine tV 20 53 ?_
  refine tV 21 54 ?_
  refine tU 22 55 ?_
  refine tU 23 56 ?_
  refine tV 24 57 ?_
  refine tV 25 58 ?_
  refine tV 26 4 ?_
  refine wpAnyH_done (by kernel_rfl) ?_ _
  all_goals
   have HF := Lib.hid K5.s.frame
   clear K0 K1 K2 K3 K4 K5
   go_wp2
   go_ret
   exact ⟨rfl, HF.out⟩
theorem contract (H : Type) (enc : TypeId × Value → H) (W : World) (base : Nat) (args : Array Value) (ds gs : List (DataW H)) (before : List MemPlace)
  (hval : ∀ (j : Nat) t v, Tryz.f3.params[j]? = some t → args[j]? = some v → Value.okWide Tryz.prog W .any base t v)
  (hW : DataW.Whole enc Tryz.prog Tryz.f3.params.toList Rows.stateAppliesSpec.vars false W args.toList ds gs before) (hk : Rows.uptoSmall H (ds ++ gs) = true) :
  Calls Tryz.prog 3 args W fun e W' => ∃ v, e = .returned v ∧ Rows.stateAppliesSpec.post enc Tryz.prog Tryz.f3 false true false false W args v W' := by
 have hW' := hW
 obtain ⟨p, q, hA0, hV, rfl, hfz, hnd⟩ := hW
 have hA : DataW.TrodAll enc Tryz.prog W 0 (fun _ => true) true Tryz.f3.params.toList args.toList ds p := hA0
 rw [Tryz.params3] at hA hval
 obtain ⟨v0, vs0, d0, ds0, p0, q0, hargs, rfl, rfl, h0, r0⟩ := trodAll_cons hA
 obtain ⟨v1, vs1, d1, ds1, p1, q1, rfl, rfl, rfl, h1, r1⟩ := trodAll_cons r0
 obtain ⟨rfl, rfl, rfl⟩ := trodAll_nil r1
 obtain rfl : args = #[v0, v1] := by cases args; simp_all
 obtain ⟨rfl, rfl⟩ := trodVars_none hV
 have hbk : Rows.uptoBulkAll [d0, d1] ≤ 1048576 := of_decide_eq_true hk
 simp only [Rows.uptoBulkAll] at hbk
 obtain ⟨a0, rfl, s0, z0, b0⟩ := open_state (hval 0 27 v0 rfl rfl) h0
 have u0 : stCnt a0.m + a0.us.length ≤ 1048576 := by omega
 obtain ⟨a1, rfl, w1⟩ := open_event (hval 1 29 v1 rfl rfl) h1
 refine (walk W a0 s0 z0 u0 a1 w1).mono fun e W' ⟨he, hb⟩ => ?_
 subst he
 exact ⟨_, rfl, law_post rfl hW' (fun ds h => by match ds, h with | [_, _], _ => rfl) (by kernel_rfl) (by kernel_rfl) (by kernel_rfl) hb⟩

set_option maxRecDepth 100000 in
theorem lifted (os : Os) (started : os.Started) (H : Type) (enc : TypeId × Value → H) (F : Stop.Interp) :
  ReturnsInHanded {} Tryz.checked os 3 .any ((Rows.OpenSpec.upto Rows.stateAppliesSpec).pre6 enc Tryz.prog Tryz.f3 Rows.stateAppliesUptoRow.domain false) (((Rows.OpenSpec.upto Rows.stateAppliesSpec).at F).post enc Tryz.prog Tryz.f3 false true false false) := by
 refine returnsInHanded_of_cond (C := Tryz.checked) (s := (Rows.OpenSpec.upto Rows.stateAppliesSpec)) (k := Rows.uptoSmall) rfl own started (by kernel_rfl) Tryz.func3
  (OpenSpec.witness (enc := enc) (C := Tryz.checked) (s := (Rows.OpenSpec.upto Rows.stateAppliesSpec)) (k := Rows.uptoSmall) rfl false ⟨#[], #[.agg #[.int .i64 0, .int .i64 0, .slice none 0 0, .slice none 0 0, .slice none 0 0, .slice none 0 0], .agg #[.int .i64 0, .int .i64 0, .string ByteArray.empty, .string ByteArray.empty, .int .i64 0, .int .i64 0]], []⟩ 8 (by kernel_rfl) (by kernel_rfl) (by kernel_rfl)
   (x := ([.agg [.lit (.int .i64 0), .lit (.int .i64 0), .nil, .nil, .nil, .nil], .agg [.lit (.int .i64 0), .lit (.int .i64 0), .lit (.string []), .lit (.string []), .lit (.int .i64 0), .lit (.int .i64 0)]], [], [])) (by kernel_rfl) rfl (by kernel_rfl)) ?_
 intro W base args ds gs before hval hW _ hk _
 exact contract H enc W base args ds gs before hval hW hk

theorem proved : Rows.StateAppliesUptoSaid :=
 OpenClaim.holds_of_cond 3 Tryz.f3 rfl rfl rfl rfl rfl rfl rfl ⟨rfl, rfl, rfl, rfl, rfl⟩ rfl rfl rfl rfl rfl (by kernel_rfl) Tryz.func3 (by kernel_rfl)
  (of_decide_eq_true (by kernel_rfl)) (by unfold Func.isWrapper; first | (rw [if_pos (by decide +kernel)]; kernel_rfl) | (rw [if_neg (by decide +kernel)]; exact ⟨rfl, rfl⟩))
  (fun os started H enc _ F => lifted os started H enc F)
end Go.Proofs.YtjhdhfokhkcamaaGreat.stateApplies
