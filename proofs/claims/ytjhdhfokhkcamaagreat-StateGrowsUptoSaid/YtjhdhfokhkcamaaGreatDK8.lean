/- StateGrows: an event makes one thing more, at most; a state that is reset, or pruned, has no more than it had; for all states of at most 1048576 things and all events. -/
import Derived.Test.YtjhdhfokhkcamaaGreatP01
import Derived.Test.YtjhdhfokhkcamaaGreatP03
import Derived.Test.YtjhdhfokhkcamaaGreatP09
import Derived.Test.YtjhdhfokhkcamaaGreatP10
import Derived.Test.YtjhdhfokhkcamaaGreatP12
import Derived.Test.YtjhdhfokhkcamaaGreatP18
import Derived.Test.YtjhdhfokhkcamaaGreatP19
import Derived.Test.YtjhdhfokhkcamaaGreatP21
import Derived.Test.YtjhdhfokhkcamaaGreatP25
import Derived.Test.YtjhdhfokhkcamaaGreatP31
import Derived.Test.YtjhdhfokhkcamaaGreatP32
import Derived.Test.YtjhdhfokhkcamaaGreatP33
import Derived.Test.YtjhdhfokhkcamaaGreatP34
import Derived.Test.YtjhdhfokhkcamaaGreatP45
import Derived.JoinedCond
import Derived.Deep.RegionHeld3
import Derived.Test.YtjhdhfokhkcamaaGreatP48
namespace Go.Proofs.YtjhdhfokhkcamaaGreat.stateGrows
open Go.ChangeShapes Go.WideShapes Go.ChangeAt Go.RowKit Go.Proofs
open Go.ChangeMaps (open_string shut_string)
set_option linter.unusedVariables false
set_option maxRecDepth 100000

set_option maxHeartbeats 8000000 in
theorem walk (w : World) (x : SaL) (h : SaAt w x) (z : SzS x.m) (b : stCnt x.m + x.us.length ≤ 1048576) (e : EvM) (he : EFits e) :
    Calls Tryz.prog 10 #[saV x, evV e] w fun e w' => e = .returned (.bool true) ∧ Below w.heap.size w w' := by
  obtain ⟨S, E⟩ := in_event h e 27 29
  unfold saC at S E
  replace S := Lib.hid S
  replace E := Lib.hid E
  unfold evV
  have HAL := Lib.hid alive11
  have HMA := Lib.hid (fun V (h : SaAt V x) => many_any x V h b)
  by_cases g1 : 100 < stCnt x.m + x.us.length
  · have d1 : decide ((100 : Int) < (stCnt x.m : Int) + (x.us.length : Int)) = true := decide_eq_true (by omega)
    clear h z b g1 he
    unfold saV saC
    obtain ⟨cS0, cS1, cS2, cS3, cS4, cS5⟩ := S.out.cells
    obtain ⟨cE0, cE1, cE2, cE3, cE4, cE5⟩ := E.out.cells
    go_enter Tryz.func10, Tryz.ntmps10
    go_wp2_with fail
    refine (HMA.out _ S.out.at_).mono ?_
    rintro r1 w1 ⟨rfl, h1⟩
    clear cS0 cS1 cS2 cS3 cS4 cS5 cE0 cE1 cE2 cE3 cE4 cE5
    replace S := Lib.hid (S.out.below h1)
    replace E := Lib.hid (E.out.below h1)
    clear h1
    obtain ⟨cS0, cS1, cS2, cS3, cS4, cS5⟩ := S.out.cells
    obtain ⟨cE0, cE1, cE2, cE3, cE4, cE5⟩ := E.out.cells
    go_wp2_with fail
    refine (HAL.out _).mono ?_
    rintro r2 w2 ⟨rfl, h2⟩
    clear cS0 cS1 cS2 cS3 cS4 cS5 cE0 cE1 cE2 cE3 cE4 cE5
    replace S := Lib.hid (S.out.below h2)
    replace E := Lib.hid (E.out.below h2)
    clear h2
    go_wp2
    go_ret
    exact ⟨rfl, S.out.frame⟩
  have d1 : decide ((100 : Int) < (stCnt x.m : Int) + (x.us.length : Int)) = false := decide_eq_false (by omega)
  have hf0 : Few x.m 100 := few_cnt (by omega)
  by_cases hr0 : RightS x.m
  case neg =>
    have HRR := Lib.hid (fun V (h : SaAt V x) => g_rwrong x V h rfl z (hf0.mono (by decide)) hr0)
    clear h z b g1 hf0 hr0 he
    unfold saV saC
    obtain ⟨cS0, cS1, cS2, cS3, cS4, cS5⟩ := S.out.cells
    obtain ⟨cE0, cE1, cE2, cE3, cE4, cE5⟩ := E.out.cells
    go_enter Tryz.func10, Tryz.ntmps10
    go_wp2_with fail
    refine (HMA.out _ S.out.at_).mono ?_
    rintro r1 w1 ⟨rfl, h1⟩
    clear cS0 cS1 cS2 cS3 cS4 cS5 cE0 cE1 cE2 cE3 cE4 cE5
    replace S := Lib.hid (S.out.below h1)
    replace E := Lib.hid (E.out.below h1)
    clear h1
    obtain ⟨cS0, cS1, cS2, cS3, cS4, cS5⟩ := S.out.cells
    obtain ⟨cE0, cE1, cE2, cE3, cE4, cE5⟩ := E.out.cells
    go_wp2_with fail
    refine (HRR.out _ S.out.at_).mono ?_
    rintro r2 w2 ⟨rfl, h2⟩
    clear cS0 cS1 cS2 cS3 cS4 cS5 cE0 cE1 cE2 cE3 cE4 cE5
    replace S := Lib.hid (S.out.below h2)
    replace E := Lib.hid (E.out.below h2)
    clear h2
    obtain ⟨cS0, cS1, cS2, cS3, cS4, cS5⟩ := S.out.cells
    obtain ⟨cE0, cE1, cE2, cE3, cE4, cE5⟩ := E.out.cells
    go_wp2_with fail
    refine (HAL.out _).mono ?_
    rintro r3 w3 ⟨rfl, h3⟩
    clear cS0 cS1 cS2 cS3 cS4 cS5 cE0 cE1 cE2 cE3 cE4 cE5
    replace S := Lib.hid (S.out.below h3)
    replace E := Lib.hid (E.out.below h3)
    clear h3
    go_wp2
    go_ret
    exact ⟨rfl, S.out.frame⟩
  have HRR := Lib.hid (fun V (h : SaAt V x) => g_rright x V h rfl z (hf0.mono (by decide)) hr0)
  have hc0 : stCnt x.m ≤ 100 := by omega
  clear b g1
  obtain ⟨M, hM⟩ : ∃ M, x.m = M := ⟨_, rfl⟩
  have hr : RightS M := hM ▸ hr0
  have hf : Few M 100 := hM ▸ hf0
  have hz : SzS M := hM ▸ z
  have hc : stCnt M ≤ 100 := hM ▸ hc0
  have HNW := Lib.hid (fun V (h : SaAt V x) => g_new x V h hM (hf.mono (by decide)))
  have HAP := Lib.hid (fun y V (h : SaAt V y) hm => g_apply (M := M) y e V h hm hr (Nat.le_trans hc (by decide)) he)
  have HCT := Lib.hid (fun y V (h : SaAt V y) hm => g_count (M := M) y V h hm (hf.mono (by decide)) (Nat.le_trans hc (by decide)))
  have hr1 := te_right hr e
  have hc1 := te_cnt hr e
  have HC1 := Lib.hid (fun y V (h : SaAt V y) hm => g_count (M := teV M e) y V h hm ((few_of hr1 (Nat.le_refl _)).mono (by omega)) (by omega))
  have HRE := Lib.hid (fun y V (h : SaAt V y) hm => g_reset (M := M) y V h hm hr (Nat.le_trans hc (by decide)))
  have hc2 := cnt_reset M
  have HC2 := Lib.hid (fun y V (h : SaAt V y) hm => g_count (M := resetS M) y V h hm ((few_of (right_reset hr) (Nat.le_refl _)).mono (by omega)) (by omega))
  have HPR := Lib.hid (fun y V (h : SaAt V y) hm => g_prune (M := M) y V h hm hr (Nat.le_trans hc (by decide)))
  have hc3 := cnt_prune M
  have HC3 := Lib.hid (fun y V (h : SaAt V y) hm => g_count (M := pruneS M) y V h hm ((few_of (right_prune hr) (Nat.le_refl _)).mono (by omega)) (by omega))
  have q1 : decide ((stCnt (teV M e) : Int) ≤ (stCnt M : Int) + 1) = true := decide_eq_true (by omega)
  have q2 : decide ((stCnt (resetS M) : Int) ≤ (stCnt M : Int)) = true := decide_eq_true (by omega)
  have q3 : decide ((stCnt (pruneS M) : Int) ≤ (stCnt M : Int)) = true := decide_eq_true (by omega)
  have q4 : IntKind.i64.wrap ((stCnt M : Int) + 1) = (stCnt M : Int) + 1 := IntWalk.i64_in _ (by omega)
  replace hM := Lib.hid hM
  clear h z hf0 hr0 hc0 hr hf hz hc hc1 hc2 hc3 hr1 he
  generalize (stCnt M : Int) = n0 at *
  generalize (stCnt (teV M e) : Int) = n1 at *
  generalize (stCnt (resetS M) : Int) = n2 at *
  generalize (stCnt (pruneS M) : Int) = n3 at *
  generalize teV M e = M1 at *
  generalize erV M e = er at *
  unfold saV saC
  by_cases g : er = 0
  · subst g
    have g1 : ((0 : Int) == 0) = true := rfl
    have g2 : ((0 : Int) != 0) = false := rfl
    obtain ⟨cS0, cS1, cS2, cS3, cS4, cS5⟩ := S.out.cells
    obtain ⟨cE0, cE1, cE2, cE3, cE4, cE5⟩ := E.out.cells
    go_enter Tryz.func10, Tryz.ntmps10
    go_wp2_with fail
    refine (HMA.out _ S.out.at_).mono ?_
    rintro r1 w1 ⟨rfl, h1⟩
    clear cS0 cS1 cS2 cS3 cS4 cS5 cE0 cE1 cE2 cE3 cE4 cE5
    replace S := Lib.hid (S.out.below h1)
    replace E := Lib.hid (E.out.below h1)
    clear h1
    obtain ⟨cS0, cS1, cS2, cS3, cS4, cS5⟩ := S.out.cells
    obtain ⟨cE0, cE1, cE2, cE3, cE4, cE5⟩ := E.out.cells
    go_wp2_with fail
    refine (HRR.out _ S.out.at_).mono ?_
    rintro r2 w2 ⟨rfl, h2⟩
    clear cS0 cS1 cS2 cS3 cS4 cS5 cE0 cE1 cE2 cE3 cE4 cE5
    replace S := Lib.hid (S.out.below h2)
    replace E := Lib.hid (E.out.below h2)
    clear h2
    obtain ⟨cS0, cS1, cS2, cS3, cS4, cS5⟩ := S.out.cells
    obtain ⟨cE0, cE1, cE2, cE3, cE4, cE5⟩ := E.out.cells
    go_wp2_with fail
    refine (HNW.out _ S.out.at_).mono ?_
    rintro r3 w3 ⟨y, rfl, hy, hm, h3⟩
    clear cS0 cS1 cS2 cS3 cS4 cS5 cE0 cE1 cE2 cE3 cE4 cE5
    unfold saV saC
    have hb3 := below_one w3 (.cells #[.int .i64 y.now, .int .i64 y.hor, .slice y.oa y.op.length y.oc, .slice y.ua y.us.length y.uc, .slice y.sa y.su.length y.sc, .slice y.ta y.tb.length y.tc] 38)
    have hc3 := h3.trans (hb3.mono h3.size)
    have Y : Hid (SB w w3.heap.size 38 y (w3.alloc (.cells #[.int .i64 y.now, .int .i64 y.hor, .slice y.oa y.op.length y.oc, .slice y.ua y.us.length y.uc, .slice y.sa y.su.length y.sc, .slice y.ta y.tb.length y.tc] 38))) := Lib.hid (SB.new (S.out.frame.trans (h3.mono S.out.frame.size)) hy 38)
    replace S := Lib.hid (S.out.below hc3)
    replace E := Lib.hid (E.out.below hc3)
    clear hb3 hc3 h3 hy
    obtain ⟨cS0, cS1, cS2, cS3, cS4, cS5⟩ := S.out.cells
    obtain ⟨cE0, cE1, cE2, cE3, cE4, cE5⟩ := E.out.cells
    obtain ⟨cY0, cY1, cY2, cY3, cY4, cY5⟩ := Y.out.cells
    go_wp2_with fail
    refine (HCT.out y _ Y.out.at_ hm).mono ?_
    rintro r4 w4 ⟨rfl, h4⟩
    clear cS0 cS1 cS2 cS3 cS4 cS5 cE0 cE1 cE2 cE3 cE4 cE5 cY0 cY1 cY2 cY3 cY4 cY5
    replace S := Lib.hid (S.out.below h4)
    replace E := Lib.hid (E.out.below h4)
    replace Y := Lib.hid (Y.out.below h4)
    clear h4
    obtain ⟨cS0, cS1, cS2, cS3, cS4, cS5⟩ := S.out.cells
    obtain ⟨cE0, cE1, cE2, cE3, cE4, cE5⟩ := E.out.cells
    obtain ⟨cY0, cY1, cY2, cY3, cY4, cY5⟩ := Y.out.cells
    go_wp2_with fail
    refine (HAP.out y _ Y.out.at_ hm).mono ?_
    rintro r5 w5 ⟨z, rfl, hz, hn, h5⟩
    clear cS0 cS1 cS2 cS3 cS4 cS5 cE0 cE1 cE2 cE3 cE4 cE5 cY0 cY1 cY2 cY3 cY4 cY5
    unfold saV saC
    have hb5 := below_one w5 (.cells #[.int .i64 z.now, .int .i64 z.hor, .slice z.oa z.op.length z.oc, .slice z.ua z.us.length z.uc, .slice z.sa z.su.length z.sc, .slice z.ta z.tb.length z.tc] 38)
    have hc5 := h5.trans (hb5.mono h5.size)
    have Z : Hid (SB w w5.heap.size 38 z (w5.alloc (.cells #[.int .i64 z.now, .int .i64 z.hor, .slice z.oa z.op.length z.oc, .slice z.ua z.us.length z.uc, .slice z.sa z.su.length z.sc, .slice z.ta z.tb.length z.tc] 38))) := Lib.hid (SB.new (S.out.frame.trans (h5.mono S.out.frame.size)) hz 38)
    replace S := Lib.hid (S.out.below hc5)
    replace E := Lib.hid (E.out.below hc5)
    replace Y := Lib.hid (Y.out.below hc5)
    clear hb5 hc5 h5 hz
    obtain ⟨cS0, cS1, cS2, cS3, cS4, cS5⟩ := S.out.cells
    obtain ⟨cE0, cE1, cE2, cE3, cE4, cE5⟩ := E.out.cells
    obtain ⟨cY0, cY1, cY2, cY3, cY4, cY5⟩ := Y.out.cells
    obtain ⟨cZ0, cZ1, cZ2, cZ3, cZ4, cZ5⟩ := Z.out.cells
    go_wp2_with fail
    refine (HAL.out _).mono ?_
    rintro r6 w6 ⟨rfl, h6⟩
    clear cS0 cS1 cS2 cS3 cS4 cS5 cE0 cE1 cE2 cE3 cE4 cE5 cY0 cY1 cY2 cY3 cY4 cY5 cZ0 cZ1 cZ2 cZ3 cZ4 cZ5
    replace S := Lib.hid (S.out.below h6)
    replace E := Lib.hid (E.out.below h6)
    replace Y := Lib.hid (Y.out.below h6)
    replace Z := Lib.hid (Z.out.below h6)
    clear h6
    obtain ⟨cS0, cS1, cS2, cS3, cS4, cS5⟩ := S.out.cells
    obtain ⟨cE0, cE1, cE2, cE3, cE4, cE5⟩ := E.out.cells
    obtain ⟨cY0, cY1, cY2, cY3, cY4, cY5⟩ := Y.out.cells
    obtain ⟨cZ0, cZ1, cZ2, cZ3, cZ4, cZ5⟩ := Z.out.cells
    go_wp2_with fail
    refine (HC1.out z _ Z.out.at_ hn).mono ?_
    rintro r7 w7 ⟨rfl, h7⟩
    clear cS0 cS1 cS2 cS3 cS4 cS5 cE0 cE1 cE2 cE3 cE4 cE5 cY0 cY1 cY2 cY3 cY4 cY5 cZ0 cZ1 cZ2 cZ3 cZ4 cZ5
    replace S := Lib.hid (S.out.below h7)
    replace E := Lib.hid (E.out.below h7)
    replace Y := Lib.hid (Y.out.below h7)
    replace Z := Lib.hid (Z.out.below h7)
    clear h7
    obtain ⟨cS0, cS1, cS2, cS3, cS4, cS5⟩ := S.out.cells
    obtain ⟨cE0, cE1, cE2, cE3, cE4, cE5⟩ := E.out.cells
    obtain ⟨cY0, cY1, cY2, cY3, cY4, cY5⟩ := Y.out.cells
    obtain ⟨cZ0, cZ1, cZ2, cZ3, cZ4, cZ5⟩ := Z.out.cells
    go_wp2_with fail
    refine (HRE.out y _ Y.out.at_ hm).mono ?_
    rintro r8 w8 ⟨p, rfl, hp, ho, h8⟩
    clear cS0 cS1 cS2 cS3 cS4 cS5 cE0 cE1 cE2 cE3 cE4 cE5 cY0 cY1 cY2 cY3 cY4 cY5 cZ0 cZ1 cZ2 cZ3 cZ4 cZ5
    replace S := Lib.hid (S.out.below h8)
    replace E := Lib.hid (E.out.below h8)
    replace Y := Lib.hid (Y.out.below h8)
    replace Z := Lib.hid (Z.out.below h8)
    clear h8
    replace hp := Lib.hid hp
    go_wp2_with fail
    refine (HC2.out p _ hp.out ho).mono ?_
    rintro r9 w9 ⟨rfl, h9⟩
    replace S := Lib.hid (S.out.below h9)
    replace E := Lib.hid (E.out.below h9)
    replace Y := Lib.hid (Y.out.below h9)
    replace Z := Lib.hid (Z.out.below h9)
    clear h9
    obtain ⟨cS0, cS1, cS2, cS3, cS4, cS5⟩ := S.out.cells
    obtain ⟨cE0, cE1, cE2, cE3, cE4, cE5⟩ := E.out.cells
    obtain ⟨cY0, cY1, cY2, cY3, cY4, cY5⟩ := Y.out.cells
    obtain ⟨cZ0, cZ1, cZ2, cZ3, cZ4, cZ5⟩ := Z.out.cells
    go_wp2_with fail
    refine (HPR.out y _ Y.out.at_ hm).mono ?_
    rintro r10 w10 ⟨q, rfl, hq, hw, h10⟩
    clear cS0 cS1 cS2 cS3 cS4 cS5 cE0 cE1 cE2 cE3 cE4 cE5 cY0 cY1 cY2 cY3 cY4 cY5 cZ0 cZ1 cZ2 cZ3 cZ4 cZ5
    replace S := Lib.hid (S.out.below h10)
    replace E := Lib.hid (E.out.below h10)
    replace Y := Lib.hid (Y.out.below h10)
    replace Z := Lib.hid (Z.out.below h10)
    clear h10
    replace hq := Lib.hid hq
    go_wp2_with fail
    refine (HC3.out q _ hq.out hw).mono ?_
    rintro r11 w11 ⟨rfl, h11⟩
    replace S := Lib.hid (S.out.below h11)
    replace E := Lib.hid (E.out.below h11)
    replace Y := Lib.hid (Y.out.below h11)
    replace Z := Lib.hid (Z.out.below h11)
    clear h11
    go_wp2
    go_ret
    exact ⟨rfl, S.out.frame⟩
  · have g1 : (er == 0) = false := beq_false_of_ne g
    have g2 : (er != 0) = true := bne_iff_ne.2 g
    obtain ⟨cS0, cS1, cS2, cS3, cS4, cS5⟩ := S.out.cells
    obtain ⟨cE0, cE1, cE2, cE3, cE4, cE5⟩ := E.out.cells
    go_enter Tryz.func10, Tryz.ntmps10
    go_wp2_with fail
    refine (HMA.out _ S.out.at_).mono ?_
    rintro r1 w1 ⟨rfl, h1⟩
    clear cS0 cS1 cS2 cS3 cS4 cS5 cE0 cE1 cE2 cE3 cE4 cE5
    replace S := Lib.hid (S.out.below h1)
    replace E := Lib.hid (E.out.below h1)
    clear h1
    obtain ⟨cS0, cS1, cS2, cS3, cS4, cS5⟩ := S.out.cells
    obtain ⟨cE0, cE1, cE2, cE3, cE4, cE5⟩ := E.out.cells
    go_wp2_with fail
    refine (HRR.out _ S.out.at_).mono ?_
    rintro r2 w2 ⟨rfl, h2⟩
    clear cS0 cS1 cS2 cS3 cS4 cS5 cE0 cE1 cE2 cE3 cE4 cE5
    replace S := Lib.hid (S.out.below h2)
    replace E := Lib.hid (E.out.below h2)
    clear h2
    obtain ⟨cS0, cS1, cS2, cS3, cS4, cS5⟩ := S.out.cells
    obtain ⟨cE0, cE1, cE2, cE3, cE4, cE5⟩ := E.out.cells
    go_wp2_with fail
    refine (HNW.out _ S.out.at_).mono ?_
    rintro r3 w3 ⟨y, rfl, hy, hm, h3⟩
    clear cS0 cS1 cS2 cS3 cS4 cS5 cE0 cE1 cE2 cE3 cE4 cE5
    unfold saV saC
    have hb3 := below_one w3 (.cells #[.int .i64 y.now, .int .i64 y.hor, .slice y.oa y.op.length y.oc, .slice y.ua y.us.length y.uc, .slice y.sa y.su.length y.sc, .slice y.ta y.tb.length y.tc] 38)
    have hc3 := h3.trans (hb3.mono h3.size)
    have Y : Hid (SB w w3.heap.size 38 y (w3.alloc (.cells #[.int .i64 y.now, .int .i64 y.hor, .slice y.oa y.op.length y.oc, .slice y.ua y.us.length y.uc, .slice y.sa y.su.length y.sc, .slice y.ta y.tb.length y.tc] 38))) := Lib.hid (SB.new (S.out.frame.trans (h3.mono S.out.frame.size)) hy 38)
    replace S := Lib.hid (S.out.below hc3)
    replace E := Lib.hid (E.out.below hc3)
    clear hb3 hc3 h3 hy
    obtain ⟨cS0, cS1, cS2, cS3, cS4, cS5⟩ := S.out.cells
    obtain ⟨cE0, cE1, cE2, cE3, cE4, cE5⟩ := E.out.cells
    obtain ⟨cY0, cY1, cY2, cY3, cY4, cY5⟩ := Y.out.cells
    go_wp2_with fail
    refine (HCT.out y _ Y.out.at_ hm).mono ?_
    rintro r4 w4 ⟨rfl, h4⟩
    clear cS0 cS1 cS2 cS3 cS4 cS5 cE0 cE1 cE2 cE3 cE4 cE5 cY0 cY1 cY2 cY3 cY4 cY5
    replace S := Lib.hid (S.out.below h4)
    replace E := Lib.hid (E.out.below h4)
    replace Y := Lib.hid (Y.out.below h4)
    clear h4
    obtain ⟨cS0, cS1, cS2, cS3, cS4, cS5⟩ := S.out.cells
    obtain ⟨cE0, cE1, cE2, cE3, cE4, cE5⟩ := E.out.cells
    obtain ⟨cY0, cY1, cY2, cY3, cY4, cY5⟩ := Y.out.cells
    go_wp2_with fail
    refine (HAP.out y _ Y.out.at_ hm).mono ?_
    rintro r5 w5 ⟨z, rfl, hz, hn, h5⟩
    clear cS0 cS1 cS2 cS3 cS4 cS5 cE0 cE1 cE2 cE3 cE4 cE5 cY0 cY1 cY2 cY3 cY4 cY5
    unfold saV saC
    have hb5 := below_one w5 (.cells #[.int .i64 z.now, .int .i64 z.hor, .slice z.oa z.op.length z.oc, .slice z.ua z.us.length z.uc, .slice z.sa z.su.length z.sc, .slice z.ta z.tb.length z.tc] 38)
    have hc5 := h5.trans (hb5.mono h5.size)
    have Z : Hid (SB w w5.heap.size 38 z (w5.alloc (.cells #[.int .i64 z.now, .int .i64 z.hor, .slice z.oa z.op.length z.oc, .slice z.ua z.us.length z.uc, .slice z.sa z.su.length z.sc, .slice z.ta z.tb.length z.tc] 38))) := Lib.hid (SB.new (S.out.frame.trans (h5.mono S.out.frame.size)) hz 38)
    replace S := Lib.hid (S.out.below hc5)
    replace E := Lib.hid (E.out.below hc5)
    replace Y := Lib.hid (Y.out.below hc5)
    clear hb5 hc5 h5 hz
    obtain ⟨cS0, cS1, cS2, cS3, cS4, cS5⟩ := S.out.cells
    obtain ⟨cE0, cE1, cE2, cE3, cE4, cE5⟩ := E.out.cells
    obtain ⟨cY0, cY1, cY2, cY3, cY4, cY5⟩ := Y.out.cells
    obtain ⟨cZ0, cZ1, cZ2, cZ3, cZ4, cZ5⟩ := Z.out.cells
    go_wp2_with fail
    refine (HAL.out _).mono ?_
    rintro r6 w6 ⟨rfl, h6⟩
    clear cS0 cS1 cS2 cS3 cS4 cS5 cE0 cE1 cE2 cE3 cE4 cE5 cY0 cY1 cY2 cY3 cY4 cY5 cZ0 cZ1 cZ2 cZ3 cZ4 cZ5
    replace S := Lib.hid (S.out.below h6)
    replace E := Lib.hid (E.out.below h6)
    replace Y := Lib.hid (Y.out.below h6)
    replace Z := Lib.hid (Z.out.below h6)
    clear h6
    obtain ⟨cS0, cS1, cS2, cS3, cS4, cS5⟩ := S.out.cells
    obtain ⟨cE0, cE1, cE2, cE3, cE4, cE5⟩ := E.out.cells
    obtain ⟨cY0, cY1, cY2, cY3, cY4, cY5⟩ := Y.out.cells
    obtain ⟨cZ0, cZ1, cZ2, cZ3, cZ4, cZ5⟩ := Z.out.cells
    go_wp2_with fail
    refine (HRE.out y _ Y.out.at_ hm).mono ?_
    rintro r7 w7 ⟨p, rfl, hp, ho, h7⟩
    clear cS0 cS1 cS2 cS3 cS4 cS5 cE0 cE1 cE2 cE3 cE4 cE5 cY0 cY1 cY2 cY3 cY4 cY5 cZ0 cZ1 cZ2 cZ3 cZ4 cZ5
    replace S := Lib.hid (S.out.below h7)
    replace E := Lib.hid (E.out.below h7)
    replace Y := Lib.hid (Y.out.below h7)
    replace Z := Lib.hid (Z.out.below h7)
    clear h7
    replace hp := Lib.hid hp
    go_wp2_with fail
    refine (HC2.out p _ hp.out ho).mono ?_
    rintro r8 w8 ⟨rfl, h8⟩
    replace S := Lib.hid (S.out.below h8)
    replace E := Lib.hid (E.out.below h8)
    replace Y := Lib.hid (Y.out.below h8)
    replace Z := Lib.hid (Z.out.below h8)
    clear h8
    obtain ⟨cS0, cS1, cS2, cS3, cS4, cS5⟩ := S.out.cells
    obtain ⟨cE0, cE1, cE2, cE3, cE4, cE5⟩ := E.out.cells
    obtain ⟨cY0, cY1, cY2, cY3, cY4, cY5⟩ := Y.out.cells
    obtain ⟨cZ0, cZ1, cZ2, cZ3, cZ4, cZ5⟩ := Z.out.cells
    go_wp2_with fail
    refine (HPR.out y _ Y.out.at_ hm).mono ?_
    rintro r9 w9 ⟨q, rfl, hq, hw, h9⟩
    clear cS0 cS1 cS2 cS3 cS4 cS5 cE0 cE1 cE2 cE3 cE4 cE5 cY0 cY1 cY2 cY3 cY4 cY5 cZ0 cZ1 cZ2 cZ3 cZ4 cZ5
    replace S := Lib.hid (S.out.below h9)
    replace E := Lib.hid (E.out.below h9)
    replace Y := Lib.hid (Y.out.below h9)
    replace Z := Lib.hid (Z.out.below h9)
    clear h9
    replace hq := Lib.hid hq
    go_wp2_with fail
    refine (HC3.out q _ hq.out hw).mono ?_
    rintro r10 w10 ⟨rfl, h10⟩
    replace S := Lib.hid (S.out.below h10)
    replace E := Lib.hid (E.out.below h10)
    replace Y := Lib.hid (Y.out.below h10)
    replace Z := Lib.hid (Z.out.below h10)
    clear h10
    go_wp2
    go_ret
    exact ⟨rfl, S.out.frame⟩
theorem contract (H : Type) (enc : TypeId × Value → H) (W : World) (base : Nat) (args : Array Value) (ds gs : List (DataW H)) (before : List MemPlace)
    (hval : ∀ (j : Nat) t v, Tryz.f10.params[j]? = some t → args[j]? = some v → Value.okWide Tryz.prog W .any base t v)
    (hW : DataW.Whole enc Tryz.prog Tryz.f10.params.toList Rows.stateGrowsSpec.vars false W args.toList ds gs before) (hk : Rows.uptoSmall H (ds ++ gs) = true) :
    Calls Tryz.prog 10 args W fun e W' => ∃ v, e = .returned v ∧ Rows.stateGrowsSpec.post enc Tryz.prog Tryz.f10 false true false false W args v W' := by
  have hW' := hW
  obtain ⟨p, q, hA0, hV, rfl, hfz, hnd⟩ := hW
  have hA : DataW.TrodAll enc Tryz.prog W 0 (fun _ => true) true Tryz.f10.params.toList args.toList ds p := hA0
  rw [Tryz.params10] at hA hval
  obtain ⟨v0, vs0, d0, ds0, p0, q0, hargs, rfl, rfl, h0, r0⟩ := trodAll_cons hA
  obtain ⟨v1, vs1, d1, ds1, p1, q1, rfl, rfl, rfl, h1, r1⟩ := trodAll_cons r0
  obtain ⟨rfl, rfl, rfl⟩ := trodAll_nil r1
  obtain rfl : args = #[v0, v1] := by cases args; simp_all
  obtain ⟨rfl, rfl⟩ := trodVars_none hV
  have hbk : Rows.uptoBulkAll [d0, d1] ≤ 1048576 := of_decide_eq_true hk
  simp only [Rows.uptoBulkAll] at hbk
  obtain ⟨a0, rfl, s0, z0, b0⟩ := open_state (hval 0 27 v0 rfl rfl) h0
  have u0 : stCnt a0.m + a0.us.length ≤ 1048576 := by omega
  obtain ⟨a1, rfl, w1⟩ := open_event (hval 1 29 v1 rfl rfl) h1
  refine (walk W a0 s0 z0 u0 a1 w1).mono fun e W' ⟨he, hb⟩ => ?_
  subst he
  exact ⟨_, rfl, law_post rfl hW' (fun ds h => by match ds, h with | [_, _], _ => rfl) (by kernel_rfl) (by kernel_rfl) (by kernel_rfl) hb⟩

set_option maxRecDepth 100000 in
theorem lifted (os : Os) (started : os.Started) (H : Type) (enc : TypeId × Value → H) (F : Stop.Interp) :
    ReturnsInHanded {} Tryz.checked os 10 .any ((Rows.OpenSpec.upto Rows.stateGrowsSpec).pre6 enc Tryz.prog Tryz.f10 Rows.stateGrowsUptoRow.domain false) (((Rows.OpenSpec.upto Rows.stateGrowsSpec).at F).post enc Tryz.prog Tryz.f10 false true false false) := by
  refine returnsInHanded_of_cond (C := Tryz.checked) (s := (Rows.OpenSpec.upto Rows.stateGrowsSpec)) (k := Rows.uptoSmall) rfl own started (by kernel_rfl) Tryz.func10
    (OpenSpec.witness (enc := enc) (C := Tryz.checked) (s := (Rows.OpenSpec.upto Rows.stateGrowsSpec)) (k := Rows.uptoSmall) rfl false ⟨#[], #[.agg #[.int .i64 0, .int .i64 0, .slice none 0 0, .slice none 0 0, .slice none 0 0, .slice none 0 0], .agg #[.int .i64 0, .int .i64 0, .string ByteArray.empty, .string ByteArray.empty, .int .i64 0, .int .i64 0]], []⟩ 8 (by kernel_rfl) (by kernel_rfl) (by kernel_rfl)
      (x := ([.agg [.lit (.int .i64 0), .lit (.int .i64 0), .nil, .nil, .nil, .nil], .agg [.lit (.int .i64 0), .lit (.int .i64 0), .lit (.string []), .lit (.string []), .lit (.int .i64 0), .lit (.int .i64 0)]], [], [])) (by kernel_rfl) rfl (by kernel_rfl)) ?_
  intro W base args ds gs before hval hW _ hk _
  exact contract H enc W base args ds gs before hval hW hk

theorem proved : Rows.StateGrowsUptoSaid :=
  OpenClaim.holds_of_cond 10 Tryz.f10 rfl rfl rfl rfl rfl rfl rfl ⟨rfl, rfl, rfl, rfl, rfl⟩ rfl rfl rfl rfl rfl (by kernel_rfl) Tryz.func10 (by kernel_rfl)
    (of_decide_eq_true (by kernel_rfl)) (by unfold Func.isWrapper; first | (rw [if_pos (by decide +kernel)]; kernel_rfl) | (rw [if_neg (by decide +kernel)]; exact ⟨rfl, rfl⟩))
    (fun os started H enc _ F => lifted os started H enc F)
end Go.Proofs.YtjhdhfokhkcamaaGreat.stateGrows
