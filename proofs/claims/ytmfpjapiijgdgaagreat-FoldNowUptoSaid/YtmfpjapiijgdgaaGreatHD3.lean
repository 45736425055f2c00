/- FoldNow: a state's time is that of the last event that was taken, which is the latest one; for all states of at most 1048576 things and all rows of events. -/
import Derived.JoinedCond
import Derived.Deep.RegionHeld3
import Derived.OrdersHeld
import Derived.Test.YtmfpjapiijgdgaaGreatQ00
import Derived.Test.YtmfpjapiijgdgaaGreatRows
import Derived.Test.YtmfpjapiijgdgaaGreatTQ
import Derived.Test.YtmfpjapiijgdgaaGreatQ01
import Derived.Test.YtmfpjapiijgdgaaGreatQ04
import Derived.Test.YtmfpjapiijgdgaaGreatQ06
import Derived.Test.YtmfpjapiijgdgaaGreatQ07
import Derived.Test.YtmfpjapiijgdgaaGreatQ08
import Derived.Test.YtmfpjapiijgdgaaGreatQ09
import Derived.Test.YtmfpjapiijgdgaaGreatQ10
import Derived.Test.YtmfpjapiijgdgaaGreatQ13
import Derived.Test.YtmfpjapiijgdgaaGreatQ17
import Derived.Test.YtmfpjapiijgdgaaGreatQ27
import Derived.Test.YtmfpjapiijgdgaaGreatQ32
import Derived.Test.YtmfpjapiijgdgaaGreatQ38
import Derived.Test.YtmfpjapiijgdgaaGreatQ45
import Derived.Test.YtmfpjapiijgdgaaGreatQ48
import Derived.Test.YtmfpjapiijgdgaaGreatQ49
import Derived.Test.YtmfpjapiijgdgaaGreatQ58
namespace Go.Proofs.YtmfpjapiijgdgaaGreat.foldNow
open Go.ChangeShapes Go.WideShapes Go.ChangeAt Go.RowKit Go.Proofs
open Go.ChangeMaps (open_string shut_string)
set_option linter.unusedVariables false
set_option maxRecDepth 100000

set_option maxHeartbeats 8000000 in
theorem walk (w : World) (x : SaL) (h : SaAt w x) (z : SzS x.m) (b : stCnt x.m + x.us.length ≤ 1048576) (a : Option Addr) (c : Nat) (l : List EvM) (hs : EvSl w a l) (hf : FitsV l) (hlc : l.length ≤ c) (hcm : c ≤ maxLen) (hn : a = none → c = 0) :
  Calls Tryz.prog 8 #[saV x, .slice a l.length c] w fun e w' => e = .returned (.bool true) ∧ Below w.heap.size w w' := by
 have S := SB.new (Below.refl w.heap.size w) h 27
 have A0 := hs.below (below_one w (.cells (saC x) 27))
 unfold saC at S A0
 replace S := Lib.hid S
 replace A0 := Lib.hid A0
 have HAL := Lib.hid alive12
 have HMA := Lib.hid (fun V (h : SaAt V x) => many_any x V h b)
 by_cases g1 : 60 < stCnt x.m + x.us.length
 ·have d1 : decide ((60 : Int) < (stCnt x.m : Int) + (x.us.length : Int)) = true := decide_eq_true (by omega)
  clear h z b hs hf hlc hcm hn g1 A0
  unfold saV saC
  obtain ⟨cS0, cS1, cS2, cS3, cS4, cS5⟩ := S.out.cells
  go_enter Tryz.func8, Tryz.ntmps8
  go_wp2_with fail
  refine (HMA.out _ S.out.at_).mono ?_
  rintro r1 w1 ⟨rfl, h1⟩
  clear cS0 cS1 cS2 cS3 cS4 cS5
  replace S := Lib.hid (S.out.below h1)
  clear h1
  obtain ⟨cS0, cS1, cS2, cS3, cS4, cS5⟩ := S.out.cells
  go_wp2_with fail
  refine (HAL.out _).mono ?_
  rintro r2 w2 ⟨rfl, h2⟩
  clear cS0 cS1 cS2 cS3 cS4 cS5
  replace S := Lib.hid (S.out.below h2)
  clear h2
  go_wp2
  go_ret
  exact ⟨rfl, S.out.frame⟩
 have d1 : decide ((60 : Int) < (stCnt x.m : Int) + (x.us.length : Int)) = false := decide_eq_false (by omega)
 have hf0 : Few x.m 60 := few_cnt (by omega)
 by_cases hr0 : RightS x.m
 case neg =>
  have HRR := Lib.hid (fun V (h : SaAt V x) => g_rwrong x V h rfl z (hf0.mono (by decide)) hr0)
  clear h z b hs hf hlc hcm hn g1 hf0 hr0 A0
  unfold saV saC
  obtain ⟨cS0, cS1, cS2, cS3, cS4, cS5⟩ := S.out.cells
  go_enter Tryz.func8, Tryz.ntmps8
  go_wp2_with fail
  refine (HMA.out _ S.out.at_).mono ?_
  rintro r1 w1 ⟨rfl, h1⟩
  clear cS0 cS1 cS2 cS3 cS4 cS5
  replace S := Lib.hid (S.out.below h1)
  clear h1
  obtain ⟨cS0, cS1, cS2, cS3, cS4, cS5⟩ := S.out.cells
  go_wp2_with fail
  refine (HRR.out _ S.out.at_).mono ?_
  rintro r2 w2 ⟨rfl, h2⟩
  clear cS0 cS1 cS2 cS3 cS4 cS5
  replace S := Lib.hid (S.out.below h2)
  clear h2
  obtain ⟨cS0, cS1, cS2, cS3, cS4, cS5⟩ := S.out.cells
  go_wp2_with fail
  refine (HAL.out _).mono ?_
  rintro r3 w3 ⟨rfl, h3⟩
  clear cS0 cS1 cS2 cS3 cS4 cS5
  replace S := Lib.hid (S.out.below h3)
  clear h3
  go_wp2
  go_ret
  exact ⟨rfl, S.out.frame⟩
 have HRR := Lib.hid (fun V (h : SaAt V x) => g_rright x V h rfl z (hf0.mono (by decide)) hr0)
 have hc0 : stCnt x.m ≤ 60 := by omega
 by_cases e0 : 40 < l.length
 ·have d2 : decide ((40 : Int) < (l.length : Int)) = true := decide_eq_true (by omega)
  clear h z b hs hf hlc hcm hn g1 hf0 hr0 hc0 A0 e0
  unfold saV saC
  obtain ⟨cS0, cS1, cS2, cS3, cS4, cS5⟩ := S.out.cells
  go_enter Tryz.func8, Tryz.ntmps8
  go_wp2_with fail
  refine (HMA.out _ S.out.at_).mono ?_
  rintro r1 w1 ⟨rfl, h1⟩
  clear cS0 cS1 cS2 cS3 cS4 cS5
  replace S := Lib.hid (S.out.below h1)
  clear h1
  obtain ⟨cS0, cS1, cS2, cS3, cS4, cS5⟩ := S.out.cells
  go_wp2_with fail
  refine (HRR.out _ S.out.at_).mono ?_
  rintro r2 w2 ⟨rfl, h2⟩
  clear cS0 cS1 cS2 cS3 cS4 cS5
  replace S := Lib.hid (S.out.below h2)
  clear h2
  obtain ⟨cS0, cS1, cS2, cS3, cS4, cS5⟩ := S.out.cells
  go_wp2_with fail
  refine (HAL.out _).mono ?_
  rintro r3 w3 ⟨rfl, h3⟩
  clear cS0 cS1 cS2 cS3 cS4 cS5
  replace S := Lib.hid (S.out.below h3)
  clear h3
  go_wp2
  go_ret
  exact ⟨rfl, S.out.frame⟩
 have d2 : decide ((40 : Int) < (l.length : Int)) = false := decide_eq_false (by omega)
 obtain ⟨M, hM⟩ : ∃ M, x.m = M := ⟨_, rfl⟩
 have hr : RightS M := hM ▸ hr0
 have hfw : Few M 60 := hM ▸ hf0
 have hc : stCnt M + l.length ≤ 200 := by rw [← hM]; omega
 have hxn : x.now = M.now := by rw [← hM]; rfl
 have HNW := Lib.hid (fun V (h : SaAt V x) => g_new x V h hM (hfw.mono (by decide)))
 have HNV := Lib.hid (fun V (h : EvSl V a l) => h_news a c l V h (by omega))
 have HFO := Lib.hid (fun y (hm : y.m = M) b q V (h : SaAt V y) (k : EvSl V b l) => h_fold y hm b q l V h hr k hf hc)
 have HTK := Lib.hid (fun y (hm : y.m = M) b q V (h : SaAt V y) (k : EvSl V b l) => h_taken y hm b q l V h hr k hf hc)
 have htl : (takenE M l).length ≤ 1000 := Nat.le_trans (takenE_len l M) (by omega)
 have HLT := Lib.hid (fun b q V (h : EvSl V b (takenE M l)) (k1 : (takenE M l).length ≤ q) (k2 : q ≤ maxLen) => platest_any b q (takenE M l) V h htl k1 k2)
 obtain ⟨ta1, ta2, -⟩ := taken_again l M
 obtain ⟨tb1, tb2⟩ := now_all _ M ta2
 have hnw := now_fold l M
 have HZ0 : Hid (takenE M l = [] → (foldE M l).now = x.now) := Lib.hid fun e => by rw [hxn, ← ta1, e]; rfl
 have HZ1 : Hid (takenE M l ≠ [] → (foldE M l).now = latA (takenE M l) ∧ x.now ≤ latA (takenE M l)) := Lib.hid fun e => by
  have e1 := latA_all ta2 e
  rw [ta1] at e1
  exact ⟨e1.symm, by rw [e1, hxn]; exact hnw⟩
 have HZ2 : Hid (∀ (n : Nat), (takenE M l).length = n + 1 → ∀ h : n < (takenE M l).length, ((takenE M l)[n]'h).at_ = latA (takenE M l)) := Lib.hid fun n hn hlt => by
  have hne : takenE M l ≠ [] := fun e => by rw [e] at hn; cases hn
  rw [latA_all ta2 hne, ← tb2 hne, List.getLast_eq_getElem hne]
  congr 2
  omega
 unfold FoldsV at HFO
 unfold RowsTo at HNV HTK
 clear h z b hs hf hlc hcm hn g1 hf0 hr0 hc0 e0 hr hfw hc hxn ta1 ta2 tb1 tb2 hnw
 replace hM := Lib.hid hM
 obtain ⟨nf, hnf⟩ : ∃ nf, nf = (foldE M l).now := ⟨_, rfl⟩
 have HZN : Hid (∀ z : SaL, z.m = foldE M l → z.now = nf) := Lib.hid fun z hz => by rw [hnf, ← hz]; rfl
 rw [← hnf] at HZ0 HZ1
 clear hnf
 generalize foldE M l = N at *
 generalize takenE M l = T at *
 generalize latA T = at_ at *
 unfold saV saC
 obtain ⟨cS0, cS1, cS2, cS3, cS4, cS5⟩ := S.out.cells
 go_enter Tryz.func8, Tryz.ntmps8
 go_wp2_with fail
 refine (HMA.out _ S.out.at_).mono ?_
 rintro r1 w1 ⟨rfl, h1⟩
 clear cS0 cS1 cS2 cS3 cS4 cS5
 replace S := Lib.hid (S.out.below h1)
 replace A0 := Lib.hid (A0.out.below h1)
 clear h1
 obtain ⟨cS0, cS1, cS2, cS3, cS4, cS5⟩ := S.out.cells
 go_wp2_with fail
 refine (HRR.out _ S.out.at_).mono ?_
 rintro r2 w2 ⟨rfl, h2⟩
 clear cS0 cS1 cS2 cS3 cS4 cS5
 replace S := Lib.hid (S.out.below h2)
 replace A0 := Lib.hid (A0.out.below h2)
 clear h2
 obtain ⟨cS0, cS1, cS2, cS3, cS4, cS5⟩ := S.out.cells
 go_wp2_with fail
 refine (HNW.out _ S.out.at_).mono ?_
 rintro r3 w3 ⟨y, rfl, hy, hm, h3⟩
 clear cS0 cS1 cS2 cS3 cS4 cS5
 replace S := Lib.hid (S.out.below h3)
 replace A0 := Lib.hid (A0.out.below h3)
 have Y := Lib.hid (hy)
 clear h3 hy
 obtain ⟨cS0, cS1, cS2, cS3, cS4, cS5⟩ := S.out.cells
 unfold saV saC
 go_wp2_with fail
 refine (HNV.out _ A0.out).mono ?_
 rintro r4 w4 ⟨b4, q4, rfl, p4, -, -, -, h4⟩
 clear cS0 cS1 cS2 cS3 cS4 cS5
 replace S := Lib.hid (S.out.below h4)
 replace A0 := Lib.hid (A0.out.below h4)
 replace Y := Lib.hid (Y.out.below h4)
 have B4 := Lib.hid (p4)
 clear h4 p4
 obtain ⟨cS0, cS1, cS2, cS3, cS4, cS5⟩ := S.out.cells
 go_wp2_with fail
 refine (HFO.out y hm b4 q4 _ Y.out B4.out).mono ?_
 rintro r5 w5 ⟨z, b5, q5, rfl, hz, hzm, -, -, -, h5⟩
 clear cS0 cS1 cS2 cS3 cS4 cS5
 clear Y B4
 have hb5 := below_one w5 (.cells #[.int .i64 z.now, .int .i64 z.hor, .slice z.oa z.op.length z.oc, .slice z.ua z.us.length z.uc, .slice z.sa z.su.length z.sc, .slice z.ta z.tb.length z.tc] 39)
 have hc5 := h5.trans (hb5.mono h5.size)
 have Z : Hid (SB w w5.heap.size 39 z (w5.alloc (.cells #[.int .i64 z.now, .int .i64 z.hor, .slice z.oa z.op.length z.oc, .slice z.ua z.us.length z.uc, .slice z.sa z.su.length z.sc, .slice z.ta z.tb.length z.tc] 39))) := Lib.hid (SB.new (S.out.frame.trans (h5.mono S.out.frame.size)) hz 39)
 replace S := Lib.hid (S.out.below hc5)
 replace A0 := Lib.hid (A0.out.below hc5)
 clear hb5 hc5 hz
 clear h5
 (try unfold saV saC)
 obtain ⟨cS0, cS1, cS2, cS3, cS4, cS5⟩ := S.out.cells
 obtain ⟨cZ0, cZ1, cZ2, cZ3, cZ4, cZ5⟩ := Z.out.cells
 have hzn := Lib.hid (HZN.out z hzm)
 clear hzm hm
 go_wp2_with fail
 refine (HNW.out _ S.out.at_).mono ?_
 rintro r6 w6 ⟨y', rfl, hy, hm, h6⟩
 clear cS0 cS1 cS2 cS3 cS4 cS5 cZ0 cZ1 cZ2 cZ3 cZ4 cZ5
 replace S := Lib.hid (S.out.below h6)
 replace A0 := Lib.hid (A0.out.below h6)
 replace Z := Lib.hid (Z.out.below h6)
 have Y := Lib.hid (hy)
 clear h6 hy
 obtain ⟨cS0, cS1, cS2, cS3, cS4, cS5⟩ := S.out.cells
 obtain ⟨cZ0, cZ1, cZ2, cZ3, cZ4, cZ5⟩ := Z.out.cells
 unfold saV saC
 go_wp2_with fail
 refine (HNV.out _ A0.out).mono ?_
 rintro r7 w7 ⟨b7, q7, rfl, p7, -, -, -, h7⟩
 clear cS0 cS1 cS2 cS3 cS4 cS5 cZ0 cZ1 cZ2 cZ3 cZ4 cZ5
 replace S := Lib.hid (S.out.below h7)
 replace A0 := Lib.hid (A0.out.below h7)
 replace Z := Lib.hid (Z.out.below h7)
 replace Y := Lib.hid (Y.out.below h7)
 have B7 := Lib.hid (p7)
 clear h7 p7
 obtain ⟨cS0, cS1, cS2, cS3, cS4, cS5⟩ := S.out.cells
 obtain ⟨cZ0, cZ1, cZ2, cZ3, cZ4, cZ5⟩ := Z.out.cells
 go_wp2_with fail
 refine (HTK.out y' hm b7 q7 _ Y.out B7.out).mono ?_
 rintro r8 w8 ⟨b8, q8, rfl, p8, k8, m8, -, h8⟩
 clear cS0 cS1 cS2 cS3 cS4 cS5 cZ0 cZ1 cZ2 cZ3 cZ4 cZ5
 clear Y B7
 replace S := Lib.hid (S.out.below h8)
 replace A0 := Lib.hid (A0.out.below h8)
 replace Z := Lib.hid (Z.out.below h8)
 have R := Lib.hid (p8)
 clear h8 p8
 obtain ⟨cS0, cS1, cS2, cS3, cS4, cS5⟩ := S.out.cells
 obtain ⟨cZ0, cZ1, cZ2, cZ3, cZ4, cZ5⟩ := Z.out.cells
 go_wp2_with fail
 refine (HLT.out b8 q8 _ R.out k8 m8).mono ?_
 rintro r9 w9 ⟨rfl, h9⟩
 clear cS0 cS1 cS2 cS3 cS4 cS5 cZ0 cZ1 cZ2 cZ3 cZ4 cZ5
 replace S := Lib.hid (S.out.below h9)
 replace A0 := Lib.hid (A0.out.below h9)
 replace Z := Lib.hid (Z.out.below h9)
 replace R := Lib.hid (R.out.below h9)
 clear h9
 obtain ⟨cS0, cS1, cS2, cS3, cS4, cS5⟩ := S.out.cells
 obtain ⟨cZ0, cZ1, cZ2, cZ3, cZ4, cZ5⟩ := Z.out.cells
 clear HMA HRR HNW HNV HFO HTK HLT k8 m8 hm A0
 by_cases ht : T = []
 ·have hl0 : T.length = 0 := by rw [ht]; rfl
  have d5 : decide (0 < T.length) = false := decide_eq_false (by omega)
  have hq : (z.now == x.now) = true := beq_iff_eq.2 (hzn.out.trans (HZ0.out ht))
  clear ht hl0 HZ0 HZ1 HZ2
  go_wp2_with fail
  refine (HAL.out _).mono ?_
  rintro r10 w10 ⟨rfl, h10⟩
  clear cS0 cS1 cS2 cS3 cS4 cS5 cZ0 cZ1 cZ2 cZ3 cZ4 cZ5
  replace S := Lib.hid (S.out.below h10)
  replace R := Lib.hid (R.out.below h10)
  replace Z := Lib.hid (Z.out.below h10)
  clear h10
  obtain ⟨cS0, cS1, cS2, cS3, cS4, cS5⟩ := S.out.cells
  obtain ⟨cZ0, cZ1, cZ2, cZ3, cZ4, cZ5⟩ := Z.out.cells
  go_wp2
  go_ret
  exact ⟨rfl, S.out.frame⟩
 ·have hl0 : 0 < T.length := List.length_pos_iff.2 ht
  have d5 : decide (0 < T.length) = true := decide_eq_true hl0
  obtain ⟨n, hn⟩ : ∃ n, T.length = n + 1 := ⟨T.length - 1, by omega⟩
  obtain ⟨hz1, hz2⟩ := HZ1.out ht
  have hq : (z.now == at_) = true := beq_iff_eq.2 (hzn.out.trans hz1)
  have hge : decide (x.now ≤ at_) = true := decide_eq_true hz2
  have hsub : IntKind.i64.wrap ((T.length : Int) - 1) = (n : Int) := by rw [IntWalk.i64_in _ (by omega)]; omega
  have hnT : (n : Int) < (T.length : Int) := by omega
  have hnT2 : n < T.length := by omega
  have HLA := Lib.hid (HZ2.out n hn hnT2)
  clear ht hl0 HZ0 HZ1 HZ2 hz1 hz2 hn
  go_wp2_with fail
  refine (HAL.out _).mono ?_
  rintro r10 w10 ⟨rfl, h10⟩
  clear cS0 cS1 cS2 cS3 cS4 cS5 cZ0 cZ1 cZ2 cZ3 cZ4 cZ5
  replace S := Lib.hid (S.out.below h10)
  replace R := Lib.hid (R.out.below h10)
  replace Z := Lib.hid (Z.out.below h10)
  clear h10
  obtain ⟨cS0, cS1, cS2, cS3, cS4, cS5⟩ := S.out.cells
  obtain ⟨cZ0, cZ1, cZ2, cZ3, cZ4, cZ5⟩ := Z.out.cells
  obtain ⟨bt, ot, rfl, -, t0, t1, t2, t3, t4, t5⟩ := R.out.at_ hnT2
  rw [HLA.out] at t1
  have hqt : (at_ == at_) = true := beq_self_eq_true _
  go_wp2
  go_ret
  exact ⟨rfl, S.out.frame⟩
theorem contract (H : Type) (enc : TypeId × Value → H) (W : World) (base : Nat) (args : Array Value) (ds gs : List (DataW H)) (before : List MemPlace)
  (hval : ∀ (j : Nat) t v, Tryz.f8.params[j]? = some t → args[j]? = some v → Value.okWide Tryz.prog W .any base t v)
  (hW : DataW.Whole enc Tryz.prog Tryz.f8.params.toList Rows.foldNowSpec.vars false W args.toList ds gs before) (hk : Rows.uptoSmall H (ds ++ gs) = true) :
  Calls Tryz.prog 8 args W fun e W' => ∃ v, e = .returned v ∧ Rows.foldNowSpec.post enc Tryz.prog Tryz.f8 false true false false W args v W' := by
 have hW' := hW
 obtain ⟨p, q, hA0, hV, rfl, hfz, hnd⟩ := hW
 have hA : DataW.TrodAll enc Tryz.prog W 0 (fun _ => true) true Tryz.f8.params.toList args.toList ds p := hA0
 rw [Tryz.params8] at hA hval
 obtain ⟨v0, vs0, d0, ds0, p0, q0, hargs, rfl, rfl, h0, r0⟩ := trodAll_cons hA
 obtain ⟨v1, vs1, d1, ds1, p1, q1, rfl, rfl, rfl, h1, r1⟩ := trodAll_cons r0
 obtain ⟨rfl, rfl, rfl⟩ := trodAll_nil r1
 obtain rfl : args = #[v0, v1] := by cases args; simp_all
 obtain ⟨rfl, rfl⟩ := trodVars_none hV
 have hbk : Rows.uptoBulkAll [d0, d1] ≤ 1048576 := of_decide_eq_true hk
 simp only [Rows.uptoBulkAll] at hbk
 obtain ⟨a0, rfl, s0, z0, b0⟩ := open_state (hval 0 27 v0 rfl rfl) h0
 have u0 : stCnt a0.m + a0.us.length ≤ 1048576 := by omega
 obtain ⟨a1, c1, l1, rfl, s1, f1, m1, n1, o1⟩ := open_events (hval 1 28 v1 rfl rfl) h1
 refine (walk W a0 s0 z0 u0 a1 c1 l1 s1 f1 m1 n1 o1).mono fun e W' ⟨he, hb⟩ => ?_
 subst he
 exact ⟨_, rfl, law_post rfl hW' (fun ds h => by match ds, h with | [_, _], _ => rfl) (by kernel_rfl) (by kernel_rfl) (by kernel_rfl) hb⟩

set_option maxRecDepth 100000 in
theorem lifted (os : Os) (started : os.Started) (H : Type) (enc : TypeId × Value → H) (F : Stop.Interp) :
  ReturnsInHanded {} Tryz.checked os 8 .any ((Rows.OpenSpec.upto Rows.foldNowSpec).pre6 enc Tryz.prog Tryz.f8 Rows.foldNowUptoRow.domain false) (((Rows.OpenSpec.upto Rows.foldNowSpec).at F).post enc Tryz.prog Tryz.f8 false true false false) := by
 refine returnsInHanded_of_cond (C := Tryz.checked) (s := (Rows.OpenSpec.upto Rows.foldNowSpec)) (k := Rows.uptoSmall) rfl own started (by kernel_rfl) Tryz.func8
  (OpenSpec.witness (enc := enc) (C := Tryz.checked) (s := (Rows.OpenSpec.upto Rows.foldNowSpec)) (k := Rows.uptoSmall) rfl false ⟨#[], #[.agg #[.int .i64 0, .int .i64 0, .slice none 0 0, .slice none 0 0, .slice none 0 0, .slice none 0 0], .slice none 0 0], []⟩ 8 (by kernel_rfl) (by kernel_rfl) (by kernel_rfl)
   (x := ([.agg [.lit (.int .i64 0), .lit (.int .i64 0), .nil, .nil, .nil, .nil], .nil], [], [])) (by kernel_rfl) rfl (by kernel_rfl)) ?_
 intro W base args ds gs before hval hW _ hk _
 exact contract H enc W base args ds gs before hval hW hk

theorem proved : Rows.FoldNowUptoSaid :=
 OpenClaim.holds_of_cond 8 Tryz.f8 rfl rfl rfl rfl rfl rfl rfl ⟨rfl, rfl, rfl, rfl, rfl⟩ rfl rfl rfl rfl rfl (by kernel_rfl) Tryz.func8 closedFoldNow
  (of_decide_eq_true (by kernel_rfl)) (by unfold Func.isWrapper; first | (rw [if_pos (by decide +kernel)]; kernel_rfl) | (rw [if_neg (by decide +kernel)]; exact ⟨rfl, rfl⟩))
  (fun os started H enc _ F => lifted os started H enc F)
end Go.Proofs.YtmfpjapiijgdgaaGreat.foldNow
