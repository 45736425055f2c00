/- FoldAll: what any events make of any state that may be, what is told of each, which are taken, which do not bear a user, and the latest time, are what the document says; for all states of at most 1048576 things, all rows of events and all texts. -/
import Derived.JoinedCond
import Derived.Deep.RegionHeld3
import Derived.OrdersHeld
import Derived.Test.YtmfpjapiijgdgaaGreatQ00
import Derived.Test.YtmfpjapiijgdgaaGreatRows
import Derived.Test.YtmfpjapiijgdgaaGreatTQ
import Derived.Test.YtmfpjapiijgdgaaGreatQ01
import Derived.Test.YtmfpjapiijgdgaaGreatQ04
import Derived.Test.YtmfpjapiijgdgaaGreatQ06
import Derived.Test.YtmfpjapiijgdgaaGreatQ07
import Derived.Test.YtmfpjapiijgdgaaGreatQ13
import Derived.Test.YtmfpjapiijgdgaaGreatQ17
import Derived.Test.YtmfpjapiijgdgaaGreatQ27
import Derived.Test.YtmfpjapiijgdgaaGreatQ32
import Derived.Test.YtmfpjapiijgdgaaGreatQ38
import Derived.Test.YtmfpjapiijgdgaaGreatQ39
import Derived.Test.YtmfpjapiijgdgaaGreatQ41
import Derived.Test.YtmfpjapiijgdgaaGreatQ45
import Derived.Test.YtmfpjapiijgdgaaGreatQ47
import Derived.Test.YtmfpjapiijgdgaaGreatQ48
import Derived.Test.YtmfpjapiijgdgaaGreatQ49
import Derived.Test.YtmfpjapiijgdgaaGreatQ50
import Derived.Test.YtmfpjapiijgdgaaGreatQ60
namespace Go.Proofs.YtmfpjapiijgdgaaGreat.foldAll
open Go.ChangeShapes Go.WideShapes Go.ChangeAt Go.RowKit Go.Proofs
open Go.ChangeMaps (open_string shut_string)
set_option linter.unusedVariables false
set_option maxRecDepth 100000

structure FaK (w : World) (g1 : Nat) (g2 : Nat) (x : SaL) (z : SaL) (v : SaL) (a : Option Addr) (l : List EvM) (b : Option Addr) (b9 : Option Addr) (b11 : Option Addr) (E : List Int) (W : World) : Prop where
 s : SB w w.heap.size 27 x W
 z : SB w g1 39 z W
 v : SB w g2 27 v W
 r : EvSl W a l
 n : EvSl W b l
 e : ErSl W b9 E
 f : ErSl W b11 E
theorem FaK.below {w W W' : World} {g1 : Nat} {g2 : Nat} {x : SaL} {z : SaL} {v : SaL} {a : Option Addr} {l : List EvM} {b : Option Addr} {b9 : Option Addr} {b11 : Option Addr} {E : List Int} (h : FaK w g1 g2 x z v a l b b9 b11 E W) (qB : Below W.heap.size W W') : FaK w g1 g2 x z v a l b b9 b11 E W' := ⟨h.s.below qB, h.z.below qB, h.v.below qB, h.r.below qB, h.n.below qB, h.e.below qB, h.f.below qB⟩
theorem latA_next (l : List EvM) (j : Nat) (h : j < l.length) : latA (l.take (j + 1)) = if j = 0 then l[j].at_ else max (latA (l.take j)) l[j].at_ := by
 cases l with
 | nil => cases h
 | cons e l =>
  cases j with
  | zero => rfl
  | succ j =>
   have h2 : j < l.length := by simpa using h
   rw [if_neg (by omega)]
   show latT e.at_ (l.take (j + 1)) = max (latT e.at_ (l.take j)) l[j].at_
   exact latT_next e.at_ l j h2
set_option maxHeartbeats 8000000 in
theorem walk (w : World) (x : SaL) (h : SaAt w x) (z : SzS x.m) (b : stCnt x.m + x.us.length ≤ 1048576) (a : Option Addr) (c : Nat) (l : List EvM) (hs : EvSl w a l) (hf : FitsV l) (hlc : l.length ≤ c) (hcm : c ≤ maxLen) (hn : a = none → c = 0) (u : ByteArray) (hu : u.size ≤ maxLen) :
  Calls Tryz.prog 3 #[saV x, .slice a l.length c, .string u] w fun e w' => e = .returned (.bool true) ∧ Below w.heap.size w w' := by
 have S := SB.new (Below.refl w.heap.size w) h 27
 have A0 := hs.below (below_one w (.cells (saC x) 27))
 unfold saC at S A0
 replace S := Lib.hid S
 replace A0 := Lib.hid A0
 have HAL := Lib.hid alive12
 have HMA := Lib.hid (fun V (h : SaAt V x) => many_any x V h b)
 by_cases g1 : 60 < stCnt x.m + x.us.length
 ·have d1 : decide ((60 : Int) < (stCnt x.m : Int) + (x.us.length : Int)) = true := decide_eq_true (by omega)
  clear h z b hs hf hlc hcm hn g1 A0 hu
  unfold saV saC
  obtain ⟨cS0, cS1, cS2, cS3, cS4, cS5⟩ := S.out.cells
  go_enter Tryz.func3, Tryz.ntmps3
  go_wp2_with fail
  refine (HMA.out _ S.out.at_).mono ?_
  rintro r1 w1 ⟨rfl, h1⟩
  clear cS0 cS1 cS2 cS3 cS4 cS5
  replace S := Lib.hid (S.out.below h1)
  clear h1
  obtain ⟨cS0, cS1, cS2, cS3, cS4, cS5⟩ := S.out.cells
  go_wp2_with fail
  refine (HAL.out _).mono ?_
  rintro r2 w2 ⟨rfl, h2⟩
  clear cS0 cS1 cS2 cS3 cS4 cS5
  replace S := Lib.hid (S.out.below h2)
  clear h2
  go_wp2
  go_ret
  exact ⟨rfl, S.out.frame⟩
 have d1 : decide ((60 : Int) < (stCnt x.m : Int) + (x.us.length : Int)) = false := decide_eq_false (by omega)
 have hf0 : Few x.m 60 := few_cnt (by omega)
 by_cases hr0 : RightS x.m
 case neg =>
  have HRR := Lib.hid (fun V (h : SaAt V x) => g_rwrong x V h rfl z (hf0.mono (by decide)) hr0)
  clear h z b hs hf hlc hcm hn g1 hf0 hr0 A0 hu
  unfold saV saC
  obtain ⟨cS0, cS1, cS2, cS3, cS4, cS5⟩ := S.out.cells
  go_enter Tryz.func3, Tryz.ntmps3
  go_wp2_with fail
  refine (HMA.out _ S.out.at_).mono ?_
  rintro r1 w1 ⟨rfl, h1⟩
  clear cS0 cS1 cS2 cS3 cS4 cS5
  replace S := Lib.hid (S.out.below h1)
  clear h1
  obtain ⟨cS0, cS1, cS2, cS3, cS4, cS5⟩ := S.out.cells
  go_wp2_with fail
  refine (HRR.out _ S.out.at_).mono ?_
  rintro r2 w2 ⟨rfl, h2⟩
  clear cS0 cS1 cS2 cS3 cS4 cS5
  replace S := Lib.hid (S.out.below h2)
  clear h2
  obtain ⟨cS0, cS1, cS2, cS3, cS4, cS5⟩ := S.out.cells
  go_wp2_with fail
  refine (HAL.out _).mono ?_
  rintro r3 w3 ⟨rfl, h3⟩
  clear cS0 cS1 cS2 cS3 cS4 cS5
  replace S := Lib.hid (S.out.below h3)
  clear h3
  go_wp2
  go_ret
  exact ⟨rfl, S.out.frame⟩
 have HRR := Lib.hid (fun V (h : SaAt V x) => g_rright x V h rfl z (hf0.mono (by decide)) hr0)
 have hc0 : stCnt x.m ≤ 60 := by omega
 by_cases e0 : 40 < l.length
 ·have d2 : decide ((40 : Int) < (l.length : Int)) = true := decide_eq_true (by omega)
  clear h z b hs hf hlc hcm hn g1 hf0 hr0 hc0 A0 hu e0
  unfold saV saC
  obtain ⟨cS0, cS1, cS2, cS3, cS4, cS5⟩ := S.out.cells
  go_enter Tryz.func3, Tryz.ntmps3
  go_wp2_with fail
  refine (HMA.out _ S.out.at_).mono ?_
  rintro r1 w1 ⟨rfl, h1⟩
  clear cS0 cS1 cS2 cS3 cS4 cS5
  replace S := Lib.hid (S.out.below h1)
  clear h1
  obtain ⟨cS0, cS1, cS2, cS3, cS4, cS5⟩ := S.out.cells
  go_wp2_with fail
  refine (HRR.out _ S.out.at_).mono ?_
  rintro r2 w2 ⟨rfl, h2⟩
  clear cS0 cS1 cS2 cS3 cS4 cS5
  replace S := Lib.hid (S.out.below h2)
  clear h2
  obtain ⟨cS0, cS1, cS2, cS3, cS4, cS5⟩ := S.out.cells
  go_wp2_with fail
  refine (HAL.out _).mono ?_
  rintro r3 w3 ⟨rfl, h3⟩
  clear cS0 cS1 cS2 cS3 cS4 cS5
  replace S := Lib.hid (S.out.below h3)
  clear h3
  go_wp2
  go_ret
  exact ⟨rfl, S.out.frame⟩
 have d2 : decide ((40 : Int) < (l.length : Int)) = false := decide_eq_false (by omega)
 obtain ⟨M, hM⟩ : ∃ M, x.m = M := ⟨_, rfl⟩
 have hr : RightS M := hM ▸ hr0
 have hfw : Few M 60 := hM ▸ hf0
 have hc : stCnt M + l.length ≤ 200 := by rw [← hM]; omega
 have hel : (errsE M l).length ≤ 1000 := by rw [errsE_len]; omega
 have htl : (takenE M l).length ≤ 1000 := Nat.le_trans (takenE_len l M) (by omega)
 have hwl : (withoutV u l).length ≤ 1000 := Nat.le_trans (without_len u l) (by omega)
 have hNr := right_fold l hr
 have hNf : Few (foldE M l) 900 := (few_of hNr (cnt_fold l M)).mono (by omega)
 have HNW := Lib.hid (fun V (h : SaAt V x) => g_new x V h hM (hfw.mono (by decide)))
 have HNV := Lib.hid (fun V (h : EvSl V a l) => h_news a c l V h (by omega))
 have HFO := Lib.hid (fun y (hm : y.m = M) b q V (h : SaAt V y) (k : EvSl V b l) => h_fold y hm b q l V h hr k hf hc)
 have HRF := Lib.hid (fun V (h : SaAt V x) (k : EvSl V a l) => h_rfold x hM a c l V h hr k hf hc)
 have HTK := Lib.hid (fun y (hm : y.m = M) b q V (h : SaAt V y) (k : EvSl V b l) => h_taken y hm b q l V h hr k hf hc)
 have HRT := Lib.hid (fun V (h : SaAt V x) (k : EvSl V a l) => h_rtaken x hM a c l V h hr k hf hc)
 have HWO := Lib.hid (fun b q V (h : EvSl V b l) => pwithout_any u b q l V h (by omega))
 have HRW := Lib.hid (fun V (h : EvSl V a l) => dwithout_any u a c l V h (by omega))
 have HLT := Lib.hid (fun b q V (h : EvSl V b l) (k1 : l.length ≤ q) (k2 : q ≤ maxLen) => platest_any b q l V h (by omega) k1 k2)
 have HOL := Lib.hid (fun b q V (h : EvSl V b l) => h_olds b q l V h (by omega))
 have HES := Lib.hid (fun b b' q q' V (h : EvSl V b l) (k : EvSl V b' l) => h_esame b b' q q' l V h k (by omega))
 have HOT := Lib.hid (fun b q V (h : EvSl V b (takenE M l)) => h_olds b q (takenE M l) V h htl)
 have HET := Lib.hid (fun b b' q q' V (h : EvSl V b (takenE M l)) (k : EvSl V b' (takenE M l)) => h_esame b b' q q' (takenE M l) V h k htl)
 have HOW := Lib.hid (fun b q V (h : EvSl V b (withoutV u l)) => h_olds b q (withoutV u l) V h hwl)
 have HEW := Lib.hid (fun b b' q q' V (h : EvSl V b (withoutV u l)) (k : EvSl V b' (withoutV u l)) => h_esame b b' q q' (withoutV u l) V h k hwl)
 have HTD := Lib.hid (fun b b' q q' V (h : ErSl V b (errsE M l)) (k : ErSl V b' (errsE M l)) => dtold_any b b' q q' (errsE M l) V h k hel)
 have HOD := Lib.hid (fun z V (h : SaAt V z) (hz : z.m = foldE M l) => g_old (M := foldE M l) z V h hz hNf)
 have HSM := Lib.hid (fun p q V (h : SaAt V p) (k : SaAt V q) hm km => g_rsame (M := foldE M l) p q V h k hm km hNf)
 have HLN : Hid (∀ j (h : j < l.length), latA (l.take (j + 1)) = if j = 0 then l[j].at_ else max (latA (l.take j)) l[j].at_) := Lib.hid (latA_next l)
 unfold FoldsV at HFO HRF
 unfold RowsTo at HNV HTK HRT HWO HRW HOL HOT HOW
 clear h z b hs hf hlc hcm hn g1 hf0 hr0 hc0 hu hr hfw hc hel htl hwl hNr hNf
 replace hM := Lib.hid hM
 have HLL : Hid (l.length ≤ 40) := Lib.hid (by omega)
 clear e0
 generalize foldE M l = N at *
 generalize takenE M l = T at *
 generalize withoutV u l = U at *
 generalize errsE M l = E at *
 unfold saV saC
 obtain ⟨cS0, cS1, cS2, cS3, cS4, cS5⟩ := S.out.cells
 go_enter Tryz.func3, Tryz.ntmps3
 go_wp2_with fail
 refine (HMA.out _ S.out.at_).mono ?_
 rintro r1 w1 ⟨rfl, h1⟩
 clear cS0 cS1 cS2 cS3 cS4 cS5
 replace S := Lib.hid (S.out.below h1)
 replace A0 := Lib.hid (A0.out.below h1)
 clear h1
 obtain ⟨cS0, cS1, cS2, cS3, cS4, cS5⟩ := S.out.cells
 go_wp2_with fail
 refine (HRR.out _ S.out.at_).mono ?_
 rintro r2 w2 ⟨rfl, h2⟩
 clear cS0 cS1 cS2 cS3 cS4 cS5
 replace S := Lib.hid (S.out.below h2)
 replace A0 := Lib.hid (A0.out.below h2)
 clear h2
 obtain ⟨cS0, cS1, cS2, cS3, cS4, cS5⟩ := S.out.cells
 go_wp2_with fail
 refine (HNV.out _ A0.out).mono ?_
 rintro r3 w3 ⟨b7, q7, rfl, p7, k7, m7, -, h3⟩
 clear cS0 cS1 cS2 cS3 cS4 cS5
 replace S := Lib.hid (S.out.below h3)
 replace A0 := Lib.hid (A0.out.below h3)
 have B7 := Lib.hid (p7)
 clear h3 p7
 obtain ⟨cS0, cS1, cS2, cS3, cS4, cS5⟩ := S.out.cells
 go_wp2_with fail
 refine (HNW.out _ S.out.at_).mono ?_
 rintro r4 w4 ⟨y, rfl, hy, hm, h4⟩
 clear cS0 cS1 cS2 cS3 cS4 cS5
 replace S := Lib.hid (S.out.below h4)
 replace A0 := Lib.hid (A0.out.below h4)
 replace B7 := Lib.hid (B7.out.below h4)
 have Y := Lib.hid (hy)
 clear h4 hy
 obtain ⟨cS0, cS1, cS2, cS3, cS4, cS5⟩ := S.out.cells
 unfold saV saC
 go_wp2_with fail
 refine (HFO.out y hm b7 q7 _ Y.out B7.out).mono ?_
 rintro r5 w5 ⟨z, b9, q9, rfl, hz, hzm, he9, -, -, h5⟩
 clear cS0 cS1 cS2 cS3 cS4 cS5
 clear Y
 have hb5 := below_one w5 (.cells #[.int .i64 z.now, .int .i64 z.hor, .slice z.oa z.op.length z.oc, .slice z.ua z.us.length z.uc, .slice z.sa z.su.length z.sc, .slice z.ta z.tb.length z.tc] 39)
 have hc5 := h5.trans (hb5.mono h5.size)
 have Z : Hid (SB w w5.heap.size 39 z (w5.alloc (.cells #[.int .i64 z.now, .int .i64 z.hor, .slice z.oa z.op.length z.oc, .slice z.ua z.us.length z.uc, .slice z.sa z.su.length z.sc, .slice z.ta z.tb.length z.tc] 39))) := Lib.hid (SB.new (S.out.frame.trans (h5.mono S.out.frame.size)) hz 39)
 replace S := Lib.hid (S.out.below hc5)
 replace A0 := Lib.hid (A0.out.below hc5)
 replace B7 := Lib.hid (B7.out.below hc5)
 have E9 := Lib.hid (he9.below hb5)
 clear hb5 hc5 hz
 clear h5 he9
 (try unfold saV saC)
 obtain ⟨cS0, cS1, cS2, cS3, cS4, cS5⟩ := S.out.cells
 obtain ⟨cZ0, cZ1, cZ2, cZ3, cZ4, cZ5⟩ := Z.out.cells
 go_wp2_with fail
 refine (HRF.out _ S.out.at_ A0.out).mono ?_
 rintro r6 w6 ⟨v, b11, q11, rfl, hv, hvm, he11, -, -, h6⟩
 clear cS0 cS1 cS2 cS3 cS4 cS5 cZ0 cZ1 cZ2 cZ3 cZ4 cZ5
 have hb6 := below_one w6 (.cells #[.int .i64 v.now, .int .i64 v.hor, .slice v.oa v.op.length v.oc, .slice v.ua v.us.length v.uc, .slice v.sa v.su.length v.sc, .slice v.ta v.tb.length v.tc] 27)
 have hc6 := h6.trans (hb6.mono h6.size)
 have VV : Hid (SB w w6.heap.size 27 v (w6.alloc (.cells #[.int .i64 v.now, .int .i64 v.hor, .slice v.oa v.op.length v.oc, .slice v.ua v.us.length v.uc, .slice v.sa v.su.length v.sc, .slice v.ta v.tb.length v.tc] 27))) := Lib.hid (SB.new (S.out.frame.trans (h6.mono S.out.frame.size)) hv 27)
 replace S := Lib.hid (S.out.below hc6)
 replace A0 := Lib.hid (A0.out.below hc6)
 replace B7 := Lib.hid (B7.out.below hc6)
 replace E9 := Lib.hid (E9.out.below hc6)
 replace Z := Lib.hid (Z.out.below hc6)
 have E11 := Lib.hid (he11.below hb6)
 clear hb6 hc6 hv
 clear h6 he11
 (try unfold saV saC)
 have KK : Hid (FaK w w5.heap.size w6.heap.size x z v a l b7 b9 b11 E _) := Lib.hid ⟨S.out, Z.out, VV.out, A0.out, B7.out, E9.out, E11.out⟩
 clear S Z VV A0 B7 E9 E11 HMA HRR HNV HFO HRF hm
 go_upto_region 6 with fail
 generalize (w6.alloc (.cells #[.int .i64 v.now, .int .i64 v.hor, .slice v.oa v.op.length v.oc, .slice v.ua v.us.length v.uc, .slice v.sa v.su.length v.sc, .slice v.ta v.tb.length v.tc] 27)) = U0 at *
 generalize w5.heap.size = g1 at *
 generalize w6.heap.size = g2 at *
 go_wp2
 go_loopw [12, 13, 49] (fun av sv iv wr => ∃ (j : Nat) (at_ : Int) (so : Bool), j ≤ l.length ∧ iv = .int .i64 j ∧ av = .int .i64 at_ ∧ sv = .bool so ∧ Hid (at_ = latA (l.take j) ∧ so = decide (0 < j)) ∧ Hid (FaK w g1 g2 x z v a l b7 b9 b11 E wr)) (fun _ _ iv _ => l.length - (intOf iv).toNat)
 case atStart => exact ⟨0, 0, false, by omega, rfl, rfl, rfl, Lib.hid ⟨rfl, rfl⟩, KK⟩
 case round =>
  clear KK
  obtain ⟨j, at_, so, hj, rfl, rfl, rfl, HA, HK⟩ := hrel
  by_cases hjl : j < l.length
  ·have hw1 : IntKind.i64.wrap ((j : Int) + 1) = (j : Int) + 1 := IntWalk.i64_in _ (by have := HLL.out; omega)
   obtain ⟨ba, ao, rfl, -, r0, r1, r2, r3, r4, r5⟩ := HK.out.r.at_ hjl
   have HX := HLN.out j hjl
   obtain ⟨ha1, ha2⟩ := HA.out
   rw [← ha1] at HX
   have HKN : Hid (FaK w g1 g2 x z v (some ⟨ba, ao, none⟩) l b7 b9 b11 E (wr.alloc (.cells #[.int .i64 l[j].kind, .int .i64 l[j].at_, .string l[j].user, .string l[j].other, .int .i64 l[j].n, .int .i64 l[j].status] 47))) := Lib.hid (HK.out.below (below_one _ _))
   generalize l[j] = e at *
   by_cases h0 : j = 0
   ·have hso : so = false := by rw [ha2]; exact decide_eq_false (by omega)
    rw [if_pos h0] at HX
    have HXX := Lib.hid HX
    clear HX ha1 ha2 HA HK h0
    subst hso
    go_wp2
    go_roundw
    case rel => exact ⟨j + 1, e.at_, true, by omega, by go_num, rfl, rfl, Lib.hid ⟨HXX.out.symm, (decide_eq_true (Nat.succ_pos _)).symm⟩, HKN⟩
    case measure => simp [intOf]; omega
   ·have hso : so = true := by rw [ha2]; exact decide_eq_true (by omega)
    rw [if_neg h0] at HX
    clear ha1 ha2 HA HK h0
    subst hso
    by_cases hgt : at_ < e.at_
    ·have d9 : decide (at_ < e.at_) = true := decide_eq_true hgt
     have HXX : Hid (e.at_ = latA (l.take (j + 1))) := Lib.hid (by rw [HX]; omega)
     clear HX hgt
     go_wp2
     go_roundw
     case rel => exact ⟨j + 1, e.at_, true, by omega, by go_num, rfl, rfl, Lib.hid ⟨HXX.out, (decide_eq_true (Nat.succ_pos _)).symm⟩, HKN⟩
     case measure => simp [intOf]; omega
    ·have d9 : decide (at_ < e.at_) = false := decide_eq_false hgt
     have HXX : Hid (at_ = latA (l.take (j + 1))) := Lib.hid (by rw [HX]; omega)
     clear HX hgt
     go_wp2
     go_roundw
     case rel => exact ⟨j + 1, at_, true, by omega, by go_num, rfl, rfl, Lib.hid ⟨HXX.out, (decide_eq_true (Nat.succ_pos _)).symm⟩, HKN⟩
     case measure => simp [intOf]; omega
  ·obtain rfl : j = l.length := by omega
   rw [List.take_length] at HA
   obtain ⟨ha1, ha2⟩ := HA.out
   rw [← ha1, ← ha2] at HLT
   clear HA ha1 ha2 HLN hj hjl
   have hq1 : (at_ == at_) = true := beq_self_eq_true _
   have hq2 : (so == so) = true := beq_self_eq_true _
   go_wp2_with fail
   refine (HLT.out b7 q7 _ HK.out.n k7 m7).mono ?_
   rintro r7 w7 ⟨rfl, h7⟩
   have KZ := HK.out.below h7
   clear HK h7 HLT
   have HSC : Hid (∀ V, FaK w g1 g2 x z v a l b7 b9 b11 E V → V.cell? ⟨w.heap.size, 0, none⟩ = some (.int .i64 x.now) ∧ V.cell? ⟨w.heap.size, 1, none⟩ = some (.int .i64 x.hor) ∧ V.cell? ⟨w.heap.size, 2, none⟩ = some (.slice x.oa x.op.length x.oc) ∧ V.cell? ⟨w.heap.size, 3, none⟩ = some (.slice x.ua x.us.length x.uc) ∧ V.cell? ⟨w.heap.size, 4, none⟩ = some (.slice x.sa x.su.length x.sc) ∧ V.cell? ⟨w.heap.size, 5, none⟩ = some (.slice x.ta x.tb.length x.tc) ∧ V.cell? ⟨g1, 0, none⟩ = some (.int .i64 z.now) ∧ V.cell? ⟨g1, 1, none⟩ = some (.int .i64 z.hor) ∧ V.cell? ⟨g1, 2, none⟩ = some (.slice z.oa z.op.length z.oc) ∧ V.cell? ⟨g1, 3, none⟩ = some (.slice z.ua z.us.length z.uc) ∧ V.cell? ⟨g1, 4, none⟩ = some (.slice z.sa z.su.length z.sc) ∧ V.cell? ⟨g1, 5, none⟩ = some (.slice z.ta z.tb.length z.tc) ∧ V.cell? ⟨g2, 0, none⟩ = some (.int .i64 v.now) ∧ V.cell? ⟨g2, 1, none⟩ = some (.int .i64 v.hor) ∧ V.cell? ⟨g2, 2, none⟩ = some (.slice v.oa v.op.length v.oc) ∧ V.cell? ⟨g2, 3, none⟩ = some (.slice v.ua v.us.length v.uc) ∧ V.cell? ⟨g2, 4, none⟩ = some (.slice v.sa v.su.length v.sc) ∧ V.cell? ⟨g2, 5, none⟩ = some (.slice v.ta v.tb.length v.tc)) := Lib.hid fun V h => by
    obtain ⟨s0, s1, s2, s3, s4, s5⟩ := h.s.cells
    obtain ⟨z0, z1, z2, z3, z4, z5⟩ := h.z.cells
    obtain ⟨v0, v1, v2, v3, v4, v5⟩ := h.v.cells
    exact ⟨s0, s1, s2, s3, s4, s5, z0, z1, z2, z3, z4, z5, v0, v1, v2, v3, v4, v5⟩
   have HBL : Hid (∀ V V', FaK w g1 g2 x z v a l b7 b9 b11 E V → Below V.heap.size V V' → FaK w g1 g2 x z v a l b7 b9 b11 E V') := Lib.hid fun V V' h q => h.below q
   obtain ⟨k0, k1, k2, k3, k4, k5, k6, k7, k8, k9, k10, k11, k12, k13, k14, k15, k16, k17⟩ := HSC.out _ KZ
   have K0 := KZ.below (Below.refl _ _).drew
   clear KZ
   go_wp2_with fail
   go_region_held3 (fun V => V.cell? ⟨w.heap.size, 0, none⟩ = some (.int .i64 x.now) ∧ V.cell? ⟨w.heap.size, 1, none⟩ = some (.int .i64 x.hor) ∧ V.cell? ⟨w.heap.size, 2, none⟩ = some (.slice x.oa x.op.length x.oc) ∧ V.cell? ⟨w.heap.size, 3, none⟩ = some (.slice x.ua x.us.length x.uc) ∧ V.cell? ⟨w.heap.size, 4, none⟩ = some (.slice x.sa x.su.length x.sc) ∧ V.cell? ⟨w.heap.size, 5, none⟩ = some (.slice x.ta x.tb.length x.tc) ∧ V.cell? ⟨g1, 0, none⟩ = some (.int .i64 z.now) ∧ V.cell? ⟨g1, 1, none⟩ = some (.int .i64 z.hor) ∧ V.cell? ⟨g1, 2, none⟩ = some (.slice z.oa z.op.length z.oc) ∧ V.cell? ⟨g1, 3, none⟩ = some (.slice z.ua z.us.length z.uc) ∧ V.cell? ⟨g1, 4, none⟩ = some (.slice z.sa z.su.length z.sc) ∧ V.cell? ⟨g1, 5, none⟩ = some (.slice z.ta z.tb.length z.tc) ∧ V.cell? ⟨g2, 0, none⟩ = some (.int .i64 v.now) ∧ V.cell? ⟨g2, 1, none⟩ = some (.int .i64 v.hor) ∧ V.cell? ⟨g2, 2, none⟩ = some (.slice v.oa v.op.length v.oc) ∧ V.cell? ⟨g2, 3, none⟩ = some (.slice v.ua v.us.length v.uc) ∧ V.cell? ⟨g2, 4, none⟩ = some (.slice v.sa v.su.length v.sc) ∧ V.cell? ⟨g2, 5, none⟩ = some (.slice v.ta v.tb.length v.tc))
    (first | with_reducible exact HSC.out _ K15 | with_reducible exact HSC.out _ K14 | with_reducible exact HSC.out _ K13 | with_reducible exact HSC.out _ K12 | with_reducible exact HSC.out _ K11 | with_reducible exact HSC.out _ K10 | with_reducible exact HSC.out _ K9 | with_reducible exact HSC.out _ K8 | with_reducible exact HSC.out _ K7 | with_reducible exact HSC.out _ K6 | with_reducible exact HSC.out _ K5 | with_reducible exact HSC.out _ K4 | with_reducible exact HSC.out _ K3 | with_reducible exact HSC.out _ K2 | with_reducible exact HSC.out _ K1 | with_reducible exact HSC.out _ K0)
    (first | (have hseen := K14; clear hseen; go_at_call 29; refine (HES.out t14 a p14 c _ r14 K14.r).mono ?_; rintro r v15 ⟨rfl, h15⟩; have K15 := HBL.out _ _ K14 h15) | (have hseen := K13; clear hseen; go_at_call 30; refine (HOL.out b7 q7 _ K13.n).mono ?_; rintro r v14 ⟨t14, p14, rfl, r14, -, -, -, h14⟩; have K14 := HBL.out _ _ K13 h14) | (have hseen := K12; clear hseen; go_at_call 29; refine (HEW.out t11 t12 p11 p12 _ r13 r12).mono ?_; rintro r v13 ⟨rfl, h13⟩; have K13 := HBL.out _ _ K12 h13) | (have hseen := K11; clear hseen; go_at_call 34; refine (HRW.out _ K11.r).mono ?_; rintro r v12 ⟨t12, p12, rfl, r12, -, -, -, h12⟩; have K12 := HBL.out _ _ K11 h12; have r13 := r11.below h12) | (have hseen := K10; clear hseen; go_at_call 30; refine (HOW.out t10 p10 _ r10).mono ?_; rintro r v11 ⟨t11, p11, rfl, r11, -, -, -, h11⟩; have K11 := HBL.out _ _ K10 h11) | (have hseen := K9; clear hseen; go_at_call 33; refine (HWO.out b7 q7 _ K9.n).mono ?_; rintro r v10 ⟨t10, p10, rfl, r10, -, -, -, h10⟩; have K10 := HBL.out _ _ K9 h10) | (have hseen := K8; clear hseen; go_at_call 29; refine (HET.out t7 t8 p7 p8 _ r9 r8).mono ?_; rintro r v9 ⟨rfl, h9⟩; have K9 := HBL.out _ _ K8 h9) | (have hseen := K7; clear hseen; go_at_call 32; refine (HRT.out _ K7.s.at_ K7.r).mono ?_; rintro r v8 ⟨t8, p8, rfl, r8, -, -, -, h8⟩; have K8 := HBL.out _ _ K7 h8; have r9 := r7'.below h8) | (have hseen := K6; clear hseen; go_at_call 30; refine (HOT.out t6 p6 _ r6).mono ?_; rintro r v7 ⟨t7, p7, rfl, r7', -, -, -, h7⟩; have K7 := HBL.out _ _ K6 h7) | (have hseen := K5; clear hseen; go_at_call 31; refine (HTK.out y5 m5 b7 q7 _ s5 K5.n).mono ?_; rintro r v6 ⟨t6, p6, rfl, r6, -, -, -, h6⟩; have K6 := HBL.out _ _ K5 h6) | (have hseen := K4; clear hseen; go_at_call 23; refine (HNW.out _ K4.s.at_).mono ?_; rintro r v5 ⟨y5, rfl, s5, m5, h5⟩; have K5 := HBL.out _ _ K4 h5) | (have hseen := K3; clear hseen; go_at_call 28; refine (HTD.out b9 b11 q9 q11 _ K3.e K3.f).mono ?_; rintro r v4 ⟨rfl, h4⟩; have K4 := HBL.out _ _ K3 h4) | (have hseen := K2; clear hseen; go_at_call 26; refine (HSM.out o1 v _ (s1.below (Below.refl _ _)) K2.v.at_ m1 hvm).mono ?_; rintro r v3 ⟨rfl, h3⟩; have K3 := HBL.out _ _ K2 h3) | (have hseen := K1; clear hseen; go_at_call 27; refine (HOD.out z _ K1.z.at_ hzm).mono ?_; rintro r v2 ⟨o1, rfl, s1, m1, h2⟩; have K2 := HBL.out _ _ K1 h2) | (have hseen := K0; clear hseen; go_at_call 20; refine (HAL.out _).mono ?_; rintro r v1 ⟨rfl, h1⟩; have K1 := HBL.out _ _ K0 h1))
   all_goals
    have HF := Lib.hid K15.s.frame
    clear K0 K1 K2 K3 K4 K5 K6 K7 K8 K9 K10 K11 K12 K13 K14 K15
    go_wp2
    go_ret
    exact ⟨rfl, HF.out⟩
theorem contract (H : Type) (enc : TypeId × Value → H) (W : World) (base : Nat) (args : Array Value) (ds gs : List (DataW H)) (before : List MemPlace)
  (hval : ∀ (j : Nat) t v, Tryz.f3.params[j]? = some t → args[j]? = some v → Value.okWide Tryz.prog W .any base t v)
  (hW : DataW.Whole enc Tryz.prog Tryz.f3.params.toList Rows.foldAllSpec.vars false W args.toList ds gs before) (hk : Rows.uptoSmall H (ds ++ gs) = true) :
  Calls Tryz.prog 3 args W fun e W' => ∃ v, e = .returned v ∧ Rows.foldAllSpec.post enc Tryz.prog Tryz.f3 false true false false W args v W' := by
 have hW' := hW
 obtain ⟨p, q, hA0, hV, rfl, hfz, hnd⟩ := hW
 have hA : DataW.TrodAll enc Tryz.prog W 0 (fun _ => true) true Tryz.f3.params.toList args.toList ds p := hA0
 rw [Tryz.params3] at hA hval
 obtain ⟨v0, vs0, d0, ds0, p0, q0, hargs, rfl, rfl, h0, r0⟩ := trodAll_cons hA
 obtain ⟨v1, vs1, d1, ds1, p1, q1, rfl, rfl, rfl, h1, r1⟩ := trodAll_cons r0
 obtain ⟨v2, vs2, d2, ds2, p2, q2, rfl, rfl, rfl, h2, r2⟩ := trodAll_cons r1
 obtain ⟨rfl, rfl, rfl⟩ := trodAll_nil r2
 obtain rfl : args = #[v0, v1, v2] := by cases args; simp_all
 obtain ⟨rfl, rfl⟩ := trodVars_none hV
 have hbk : Rows.uptoBulkAll [d0, d1, d2] ≤ 1048576 := of_decide_eq_true hk
 simp only [Rows.uptoBulkAll] at hbk
 obtain ⟨a0, rfl, s0, z0, b0⟩ := open_state (hval 0 27 v0 rfl rfl) h0
 have u0 : stCnt a0.m + a0.us.length ≤ 1048576 := by omega
 obtain ⟨a1, c1, l1, rfl, s1, f1, m1, n1, o1⟩ := open_events (hval 1 28 v1 rfl rfl) h1
 obtain ⟨a2, rfl, -, -, w2⟩ := open_string Tryz.underlying9 (hval 2 9 v2 rfl rfl) h2
 refine (walk W a0 s0 z0 u0 a1 c1 l1 s1 f1 m1 n1 o1 a2 w2).mono fun e W' ⟨he, hb⟩ => ?_
 subst he
 exact ⟨_, rfl, law_post rfl hW' (fun ds h => by match ds, h with | [_, _, _], _ => rfl) (by kernel_rfl) (by kernel_rfl) (by kernel_rfl) hb⟩

set_option maxRecDepth 100000 in
theorem lifted (os : Os) (started : os.Started) (H : Type) (enc : TypeId × Value → H) (F : Stop.Interp) :
  ReturnsInHanded {} Tryz.checked os 3 .any ((Rows.OpenSpec.upto Rows.foldAllSpec).pre6 enc Tryz.prog Tryz.f3 Rows.foldAllUptoRow.domain false) (((Rows.OpenSpec.upto Rows.foldAllSpec).at F).post enc Tryz.prog Tryz.f3 false true false false) := by
 refine returnsInHanded_of_cond (C := Tryz.checked) (s := (Rows.OpenSpec.upto Rows.foldAllSpec)) (k := Rows.uptoSmall) rfl own started (by kernel_rfl) Tryz.func3
  (OpenSpec.witness (enc := enc) (C := Tryz.checked) (s := (Rows.OpenSpec.upto Rows.foldAllSpec)) (k := Rows.uptoSmall) rfl false ⟨#[], #[.agg #[.int .i64 0, .int .i64 0, .slice none 0 0, .slice none 0 0, .slice none 0 0, .slice none 0 0], .slice none 0 0, .string ByteArray.empty], []⟩ 8 (by kernel_rfl) (by kernel_rfl) (by kernel_rfl)
   (x := ([.agg [.lit (.int .i64 0), .lit (.int .i64 0), .nil, .nil, .nil, .nil], .nil, .lit (.string [])], [], [])) (by kernel_rfl) rfl (by kernel_rfl)) ?_
 intro W base args ds gs before hval hW _ hk _
 exact contract H enc W base args ds gs before hval hW hk

theorem proved : Rows.FoldAllUptoSaid :=
 OpenClaim.holds_of_cond 3 Tryz.f3 rfl rfl rfl rfl rfl rfl rfl ⟨rfl, rfl, rfl, rfl, rfl⟩ rfl rfl rfl rfl rfl (by kernel_rfl) Tryz.func3 closedFoldAll
  (of_decide_eq_true (by kernel_rfl)) (by unfold Func.isWrapper; first | (rw [if_pos (by decide +kernel)]; kernel_rfl) | (rw [if_neg (by decide +kernel)]; exact ⟨rfl, rfl⟩))
  (fun os started H enc _ F => lifted os started H enc F)
end Go.Proofs.YtmfpjapiijgdgaaGreat.foldAll
