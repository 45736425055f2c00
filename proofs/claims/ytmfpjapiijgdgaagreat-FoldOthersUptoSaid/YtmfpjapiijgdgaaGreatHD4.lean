/- FoldOthers: events that do not bear a user change no stay of it, up to any time that is not over; for all states of at most 1048576 things, all rows of events and all texts. -/
import Derived.JoinedCond
import Derived.Deep.RegionHeld3
import Derived.OrdersHeld
import Derived.Test.YtmfpjapiijgdgaaGreatQ00
import Derived.Test.YtmfpjapiijgdgaaGreatRows
import Derived.Test.YtmfpjapiijgdgaaGreatTQ
import Derived.Test.YtmfpjapiijgdgaaGreatQ01
import Derived.Test.YtmfpjapiijgdgaaGreatQ04
import Derived.Test.YtmfpjapiijgdgaaGreatQ06
import Derived.Test.YtmfpjapiijgdgaaGreatQ09
import Derived.Test.YtmfpjapiijgdgaaGreatQ13
import Derived.Test.YtmfpjapiijgdgaaGreatQ17
import Derived.Test.YtmfpjapiijgdgaaGreatQ27
import Derived.Test.YtmfpjapiijgdgaaGreatQ32
import Derived.Test.YtmfpjapiijgdgaaGreatQ38
import Derived.Test.YtmfpjapiijgdgaaGreatQ45
import Derived.Test.YtmfpjapiijgdgaaGreatQ46
import Derived.Test.YtmfpjapiijgdgaaGreatQ48
import Derived.Test.YtmfpjapiijgdgaaGreatQ50
import Derived.Test.YtmfpjapiijgdgaaGreatQ51
import Derived.Test.YtmfpjapiijgdgaaGreatQ59
namespace Go.Proofs.YtmfpjapiijgdgaaGreat.foldOthers
open Go.ChangeShapes Go.WideShapes Go.ChangeAt Go.RowKit Go.Proofs
open Go.ChangeMaps (open_string shut_string)
set_option linter.unusedVariables false
set_option maxRecDepth 100000

structure FoK2 (w : World) (g1 : Nat) (x : SaL) (y : SaL) (a : Option Addr) (l : List EvM) (W : World) : Prop where
 s : SB w w.heap.size 27 x W
 y : SB w g1 39 y W
 r : EvSl W a l
theorem FoK2.below {w W W' : World} {g1 : Nat} {x : SaL} {y : SaL} {a : Option Addr} {l : List EvM} (h : FoK2 w g1 x y a l W) (qB : Below W.heap.size W W') : FoK2 w g1 x y a l W' := ⟨h.s.below qB, h.y.below qB, h.r.below qB⟩
theorem FoK2.over {w T : World} {g1 : Nat} {x : SaL} {y : SaL} {a : Option Addr} {l : List EvM} {gz : Nat} {zz : SaL} (h : FoK2 w g1 x y a l T) (hZ : SB w gz 39 saO T) (hy : SaAt T zz) (ns : w.heap.size ≠ gz) (ny : g1 ≠ gz) : FoK2 w g1 x y a l (setS T gz zz) ∧ SB w gz 39 zz (setS T gz zz) :=
 ⟨⟨(hZ.over hy h.s ns).2, (hZ.over hy h.y ny).2, evsl_setS hZ hy h.r⟩, hZ.set hy⟩
structure FoZ (w : World) (g : Nat) (x : SaL) (z : SaL) (W : World) : Prop where
 s : SB w w.heap.size 27 x W
 z : SB w g 39 z W
theorem FoZ.below {w W W' : World} {g : Nat} {x : SaL} {z : SaL} (h : FoZ w g x z W) (qB : Below W.heap.size W W') : FoZ w g x z W' := ⟨h.s.below qB, h.z.below qB⟩
set_option maxHeartbeats 8000000 in
theorem walk (w : World) (x : SaL) (h : SaAt w x) (z : SzS x.m) (b : stCnt x.m + x.us.length ≤ 1048576) (a : Option Addr) (c : Nat) (l : List EvM) (hs : EvSl w a l) (hf : FitsV l) (hlc : l.length ≤ c) (hcm : c ≤ maxLen) (hn : a = none → c = 0) (u : ByteArray) (hu : u.size ≤ maxLen) :
  Calls Tryz.prog 9 #[saV x, .slice a l.length c, .string u] w fun e w' => e = .returned (.bool true) ∧ Below w.heap.size w w' := by
 have HRU : Hid (∀ V, Calls Tryz.prog 36 #[.string u] V fun e w' => e = .returned (.bool (isN u)) ∧ Below V.heap.size V w') := Lib.hid fun V => (refRightN_any u V hu).mono fun e w' q => ⟨q.1, by rw [q.2]; exact Below.refl _ _⟩
 have S := SB.new (Below.refl w.heap.size w) h 27
 have A0 := hs.below (below_one w (.cells (saC x) 27))
 unfold saC at S A0
 replace S := Lib.hid S
 replace A0 := Lib.hid A0
 have HAL := Lib.hid alive12
 have HMA := Lib.hid (fun V (h : SaAt V x) => many_any x V h b)
 by_cases g1 : 60 < stCnt x.m + x.us.length
 ·have d1 : decide ((60 : Int) < (stCnt x.m : Int) + (x.us.length : Int)) = true := decide_eq_true (by omega)
  clear h z b hs hf hlc hcm hn g1 A0 hu
  unfold saV saC
  obtain ⟨cS0, cS1, cS2, cS3, cS4, cS5⟩ := S.out.cells
  go_enter Tryz.func9, Tryz.ntmps9
  go_wp2_with fail
  refine (HMA.out _ S.out.at_).mono ?_
  rintro r1 w1 ⟨rfl, h1⟩
  clear cS0 cS1 cS2 cS3 cS4 cS5
  replace S := Lib.hid (S.out.below h1)
  clear h1
  obtain ⟨cS0, cS1, cS2, cS3, cS4, cS5⟩ := S.out.cells
  go_wp2_with fail
  refine (HAL.out _).mono ?_
  rintro r2 w2 ⟨rfl, h2⟩
  clear cS0 cS1 cS2 cS3 cS4 cS5
  replace S := Lib.hid (S.out.below h2)
  clear h2
  go_wp2
  go_ret
  exact ⟨rfl, S.out.frame⟩
 have d1 : decide ((60 : Int) < (stCnt x.m : Int) + (x.us.length : Int)) = false := decide_eq_false (by omega)
 have hf0 : Few x.m 60 := few_cnt (by omega)
 by_cases hr0 : RightS x.m
 case neg =>
  have HRR := Lib.hid (fun V (h : SaAt V x) => g_rwrong x V h rfl z (hf0.mono (by decide)) hr0)
  clear h z b hs hf hlc hcm hn g1 hf0 hr0 A0 hu
  unfold saV saC
  obtain ⟨cS0, cS1, cS2, cS3, cS4, cS5⟩ := S.out.cells
  go_enter Tryz.func9, Tryz.ntmps9
  go_wp2_with fail
  refine (HMA.out _ S.out.at_).mono ?_
  rintro r1 w1 ⟨rfl, h1⟩
  clear cS0 cS1 cS2 cS3 cS4 cS5
  replace S := Lib.hid (S.out.below h1)
  clear h1
  obtain ⟨cS0, cS1, cS2, cS3, cS4, cS5⟩ := S.out.cells
  go_wp2_with fail
  refine (HRR.out _ S.out.at_).mono ?_
  rintro r2 w2 ⟨rfl, h2⟩
  clear cS0 cS1 cS2 cS3 cS4 cS5
  replace S := Lib.hid (S.out.below h2)
  clear h2
  obtain ⟨cS0, cS1, cS2, cS3, cS4, cS5⟩ := S.out.cells
  go_wp2_with fail
  refine (HAL.out _).mono ?_
  rintro r3 w3 ⟨rfl, h3⟩
  clear cS0 cS1 cS2 cS3 cS4 cS5
  replace S := Lib.hid (S.out.below h3)
  clear h3
  go_wp2
  go_ret
  exact ⟨rfl, S.out.frame⟩
 have HRR := Lib.hid (fun V (h : SaAt V x) => g_rright x V h rfl z (hf0.mono (by decide)) hr0)
 have hc0 : stCnt x.m ≤ 60 := by omega
 by_cases e0 : 40 < l.length
 ·have d2 : decide ((40 : Int) < (l.length : Int)) = true := decide_eq_true (by omega)
  clear h z b hs hf hlc hcm hn g1 hf0 hr0 hc0 A0 hu e0
  unfold saV saC
  obtain ⟨cS0, cS1, cS2, cS3, cS4, cS5⟩ := S.out.cells
  go_enter Tryz.func9, Tryz.ntmps9
  go_wp2_with fail
  refine (HMA.out _ S.out.at_).mono ?_
  rintro r1 w1 ⟨rfl, h1⟩
  clear cS0 cS1 cS2 cS3 cS4 cS5
  replace S := Lib.hid (S.out.below h1)
  clear h1
  obtain ⟨cS0, cS1, cS2, cS3, cS4, cS5⟩ := S.out.cells
  go_wp2_with fail
  refine (HRR.out _ S.out.at_).mono ?_
  rintro r2 w2 ⟨rfl, h2⟩
  clear cS0 cS1 cS2 cS3 cS4 cS5
  replace S := Lib.hid (S.out.below h2)
  clear h2
  obtain ⟨cS0, cS1, cS2, cS3, cS4, cS5⟩ := S.out.cells
  go_wp2_with fail
  refine (HAL.out _).mono ?_
  rintro r3 w3 ⟨rfl, h3⟩
  clear cS0 cS1 cS2 cS3 cS4 cS5
  replace S := Lib.hid (S.out.below h3)
  clear h3
  go_wp2
  go_ret
  exact ⟨rfl, S.out.frame⟩
 have d2 : decide ((40 : Int) < (l.length : Int)) = false := decide_eq_false (by omega)
 by_cases hun : isN u = true
 case neg =>
  rw [Bool.eq_false_iff.2 hun] at HRU
  clear h z b hs hf hlc hcm hn g1 hf0 hr0 hc0 A0 hu e0 hun
  unfold saV saC
  obtain ⟨cS0, cS1, cS2, cS3, cS4, cS5⟩ := S.out.cells
  go_enter Tryz.func9, Tryz.ntmps9
  go_wp2_with fail
  refine (HMA.out _ S.out.at_).mono ?_
  rintro r1 w1 ⟨rfl, h1⟩
  clear cS0 cS1 cS2 cS3 cS4 cS5
  replace S := Lib.hid (S.out.below h1)
  clear h1
  obtain ⟨cS0, cS1, cS2, cS3, cS4, cS5⟩ := S.out.cells
  go_wp2_with fail
  refine (HRR.out _ S.out.at_).mono ?_
  rintro r2 w2 ⟨rfl, h2⟩
  clear cS0 cS1 cS2 cS3 cS4 cS5
  replace S := Lib.hid (S.out.below h2)
  clear h2
  obtain ⟨cS0, cS1, cS2, cS3, cS4, cS5⟩ := S.out.cells
  go_wp2_with fail
  refine (HRU.out _).mono ?_
  rintro r3 w3 ⟨rfl, h3⟩
  clear cS0 cS1 cS2 cS3 cS4 cS5
  replace S := Lib.hid (S.out.below h3)
  clear h3
  obtain ⟨cS0, cS1, cS2, cS3, cS4, cS5⟩ := S.out.cells
  go_wp2_with fail
  refine (HAL.out _).mono ?_
  rintro r4 w4 ⟨rfl, h4⟩
  clear cS0 cS1 cS2 cS3 cS4 cS5
  replace S := Lib.hid (S.out.below h4)
  clear h4
  go_wp2
  go_ret
  exact ⟨rfl, S.out.frame⟩
 rw [hun] at HRU
 obtain ⟨M, hM⟩ : ∃ M, x.m = M := ⟨_, rfl⟩
 have hr : RightS M := hM ▸ hr0
 have hfw : Few M 60 := hM ▸ hf0
 have hwl := without_len u l
 have hc : stCnt M + (withoutV u l).length ≤ 200 := by rw [← hM]; omega
 have hxn : x.now = M.now := by rw [← hM]; rfl
 have HNW := Lib.hid (fun V (h : SaAt V x) => g_new x V h hM (hfw.mono (by decide)))
 have HNV := Lib.hid (fun V (h : EvSl V a l) => h_news a c l V h (by omega))
 have HWO := Lib.hid (fun b q V (h : EvSl V b l) => pwithout_any u b q l V h (by omega))
 have HFO := Lib.hid (fun y (hm : y.m = M) b q V (h : SaAt V y) (k : EvSl V b (withoutV u l)) => h_fold y hm b q (withoutV u l) V h hr k (fits_without hf) hc)
 have hnw := now_fold (withoutV u l) M
 have hNr := right_fold (withoutV u l) hr
 have hNf : Few (foldE M (withoutV u l)) 400 := (few_of hNr (cnt_fold (withoutV u l) M)).mono (by omega)
 have hST : ∀ t, staysS (foldE M (withoutV u l)) u t = staysS M u t := fun t => fold_same (withoutV u l) t hr (fun e he => (bear_no.1 (by have h2 := (List.mem_filter.1 he).2; simpa using h2)).1)
 have HST := Lib.hid (fun z (hz : z.m = foldE M (withoutV u l)) V (h : SaAt V z) => g_stays z V h hz u z.now hNf)
 have HRS := Lib.hid (fun t V (h : SaAt V x) => g_rstays x V h hM u t (hfw.mono (by decide)))
 have hl2 := fun t => stays_few (hfw.mono (show 60 ≤ 400 by decide)) u t
 simp only [hST] at HST
 have HZN : Hid (∀ z : SaL, z.m = foldE M (withoutV u l) → x.now ≤ z.now) := Lib.hid fun z hz => by
  have e : z.now = (foldE M (withoutV u l)).now := by rw [← hz]; rfl
  rw [e, hxn]
  exact hnw
 unfold FoldsV at HFO
 unfold RowsTo at HNV HWO
 clear h z b hs hf hlc hcm hn g1 hf0 hr0 hc0 e0 hu hun hr hfw hwl hc hxn hnw hNr hNf hST
 replace hM := Lib.hid hM
 generalize foldE M (withoutV u l) = N at *
 generalize withoutV u l = T at *
 unfold saV saC
 obtain ⟨cS0, cS1, cS2, cS3, cS4, cS5⟩ := S.out.cells
 go_enter Tryz.func9, Tryz.ntmps9
 go_wp2_with fail
 refine (HMA.out _ S.out.at_).mono ?_
 rintro r1 w1 ⟨rfl, h1⟩
 clear cS0 cS1 cS2 cS3 cS4 cS5
 replace S := Lib.hid (S.out.below h1)
 replace A0 := Lib.hid (A0.out.below h1)
 clear h1
 obtain ⟨cS0, cS1, cS2, cS3, cS4, cS5⟩ := S.out.cells
 go_wp2_with fail
 refine (HRR.out _ S.out.at_).mono ?_
 rintro r2 w2 ⟨rfl, h2⟩
 clear cS0 cS1 cS2 cS3 cS4 cS5
 replace S := Lib.hid (S.out.below h2)
 replace A0 := Lib.hid (A0.out.below h2)
 clear h2
 obtain ⟨cS0, cS1, cS2, cS3, cS4, cS5⟩ := S.out.cells
 go_wp2_with fail
 refine (HRU.out _).mono ?_
 rintro r3 w3 ⟨rfl, h3⟩
 clear cS0 cS1 cS2 cS3 cS4 cS5
 replace S := Lib.hid (S.out.below h3)
 replace A0 := Lib.hid (A0.out.below h3)
 clear h3
 obtain ⟨cS0, cS1, cS2, cS3, cS4, cS5⟩ := S.out.cells
 go_wp2_with fail
 refine (HNW.out _ S.out.at_).mono ?_
 rintro r4 w4 ⟨y, rfl, hy, hm, h4⟩
 clear cS0 cS1 cS2 cS3 cS4 cS5
 have hb4 := below_one w4 (.cells #[.int .i64 y.now, .int .i64 y.hor, .slice y.oa y.op.length y.oc, .slice y.ua y.us.length y.uc, .slice y.sa y.su.length y.sc, .slice y.ta y.tb.length y.tc] 39)
 have hc4 := h4.trans (hb4.mono h4.size)
 have Y : Hid (SB w w4.heap.size 39 y (w4.alloc (.cells #[.int .i64 y.now, .int .i64 y.hor, .slice y.oa y.op.length y.oc, .slice y.ua y.us.length y.uc, .slice y.sa y.su.length y.sc, .slice y.ta y.tb.length y.tc] 39))) := Lib.hid (SB.new (S.out.frame.trans (h4.mono S.out.frame.size)) hy 39)
 replace S := Lib.hid (S.out.below hc4)
 replace A0 := Lib.hid (A0.out.below hc4)
 clear hb4 hc4 hy
 clear h4
 (try unfold saV saC)
 clear HMA HRR HRU HNW
 have KK : FoK2 w w4.heap.size x y a l _ := ⟨S.out, Y.out, A0.out⟩
 clear S Y A0
 unfold saV saC at HFO HST HRS
 go_upto_region 4 with fail
 generalize (w4.alloc (.cells #[.int .i64 y.now, .int .i64 y.hor, .slice y.oa y.op.length y.oc, .slice y.ua y.us.length y.uc, .slice y.sa y.su.length y.sc, .slice y.ta y.tb.length y.tc] 39)) = U at *
 generalize w4.heap.size = g1 at *
 have HSC : Hid (∀ V, FoK2 w g1 x y a l V → V.cell? ⟨w.heap.size, 0, none⟩ = some (.int .i64 x.now) ∧ V.cell? ⟨w.heap.size, 1, none⟩ = some (.int .i64 x.hor) ∧ V.cell? ⟨w.heap.size, 2, none⟩ = some (.slice x.oa x.op.length x.oc) ∧ V.cell? ⟨w.heap.size, 3, none⟩ = some (.slice x.ua x.us.length x.uc) ∧ V.cell? ⟨w.heap.size, 4, none⟩ = some (.slice x.sa x.su.length x.sc) ∧ V.cell? ⟨w.heap.size, 5, none⟩ = some (.slice x.ta x.tb.length x.tc) ∧ V.cell? ⟨g1, 0, none⟩ = some (.int .i64 y.now) ∧ V.cell? ⟨g1, 1, none⟩ = some (.int .i64 y.hor) ∧ V.cell? ⟨g1, 2, none⟩ = some (.slice y.oa y.op.length y.oc) ∧ V.cell? ⟨g1, 3, none⟩ = some (.slice y.ua y.us.length y.uc) ∧ V.cell? ⟨g1, 4, none⟩ = some (.slice y.sa y.su.length y.sc) ∧ V.cell? ⟨g1, 5, none⟩ = some (.slice y.ta y.tb.length y.tc)) := Lib.hid fun V h => by
  obtain ⟨s0, s1, s2, s3, s4, s5⟩ := h.s.cells
  obtain ⟨y0, y1, y2, y3, y4, y5⟩ := h.y.cells
  exact ⟨s0, s1, s2, s3, s4, s5, y0, y1, y2, y3, y4, y5⟩
 have HBL : Hid (∀ V V', FoK2 w g1 x y a l V → Below V.heap.size V V' → FoK2 w g1 x y a l V') := Lib.hid fun V V' h q => h.below q
 obtain ⟨k0, k1, k2, k3, k4, k5, k6, k7, k8, k9, k10, k11⟩ := HSC.out _ KK
 have K0 := KK.below (Below.refl U.heap.size U).drew
 have K0b := (KK.below (below_one U (.cells #[.int .i64 0, .int .i64 0, .slice none 0 0, .slice none 0 0, .slice none 0 0, .slice none 0 0] 39))).below (Below.refl _ _).drew
 have Z0b : SB w U.heap.size 39 saO (U.alloc (.cells #[.int .i64 0, .int .i64 0, .slice none 0 0, .slice none 0 0, .slice none 0 0, .slice none 0 0] 39)).drew := SB.drew (SB.new KK.s.frame (SaAt.zero U) 39)
 have NG0 : w.heap.size ≠ U.heap.size ∧ g1 ≠ U.heap.size := ⟨Nat.ne_of_lt KK.s.lt, Nat.ne_of_lt KK.y.lt⟩
 go_wp2_with fail
 go_region_held3 (fun V => V.cell? ⟨w.heap.size, 0, none⟩ = some (.int .i64 x.now) ∧ V.cell? ⟨w.heap.size, 1, none⟩ = some (.int .i64 x.hor) ∧ V.cell? ⟨w.heap.size, 2, none⟩ = some (.slice x.oa x.op.length x.oc) ∧ V.cell? ⟨w.heap.size, 3, none⟩ = some (.slice x.ua x.us.length x.uc) ∧ V.cell? ⟨w.heap.size, 4, none⟩ = some (.slice x.sa x.su.length x.sc) ∧ V.cell? ⟨w.heap.size, 5, none⟩ = some (.slice x.ta x.tb.length x.tc) ∧ V.cell? ⟨g1, 0, none⟩ = some (.int .i64 y.now) ∧ V.cell? ⟨g1, 1, none⟩ = some (.int .i64 y.hor) ∧ V.cell? ⟨g1, 2, none⟩ = some (.slice y.oa y.op.length y.oc) ∧ V.cell? ⟨g1, 3, none⟩ = some (.slice y.ua y.us.length y.uc) ∧ V.cell? ⟨g1, 4, none⟩ = some (.slice y.sa y.su.length y.sc) ∧ V.cell? ⟨g1, 5, none⟩ = some (.slice y.ta y.tb.length y.tc))
  (first | with_reducible exact HSC.out _ KT | with_reducible exact HSC.out _ K3b | with_reducible exact HSC.out _ K3 | with_reducible exact HSC.out _ K2b | with_reducible exact HSC.out _ K2 | with_reducible exact HSC.out _ K1b | with_reducible exact HSC.out _ K1 | with_reducible exact HSC.out _ K0b | with_reducible exact HSC.out _ K0)
  (first | (have hseen := K2; clear hseen; go_at_call 22; (first | (refine (HFO.out y hm b2 q2 _ K2.y.at_ p2).mono ?_; rintro r v3 ⟨z, b3, q3, rfl, hz, hzm, -, -, -, h3⟩; have K3 := HBL.out _ _ K2 h3; (try have Z3 := Z2.below h3); have p1 := p1.below h3; have p2 := p2.below h3) | (refine (HFO.out y hm b2 q2 _ K2b.y.at_ p2b).mono ?_; rintro r v3 ⟨z, b3, q3, rfl, hz, hzm, -, -, -, h3⟩; have K3 := HBL.out _ _ K2b h3; have Z3 := Z2b.below h3; have p1 := p1b.below h3; have p2 := p2b.below h3)); have NG3 : w.heap.size ≠ v3.heap.size ∧ g1 ≠ v3.heap.size := ⟨Nat.ne_of_lt K3.s.lt, Nat.ne_of_lt K3.y.lt⟩; (first | (have hzz := Z3; unfold saO at hzz; obtain ⟨z0, z1, z2, z3, z4, z5⟩ := hzz.cells; obtain ⟨f0, f1, f2, f3, f4, f5⟩ := hzz.free; have hzl := hzz.lt; dsimp only [List.length_nil] at z0 z1 z2 z3 z4 z5; clear hzz; (first | (have OV := K3.over Z3 hz NG0.1 NG0.2; have NE := Lib.hid NG0) | (have OV := K3.over Z3 hz NG1.1 NG1.2; have NE := Lib.hid NG1) | (have OV := K3.over Z3 hz NG2.1 NG2.2; have NE := Lib.hid NG2)); obtain ⟨KT, OB⟩ := OV; unfold setS at OB KT; (try dsimp only at OB KT)) | (have K3b := K3.below (below_one v3 (.cells #[.int .i64 0, .int .i64 0, .slice none 0 0, .slice none 0 0, .slice none 0 0, .slice none 0 0] 39)); have OB : SB w v3.heap.size 39 z (v3.alloc (.cells #[.int .i64 z.now, .int .i64 z.hor, .slice z.oa z.op.length z.oc, .slice z.ua z.us.length z.uc, .slice z.sa z.su.length z.sc, .slice z.ta z.tb.length z.tc] 39)) := SB.new K3.s.frame hz 39; have KT := K3.below (below_one v3 (.cells #[.int .i64 z.now, .int .i64 z.hor, .slice z.oa z.op.length z.oc, .slice z.ua z.us.length z.uc, .slice z.sa z.su.length z.sc, .slice z.ta z.tb.length z.tc] 39)); have NE := Lib.hid NG3))) | (have hseen := K1; clear hseen; go_at_call 33; (first | (refine (HWO.out b1 q1 _ p1).mono ?_; rintro r v2 ⟨b2, q2, rfl, p2, -, -, -, h2⟩; have K2 := HBL.out _ _ K1 h2; (try have Z2 := Z1.below h2); have p1 := p1.below h2) | (refine (HWO.out b1 q1 _ p1b).mono ?_; rintro r v2 ⟨b2, q2, rfl, p2, -, -, -, h2⟩; have K2 := HBL.out _ _ K1b h2; have Z2 := Z1b.below h2; have p1 := p1b.below h2)); have NG2 : w.heap.size ≠ v2.heap.size ∧ g1 ≠ v2.heap.size := ⟨Nat.ne_of_lt K2.s.lt, Nat.ne_of_lt K2.y.lt⟩; (first | (have hzz := Z2; clear hzz) | (have K2b := K2.below (below_one v2 (.cells #[.int .i64 0, .int .i64 0, .slice none 0 0, .slice none 0 0, .slice none 0 0, .slice none 0 0] 39)); have Z2b : SB w v2.heap.size 39 saO (v2.alloc (.cells #[.int .i64 0, .int .i64 0, .slice none 0 0, .slice none 0 0, .slice none 0 0, .slice none 0 0] 39)) := SB.new K2.s.frame (SaAt.zero v2) 39; have p1b := p1.below (below_one v2 (.cells #[.int .i64 0, .int .i64 0, .slice none 0 0, .slice none 0 0, .slice none 0 0, .slice none 0 0] 39)); have p2b := p2.below (below_one v2 (.cells #[.int .i64 0, .int .i64 0, .slice none 0 0, .slice none 0 0, .slice none 0 0, .slice none 0 0] 39))))) | (have hseen := K0; clear hseen; go_at_call 21; (first | (refine (HNV.out _ K0.r).mono ?_; rintro r v1 ⟨b1, q1, rfl, p1, -, -, -, h1⟩; have K1 := HBL.out _ _ K0 h1; (try have Z1 := Z0.below h1)) | (refine (HNV.out _ K0b.r).mono ?_; rintro r v1 ⟨b1, q1, rfl, p1, -, -, -, h1⟩; have K1 := HBL.out _ _ K0b h1; have Z1 := Z0b.below h1)); have NG1 : w.heap.size ≠ v1.heap.size ∧ g1 ≠ v1.heap.size := ⟨Nat.ne_of_lt K1.s.lt, Nat.ne_of_lt K1.y.lt⟩; (first | (have hzz := Z1; clear hzz) | (have K1b := K1.below (below_one v1 (.cells #[.int .i64 0, .int .i64 0, .slice none 0 0, .slice none 0 0, .slice none 0 0, .slice none 0 0] 39)); have Z1b : SB w v1.heap.size 39 saO (v1.alloc (.cells #[.int .i64 0, .int .i64 0, .slice none 0 0, .slice none 0 0, .slice none 0 0, .slice none 0 0] 39)) := SB.new K1.s.frame (SaAt.zero v1) 39; have p1b := p1.below (below_one v1 (.cells #[.int .i64 0, .int .i64 0, .slice none 0 0, .slice none 0 0, .slice none 0 0, .slice none 0 0] 39))))))
 all_goals
  have TK := Lib.hid KT
  have TO := Lib.hid OB
  clear KT OB K0 K0b Z0b NG0
  clear K1 NG1 h1
  (try clear K1b)
  (try clear Z1b)
  (try clear Z1)
  clear K2 NG2 h2
  (try clear K2b)
  (try clear Z2b)
  (try clear Z2)
  clear K3 NG3 h3
  (try clear K3b)
  (try clear Z3b)
  (try clear Z3)
  (try clear z0 z1 z2 z3 z4 z5 f0 f1 f2 f3 f4 f5 hzl)
  (try clear p1b)
  (try clear p2b)
  clear KK
  clear k0 k1 k2 k3 k4 k5 k6 k7 k8 k9 k10 k11
  clear HSC HBL HNV HFO HWO
  clear hz p1 p2 NE
  (first
   | (generalize ((((((v3.setCell ⟨U.heap.size, 0, none⟩ (.int .i64 z.now)).setCell ⟨U.heap.size, 1, none⟩ (.int .i64 z.hor)).setCell ⟨U.heap.size, 2, none⟩ (.slice z.oa z.op.length z.oc)).setCell ⟨U.heap.size, 3, none⟩ (.slice z.ua z.us.length z.uc)).setCell ⟨U.heap.size, 4, none⟩ (.slice z.sa z.su.length z.sc)).setCell ⟨U.heap.size, 5, none⟩ (.slice z.ta z.tb.length z.tc)) = T' at *; generalize U.heap.size = g at *; (have hseen : SB w g 39 z T' := TO.out; clear hseen))
   | (generalize ((((((v3.setCell ⟨v1.heap.size, 0, none⟩ (.int .i64 z.now)).setCell ⟨v1.heap.size, 1, none⟩ (.int .i64 z.hor)).setCell ⟨v1.heap.size, 2, none⟩ (.slice z.oa z.op.length z.oc)).setCell ⟨v1.heap.size, 3, none⟩ (.slice z.ua z.us.length z.uc)).setCell ⟨v1.heap.size, 4, none⟩ (.slice z.sa z.su.length z.sc)).setCell ⟨v1.heap.size, 5, none⟩ (.slice z.ta z.tb.length z.tc)) = T' at *; generalize v1.heap.size = g at *; (have hseen : SB w g 39 z T' := TO.out; clear hseen))
   | (generalize ((((((v3.setCell ⟨v2.heap.size, 0, none⟩ (.int .i64 z.now)).setCell ⟨v2.heap.size, 1, none⟩ (.int .i64 z.hor)).setCell ⟨v2.heap.size, 2, none⟩ (.slice z.oa z.op.length z.oc)).setCell ⟨v2.heap.size, 3, none⟩ (.slice z.ua z.us.length z.uc)).setCell ⟨v2.heap.size, 4, none⟩ (.slice z.sa z.su.length z.sc)).setCell ⟨v2.heap.size, 5, none⟩ (.slice z.ta z.tb.length z.tc)) = T' at *; generalize v2.heap.size = g at *; (have hseen : SB w g 39 z T' := TO.out; clear hseen))
   | (generalize v3.alloc (.cells #[.int .i64 z.now, .int .i64 z.hor, .slice z.oa z.op.length z.oc, .slice z.ua z.us.length z.uc, .slice z.sa z.su.length z.sc, .slice z.ta z.tb.length z.tc] 39) = T' at *; generalize v3.heap.size = g at *; (have hseen : SB w g 39 z T' := TO.out; clear hseen)))
  have KZ : FoZ w g x z T' := ⟨TK.out.s, TO.out⟩
  have hge : decide (x.now ≤ z.now) = true := decide_eq_true (HZN.out z hzm)
  have HST1 := Lib.hid (fun V (h : SaAt V z) => HST.out z hzm V h)
  have HRS1 := Lib.hid (fun V (h : SaAt V x) => HRS.out z.now V h)
  have hl3 := hl2 z.now
  clear TK TO HST HRS HZN hzm hl2 hm
  generalize staysS M u z.now = L at *
  have HOL := Lib.hid (fun a q V (h : StSl V a L) => g_olds a q L V h hl3)
  have HSA := Lib.hid (fun a b q r V (h : StSl V a L) (k : StSl V b L) => g_ssame a b q r L V h k hl3)
  clear hl3
  have HSC : Hid (∀ V, FoZ w g x z V → V.cell? ⟨w.heap.size, 0, none⟩ = some (.int .i64 x.now) ∧ V.cell? ⟨w.heap.size, 1, none⟩ = some (.int .i64 x.hor) ∧ V.cell? ⟨w.heap.size, 2, none⟩ = some (.slice x.oa x.op.length x.oc) ∧ V.cell? ⟨w.heap.size, 3, none⟩ = some (.slice x.ua x.us.length x.uc) ∧ V.cell? ⟨w.heap.size, 4, none⟩ = some (.slice x.sa x.su.length x.sc) ∧ V.cell? ⟨w.heap.size, 5, none⟩ = some (.slice x.ta x.tb.length x.tc) ∧ V.cell? ⟨g, 0, none⟩ = some (.int .i64 z.now) ∧ V.cell? ⟨g, 1, none⟩ = some (.int .i64 z.hor) ∧ V.cell? ⟨g, 2, none⟩ = some (.slice z.oa z.op.length z.oc) ∧ V.cell? ⟨g, 3, none⟩ = some (.slice z.ua z.us.length z.uc) ∧ V.cell? ⟨g, 4, none⟩ = some (.slice z.sa z.su.length z.sc) ∧ V.cell? ⟨g, 5, none⟩ = some (.slice z.ta z.tb.length z.tc)) := Lib.hid fun V h => by
   obtain ⟨s0, s1, s2, s3, s4, s5⟩ := h.s.cells
   obtain ⟨z0, z1, z2, z3, z4, z5⟩ := h.z.cells
   exact ⟨s0, s1, s2, s3, s4, s5, z0, z1, z2, z3, z4, z5⟩
  have HBL : Hid (∀ V V', FoZ w g x z V → Below V.heap.size V V' → FoZ w g x z V') := Lib.hid fun V V' h q => h.below q
  obtain ⟨k0, k1, k2, k3, k4, k5, k6, k7, k8, k9, k10, k11⟩ := HSC.out _ KZ
  have K0 := KZ.below (Below.refl _ _).drew
  clear KZ
  go_wp2_with fail
  go_region_held3 (fun V => V.cell? ⟨w.heap.size, 0, none⟩ = some (.int .i64 x.now) ∧ V.cell? ⟨w.heap.size, 1, none⟩ = some (.int .i64 x.hor) ∧ V.cell? ⟨w.heap.size, 2, none⟩ = some (.slice x.oa x.op.length x.oc) ∧ V.cell? ⟨w.heap.size, 3, none⟩ = some (.slice x.ua x.us.length x.uc) ∧ V.cell? ⟨w.heap.size, 4, none⟩ = some (.slice x.sa x.su.length x.sc) ∧ V.cell? ⟨w.heap.size, 5, none⟩ = some (.slice x.ta x.tb.length x.tc) ∧ V.cell? ⟨g, 0, none⟩ = some (.int .i64 z.now) ∧ V.cell? ⟨g, 1, none⟩ = some (.int .i64 z.hor) ∧ V.cell? ⟨g, 2, none⟩ = some (.slice z.oa z.op.length z.oc) ∧ V.cell? ⟨g, 3, none⟩ = some (.slice z.ua z.us.length z.uc) ∧ V.cell? ⟨g, 4, none⟩ = some (.slice z.sa z.su.length z.sc) ∧ V.cell? ⟨g, 5, none⟩ = some (.slice z.ta z.tb.length z.tc))
   (first | with_reducible exact HSC.out _ K5 | with_reducible exact HSC.out _ K4 | with_reducible exact HSC.out _ K3 | with_reducible exact HSC.out _ K2 | with_reducible exact HSC.out _ K1 | with_reducible exact HSC.out _ K0)
   (first | (have hseen := K4; clear hseen; go_at_call 37; refine (HSA.out a3 a4 q3 q4 _ z5 z4).mono ?_; rintro r v5 ⟨rfl, h5⟩; have K5 := HBL.out _ _ K4 h5) | (have hseen := K3; clear hseen; go_at_call 46; refine (HRS1.out _ K3.s.at_).mono ?_; rintro r v4 ⟨a4, q4, rfl, z4, h4⟩; have K4 := HBL.out _ _ K3 h4; have z5 := z3.below h4) | (have hseen := K2; clear hseen; go_at_call 38; refine (HOL.out a2 q2 _ z2).mono ?_; rintro r v3 ⟨a3, q3, rfl, z3, h3⟩; have K3 := HBL.out _ _ K2 h3) | (have hseen := K1; clear hseen; go_at_call 39; refine (HST1.out _ K1.z.at_).mono ?_; rintro r v2 ⟨a2, q2, rfl, z2, h2⟩; have K2 := HBL.out _ _ K1 h2) | (have hseen := K0; clear hseen; go_at_call 20; refine (HAL.out _).mono ?_; rintro r v1 ⟨rfl, h1⟩; have K1 := HBL.out _ _ K0 h1))
  all_goals
   have HF := Lib.hid K5.s.frame
   clear K0 K1 K2 K3 K4 K5
   go_wp2
   go_ret
   exact ⟨rfl, HF.out⟩
theorem contract (H : Type) (enc : TypeId × Value → H) (W : World) (base : Nat) (args : Array Value) (ds gs : List (DataW H)) (before : List MemPlace)
  (hval : ∀ (j : Nat) t v, Tryz.f9.params[j]? = some t → args[j]? = some v → Value.okWide Tryz.prog W .any base t v)
  (hW : DataW.Whole enc Tryz.prog Tryz.f9.params.toList Rows.foldOthersSpec.vars false W args.toList ds gs before) (hk : Rows.uptoSmall H (ds ++ gs) = true) :
  Calls Tryz.prog 9 args W fun e W' => ∃ v, e = .returned v ∧ Rows.foldOthersSpec.post enc Tryz.prog Tryz.f9 false true false false W args v W' := by
 have hW' := hW
 obtain ⟨p, q, hA0, hV, rfl, hfz, hnd⟩ := hW
 have hA : DataW.TrodAll enc Tryz.prog W 0 (fun _ => true) true Tryz.f9.params.toList args.toList ds p := hA0
 rw [Tryz.params9] at hA hval
 obtain ⟨v0, vs0, d0, ds0, p0, q0, hargs, rfl, rfl, h0, r0⟩ := trodAll_cons hA
 obtain ⟨v1, vs1, d1, ds1, p1, q1, rfl, rfl, rfl, h1, r1⟩ := trodAll_cons r0
 obtain ⟨v2, vs2, d2, ds2, p2, q2, rfl, rfl, rfl, h2, r2⟩ := trodAll_cons r1
 obtain ⟨rfl, rfl, rfl⟩ := trodAll_nil r2
 obtain rfl : args = #[v0, v1, v2] := by cases args; simp_all
 obtain ⟨rfl, rfl⟩ := trodVars_none hV
 have hbk : Rows.uptoBulkAll [d0, d1, d2] ≤ 1048576 := of_decide_eq_true hk
 simp only [Rows.uptoBulkAll] at hbk
 obtain ⟨a0, rfl, s0, z0, b0⟩ := open_state (hval 0 27 v0 rfl rfl) h0
 have u0 : stCnt a0.m + a0.us.length ≤ 1048576 := by omega
 obtain ⟨a1, c1, l1, rfl, s1, f1, m1, n1, o1⟩ := open_events (hval 1 28 v1 rfl rfl) h1
 obtain ⟨a2, rfl, -, -, w2⟩ := open_string Tryz.underlying9 (hval 2 9 v2 rfl rfl) h2
 refine (walk W a0 s0 z0 u0 a1 c1 l1 s1 f1 m1 n1 o1 a2 w2).mono fun e W' ⟨he, hb⟩ => ?_
 subst he
 exact ⟨_, rfl, law_post rfl hW' (fun ds h => by match ds, h with | [_, _, _], _ => rfl) (by kernel_rfl) (by kernel_rfl) (by kernel_rfl) hb⟩

set_option maxRecDepth 100000 in
theorem lifted (os : Os) (started : os.Started) (H : Type) (enc : TypeId × Value → H) (F : Stop.Interp) :
  ReturnsInHanded {} Tryz.checked os 9 .any ((Rows.OpenSpec.upto Rows.foldOthersSpec).pre6 enc Tryz.prog Tryz.f9 Rows.foldOthersUptoRow.domain false) (((Rows.OpenSpec.upto Rows.foldOthersSpec).at F).post enc Tryz.prog Tryz.f9 false true false false) := by
 refine returnsInHanded_of_cond (C := Tryz.checked) (s := (Rows.OpenSpec.upto Rows.foldOthersSpec)) (k := Rows.uptoSmall) rfl own started (by kernel_rfl) Tryz.func9
  (OpenSpec.witness (enc := enc) (C := Tryz.checked) (s := (Rows.OpenSpec.upto Rows.foldOthersSpec)) (k := Rows.uptoSmall) rfl false ⟨#[], #[.agg #[.int .i64 0, .int .i64 0, .slice none 0 0, .slice none 0 0, .slice none 0 0, .slice none 0 0], .slice none 0 0, .string ByteArray.empty], []⟩ 8 (by kernel_rfl) (by kernel_rfl) (by kernel_rfl)
   (x := ([.agg [.lit (.int .i64 0), .lit (.int .i64 0), .nil, .nil, .nil, .nil], .nil, .lit (.string [])], [], [])) (by kernel_rfl) rfl (by kernel_rfl)) ?_
 intro W base args ds gs before hval hW _ hk _
 exact contract H enc W base args ds gs before hval hW hk

theorem proved : Rows.FoldOthersUptoSaid :=
 OpenClaim.holds_of_cond 9 Tryz.f9 rfl rfl rfl rfl rfl rfl rfl ⟨rfl, rfl, rfl, rfl, rfl⟩ rfl rfl rfl rfl rfl (by kernel_rfl) Tryz.func9 closedFoldOthers
  (of_decide_eq_true (by kernel_rfl)) (by unfold Func.isWrapper; first | (rw [if_pos (by decide +kernel)]; kernel_rfl) | (rw [if_neg (by decide +kernel)]; exact ⟨rfl, rfl⟩))
  (fun os started H enc _ F => lifted os started H enc F)
end Go.Proofs.YtmfpjapiijgdgaaGreat.foldOthers
