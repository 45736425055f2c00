/- GateRanges: the stays that a question is told, and why it may not be, are what the document says; for all states of at most 1048576 things. -/
import Derived.JoinedCond
import Derived.Deep.RegionHeld3
import Derived.OrdersHeld
import Derived.Test.YtmfpjapiijgdgaaGreatV00
import Derived.Test.YtmfpjapiijgdgaaGreatRows
import Derived.Test.YtmfpjapiijgdgaaGreatTQ
import Derived.Test.YtmfpjapiijgdgaaGreatV01
import Derived.Test.YtmfpjapiijgdgaaGreatV03
import Derived.Test.YtmfpjapiijgdgaaGreatV05
import Derived.Test.YtmfpjapiijgdgaaGreatV06
import Derived.Test.YtmfpjapiijgdgaaGreatV07
import Derived.Test.YtmfpjapiijgdgaaGreatV19
import Derived.Test.YtmfpjapiijgdgaaGreatV20
import Derived.Test.YtmfpjapiijgdgaaGreatV28
import Derived.Test.YtmfpjapiijgdgaaGreatV35
import Derived.Test.YtmfpjapiijgdgaaGreatV36
import Derived.Test.YtmfpjapiijgdgaaGreatV37
import Derived.Test.YtmfpjapiijgdgaaGreatV41
import Derived.Test.YtmfpjapiijgdgaaGreatV44
import Derived.Test.YtmfpjapiijgdgaaGreatV45
import Derived.Test.YtmfpjapiijgdgaaGreatV47
namespace Go.Proofs.YtmfpjapiijgdgaaGreat.gateRanges
open Go.ChangeShapes Go.WideShapes Go.ChangeAt Go.RowKit Go.Proofs
open Go.ChangeMaps (open_string shut_string)
set_option linter.unusedVariables false
set_option maxRecDepth 100000

set_option maxHeartbeats 8000000 in
theorem walk (w : World) (x : SaL) (h : SaAt w x) (z : SzS x.m) (b : stCnt x.m + x.us.length ≤ 1048576) (q : AskM) (hw : q.w.size ≤ maxLen) (hu : q.u.size ≤ maxLen) (hi : I64 q.f ∧ I64 q.t ∧ I64 q.n) :
  Calls Tryz.prog 10 #[saV x, askV q] w fun e w' => e = .returned (.bool true) ∧ Below w.heap.size w w' := by
 have S := SQ.new w q h 27 86
 unfold saC askC at S
 replace S := Lib.hid S
 have HAL := Lib.hid alive13
 have HMA := Lib.hid (fun V (h : SaAt V x) => many_any x V h b)
 by_cases g1 : 100 < stCnt x.m + x.us.length
 ·have d1 : decide ((100 : Int) < (stCnt x.m : Int) + (x.us.length : Int)) = true := decide_eq_true (by omega)
  clear h z b hw hu hi g1
  unfold saV saC askV askC
  obtain ⟨c0, c1, c2, c3, c4, c5, a0, a1, a2, a3, a4⟩ := S.out.cells
  go_enter Tryz.func10, Tryz.ntmps10
  go_wp2_with fail
  refine (HMA.out _ S.out.s.at_).mono ?_
  rintro r1 w1 ⟨rfl, h1⟩
  clear c0 c1 c2 c3 c4 c5 a0 a1 a2 a3 a4
  replace S := Lib.hid (S.out.below h1)
  clear h1
  obtain ⟨c0, c1, c2, c3, c4, c5, a0, a1, a2, a3, a4⟩ := S.out.cells
  go_wp2_with fail
  refine (HAL.out _).mono ?_
  rintro r2 w2 ⟨rfl, h2⟩
  clear c0 c1 c2 c3 c4 c5 a0 a1 a2 a3 a4
  replace S := Lib.hid (S.out.below h2)
  clear h2
  go_wp2
  go_ret
  exact ⟨rfl, S.out.s.frame⟩
 have d1 : decide ((100 : Int) < (stCnt x.m : Int) + (x.us.length : Int)) = false := decide_eq_false (by omega)
 have hf0 : Few x.m 100 := few_cnt (by omega)
 by_cases hr0 : RightS x.m
 case neg =>
  have HRR := Lib.hid (fun V (h : SaAt V x) => g_rwrong x V h rfl z (hf0.mono (by decide)) hr0)
  clear h z b hw hu hi g1 hf0 hr0
  unfold saV saC askV askC
  obtain ⟨c0, c1, c2, c3, c4, c5, a0, a1, a2, a3, a4⟩ := S.out.cells
  go_enter Tryz.func10, Tryz.ntmps10
  go_wp2_with fail
  refine (HMA.out _ S.out.s.at_).mono ?_
  rintro r1 w1 ⟨rfl, h1⟩
  clear c0 c1 c2 c3 c4 c5 a0 a1 a2 a3 a4
  replace S := Lib.hid (S.out.below h1)
  clear h1
  obtain ⟨c0, c1, c2, c3, c4, c5, a0, a1, a2, a3, a4⟩ := S.out.cells
  go_wp2_with fail
  refine (HRR.out _ S.out.s.at_).mono ?_
  rintro r2 w2 ⟨rfl, h2⟩
  clear c0 c1 c2 c3 c4 c5 a0 a1 a2 a3 a4
  replace S := Lib.hid (S.out.below h2)
  clear h2
  obtain ⟨c0, c1, c2, c3, c4, c5, a0, a1, a2, a3, a4⟩ := S.out.cells
  go_wp2_with fail
  refine (HAL.out _).mono ?_
  rintro r3 w3 ⟨rfl, h3⟩
  clear c0 c1 c2 c3 c4 c5 a0 a1 a2 a3 a4
  replace S := Lib.hid (S.out.below h3)
  clear h3
  go_wp2
  go_ret
  exact ⟨rfl, S.out.s.frame⟩
 have HRR := Lib.hid (fun V (h : SaAt V x) => g_rright x V h rfl z (hf0.mono (by decide)) hr0)
 have hc0 : stCnt x.m ≤ 100 := by omega
 have HNW : Hid (∀ V, SaAt V x → Calls Tryz.prog 23 #[.agg #[.int .i64 x.now, .int .i64 x.hor, .slice x.oa x.op.length x.oc, .slice x.ua x.us.length x.uc, .slice x.sa x.su.length x.sc, .slice x.ta x.tb.length x.tc]] V fun r w' => ∃ y, r = .returned (.agg #[.int .i64 y.now, .int .i64 y.hor, .slice y.oa y.op.length y.oc, .slice y.ua y.us.length y.uc, .slice y.sa y.su.length y.sc, .slice y.ta y.tb.length y.tc]) ∧ SaAt w' y ∧ y.m = x.m ∧ Below V.heap.size V w') := fun V h => g_new x V h rfl (hf0.mono (by decide))
 have HNQ : Hid (∀ V, Calls Tryz.prog 49 #[.agg #[.string q.w, .string q.u, .int .i64 q.f, .int .i64 q.t, .int .i64 q.n]] V fun r w' => r = .returned (.agg #[.string q.w, .string q.u, .int .i64 q.f, .int .i64 q.t, .int .i64 q.n]) ∧ Below V.heap.size V w') := fun V => gnew_any q V
 have HRG : Hid (∀ (y : SaL) V, SaAt V y → y.m = x.m → Calls Tryz.prog 48 #[.agg #[.int .i64 y.now, .int .i64 y.hor, .slice y.oa y.op.length y.oc, .slice y.ua y.us.length y.uc, .slice y.sa y.su.length y.sc, .slice y.ta y.tb.length y.tc], .agg #[.string q.w, .string q.u, .int .i64 q.f, .int .i64 q.t, .int .i64 q.n]] V fun r w' => ∃ b c m, r = .returned (.tuple #[.slice b m.length c, .int .i64 (whyV x.m q.w q.u q.n)]) ∧ GTold x.m q m ∧ m.length ≤ 90000 ∧ StSl w' b m ∧ Below V.heap.size V w') := fun y V h hm => by
  have h1 := range_any13 y q V h (hm ▸ hf0.mono (by decide)) hw hu
  rw [hm] at h1
  exact h1
 have HRD : Hid (∀ V m, SaAt V x → GTold x.m q m → Calls Tryz.prog 50 #[.agg #[.int .i64 x.now, .int .i64 x.hor, .slice x.oa x.op.length x.oc, .slice x.ua x.us.length x.uc, .slice x.sa x.su.length x.sc, .slice x.ta x.tb.length x.tc], .agg #[.string q.w, .string q.u, .int .i64 q.f, .int .i64 q.t, .int .i64 q.n]] V fun r w' => ∃ b c, r = .returned (.tuple #[.slice b m.length c, .int .i64 (whyV x.m q.w q.u q.n)]) ∧ StSl w' b m ∧ Below V.heap.size V w') := fun V m h k => by
  refine (rrange_any13 x q V h hf0 hw hu).mono ?_
  rintro e w' ⟨b, c, m', rfl, h1, -, h3, h4⟩
  obtain rfl := h1.only k
  exact ⟨b, c, rfl, h3, h4⟩
 have HOL : Hid (∀ (m : List StM) b c V, m.length ≤ 90000 → StSl V b m → Calls Tryz.prog 38 #[.slice b m.length c] V fun r w' => ∃ a d, r = .returned (.slice a m.length d) ∧ StSl w' a m ∧ Below V.heap.size V w') := fun m b c V hl h => by
  refine (solds_any b c m V h (by omega)).mono ?_
  rintro e w' ⟨v, rfl, ho, hb⟩
  obtain ⟨a, d, rfl, _, _, h3, _⟩ := own_st ho
  exact ⟨a, d, rfl, h3, hb⟩
 have HSM : Hid (∀ (m : List StM) b c a d V, m.length ≤ 90000 → StSl V b m → StSl V a m → Calls Tryz.prog 37 #[.slice b m.length c, .slice a m.length d] V fun r w' => r = .returned (.bool true) ∧ Below V.heap.size V w') := fun m b c a d V hl h k => by
  have h1 := srefSame_any b a c d m m V h k (by unfold maxLen; omega) (by unfold maxLen; omega)
  rwa [decide_eq_true rfl] at h1
 have HSC := Lib.hid (fun V (k : SQ w w.heap.size (w.heap.size + 1) 27 86 x q V) => k.cells)
 generalize GTold x.m q = TD at *
 generalize whyV x.m q.w q.u q.n = Y at *
 have hYY : (Y == Y) = true := beq_self_eq_true _
 clear h z b hw hu hi g1 hf0 hr0 hc0
 unfold saV saC askV askC
 obtain ⟨c0, c1, c2, c3, c4, c5, a0, a1, a2, a3, a4⟩ := S.out.cells
 go_enter Tryz.func10, Tryz.ntmps10
 go_wp2_with fail
 refine (HMA.out _ S.out.s.at_).mono ?_
 rintro r1 w1 ⟨rfl, h1⟩
 clear c0 c1 c2 c3 c4 c5 a0 a1 a2 a3 a4
 replace S := Lib.hid (S.out.below h1)
 clear h1
 obtain ⟨c0, c1, c2, c3, c4, c5, a0, a1, a2, a3, a4⟩ := S.out.cells
 go_wp2_with fail
 refine (HRR.out _ S.out.s.at_).mono ?_
 rintro r2 w2 ⟨rfl, h2⟩
 clear c0 c1 c2 c3 c4 c5 a0 a1 a2 a3 a4
 replace S := Lib.hid (S.out.below h2)
 clear h2
 obtain ⟨c0, c1, c2, c3, c4, c5, a0, a1, a2, a3, a4⟩ := S.out.cells
 go_wp2_with fail
 clear c0 c1 c2 c3 c4 c5 a0 a1 a2 a3 a4
 have K0 := S.out.drew
 clear S HMA HRR
 go_region_held3 (fun V => V.cell? ⟨w.heap.size, 0, none⟩ = some (.int .i64 x.now) ∧ V.cell? ⟨w.heap.size, 1, none⟩ = some (.int .i64 x.hor) ∧ V.cell? ⟨w.heap.size, 2, none⟩ = some (.slice x.oa x.op.length x.oc) ∧ V.cell? ⟨w.heap.size, 3, none⟩ = some (.slice x.ua x.us.length x.uc) ∧ V.cell? ⟨w.heap.size, 4, none⟩ = some (.slice x.sa x.su.length x.sc) ∧ V.cell? ⟨w.heap.size, 5, none⟩ = some (.slice x.ta x.tb.length x.tc) ∧ V.cell? ⟨w.heap.size + 1, 0, none⟩ = some (.string q.w) ∧ V.cell? ⟨w.heap.size + 1, 1, none⟩ = some (.string q.u) ∧ V.cell? ⟨w.heap.size + 1, 2, none⟩ = some (.int .i64 q.f) ∧ V.cell? ⟨w.heap.size + 1, 3, none⟩ = some (.int .i64 q.t) ∧ V.cell? ⟨w.heap.size + 1, 4, none⟩ = some (.int .i64 q.n))
  (first | with_reducible exact HSC.out _ K3 | with_reducible exact HSC.out _ K2 | with_reducible exact HSC.out _ K1n | with_reducible exact HSC.out _ K1q | with_reducible exact HSC.out _ K0)
  (first | (have hseen := K2; clear hseen; go_at_call 48; refine (HRG.out _ _ Y2 ym).mono ?_; rintro r v3 ⟨b3, q3, m, rfl, l1, l2, l3, h3⟩; have K3 := K2.below h3) | (have hseen := K0; clear hseen; go_at_call 23; (first | (refine (HNW.out _ K1q.s.at_).mono ?_; rintro r v2 ⟨y, rfl, Y2, ym, h2⟩; have K2 := K1q.below h2) | (refine (HNW.out _ K0.s.at_).mono ?_; rintro r v1 ⟨y, rfl, Y1, ym, h1⟩; have K1n := K0.below h1))) | (have hseen := K0; clear hseen; go_at_call 49; (first | (refine (HNQ.out v1).mono ?_; rintro r v2 ⟨rfl, h2⟩; have K2 := K1n.below h2; have Y2 := Y1.below h2) | (refine (HNQ.out _).mono ?_; rintro r v1 ⟨rfl, h1⟩; have K1q := K0.below h1))))
 all_goals
  have S := Lib.hid K3
  have HT := Lib.hid l1
  have HLE := Lib.hid l2
  have R3 := Lib.hid l3
  clear K0 K2 K3 Y2 ym h1 h2 h3 l1 l2 l3 HNW HNQ HRG HSC
  (try clear Y1)
  (try clear K1n)
  (try clear K1q)
  obtain ⟨c0, c1, c2, c3, c4, c5, a0, a1, a2, a3, a4⟩ := S.out.cells
  go_wp2_with fail
  refine (HRD.out _ m S.out.s.at_ HT.out).mono ?_
  rintro r w4 ⟨b4, q4, rfl, p4, h4⟩
  replace R3 := Lib.hid (R3.out.below h4)
  have R4 := Lib.hid p4
  replace S := Lib.hid (S.out.below h4)
  clear c0 c1 c2 c3 c4 c5 a0 a1 a2 a3 a4
  clear HRD HT h4 p4
  go_wp2_with fail
  refine (HAL.out _).mono ?_
  rintro r w5 ⟨rfl, h5⟩
  replace R3 := Lib.hid (R3.out.below h5)
  replace R4 := Lib.hid (R4.out.below h5)
  replace S := Lib.hid (S.out.below h5)
  clear h5 HAL
  go_wp2_with fail
  refine (HOL.out m _ _ _ HLE.out R3.out).mono ?_
  rintro r w6 ⟨b6, q6, rfl, p6, h6⟩
  have R6 := Lib.hid p6
  replace R4 := Lib.hid (R4.out.below h6)
  replace S := Lib.hid (S.out.below h6)
  clear h6 HOL p6 R3
  go_wp2_with fail
  refine (HSM.out m _ _ _ _ _ HLE.out R6.out R4.out).mono ?_
  rintro r w7 ⟨rfl, h7⟩
  replace S := Lib.hid (S.out.below h7)
  clear h7 HSM R6 R4
  go_wp2
  go_ret
  exact ⟨rfl, S.out.s.frame⟩
theorem contract (H : Type) (enc : TypeId × Value → H) (W : World) (base : Nat) (args : Array Value) (ds gs : List (DataW H)) (before : List MemPlace)
  (hval : ∀ (j : Nat) t v, Tryz.f10.params[j]? = some t → args[j]? = some v → Value.okWide Tryz.prog W .any base t v)
  (hW : DataW.Whole enc Tryz.prog Tryz.f10.params.toList Rows.gateRangesSpec.vars false W args.toList ds gs before) (hk : Rows.uptoSmall H (ds ++ gs) = true) :
  Calls Tryz.prog 10 args W fun e W' => ∃ v, e = .returned v ∧ Rows.gateRangesSpec.post enc Tryz.prog Tryz.f10 false true false false W args v W' := by
 have hW' := hW
 obtain ⟨p, q, hA0, hV, rfl, hfz, hnd⟩ := hW
 have hA : DataW.TrodAll enc Tryz.prog W 0 (fun _ => true) true Tryz.f10.params.toList args.toList ds p := hA0
 rw [Tryz.params10] at hA hval
 obtain ⟨v0, vs0, d0, ds0, p0, q0, hargs, rfl, rfl, h0, r0⟩ := trodAll_cons hA
 obtain ⟨v1, vs1, d1, ds1, p1, q1, rfl, rfl, rfl, h1, r1⟩ := trodAll_cons r0
 obtain ⟨rfl, rfl, rfl⟩ := trodAll_nil r1
 obtain rfl : args = #[v0, v1] := by cases args; simp_all
 obtain ⟨rfl, rfl⟩ := trodVars_none hV
 have hbk : Rows.uptoBulkAll [d0, d1] ≤ 1048576 := of_decide_eq_true hk
 simp only [Rows.uptoBulkAll] at hbk
 obtain ⟨a0, rfl, s0, z0, b0⟩ := open_state (hval 0 27 v0 rfl rfl) h0
 have u0 : stCnt a0.m + a0.us.length ≤ 1048576 := by omega
 obtain ⟨a1, rfl, w1, x1, y1⟩ := open_ask (hval 1 86 v1 rfl rfl) h1
 refine (walk W a0 s0 z0 u0 a1 w1 x1 y1).mono fun e W' ⟨he, hb⟩ => ?_
 subst he
 exact ⟨_, rfl, law_post rfl hW' (fun ds h => by match ds, h with | [_, _], _ => rfl) (by kernel_rfl) (by kernel_rfl) (by kernel_rfl) hb⟩

set_option maxRecDepth 100000 in
theorem lifted (os : Os) (started : os.Started) (H : Type) (enc : TypeId × Value → H) (F : Stop.Interp) :
  ReturnsInHanded {} Tryz.checked os 10 .any ((Rows.OpenSpec.upto Rows.gateRangesSpec).pre6 enc Tryz.prog Tryz.f10 Rows.gateRangesUptoRow.domain false) (((Rows.OpenSpec.upto Rows.gateRangesSpec).at F).post enc Tryz.prog Tryz.f10 false true false false) := by
 refine returnsInHanded_of_cond (C := Tryz.checked) (s := (Rows.OpenSpec.upto Rows.gateRangesSpec)) (k := Rows.uptoSmall) rfl own started (by kernel_rfl) Tryz.func10
  (OpenSpec.witness (enc := enc) (C := Tryz.checked) (s := (Rows.OpenSpec.upto Rows.gateRangesSpec)) (k := Rows.uptoSmall) rfl false ⟨#[], #[.agg #[.int .i64 0, .int .i64 0, .slice none 0 0, .slice none 0 0, .slice none 0 0, .slice none 0 0], .agg #[.string ByteArray.empty, .string ByteArray.empty, .int .i64 0, .int .i64 0, .int .i64 0]], []⟩ 8 (by kernel_rfl) (by kernel_rfl) (by kernel_rfl)
   (x := ([.agg [.lit (.int .i64 0), .lit (.int .i64 0), .nil, .nil, .nil, .nil], .agg [.lit (.string []), .lit (.string []), .lit (.int .i64 0), .lit (.int .i64 0), .lit (.int .i64 0)]], [], [])) (by kernel_rfl) rfl (by kernel_rfl)) ?_
 intro W base args ds gs before hval hW _ hk _
 exact contract H enc W base args ds gs before hval hW hk

theorem proved : Rows.GateRangesUptoSaid :=
 OpenClaim.holds_of_cond 10 Tryz.f10 rfl rfl rfl rfl rfl rfl rfl ⟨rfl, rfl, rfl, rfl, rfl⟩ rfl rfl rfl rfl rfl (by kernel_rfl) Tryz.func10 closedGateRanges
  (of_decide_eq_true (by kernel_rfl)) (by unfold Func.isWrapper; first | (rw [if_pos (by decide +kernel)]; kernel_rfl) | (rw [if_neg (by decide +kernel)]; exact ⟨rfl, rfl⟩))
  (fun os started H enc _ F => lifted os started H enc F)
end Go.Proofs.YtmfpjapiijgdgaaGreat.gateRanges
