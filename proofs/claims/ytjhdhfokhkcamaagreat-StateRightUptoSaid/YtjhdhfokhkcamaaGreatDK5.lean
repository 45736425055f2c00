/- StateRight: which states may be, and which are the same, is what the document says; for all states of at most 1048576 things. -/
import Derived.Test.YtjhdhfokhkcamaaGreatP01
import Derived.Test.YtjhdhfokhkcamaaGreatP03
import Derived.Test.YtjhdhfokhkcamaaGreatP09
import Derived.Test.YtjhdhfokhkcamaaGreatP12
import Derived.Test.YtjhdhfokhkcamaaGreatP24
import Derived.Test.YtjhdhfokhkcamaaGreatP25
import Derived.Test.YtjhdhfokhkcamaaGreatP31
import Derived.Test.YtjhdhfokhkcamaaGreatP32
import Derived.Test.YtjhdhfokhkcamaaGreatP34
import Derived.Test.YtjhdhfokhkcamaaGreatP36
import Derived.Test.YtjhdhfokhkcamaaGreatP44
import Derived.Test.YtjhdhfokhkcamaaGreatP45
import Derived.JoinedCond
import Derived.Deep.RegionHeld3
import Derived.Test.YtjhdhfokhkcamaaGreatP48
namespace Go.Proofs.YtjhdhfokhkcamaaGreat.stateRight
open Go.ChangeShapes Go.WideShapes Go.ChangeAt Go.RowKit Go.Proofs
open Go.ChangeMaps (open_string shut_string)
set_option linter.unusedVariables false
set_option maxRecDepth 100000

structure RtK (w : World) (x : SaL) (y : SaL) (W : World) : Prop where
  s : SB w w.heap.size 27 x W
  t : SB w (w.heap.size + 1) 27 y W
theorem RtK.below {w W W' : World} {x : SaL} {y : SaL} (h : RtK w x y W) (qB : Below W.heap.size W W') : RtK w x y W' := ⟨h.s.below qB, h.t.below qB⟩
set_option maxHeartbeats 8000000 in
theorem walk (w : World) (x : SaL) (h : SaAt w x) (z : SzS x.m) (b : stCnt x.m + x.us.length ≤ 1048576) (y : SaL) (h' : SaAt w y) (z' : SzS y.m) (b' : stCnt y.m + y.us.length ≤ 1048576) :
    Calls Tryz.prog 7 #[saV x, saV y] w fun e w' => e = .returned (.bool true) ∧ Below w.heap.size w w' := by
  obtain ⟨S, T⟩ := two_states h h' 27 27
  unfold saC at S T
  replace S := Lib.hid S
  replace T := Lib.hid T
  have HAL := Lib.hid alive11
  have HMA := Lib.hid (fun V (h : SaAt V x) => many_any x V h b)
  have HMB := Lib.hid (fun V (h : SaAt V y) => many_any y V h b')
  by_cases g1 : 100 < stCnt x.m + x.us.length
  · have d1 : decide ((100 : Int) < (stCnt x.m : Int) + (x.us.length : Int)) = true := decide_eq_true (by omega)
    clear h z b h' z' b' g1 HMB
    unfold saV saC
    obtain ⟨cS0, cS1, cS2, cS3, cS4, cS5⟩ := S.out.cells
    obtain ⟨cT0, cT1, cT2, cT3, cT4, cT5⟩ := T.out.cells
    go_enter Tryz.func7, Tryz.ntmps7
    go_wp2_with fail
    refine (HMA.out _ S.out.at_).mono ?_
    rintro r1 w1 ⟨rfl, h1⟩
    clear cS0 cS1 cS2 cS3 cS4 cS5 cT0 cT1 cT2 cT3 cT4 cT5
    replace S := Lib.hid (S.out.below h1)
    replace T := Lib.hid (T.out.below h1)
    clear h1
    obtain ⟨cS0, cS1, cS2, cS3, cS4, cS5⟩ := S.out.cells
    obtain ⟨cT0, cT1, cT2, cT3, cT4, cT5⟩ := T.out.cells
    go_wp2_with fail
    refine (HAL.out _).mono ?_
    rintro r2 w2 ⟨rfl, h2⟩
    clear cS0 cS1 cS2 cS3 cS4 cS5 cT0 cT1 cT2 cT3 cT4 cT5
    replace S := Lib.hid (S.out.below h2)
    replace T := Lib.hid (T.out.below h2)
    clear h2
    go_wp2
    go_ret
    exact ⟨rfl, S.out.frame⟩
  have d1 : decide ((100 : Int) < (stCnt x.m : Int) + (x.us.length : Int)) = false := decide_eq_false (by omega)
  by_cases g2 : 100 < stCnt y.m + y.us.length
  · have d2 : decide ((100 : Int) < (stCnt y.m : Int) + (y.us.length : Int)) = true := decide_eq_true (by omega)
    clear h z b h' z' b' g1 g2
    unfold saV saC
    obtain ⟨cS0, cS1, cS2, cS3, cS4, cS5⟩ := S.out.cells
    obtain ⟨cT0, cT1, cT2, cT3, cT4, cT5⟩ := T.out.cells
    go_enter Tryz.func7, Tryz.ntmps7
    go_wp2_with fail
    refine (HMA.out _ S.out.at_).mono ?_
    rintro r1 w1 ⟨rfl, h1⟩
    clear cS0 cS1 cS2 cS3 cS4 cS5 cT0 cT1 cT2 cT3 cT4 cT5
    replace S := Lib.hid (S.out.below h1)
    replace T := Lib.hid (T.out.below h1)
    clear h1
    obtain ⟨cS0, cS1, cS2, cS3, cS4, cS5⟩ := S.out.cells
    obtain ⟨cT0, cT1, cT2, cT3, cT4, cT5⟩ := T.out.cells
    go_wp2_with fail
    refine (HMB.out _ T.out.at_).mono ?_
    rintro r2 w2 ⟨rfl, h2⟩
    clear cS0 cS1 cS2 cS3 cS4 cS5 cT0 cT1 cT2 cT3 cT4 cT5
    replace S := Lib.hid (S.out.below h2)
    replace T := Lib.hid (T.out.below h2)
    clear h2
    obtain ⟨cS0, cS1, cS2, cS3, cS4, cS5⟩ := S.out.cells
    obtain ⟨cT0, cT1, cT2, cT3, cT4, cT5⟩ := T.out.cells
    go_wp2_with fail
    refine (HAL.out _).mono ?_
    rintro r3 w3 ⟨rfl, h3⟩
    clear cS0 cS1 cS2 cS3 cS4 cS5 cT0 cT1 cT2 cT3 cT4 cT5
    replace S := Lib.hid (S.out.below h3)
    replace T := Lib.hid (T.out.below h3)
    clear h3
    go_wp2
    go_ret
    exact ⟨rfl, S.out.frame⟩
  have d2 : decide ((100 : Int) < (stCnt y.m : Int) + (y.us.length : Int)) = false := decide_eq_false (by omega)
  have hf0 : Few x.m 900 := (few_cnt (by omega)).mono (show 100 ≤ 900 by decide)
  have hf1 : Few y.m 900 := (few_cnt (by omega)).mono (show 100 ≤ 900 by decide)
  obtain ⟨M, hM⟩ : ∃ M, x.m = M := ⟨_, rfl⟩
  obtain ⟨N, hN⟩ : ∃ N, y.m = N := ⟨_, rfl⟩
  have hf : Few M 900 := hM ▸ hf0
  have hz : SzS M := hM ▸ z
  have kf : Few N 900 := hN ▸ hf1
  have HNW := Lib.hid (fun V (h : SaAt V x) => g_new x V h hM hf)
  have HNB := Lib.hid (fun V (h : SaAt V y) => g_new y V h hN kf)
  have HRB := Lib.hid (fun p V (h : SaAt V p) hm => g_rightB (M := M) p V h hm hz hf)
  have HRR := Lib.hid (fun V (h : SaAt V x) => g_rrightB x V h hM hz hf)
  have HSM := Lib.hid (fun p q V (h : SaAt V p) (k : SaAt V q) hm km => g_sameB (M := M) (N := N) p q V h k hm km hf kf)
  have HRS := Lib.hid (fun V (h : SaAt V x) (k : SaAt V y) => g_rsameB x y V h k hM hN hf kf)
  have HSS := Lib.hid (fun p q V (h : SaAt V p) (k : SaAt V q) hm km => g_same (M := M) p q V h k hm km hf)
  generalize rightB M = b1 at *
  generalize sameS M N = b2 at *
  have e1 : (b1 == b1) = true := beq_self_eq_true _
  have e2 : (b2 == b2) = true := beq_self_eq_true _
  replace hM := Lib.hid hM
  replace hN := Lib.hid hN
  clear h z b h' z' b' g1 g2 hf0 hf1 hf hz kf
  unfold saV saC
  obtain ⟨cS0, cS1, cS2, cS3, cS4, cS5⟩ := S.out.cells
  obtain ⟨cT0, cT1, cT2, cT3, cT4, cT5⟩ := T.out.cells
  go_enter Tryz.func7, Tryz.ntmps7
  go_wp2_with fail
  refine (HMA.out _ S.out.at_).mono ?_
  rintro r1 w1 ⟨rfl, h1⟩
  clear cS0 cS1 cS2 cS3 cS4 cS5 cT0 cT1 cT2 cT3 cT4 cT5
  replace S := Lib.hid (S.out.below h1)
  replace T := Lib.hid (T.out.below h1)
  clear h1
  obtain ⟨cS0, cS1, cS2, cS3, cS4, cS5⟩ := S.out.cells
  obtain ⟨cT0, cT1, cT2, cT3, cT4, cT5⟩ := T.out.cells
  go_wp2_with fail
  refine (HMB.out _ T.out.at_).mono ?_
  rintro r2 w2 ⟨rfl, h2⟩
  clear cS0 cS1 cS2 cS3 cS4 cS5 cT0 cT1 cT2 cT3 cT4 cT5
  replace S := Lib.hid (S.out.below h2)
  replace T := Lib.hid (T.out.below h2)
  clear h2
  clear HMA HMB
  have KK : RtK w x y _ := ⟨S.out, T.out⟩
  have HSC : Hid (∀ V, RtK w x y V → V.cell? ⟨w.heap.size, 0, none⟩ = some (.int .i64 x.now) ∧ V.cell? ⟨w.heap.size, 1, none⟩ = some (.int .i64 x.hor) ∧ V.cell? ⟨w.heap.size, 2, none⟩ = some (.slice x.oa x.op.length x.oc) ∧ V.cell? ⟨w.heap.size, 3, none⟩ = some (.slice x.ua x.us.length x.uc) ∧ V.cell? ⟨w.heap.size, 4, none⟩ = some (.slice x.sa x.su.length x.sc) ∧ V.cell? ⟨w.heap.size, 5, none⟩ = some (.slice x.ta x.tb.length x.tc) ∧ V.cell? ⟨w.heap.size + 1, 0, none⟩ = some (.int .i64 y.now) ∧ V.cell? ⟨w.heap.size + 1, 1, none⟩ = some (.int .i64 y.hor) ∧ V.cell? ⟨w.heap.size + 1, 2, none⟩ = some (.slice y.oa y.op.length y.oc) ∧ V.cell? ⟨w.heap.size + 1, 3, none⟩ = some (.slice y.ua y.us.length y.uc) ∧ V.cell? ⟨w.heap.size + 1, 4, none⟩ = some (.slice y.sa y.su.length y.sc) ∧ V.cell? ⟨w.heap.size + 1, 5, none⟩ = some (.slice y.ta y.tb.length y.tc)) := fun V h => by
    obtain ⟨s0, s1, s2, s3, s4, s5⟩ := h.s.cells
    obtain ⟨t0, t1, t2, t3, t4, t5⟩ := h.t.cells
    exact ⟨s0, s1, s2, s3, s4, s5, t0, t1, t2, t3, t4, t5⟩
  have HBL : Hid (∀ V V', RtK w x y V → Below V.heap.size V V' → RtK w x y V') := fun V V' h q => h.below q
  obtain ⟨k0, k1, k2, k3, k4, k5, k6, k7, k8, k9, k10, k11⟩ := HSC.out _ KK
  have K0 := KK.below (Below.refl _ _).drew
  clear S T KK
  go_wp2_with fail
  go_region_held3 (fun V => V.cell? ⟨w.heap.size, 0, none⟩ = some (.int .i64 x.now) ∧ V.cell? ⟨w.heap.size, 1, none⟩ = some (.int .i64 x.hor) ∧ V.cell? ⟨w.heap.size, 2, none⟩ = some (.slice x.oa x.op.length x.oc) ∧ V.cell? ⟨w.heap.size, 3, none⟩ = some (.slice x.ua x.us.length x.uc) ∧ V.cell? ⟨w.heap.size, 4, none⟩ = some (.slice x.sa x.su.length x.sc) ∧ V.cell? ⟨w.heap.size, 5, none⟩ = some (.slice x.ta x.tb.length x.tc) ∧ V.cell? ⟨w.heap.size + 1, 0, none⟩ = some (.int .i64 y.now) ∧ V.cell? ⟨w.heap.size + 1, 1, none⟩ = some (.int .i64 y.hor) ∧ V.cell? ⟨w.heap.size + 1, 2, none⟩ = some (.slice y.oa y.op.length y.oc) ∧ V.cell? ⟨w.heap.size + 1, 3, none⟩ = some (.slice y.ua y.us.length y.uc) ∧ V.cell? ⟨w.heap.size + 1, 4, none⟩ = some (.slice y.sa y.su.length y.sc) ∧ V.cell? ⟨w.heap.size + 1, 5, none⟩ = some (.slice y.ta y.tb.length y.tc))
    (first | with_reducible exact HSC.out _ K11 | with_reducible exact HSC.out _ K10 | with_reducible exact HSC.out _ K9 | with_reducible exact HSC.out _ K8 | with_reducible exact HSC.out _ K7 | with_reducible exact HSC.out _ K6 | with_reducible exact HSC.out _ K5 | with_reducible exact HSC.out _ K4 | with_reducible exact HSC.out _ K3 | with_reducible exact HSC.out _ K2 | with_reducible exact HSC.out _ K1 | with_reducible exact HSC.out _ K0)
    (first | (have hseen := K10; clear hseen; go_at_call 26; refine (HSS.out y8 y9 _ p10 p9 m8 m9).mono ?_; rintro r v11 ⟨rfl, h11⟩; have K11 := HBL.out _ _ K10 h11) | (have hseen := K9; clear hseen; go_at_call 15; refine (HNW.out _ K9.s.at_).mono ?_; rintro r v10 ⟨y9, rfl, p9, m9, h10⟩; have K10 := HBL.out _ _ K9 h10; have p10 := p8.below h10) | (have hseen := K8; clear hseen; go_at_call 15; refine (HNW.out _ K8.s.at_).mono ?_; rintro r v9 ⟨y8, rfl, p8, m8, h9⟩; have K9 := HBL.out _ _ K8 h9) | (have hseen := K7; clear hseen; go_at_call 18; refine (HRS.out _ K7.s.at_ K7.t.at_).mono ?_; rintro r v8 ⟨rfl, h8⟩; have K8 := HBL.out _ _ K7 h8) | (have hseen := K6; clear hseen; go_at_call 26; refine (HSM.out y4 y5 _ p6 p5 m4 m5).mono ?_; rintro r v7 ⟨rfl, h7⟩; have K7 := HBL.out _ _ K6 h7) | (have hseen := K5; clear hseen; go_at_call 15; refine (HNB.out _ K5.t.at_).mono ?_; rintro r v6 ⟨y5, rfl, p5, m5, h6⟩; have K6 := HBL.out _ _ K5 h6; have p6 := p4.below h6) | (have hseen := K4; clear hseen; go_at_call 15; refine (HNW.out _ K4.s.at_).mono ?_; rintro r v5 ⟨y4, rfl, p4, m4, h5⟩; have K5 := HBL.out _ _ K4 h5) | (have hseen := K3; clear hseen; go_at_call 13; refine (HRR.out _ K3.s.at_).mono ?_; rintro r v4 ⟨rfl, h4⟩; have K4 := HBL.out _ _ K3 h4) | (have hseen := K2; clear hseen; go_at_call 20; refine (HRB.out y1 _ p1 m1).mono ?_; rintro r v3 ⟨rfl, h3⟩; have K3 := HBL.out _ _ K2 h3) | (have hseen := K1; clear hseen; go_at_call 15; refine (HNW.out _ K1.s.at_).mono ?_; rintro r v2 ⟨y1, rfl, p1, m1, h2⟩; have K2 := HBL.out _ _ K1 h2) | (have hseen := K0; clear hseen; go_at_call 14; refine (HAL.out _).mono ?_; rintro r v1 ⟨rfl, h1⟩; have K1 := HBL.out _ _ K0 h1))
  all_goals
    have HF := Lib.hid K11.s.frame
    clear K0 K1 K2 K3 K4 K5 K6 K7 K8 K9 K10 K11
    go_wp2
    go_ret
    exact ⟨rfl, HF.out⟩
theorem contract (H : Type) (enc : TypeId × Value → H) (W : World) (base : Nat) (args : Array Value) (ds gs : List (DataW H)) (before : List MemPlace)
    (hval : ∀ (j : Nat) t v, Tryz.f7.params[j]? = some t → args[j]? = some v → Value.okWide Tryz.prog W .any base t v)
    (hW : DataW.Whole enc Tryz.prog Tryz.f7.params.toList Rows.stateRightSpec.vars false W args.toList ds gs before) (hk : Rows.uptoSmall H (ds ++ gs) = true) :
    Calls Tryz.prog 7 args W fun e W' => ∃ v, e = .returned v ∧ Rows.stateRightSpec.post enc Tryz.prog Tryz.f7 false true false false W args v W' := by
  have hW' := hW
  obtain ⟨p, q, hA0, hV, rfl, hfz, hnd⟩ := hW
  have hA : DataW.TrodAll enc Tryz.prog W 0 (fun _ => true) true Tryz.f7.params.toList args.toList ds p := hA0
  rw [Tryz.params7] at hA hval
  obtain ⟨v0, vs0, d0, ds0, p0, q0, hargs, rfl, rfl, h0, r0⟩ := trodAll_cons hA
  obtain ⟨v1, vs1, d1, ds1, p1, q1, rfl, rfl, rfl, h1, r1⟩ := trodAll_cons r0
  obtain ⟨rfl, rfl, rfl⟩ := trodAll_nil r1
  obtain rfl : args = #[v0, v1] := by cases args; simp_all
  obtain ⟨rfl, rfl⟩ := trodVars_none hV
  have hbk : Rows.uptoBulkAll [d0, d1] ≤ 1048576 := of_decide_eq_true hk
  simp only [Rows.uptoBulkAll] at hbk
  obtain ⟨a0, rfl, s0, z0, b0⟩ := open_state (hval 0 27 v0 rfl rfl) h0
  have u0 : stCnt a0.m + a0.us.length ≤ 1048576 := by omega
  obtain ⟨a1, rfl, s1, z1, b1⟩ := open_state (hval 1 27 v1 rfl rfl) h1
  have u1 : stCnt a1.m + a1.us.length ≤ 1048576 := by omega
  refine (walk W a0 s0 z0 u0 a1 s1 z1 u1).mono fun e W' ⟨he, hb⟩ => ?_
  subst he
  exact ⟨_, rfl, law_post rfl hW' (fun ds h => by match ds, h with | [_, _], _ => rfl) (by kernel_rfl) (by kernel_rfl) (by kernel_rfl) hb⟩

set_option maxRecDepth 100000 in
theorem lifted (os : Os) (started : os.Started) (H : Type) (enc : TypeId × Value → H) (F : Stop.Interp) :
    ReturnsInHanded {} Tryz.checked os 7 .any ((Rows.OpenSpec.upto Rows.stateRightSpec).pre6 enc Tryz.prog Tryz.f7 Rows.stateRightUptoRow.domain false) (((Rows.OpenSpec.upto Rows.stateRightSpec).at F).post enc Tryz.prog Tryz.f7 false true false false) := by
  refine returnsInHanded_of_cond (C := Tryz.checked) (s := (Rows.OpenSpec.upto Rows.stateRightSpec)) (k := Rows.uptoSmall) rfl own started (by kernel_rfl) Tryz.func7
    (OpenSpec.witness (enc := enc) (C := Tryz.checked) (s := (Rows.OpenSpec.upto Rows.stateRightSpec)) (k := Rows.uptoSmall) rfl false ⟨#[], #[.agg #[.int .i64 0, .int .i64 0, .slice none 0 0, .slice none 0 0, .slice none 0 0, .slice none 0 0], .agg #[.int .i64 0, .int .i64 0, .slice none 0 0, .slice none 0 0, .slice none 0 0, .slice none 0 0]], []⟩ 8 (by kernel_rfl) (by kernel_rfl) (by kernel_rfl)
      (x := ([.agg [.lit (.int .i64 0), .lit (.int .i64 0), .nil, .nil, .nil, .nil], .agg [.lit (.int .i64 0), .lit (.int .i64 0), .nil, .nil, .nil, .nil]], [], [])) (by kernel_rfl) rfl (by kernel_rfl)) ?_
  intro W base args ds gs before hval hW _ hk _
  exact contract H enc W base args ds gs before hval hW hk

theorem proved : Rows.StateRightUptoSaid :=
  OpenClaim.holds_of_cond 7 Tryz.f7 rfl rfl rfl rfl rfl rfl rfl ⟨rfl, rfl, rfl, rfl, rfl⟩ rfl rfl rfl rfl rfl (by kernel_rfl) Tryz.func7 (by kernel_rfl)
    (of_decide_eq_true (by kernel_rfl)) (by unfold Func.isWrapper; first | (rw [if_pos (by decide +kernel)]; kernel_rfl) | (rw [if_neg (by decide +kernel)]; exact ⟨rfl, rfl⟩))
    (fun os started H enc _ F => lifted os started H enc F)
end Go.Proofs.YtjhdhfokhkcamaaGreat.stateRight
