/- StateTells: a user's stays up to any time, whether there is anything of it, and how many things there are, are what the document says; for all states of at most 1048576 things, all texts and times. -/
import Derived.Test.YtjhdhfokhkcamaaGreatP01
import Derived.Test.YtjhdhfokhkcamaaGreatP03
import Derived.Test.YtjhdhfokhkcamaaGreatP09
import Derived.Test.YtjhdhfokhkcamaaGreatP10
import Derived.Test.YtjhdhfokhkcamaaGreatP12
import Derived.Test.YtjhdhfokhkcamaaGreatP25
import Derived.Test.YtjhdhfokhkcamaaGreatP31
import Derived.Test.YtjhdhfokhkcamaaGreatP32
import Derived.Test.YtjhdhfokhkcamaaGreatP34
import Derived.Test.YtjhdhfokhkcamaaGreatP45
import Derived.JoinedCond
import Derived.Deep.RegionHeld3
import Derived.Test.YtjhdhfokhkcamaaGreatP48
namespace Go.Proofs.YtjhdhfokhkcamaaGreat.stateTells
open Go.ChangeShapes Go.WideShapes Go.ChangeAt Go.RowKit Go.Proofs
open Go.ChangeMaps (open_string shut_string)
set_option linter.unusedVariables false
set_option maxRecDepth 100000

structure TlK (w : World) (g : Nat) (x : SaL) (y : SaL) (W : World) : Prop where
  s : SB w w.heap.size 27 x W
  y : SB w g 38 y W
theorem TlK.below {w W W' : World} {g : Nat} {x : SaL} {y : SaL} (h : TlK w g x y W) (qB : Below W.heap.size W W') : TlK w g x y W' := ⟨h.s.below qB, h.y.below qB⟩
set_option maxHeartbeats 8000000 in
theorem walk (w : World) (x : SaL) (h : SaAt w x) (z : SzS x.m) (b : stCnt x.m + x.us.length ≤ 1048576) (u : ByteArray) (hu : u.size ≤ maxLen) (t : Int) (ht : (Lit.int .i64 t).wf = true) :
    Calls Tryz.prog 6 #[saV x, .string u, .int .i64 t] w fun e w' => e = .returned (.bool true) ∧ Below w.heap.size w w' := by
  have S := SB.new (Below.refl w.heap.size w) h 27
  unfold saC at S
  replace S := Lib.hid S
  have HAL := Lib.hid alive11
  have HMA := Lib.hid (fun V (h : SaAt V x) => many_any x V h b)
  by_cases g1 : 100 < stCnt x.m + x.us.length
  · have d1 : decide ((100 : Int) < (stCnt x.m : Int) + (x.us.length : Int)) = true := decide_eq_true (by omega)
    clear h z b g1 hu ht
    unfold saV saC
    obtain ⟨cS0, cS1, cS2, cS3, cS4, cS5⟩ := S.out.cells
    go_enter Tryz.func6, Tryz.ntmps6
    go_wp2_with fail
    refine (HMA.out _ S.out.at_).mono ?_
    rintro r1 w1 ⟨rfl, h1⟩
    clear cS0 cS1 cS2 cS3 cS4 cS5
    replace S := Lib.hid (S.out.below h1)
    clear h1
    obtain ⟨cS0, cS1, cS2, cS3, cS4, cS5⟩ := S.out.cells
    go_wp2_with fail
    refine (HAL.out _).mono ?_
    rintro r2 w2 ⟨rfl, h2⟩
    clear cS0 cS1 cS2 cS3 cS4 cS5
    replace S := Lib.hid (S.out.below h2)
    clear h2
    go_wp2
    go_ret
    exact ⟨rfl, S.out.frame⟩
  have d1 : decide ((100 : Int) < (stCnt x.m : Int) + (x.us.length : Int)) = false := decide_eq_false (by omega)
  have hf0 : Few x.m 100 := few_cnt (by omega)
  by_cases hr0 : RightS x.m
  case neg =>
    have HRR := Lib.hid (fun V (h : SaAt V x) => g_rwrong x V h rfl z (hf0.mono (by decide)) hr0)
    clear h z b g1 hf0 hr0 hu ht
    unfold saV saC
    obtain ⟨cS0, cS1, cS2, cS3, cS4, cS5⟩ := S.out.cells
    go_enter Tryz.func6, Tryz.ntmps6
    go_wp2_with fail
    refine (HMA.out _ S.out.at_).mono ?_
    rintro r1 w1 ⟨rfl, h1⟩
    clear cS0 cS1 cS2 cS3 cS4 cS5
    replace S := Lib.hid (S.out.below h1)
    clear h1
    obtain ⟨cS0, cS1, cS2, cS3, cS4, cS5⟩ := S.out.cells
    go_wp2_with fail
    refine (HRR.out _ S.out.at_).mono ?_
    rintro r2 w2 ⟨rfl, h2⟩
    clear cS0 cS1 cS2 cS3 cS4 cS5
    replace S := Lib.hid (S.out.below h2)
    clear h2
    obtain ⟨cS0, cS1, cS2, cS3, cS4, cS5⟩ := S.out.cells
    go_wp2_with fail
    refine (HAL.out _).mono ?_
    rintro r3 w3 ⟨rfl, h3⟩
    clear cS0 cS1 cS2 cS3 cS4 cS5
    replace S := Lib.hid (S.out.below h3)
    clear h3
    go_wp2
    go_ret
    exact ⟨rfl, S.out.frame⟩
  have HRR := Lib.hid (fun V (h : SaAt V x) => g_rright x V h rfl z (hf0.mono (by decide)) hr0)
  have hc0 : stCnt x.m ≤ 100 := by omega
  clear b g1
  obtain ⟨M, hM⟩ : ∃ M, x.m = M := ⟨_, rfl⟩
  have hr : RightS M := hM ▸ hr0
  have hf : Few M 100 := hM ▸ hf0
  have hz : SzS M := hM ▸ z
  have hc : stCnt M ≤ 100 := hM ▸ hc0
  have HNW := Lib.hid (fun V (h : SaAt V x) => g_new x V h hM (hf.mono (by decide)))
  have HST := Lib.hid (fun y V (h : SaAt V y) hm => g_stays (M := M) y V h hm u t (hf.mono (by decide)))
  have HRS := Lib.hid (fun V (h : SaAt V x) => g_rstays x V h hM u t (hf.mono (by decide)))
  have HHA := Lib.hid (fun y V (h : SaAt V y) hm => g_has (M := M) y V h hm u hr (hf.mono (by decide)))
  have HRH := Lib.hid (fun V (h : SaAt V x) => g_rhas x V h hM u (hf.mono (by decide)))
  have HCT := Lib.hid (fun y V (h : SaAt V y) hm => g_count (M := M) y V h hm (hf.mono (by decide)) (Nat.le_trans hc (by decide)))
  have HRC := Lib.hid (fun V (h : SaAt V x) => g_rcount x V h hM (hf.mono (by decide)) (Nat.le_trans hc (by decide)))
  have hl := stays_few (hf.mono (by decide)) u t
  generalize staysS M u t = l at *
  generalize stHas M u = hb at *
  generalize (stCnt M : Int) = n at *
  have HOL := Lib.hid (fun a q V (h : StSl V a l) => g_olds a q l V h hl)
  have HSA := Lib.hid (fun a b q r V (h : StSl V a l) (k : StSl V b l) => g_ssame a b q r l V h k hl)
  have e1 : (hb == hb) = true := beq_self_eq_true _
  have e2 : (n == n) = true := beq_self_eq_true _
  have e3 : decide (n = n) = true := decide_eq_true rfl
  replace hM := Lib.hid hM
  clear h z hf0 hr0 hc0 hr hf hz hc hu ht hl
  unfold saV saC
  obtain ⟨cS0, cS1, cS2, cS3, cS4, cS5⟩ := S.out.cells
  go_enter Tryz.func6, Tryz.ntmps6
  go_wp2_with fail
  refine (HMA.out _ S.out.at_).mono ?_
  rintro r1 w1 ⟨rfl, h1⟩
  clear cS0 cS1 cS2 cS3 cS4 cS5
  replace S := Lib.hid (S.out.below h1)
  clear h1
  obtain ⟨cS0, cS1, cS2, cS3, cS4, cS5⟩ := S.out.cells
  go_wp2_with fail
  refine (HRR.out _ S.out.at_).mono ?_
  rintro r2 w2 ⟨rfl, h2⟩
  clear cS0 cS1 cS2 cS3 cS4 cS5
  replace S := Lib.hid (S.out.below h2)
  clear h2
  obtain ⟨cS0, cS1, cS2, cS3, cS4, cS5⟩ := S.out.cells
  go_wp2_with fail
  refine (HNW.out _ S.out.at_).mono ?_
  rintro r3 w3 ⟨y, rfl, hy, hm, h3⟩
  clear cS0 cS1 cS2 cS3 cS4 cS5
  unfold saV saC
  have hb3 := below_one w3 (.cells #[.int .i64 y.now, .int .i64 y.hor, .slice y.oa y.op.length y.oc, .slice y.ua y.us.length y.uc, .slice y.sa y.su.length y.sc, .slice y.ta y.tb.length y.tc] 38)
  have hc3 := h3.trans (hb3.mono h3.size)
  have Y : Hid (SB w w3.heap.size 38 y (w3.alloc (.cells #[.int .i64 y.now, .int .i64 y.hor, .slice y.oa y.op.length y.oc, .slice y.ua y.us.length y.uc, .slice y.sa y.su.length y.sc, .slice y.ta y.tb.length y.tc] 38))) := Lib.hid (SB.new (S.out.frame.trans (h3.mono S.out.frame.size)) hy 38)
  replace S := Lib.hid (S.out.below hc3)
  clear hb3 hc3 h3 hy
  clear HMA HRR HNW
  have KK : TlK w w3.heap.size x y _ := ⟨S.out, Y.out⟩
  have HSC : Hid (∀ V, TlK w w3.heap.size x y V → V.cell? ⟨w.heap.size, 0, none⟩ = some (.int .i64 x.now) ∧ V.cell? ⟨w.heap.size, 1, none⟩ = some (.int .i64 x.hor) ∧ V.cell? ⟨w.heap.size, 2, none⟩ = some (.slice x.oa x.op.length x.oc) ∧ V.cell? ⟨w.heap.size, 3, none⟩ = some (.slice x.ua x.us.length x.uc) ∧ V.cell? ⟨w.heap.size, 4, none⟩ = some (.slice x.sa x.su.length x.sc) ∧ V.cell? ⟨w.heap.size, 5, none⟩ = some (.slice x.ta x.tb.length x.tc) ∧ V.cell? ⟨w3.heap.size, 0, none⟩ = some (.int .i64 y.now) ∧ V.cell? ⟨w3.heap.size, 1, none⟩ = some (.int .i64 y.hor) ∧ V.cell? ⟨w3.heap.size, 2, none⟩ = some (.slice y.oa y.op.length y.oc) ∧ V.cell? ⟨w3.heap.size, 3, none⟩ = some (.slice y.ua y.us.length y.uc) ∧ V.cell? ⟨w3.heap.size, 4, none⟩ = some (.slice y.sa y.su.length y.sc) ∧ V.cell? ⟨w3.heap.size, 5, none⟩ = some (.slice y.ta y.tb.length y.tc)) := fun V h => by
    obtain ⟨s0, s1, s2, s3, s4, s5⟩ := h.s.cells
    obtain ⟨y0, y1, y2, y3, y4, y5⟩ := h.y.cells
    exact ⟨s0, s1, s2, s3, s4, s5, y0, y1, y2, y3, y4, y5⟩
  have HBL : Hid (∀ V V', TlK w w3.heap.size x y V → Below V.heap.size V V' → TlK w w3.heap.size x y V') := fun V V' h q => h.below q
  obtain ⟨k0, k1, k2, k3, k4, k5, k6, k7, k8, k9, k10, k11⟩ := HSC.out _ KK
  have K0 := KK.below (Below.refl _ _).drew
  clear S Y KK
  go_wp2_with fail
  go_region_held3 (fun V => V.cell? ⟨w.heap.size, 0, none⟩ = some (.int .i64 x.now) ∧ V.cell? ⟨w.heap.size, 1, none⟩ = some (.int .i64 x.hor) ∧ V.cell? ⟨w.heap.size, 2, none⟩ = some (.slice x.oa x.op.length x.oc) ∧ V.cell? ⟨w.heap.size, 3, none⟩ = some (.slice x.ua x.us.length x.uc) ∧ V.cell? ⟨w.heap.size, 4, none⟩ = some (.slice x.sa x.su.length x.sc) ∧ V.cell? ⟨w.heap.size, 5, none⟩ = some (.slice x.ta x.tb.length x.tc) ∧ V.cell? ⟨w3.heap.size, 0, none⟩ = some (.int .i64 y.now) ∧ V.cell? ⟨w3.heap.size, 1, none⟩ = some (.int .i64 y.hor) ∧ V.cell? ⟨w3.heap.size, 2, none⟩ = some (.slice y.oa y.op.length y.oc) ∧ V.cell? ⟨w3.heap.size, 3, none⟩ = some (.slice y.ua y.us.length y.uc) ∧ V.cell? ⟨w3.heap.size, 4, none⟩ = some (.slice y.sa y.su.length y.sc) ∧ V.cell? ⟨w3.heap.size, 5, none⟩ = some (.slice y.ta y.tb.length y.tc))
    (first | with_reducible exact HSC.out _ K9 | with_reducible exact HSC.out _ K8 | with_reducible exact HSC.out _ K7 | with_reducible exact HSC.out _ K6 | with_reducible exact HSC.out _ K5 | with_reducible exact HSC.out _ K4 | with_reducible exact HSC.out _ K3 | with_reducible exact HSC.out _ K2 | with_reducible exact HSC.out _ K1 | with_reducible exact HSC.out _ K0)
    (first | (have hseen := K8; clear hseen; go_at_call 34; refine (HRC.out _ K8.s.at_).mono ?_; rintro r v9 ⟨rfl, h9⟩; have K9 := HBL.out _ _ K8 h9) | (have hseen := K7; clear hseen; go_at_call 33; refine (HCT.out y _ K7.y.at_ hm).mono ?_; rintro r v8 ⟨rfl, h8⟩; have K8 := HBL.out _ _ K7 h8) | (have hseen := K6; clear hseen; go_at_call 32; refine (HRH.out _ K6.s.at_).mono ?_; rintro r v7 ⟨rfl, h7⟩; have K7 := HBL.out _ _ K6 h7) | (have hseen := K5; clear hseen; go_at_call 31; refine (HHA.out y _ K5.y.at_ hm).mono ?_; rintro r v6 ⟨rfl, h6⟩; have K6 := HBL.out _ _ K5 h6) | (have hseen := K4; clear hseen; go_at_call 27; refine (HSA.out a3 a4 q3 q4 _ z5 z4).mono ?_; rintro r v5 ⟨rfl, h5⟩; have K5 := HBL.out _ _ K4 h5) | (have hseen := K3; clear hseen; go_at_call 30; refine (HRS.out _ K3.s.at_).mono ?_; rintro r v4 ⟨a4, q4, rfl, z4, h4⟩; have K4 := HBL.out _ _ K3 h4; have z5 := z3.below h4) | (have hseen := K2; clear hseen; go_at_call 28; refine (HOL.out a2 q2 _ z2).mono ?_; rintro r v3 ⟨a3, q3, rfl, z3, h3⟩; have K3 := HBL.out _ _ K2 h3) | (have hseen := K1; clear hseen; go_at_call 29; refine (HST.out y _ K1.y.at_ hm).mono ?_; rintro r v2 ⟨a2, q2, rfl, z2, h2⟩; have K2 := HBL.out _ _ K1 h2) | (have hseen := K0; clear hseen; go_at_call 14; refine (HAL.out _).mono ?_; rintro r v1 ⟨rfl, h1⟩; have K1 := HBL.out _ _ K0 h1))
  all_goals
    have HF := Lib.hid K9.s.frame
    clear K0 K1 K2 K3 K4 K5 K6 K7 K8 K9
    go_wp2
    go_ret
    exact ⟨rfl, HF.out⟩
theorem contract (H : Type) (enc : TypeId × Value → H) (W : World) (base : Nat) (args : Array Value) (ds gs : List (DataW H)) (before : List MemPlace)
    (hval : ∀ (j : Nat) t v, Tryz.f6.params[j]? = some t → args[j]? = some v → Value.okWide Tryz.prog W .any base t v)
    (hW : DataW.Whole enc Tryz.prog Tryz.f6.params.toList Rows.stateTellsSpec.vars false W args.toList ds gs before) (hk : Rows.uptoSmall H (ds ++ gs) = true) :
    Calls Tryz.prog 6 args W fun e W' => ∃ v, e = .returned v ∧ Rows.stateTellsSpec.post enc Tryz.prog Tryz.f6 false true false false W args v W' := by
  have hW' := hW
  obtain ⟨p, q, hA0, hV, rfl, hfz, hnd⟩ := hW
  have hA : DataW.TrodAll enc Tryz.prog W 0 (fun _ => true) true Tryz.f6.params.toList args.toList ds p := hA0
  rw [Tryz.params6] at hA hval
  obtain ⟨v0, vs0, d0, ds0, p0, q0, hargs, rfl, rfl, h0, r0⟩ := trodAll_cons hA
  obtain ⟨v1, vs1, d1, ds1, p1, q1, rfl, rfl, rfl, h1, r1⟩ := trodAll_cons r0
  obtain ⟨v2, vs2, d2, ds2, p2, q2, rfl, rfl, rfl, h2, r2⟩ := trodAll_cons r1
  obtain ⟨rfl, rfl, rfl⟩ := trodAll_nil r2
  obtain rfl : args = #[v0, v1, v2] := by cases args; simp_all
  obtain ⟨rfl, rfl⟩ := trodVars_none hV
  have hbk : Rows.uptoBulkAll [d0, d1, d2] ≤ 1048576 := of_decide_eq_true hk
  simp only [Rows.uptoBulkAll] at hbk
  obtain ⟨a0, rfl, s0, z0, b0⟩ := open_state (hval 0 27 v0 rfl rfl) h0
  have u0 : stCnt a0.m + a0.us.length ≤ 1048576 := by omega
  obtain ⟨a1, rfl, -, -, w1⟩ := open_string Tryz.underlying9 (hval 1 9 v1 rfl rfl) h1
  obtain ⟨a2, rfl, -, -, w2⟩ := open_int Tryz.underlying3 (hval 2 3 v2 rfl rfl) h2
  refine (walk W a0 s0 z0 u0 a1 w1 a2 w2).mono fun e W' ⟨he, hb⟩ => ?_
  subst he
  exact ⟨_, rfl, law_post rfl hW' (fun ds h => by match ds, h with | [_, _, _], _ => rfl) (by kernel_rfl) (by kernel_rfl) (by kernel_rfl) hb⟩

set_option maxRecDepth 100000 in
theorem lifted (os : Os) (started : os.Started) (H : Type) (enc : TypeId × Value → H) (F : Stop.Interp) :
    ReturnsInHanded {} Tryz.checked os 6 .any ((Rows.OpenSpec.upto Rows.stateTellsSpec).pre6 enc Tryz.prog Tryz.f6 Rows.stateTellsUptoRow.domain false) (((Rows.OpenSpec.upto Rows.stateTellsSpec).at F).post enc Tryz.prog Tryz.f6 false true false false) := by
  refine returnsInHanded_of_cond (C := Tryz.checked) (s := (Rows.OpenSpec.upto Rows.stateTellsSpec)) (k := Rows.uptoSmall) rfl own started (by kernel_rfl) Tryz.func6
    (OpenSpec.witness (enc := enc) (C := Tryz.checked) (s := (Rows.OpenSpec.upto Rows.stateTellsSpec)) (k := Rows.uptoSmall) rfl false ⟨#[], #[.agg #[.int .i64 0, .int .i64 0, .slice none 0 0, .slice none 0 0, .slice none 0 0, .slice none 0 0], .string ByteArray.empty, .int .i64 0], []⟩ 8 (by kernel_rfl) (by kernel_rfl) (by kernel_rfl)
      (x := ([.agg [.lit (.int .i64 0), .lit (.int .i64 0), .nil, .nil, .nil, .nil], .lit (.string []), .lit (.int .i64 0)], [], [])) (by kernel_rfl) rfl (by kernel_rfl)) ?_
  intro W base args ds gs before hval hW _ hk _
  exact contract H enc W base args ds gs before hval hW hk

theorem proved : Rows.StateTellsUptoSaid :=
  OpenClaim.holds_of_cond 6 Tryz.f6 rfl rfl rfl rfl rfl rfl rfl ⟨rfl, rfl, rfl, rfl, rfl⟩ rfl rfl rfl rfl rfl (by kernel_rfl) Tryz.func6 (by kernel_rfl)
    (of_decide_eq_true (by kernel_rfl)) (by unfold Func.isWrapper; first | (rw [if_pos (by decide +kernel)]; kernel_rfl) | (rw [if_neg (by decide +kernel)]; exact ⟨rfl, rfl⟩))
    (fun os started H enc _ F => lifted os started H enc F)
end Go.Proofs.YtjhdhfokhkcamaaGreat.stateTells
