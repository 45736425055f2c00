/- GateLasts: when one was seen last, and whether one may be seen, is what the document says; for all states of at most 1048576 things. -/
import Derived.JoinedCond
import Derived.Deep.RegionHeld3
import Derived.OrdersHeld
import Derived.Test.YtmfpjapiijgdgaaGreatV00
import Derived.Test.YtmfpjapiijgdgaaGreatRows
import Derived.Test.YtmfpjapiijgdgaaGreatTQ
import Derived.Test.YtmfpjapiijgdgaaGreatV01
import Derived.Test.YtmfpjapiijgdgaaGreatV03
import Derived.Test.YtmfpjapiijgdgaaGreatV05
import Derived.Test.YtmfpjapiijgdgaaGreatV06
import Derived.Test.YtmfpjapiijgdgaaGreatV07
import Derived.Test.YtmfpjapiijgdgaaGreatV20
import Derived.Test.YtmfpjapiijgdgaaGreatV26
import Derived.Test.YtmfpjapiijgdgaaGreatV28
import Derived.Test.YtmfpjapiijgdgaaGreatV34
import Derived.Test.YtmfpjapiijgdgaaGreatV35
import Derived.Test.YtmfpjapiijgdgaaGreatV41
import Derived.Test.YtmfpjapiijgdgaaGreatV44
import Derived.Test.YtmfpjapiijgdgaaGreatV48
import Derived.Test.YtmfpjapiijgdgaaGreatV51
import Derived.Test.YtmfpjapiijgdgaaGreatV53
namespace Go.Proofs.YtmfpjapiijgdgaaGreat.gateLasts
open Go.ChangeShapes Go.WideShapes Go.ChangeAt Go.RowKit Go.Proofs
open Go.ChangeMaps (open_string shut_string)
set_option linter.unusedVariables false
set_option maxRecDepth 100000

set_option maxHeartbeats 8000000 in
theorem walk (w : World) (x : SaL) (h : SaAt w x) (z : SzS x.m) (b : stCnt x.m + x.us.length ≤ 1048576) (p u : ByteArray) (hp : p.size ≤ maxLen) (hu : u.size ≤ maxLen) (n : Int) (hn : (Lit.int IntKind.i64 n).wf = true) :
  Calls Tryz.prog 11 #[saV x, .agg #[.string p, .string u], .int .i64 n] w fun e w' => e = .returned (.bool true) ∧ Below w.heap.size w w' := by
 have S := SP.new w p u h 27 97
 unfold saC at S
 replace S := Lib.hid S
 have HAL := Lib.hid alive13
 have HMA := Lib.hid (fun V (h : SaAt V x) => many_any x V h b)
 by_cases g1 : 100 < stCnt x.m + x.us.length
 ·have d1 : decide ((100 : Int) < (stCnt x.m : Int) + (x.us.length : Int)) = true := decide_eq_true (by omega)
  clear h z b hp hu g1
  unfold saV saC
  obtain ⟨c0, c1, c2, c3, c4, c5, a0, a1⟩ := S.out.cells
  go_enter Tryz.func11, Tryz.ntmps11
  go_wp2_with fail
  refine (HMA.out _ S.out.s.at_).mono ?_
  rintro r1 w1 ⟨rfl, h1⟩
  clear c0 c1 c2 c3 c4 c5 a0 a1
  replace S := Lib.hid (S.out.below h1)
  clear h1
  obtain ⟨c0, c1, c2, c3, c4, c5, a0, a1⟩ := S.out.cells
  go_wp2_with fail
  refine (HAL.out _).mono ?_
  rintro r2 w2 ⟨rfl, h2⟩
  clear c0 c1 c2 c3 c4 c5 a0 a1
  replace S := Lib.hid (S.out.below h2)
  clear h2
  go_wp2
  go_ret
  exact ⟨rfl, S.out.s.frame⟩
 have d1 : decide ((100 : Int) < (stCnt x.m : Int) + (x.us.length : Int)) = false := decide_eq_false (by omega)
 have hf0 : Few x.m 100 := few_cnt (by omega)
 by_cases hr0 : RightS x.m
 case neg =>
  have HRR := Lib.hid (fun V (h : SaAt V x) => g_rwrong x V h rfl z (hf0.mono (by decide)) hr0)
  clear h z b hp hu g1 hf0 hr0
  unfold saV saC
  obtain ⟨c0, c1, c2, c3, c4, c5, a0, a1⟩ := S.out.cells
  go_enter Tryz.func11, Tryz.ntmps11
  go_wp2_with fail
  refine (HMA.out _ S.out.s.at_).mono ?_
  rintro r1 w1 ⟨rfl, h1⟩
  clear c0 c1 c2 c3 c4 c5 a0 a1
  replace S := Lib.hid (S.out.below h1)
  clear h1
  obtain ⟨c0, c1, c2, c3, c4, c5, a0, a1⟩ := S.out.cells
  go_wp2_with fail
  refine (HRR.out _ S.out.s.at_).mono ?_
  rintro r2 w2 ⟨rfl, h2⟩
  clear c0 c1 c2 c3 c4 c5 a0 a1
  replace S := Lib.hid (S.out.below h2)
  clear h2
  obtain ⟨c0, c1, c2, c3, c4, c5, a0, a1⟩ := S.out.cells
  go_wp2_with fail
  refine (HAL.out _).mono ?_
  rintro r3 w3 ⟨rfl, h3⟩
  clear c0 c1 c2 c3 c4 c5 a0 a1
  replace S := Lib.hid (S.out.below h3)
  clear h3
  go_wp2
  go_ret
  exact ⟨rfl, S.out.s.frame⟩
 have HRR := Lib.hid (fun V (h : SaAt V x) => g_rright x V h rfl z (hf0.mono (by decide)) hr0)
 have hc0 : stCnt x.m ≤ 100 := by omega
 have HNW : Hid (∀ V, SaAt V x → Calls Tryz.prog 23 #[.agg #[.int .i64 x.now, .int .i64 x.hor, .slice x.oa x.op.length x.oc, .slice x.ua x.us.length x.uc, .slice x.sa x.su.length x.sc, .slice x.ta x.tb.length x.tc]] V fun r w' => ∃ y, r = .returned (.agg #[.int .i64 y.now, .int .i64 y.hor, .slice y.oa y.op.length y.oc, .slice y.ua y.us.length y.uc, .slice y.sa y.su.length y.sc, .slice y.ta y.tb.length y.tc]) ∧ SaAt w' y ∧ y.m = x.m ∧ Below V.heap.size V w') := fun V h => g_new x V h rfl (hf0.mono (by decide))
 have HLG : Hid (∀ (y : SaL) V, SaAt V y → y.m = x.m → Calls Tryz.prog 51 #[.agg #[.int .i64 y.now, .int .i64 y.hor, .slice y.oa y.op.length y.oc, .slice y.ua y.us.length y.uc, .slice y.sa y.su.length y.sc, .slice y.ta y.tb.length y.tc], .agg #[.string p, .string u], .int .i64 n] V fun r w' => ∃ k b, r = .returned (.tuple #[.int .i64 k, .bool b, .int .i64 (whyV x.m p u n)]) ∧ LastT x.m p u n k b ∧ Below V.heap.size V w') := fun y V h hm => by
  refine (last_any13 y p u n V h (hm ▸ hf0.mono (by decide)) hp hu).mono ?_
  rintro e w' ⟨m, rfl, h1, h2⟩
  rw [hm] at h1 ⊢
  exact ⟨_, _, rfl, ⟨m, h1, rfl, rfl⟩, h2⟩
 have HLD : Hid (∀ V k b, SaAt V x → LastT x.m p u n k b → Calls Tryz.prog 52 #[.agg #[.int .i64 x.now, .int .i64 x.hor, .slice x.oa x.op.length x.oc, .slice x.ua x.us.length x.uc, .slice x.sa x.su.length x.sc, .slice x.ta x.tb.length x.tc], .agg #[.string p, .string u], .int .i64 n] V fun r w' => r = .returned (.tuple #[.int .i64 k, .bool b, .int .i64 (whyV x.m p u n)]) ∧ Below V.heap.size V w') := fun V k b h hk => by
  refine (rlast_any13 x p u n V h hf0 hp hu).mono ?_
  rintro e w' ⟨m, rfl, h1, h2⟩
  obtain ⟨e1, e2⟩ := LastT.only ⟨m, h1, rfl, rfl⟩ hk
  rw [e1, e2]
  exact ⟨rfl, h2⟩
 have HSG : Hid (∀ (y : SaL) V, SaAt V y → y.m = x.m → Calls Tryz.prog 53 #[.agg #[.int .i64 y.now, .int .i64 y.hor, .slice y.oa y.op.length y.oc, .slice y.ua y.us.length y.uc, .slice y.sa y.su.length y.sc, .slice y.ta y.tb.length y.tc], .agg #[.string p, .string u], .int .i64 n] V fun r w' => r = .returned (.bool (hasB (perS x.m.su p u) n)) ∧ Below V.heap.size V w') := fun y V h hm => by
  have h1 := sees_any13 y p u n V h (by rw [hm]; exact Nat.le_trans hf0.su (by decide))
  rw [hm] at h1
  exact h1
 have HSD : Hid (∀ V, SaAt V x → Calls Tryz.prog 54 #[.agg #[.int .i64 x.now, .int .i64 x.hor, .slice x.oa x.op.length x.oc, .slice x.ua x.us.length x.uc, .slice x.sa x.su.length x.sc, .slice x.ta x.tb.length x.tc], .agg #[.string p, .string u], .int .i64 n] V fun r w' => r = .returned (.bool (hasB (perS x.m.su p u) n)) ∧ Below V.heap.size V w') := fun V h => rsees_any13 x p u n V h (Nat.le_trans hf0.su (by decide))
 have HSC := Lib.hid (fun V (k : SP w 27 97 x p u V) => k.cells)
 generalize LastT x.m p u n = LD at *
 generalize whyV x.m p u n = Y at *
 generalize hasB (perS x.m.su p u) n = B at *
 have hYY : (Y == Y) = true := beq_self_eq_true _
 have hBB : (B == B) = true := beq_self_eq_true _
 clear h z b hp hu hn g1 hf0 hr0 hc0
 unfold saV saC
 obtain ⟨c0, c1, c2, c3, c4, c5, a0, a1⟩ := S.out.cells
 go_enter Tryz.func11, Tryz.ntmps11
 go_wp2_with fail
 refine (HMA.out _ S.out.s.at_).mono ?_
 rintro r1 w1 ⟨rfl, h1⟩
 clear c0 c1 c2 c3 c4 c5 a0 a1
 replace S := Lib.hid (S.out.below h1)
 clear h1
 obtain ⟨c0, c1, c2, c3, c4, c5, a0, a1⟩ := S.out.cells
 go_wp2_with fail
 refine (HRR.out _ S.out.s.at_).mono ?_
 rintro r2 w2 ⟨rfl, h2⟩
 clear c0 c1 c2 c3 c4 c5 a0 a1
 replace S := Lib.hid (S.out.below h2)
 clear h2
 obtain ⟨c0, c1, c2, c3, c4, c5, a0, a1⟩ := S.out.cells
 go_wp2_with fail
 clear c0 c1 c2 c3 c4 c5 a0 a1
 have K := S.out.drew
 clear S HMA HRR
 go_region_held3 (fun V => V.cell? ⟨w.heap.size, 0, none⟩ = some (.int .i64 x.now) ∧ V.cell? ⟨w.heap.size, 1, none⟩ = some (.int .i64 x.hor) ∧ V.cell? ⟨w.heap.size, 2, none⟩ = some (.slice x.oa x.op.length x.oc) ∧ V.cell? ⟨w.heap.size, 3, none⟩ = some (.slice x.ua x.us.length x.uc) ∧ V.cell? ⟨w.heap.size, 4, none⟩ = some (.slice x.sa x.su.length x.sc) ∧ V.cell? ⟨w.heap.size, 5, none⟩ = some (.slice x.ta x.tb.length x.tc) ∧ V.cell? ⟨w.heap.size + 1, 0, none⟩ = some (.string p) ∧ V.cell? ⟨w.heap.size + 1, 1, none⟩ = some (.string u))
  (with_reducible exact HSC.out _ K)
  (first | (go_at_call 51; refine (HLG.out _ _ Y2 ym).mono ?_; rintro r v2 ⟨k, b, rfl, l1, h2⟩; have K := K.below h2) | (go_at_call 23; refine (HNW.out _ K.s.at_).mono ?_; rintro r v1 ⟨y, rfl, Y2, ym, h1⟩; have K := K.below h1))
 have S := Lib.hid K
 have HT := Lib.hid l1
 have hkk : (k == k) = true := beq_self_eq_true _
 have hbb : (b == b) = true := beq_self_eq_true _
 clear K Y2 ym h1 h2 l1 HLG
 obtain ⟨c0, c1, c2, c3, c4, c5, a0, a1⟩ := S.out.cells
 go_wp2_with fail
 refine (HLD.out _ _ _ S.out.s.at_ HT.out).mono ?_
 rintro r w4 ⟨rfl, h4⟩
 replace S := Lib.hid (S.out.below h4)
 clear c0 c1 c2 c3 c4 c5 a0 a1
 clear HLD HT h4
 obtain ⟨c0, c1, c2, c3, c4, c5, a0, a1⟩ := S.out.cells
 go_wp2_with fail
 clear c0 c1 c2 c3 c4 c5 a0 a1
 have K := S.out.drew
 clear S
 go_region_held3 (fun V => V.cell? ⟨w.heap.size, 0, none⟩ = some (.int .i64 x.now) ∧ V.cell? ⟨w.heap.size, 1, none⟩ = some (.int .i64 x.hor) ∧ V.cell? ⟨w.heap.size, 2, none⟩ = some (.slice x.oa x.op.length x.oc) ∧ V.cell? ⟨w.heap.size, 3, none⟩ = some (.slice x.ua x.us.length x.uc) ∧ V.cell? ⟨w.heap.size, 4, none⟩ = some (.slice x.sa x.su.length x.sc) ∧ V.cell? ⟨w.heap.size, 5, none⟩ = some (.slice x.ta x.tb.length x.tc) ∧ V.cell? ⟨w.heap.size + 1, 0, none⟩ = some (.string p) ∧ V.cell? ⟨w.heap.size + 1, 1, none⟩ = some (.string u))
  (with_reducible exact HSC.out _ K)
  (first | (go_at_call 47; refine (HAL.out _).mono ?_; rintro r v1 ⟨rfl, hh⟩; have K := K.below hh) | (go_at_call 23; refine (HNW.out _ K.s.at_).mono ?_; rintro r v1 ⟨y, rfl, Y2, ym, hh⟩; have K := K.below hh) | (go_at_call 53; refine (HSG.out _ _ Y2 ym).mono ?_; rintro r v1 ⟨rfl, hh⟩; have K := K.below hh) | (go_at_call 54; refine (HSD.out _ K.s.at_).mono ?_; rintro r v1 ⟨rfl, hh⟩; have K := K.below hh; (try have Y2 := Y2.below hh)))
 all_goals
  have HF := Lib.hid K.s.frame
  clear K HSC HNW HSG HSD HAL
  go_wp2
  go_ret
  exact ⟨rfl, HF.out⟩
theorem contract (H : Type) (enc : TypeId × Value → H) (W : World) (base : Nat) (args : Array Value) (ds gs : List (DataW H)) (before : List MemPlace)
  (hval : ∀ (j : Nat) t v, Tryz.f11.params[j]? = some t → args[j]? = some v → Value.okWide Tryz.prog W .any base t v)
  (hW : DataW.Whole enc Tryz.prog Tryz.f11.params.toList Rows.gateLastsSpec.vars false W args.toList ds gs before) (hk : Rows.uptoSmall H (ds ++ gs) = true) :
  Calls Tryz.prog 11 args W fun e W' => ∃ v, e = .returned v ∧ Rows.gateLastsSpec.post enc Tryz.prog Tryz.f11 false true false false W args v W' := by
 have hW' := hW
 obtain ⟨p, q, hA0, hV, rfl, hfz, hnd⟩ := hW
 have hA : DataW.TrodAll enc Tryz.prog W 0 (fun _ => true) true Tryz.f11.params.toList args.toList ds p := hA0
 rw [Tryz.params11] at hA hval
 obtain ⟨v0, vs0, d0, ds0, p0, q0, hargs, rfl, rfl, h0, r0⟩ := trodAll_cons hA
 obtain ⟨v1, vs1, d1, ds1, p1, q1, rfl, rfl, rfl, h1, r1⟩ := trodAll_cons r0
 obtain ⟨v2, vs2, d2, ds2, p2, q2, rfl, rfl, rfl, h2, r2⟩ := trodAll_cons r1
 obtain ⟨rfl, rfl, rfl⟩ := trodAll_nil r2
 obtain rfl : args = #[v0, v1, v2] := by cases args; simp_all
 obtain ⟨rfl, rfl⟩ := trodVars_none hV
 have hbk : Rows.uptoBulkAll [d0, d1, d2] ≤ 1048576 := of_decide_eq_true hk
 simp only [Rows.uptoBulkAll] at hbk
 obtain ⟨a0, rfl, s0, z0, b0⟩ := open_state (hval 0 27 v0 rfl rfl) h0
 have u0 : stCnt a0.m + a0.us.length ≤ 1048576 := by omega
 obtain ⟨a1, b1, rfl, w1, x1⟩ := open_prr (hval 1 97 v1 rfl rfl) h1
 obtain ⟨a2, rfl, -, -, w2⟩ := open_int Tryz.underlying3 (hval 2 3 v2 rfl rfl) h2
 refine (walk W a0 s0 z0 u0 a1 b1 w1 x1 a2 w2).mono fun e W' ⟨he, hb⟩ => ?_
 subst he
 exact ⟨_, rfl, law_post rfl hW' (fun ds h => by match ds, h with | [_, _, _], _ => rfl) (by kernel_rfl) (by kernel_rfl) (by kernel_rfl) hb⟩

set_option maxRecDepth 100000 in
theorem lifted (os : Os) (started : os.Started) (H : Type) (enc : TypeId × Value → H) (F : Stop.Interp) :
  ReturnsInHanded {} Tryz.checked os 11 .any ((Rows.OpenSpec.upto Rows.gateLastsSpec).pre6 enc Tryz.prog Tryz.f11 Rows.gateLastsUptoRow.domain false) (((Rows.OpenSpec.upto Rows.gateLastsSpec).at F).post enc Tryz.prog Tryz.f11 false true false false) := by
 refine returnsInHanded_of_cond (C := Tryz.checked) (s := (Rows.OpenSpec.upto Rows.gateLastsSpec)) (k := Rows.uptoSmall) rfl own started (by kernel_rfl) Tryz.func11
  (OpenSpec.witness (enc := enc) (C := Tryz.checked) (s := (Rows.OpenSpec.upto Rows.gateLastsSpec)) (k := Rows.uptoSmall) rfl false ⟨#[], #[.agg #[.int .i64 0, .int .i64 0, .slice none 0 0, .slice none 0 0, .slice none 0 0, .slice none 0 0], .agg #[.string ByteArray.empty, .string ByteArray.empty], .int .i64 0], []⟩ 8 (by kernel_rfl) (by kernel_rfl) (by kernel_rfl)
   (x := ([.agg [.lit (.int .i64 0), .lit (.int .i64 0), .nil, .nil, .nil, .nil], .agg [.lit (.string []), .lit (.string [])], .lit (.int .i64 0)], [], [])) (by kernel_rfl) rfl (by kernel_rfl)) ?_
 intro W base args ds gs before hval hW _ hk _
 exact contract H enc W base args ds gs before hval hW hk

theorem proved : Rows.GateLastsUptoSaid :=
 OpenClaim.holds_of_cond 11 Tryz.f11 rfl rfl rfl rfl rfl rfl rfl ⟨rfl, rfl, rfl, rfl, rfl⟩ rfl rfl rfl rfl rfl (by kernel_rfl) Tryz.func11 closedGateLasts
  (of_decide_eq_true (by kernel_rfl)) (by unfold Func.isWrapper; first | (rw [if_pos (by decide +kernel)]; kernel_rfl) | (rw [if_neg (by decide +kernel)]; exact ⟨rfl, rfl⟩))
  (fun os started H enc _ F => lifted os started H enc F)
end Go.Proofs.YtmfpjapiijgdgaaGreat.gateLasts
