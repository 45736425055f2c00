/- GateErased: behind an erasure nothing of the user is told, to anyone, nor anything to it; for all states of at most 1048576 things. -/
import Derived.JoinedCond
import Derived.Deep.RegionHeld3
import Derived.OrdersHeld
import Derived.Test.YtmfpjapiijgdgaaGreatV00
import Derived.Test.YtmfpjapiijgdgaaGreatRows
import Derived.Test.YtmfpjapiijgdgaaGreatTQ
import Derived.Test.YtmfpjapiijgdgaaGreatV01
import Derived.Test.YtmfpjapiijgdgaaGreatV03
import Derived.Test.YtmfpjapiijgdgaaGreatV04
import Derived.Test.YtmfpjapiijgdgaaGreatV05
import Derived.Test.YtmfpjapiijgdgaaGreatV06
import Derived.Test.YtmfpjapiijgdgaaGreatV07
import Derived.Test.YtmfpjapiijgdgaaGreatV09
import Derived.Test.YtmfpjapiijgdgaaGreatV20
import Derived.Test.YtmfpjapiijgdgaaGreatV26
import Derived.Test.YtmfpjapiijgdgaaGreatV28
import Derived.Test.YtmfpjapiijgdgaaGreatV33
import Derived.Test.YtmfpjapiijgdgaaGreatV35
import Derived.Test.YtmfpjapiijgdgaaGreatV41
import Derived.Test.YtmfpjapiijgdgaaGreatV44
import Derived.Test.YtmfpjapiijgdgaaGreatV45
import Derived.Test.YtmfpjapiijgdgaaGreatV52
import Derived.Test.YtmfpjapiijgdgaaGreatV55
namespace Go.Proofs.YtmfpjapiijgdgaaGreat.gateErased
open Go.ChangeShapes Go.WideShapes Go.ChangeAt Go.RowKit Go.Proofs
open Go.ChangeMaps (open_string shut_string)
set_option linter.unusedVariables false
set_option maxRecDepth 100000

set_option maxHeartbeats 8000000 in
theorem walk (w : World) (x : SaL) (h : SaAt w x) (z : SzS x.m) (b : stCnt x.m + x.us.length ≤ 1048576) (q : AskM) (hw : q.w.size ≤ maxLen) (hu : q.u.size ≤ maxLen) (hi : I64 q.f ∧ I64 q.t ∧ I64 q.n) (v : ByteArray) (hv : v.size ≤ maxLen) :
  Calls Tryz.prog 15 #[saV x, askV q, .string v] w fun e w' => e = .returned (.bool true) ∧ Below w.heap.size w w' := by
 have S := SQ.new w q h 27 86
 unfold saC askC at S
 replace S := Lib.hid S
 have HAL := Lib.hid alive13
 have HMA := Lib.hid (fun V (h : SaAt V x) => many_any x V h b)
 by_cases g1 : 100 < stCnt x.m + x.us.length
 ·have d1 : decide ((100 : Int) < (stCnt x.m : Int) + (x.us.length : Int)) = true := decide_eq_true (by omega)
  clear h z b hw hu hi hv g1
  unfold saV saC askV askC
  obtain ⟨c0, c1, c2, c3, c4, c5, a0, a1, a2, a3, a4⟩ := S.out.cells
  go_enter Tryz.func15, Tryz.ntmps15
  go_wp2_with fail
  refine (HMA.out _ S.out.s.at_).mono ?_
  rintro r1 w1 ⟨rfl, h1⟩
  clear c0 c1 c2 c3 c4 c5 a0 a1 a2 a3 a4
  replace S := Lib.hid (S.out.below h1)
  clear h1
  obtain ⟨c0, c1, c2, c3, c4, c5, a0, a1, a2, a3, a4⟩ := S.out.cells
  go_wp2_with fail
  refine (HAL.out _).mono ?_
  rintro r2 w2 ⟨rfl, h2⟩
  clear c0 c1 c2 c3 c4 c5 a0 a1 a2 a3 a4
  replace S := Lib.hid (S.out.below h2)
  clear h2
  go_wp2
  go_ret
  exact ⟨rfl, S.out.s.frame⟩
 have d1 : decide ((100 : Int) < (stCnt x.m : Int) + (x.us.length : Int)) = false := decide_eq_false (by omega)
 have hf0 : Few x.m 100 := few_cnt (by omega)
 by_cases hr0 : RightS x.m
 case neg =>
  have HRR := Lib.hid (fun V (h : SaAt V x) => g_rwrong x V h rfl z (hf0.mono (by decide)) hr0)
  clear h z b hw hu hi hv g1 hf0 hr0
  unfold saV saC askV askC
  obtain ⟨c0, c1, c2, c3, c4, c5, a0, a1, a2, a3, a4⟩ := S.out.cells
  go_enter Tryz.func15, Tryz.ntmps15
  go_wp2_with fail
  refine (HMA.out _ S.out.s.at_).mono ?_
  rintro r1 w1 ⟨rfl, h1⟩
  clear c0 c1 c2 c3 c4 c5 a0 a1 a2 a3 a4
  replace S := Lib.hid (S.out.below h1)
  clear h1
  obtain ⟨c0, c1, c2, c3, c4, c5, a0, a1, a2, a3, a4⟩ := S.out.cells
  go_wp2_with fail
  refine (HRR.out _ S.out.s.at_).mono ?_
  rintro r2 w2 ⟨rfl, h2⟩
  clear c0 c1 c2 c3 c4 c5 a0 a1 a2 a3 a4
  replace S := Lib.hid (S.out.below h2)
  clear h2
  obtain ⟨c0, c1, c2, c3, c4, c5, a0, a1, a2, a3, a4⟩ := S.out.cells
  go_wp2_with fail
  refine (HAL.out _).mono ?_
  rintro r3 w3 ⟨rfl, h3⟩
  clear c0 c1 c2 c3 c4 c5 a0 a1 a2 a3 a4
  replace S := Lib.hid (S.out.below h3)
  clear h3
  go_wp2
  go_ret
  exact ⟨rfl, S.out.s.frame⟩
 have HRR := Lib.hid (fun V (h : SaAt V x) => g_rright x V h rfl z (hf0.mono (by decide)) hr0)
 have hc0 : stCnt x.m ≤ 100 := by omega
 by_cases e0 : v = q.u ∨ v = q.w
 case neg =>
  have n1 : (v.toList == q.u.toList) = false := txt_ne (fun h => e0 (Or.inl h))
  have n2 : (v.toList == q.w.toList) = false := txt_ne (fun h => e0 (Or.inr h))
  clear h z b hw hu hi hv g1 hf0 hr0 hc0 e0
  unfold saV saC askV askC
  obtain ⟨c0, c1, c2, c3, c4, c5, a0, a1, a2, a3, a4⟩ := S.out.cells
  go_enter Tryz.func15, Tryz.ntmps15
  go_wp2_with fail
  refine (HMA.out _ S.out.s.at_).mono ?_
  rintro r1 w1 ⟨rfl, h1⟩
  clear c0 c1 c2 c3 c4 c5 a0 a1 a2 a3 a4
  replace S := Lib.hid (S.out.below h1)
  clear h1
  obtain ⟨c0, c1, c2, c3, c4, c5, a0, a1, a2, a3, a4⟩ := S.out.cells
  go_wp2_with fail
  refine (HRR.out _ S.out.s.at_).mono ?_
  rintro r2 w2 ⟨rfl, h2⟩
  clear c0 c1 c2 c3 c4 c5 a0 a1 a2 a3 a4
  replace S := Lib.hid (S.out.below h2)
  clear h2
  obtain ⟨c0, c1, c2, c3, c4, c5, a0, a1, a2, a3, a4⟩ := S.out.cells
  go_wp2_with fail
  refine (HAL.out _).mono ?_
  rintro r w9 ⟨rfl, h9⟩
  clear c0 c1 c2 c3 c4 c5 a0 a1 a2 a3 a4
  replace S := Lib.hid (S.out.below h9)
  clear h9
  go_wp2
  go_ret
  exact ⟨rfl, S.out.s.frame⟩
 have hvq : q.w = v ∨ q.u = v := e0.elim (fun h => Or.inr h.symm) (fun h => Or.inl h.symm)
 have HNW : Hid (∀ V, SaAt V x → Calls Tryz.prog 23 #[.agg #[.int .i64 x.now, .int .i64 x.hor, .slice x.oa x.op.length x.oc, .slice x.ua x.us.length x.uc, .slice x.sa x.su.length x.sc, .slice x.ta x.tb.length x.tc]] V fun r w' => ∃ y, r = .returned (.agg #[.int .i64 y.now, .int .i64 y.hor, .slice y.oa y.op.length y.oc, .slice y.ua y.us.length y.uc, .slice y.sa y.su.length y.sc, .slice y.ta y.tb.length y.tc]) ∧ SaAt w' y ∧ y.m = x.m ∧ Below V.heap.size V w') := fun V h => g_new x V h rfl (hf0.mono (by decide))
 have HNQ : Hid (∀ V, Calls Tryz.prog 49 #[.agg #[.string q.w, .string q.u, .int .i64 q.f, .int .i64 q.t, .int .i64 q.n]] V fun r w' => r = .returned (.agg #[.string q.w, .string q.u, .int .i64 q.f, .int .i64 q.t, .int .i64 q.n]) ∧ Below V.heap.size V w') := fun V => gnew_any q V
 have HAP : Hid (∀ (y : SaL) V, SaAt V y → y.m = x.m → Calls Tryz.prog 62 #[.agg #[.int .i64 y.now, .int .i64 y.hor, .slice y.oa y.op.length y.oc, .slice y.ua y.us.length y.uc, .slice y.sa y.su.length y.sc, .slice y.ta y.tb.length y.tc], .agg #[.int .i64 7, .int .i64 x.now, .string v, .string ⟨#[]⟩, .int .i64 0, .int .i64 0]] V fun r w' => ∃ z, r = .returned (.tuple #[.agg #[.int .i64 z.now, .int .i64 z.hor, .slice z.oa z.op.length z.oc, .slice z.ua z.us.length z.uc, .slice z.sa z.su.length z.sc, .slice z.ta z.tb.length z.tc], .int .i64 (erV x.m ⟨7, x.now, v, ⟨#[]⟩, 0, 0⟩)]) ∧ SaAt w' z ∧ z.m = teV x.m ⟨7, x.now, v, ⟨#[]⟩, 0, 0⟩ ∧ Below V.heap.size V w') := fun y V h hm => g_apply y ⟨7, x.now, v, ⟨#[]⟩, 0, 0⟩ V h hm hr0 (by omega) ⟨hv, Nat.zero_le _⟩
 have HER : Hid (erV x.m ⟨7, x.now, v, ⟨#[]⟩, 0, 0⟩ = 0 → (∀ m, GTold (teV x.m ⟨7, x.now, v, ⟨#[]⟩, 0, 0⟩) q m → m = []) ∧ (∀ m, GTold (teV x.m ⟨7, x.now, v, ⟨#[]⟩, 0, 0⟩) (everM q.w q.u q.n) m → m = []) ∧ whyV (teV x.m ⟨7, x.now, v, ⟨#[]⟩, 0, 0⟩) q.w q.u q.n = whyV x.m q.w q.u q.n ∧ Few (teV x.m ⟨7, x.now, v, ⟨#[]⟩, 0, 0⟩) 200) := fun he => by
  have e1 : errS x.m 7 x.now 0 0 v ⟨#[]⟩ = 0 := he
  have e2 : teV x.m ⟨7, x.now, v, ⟨#[]⟩, 0, 0⟩ = goS x.m 7 x.now 0 0 v ⟨#[]⟩ := by
   show tellS x.m 7 x.now 0 0 v ⟨#[]⟩ = _
   unfold tellS
   rw [if_pos e1]
  rw [e2]
  have hgo : ∀ (f t n : Int) m, IsRange (goS x.m 7 x.now 0 0 v ⟨#[]⟩) q.w q.u f t n m → m = [] := fun f t n m hm => erase_none hr0.ur hvq hm
  refine ⟨fun m hm => ?_, fun m hm => ?_, rfl, few_of (right_go hr0 e1) (Nat.le_trans (cnt_go x.m 7 x.now 0 0 v ⟨#[]⟩) (by omega))⟩
  ·by_cases hq : whyV (goS x.m 7 x.now 0 0 v ⟨#[]⟩) q.w q.u q.n = 0
   ·exact hgo _ _ _ m (hm.1 hq)
   ·exact hm.2 hq
  ·by_cases hq : whyV (goS x.m 7 x.now 0 0 v ⟨#[]⟩) q.w q.u q.n = 0
   ·exact hgo _ _ _ m (hm.1 hq)
   ·exact hm.2 hq
 have HWH : Hid (∀ V, SaAt V x → Calls Tryz.prog 63 #[.agg #[.int .i64 x.now, .int .i64 x.hor, .slice x.oa x.op.length x.oc, .slice x.ua x.us.length x.uc, .slice x.sa x.su.length x.sc, .slice x.ta x.tb.length x.tc], .agg #[.string q.w, .string q.u, .int .i64 q.f, .int .i64 q.t, .int .i64 q.n]] V fun r w' => r = .returned (.int .i64 (whyV x.m q.w q.u q.n)) ∧ Below V.heap.size V w') := fun V h => why_any13 x q V h hw hu
 have HRE : Hid (erV x.m ⟨7, x.now, v, ⟨#[]⟩, 0, 0⟩ = 0 → ∀ (z : SaL) V, SaAt V z → z.m = teV x.m ⟨7, x.now, v, ⟨#[]⟩, 0, 0⟩ → Calls Tryz.prog 48 #[.agg #[.int .i64 z.now, .int .i64 z.hor, .slice z.oa z.op.length z.oc, .slice z.ua z.us.length z.uc, .slice z.sa z.su.length z.sc, .slice z.ta z.tb.length z.tc], .agg #[.string q.w, .string q.u, .int .i64 q.f, .int .i64 q.t, .int .i64 q.n]] V fun r w' => ∃ b c, r = .returned (.tuple #[.slice b 0 c, .int .i64 (whyV x.m q.w q.u q.n)]) ∧ Below V.heap.size V w') := fun he z V h hm => by
  obtain ⟨k1, k2, k3, k4⟩ := HER.out he
  refine (range_any13 z q V h (hm ▸ k4) hw hu).mono ?_
  rintro e w' ⟨b, c, m, rfl, h1, -, -, h4⟩
  obtain rfl := k1 m (hm ▸ h1)
  exact ⟨b, c, by rw [hm, k3]; rfl, h4⟩
 have HLE : Hid (erV x.m ⟨7, x.now, v, ⟨#[]⟩, 0, 0⟩ = 0 → ∀ (z : SaL) V, SaAt V z → z.m = teV x.m ⟨7, x.now, v, ⟨#[]⟩, 0, 0⟩ → Calls Tryz.prog 51 #[.agg #[.int .i64 z.now, .int .i64 z.hor, .slice z.oa z.op.length z.oc, .slice z.ua z.us.length z.uc, .slice z.sa z.su.length z.sc, .slice z.ta z.tb.length z.tc], .agg #[.string q.w, .string q.u], .int .i64 q.n] V fun r w' => r = .returned (.tuple #[.int .i64 0, .bool false, .int .i64 (whyV x.m q.w q.u q.n)]) ∧ Below V.heap.size V w') := fun he z V h hm => by
  obtain ⟨k1, k2, k3, k4⟩ := HER.out he
  refine (last_any13 z q.w q.u q.n V h (hm ▸ k4) hw hu).mono ?_
  rintro e w' ⟨m, rfl, h1, h4⟩
  obtain rfl := k2 m (hm ▸ h1)
  exact ⟨by rw [hm, k3]; rfl, h4⟩
 have HSC := Lib.hid (fun V (k : SQ w w.heap.size (w.heap.size + 1) 27 86 x q V) => k.cells)
 have HS5 := Lib.hid (fun g y V (k : S5 w x q g y V) => k.cells)
 have HFD : ∀ W, (Instr.field 92 (.agg #[.string q.w, .string q.u, .int .i64 q.f, .int .i64 q.t, .int .i64 q.n]) 0).run Tryz.prog W = .ok (.agg #[.string q.w, .string q.u]) W := fun W => by kernel_rfl
 have e3 : (v.toList == q.u.toList) = true ∨ ((v.toList == q.u.toList) = false ∧ (v.toList == q.w.toList) = true) := by
  by_cases k : v = q.u
  ·left; rw [k]; exact beq_self_eq_true _
  ·right; exact ⟨txt_ne k, by rw [e0.resolve_left k]; exact beq_self_eq_true _⟩
 clear HER e0 hvq
 generalize whyV x.m q.w q.u q.n = Y at *
 generalize erV x.m ⟨7, x.now, v, ⟨#[]⟩, 0, 0⟩ = E at *
 generalize teV x.m ⟨7, x.now, v, ⟨#[]⟩, 0, 0⟩ = Tm at *
 have hYY : (Y == Y) = true := beq_self_eq_true _
 clear h z b hw hu hi hv g1 hf0 hr0 hc0
 rcases e3 with n1 | ⟨n1, n2⟩
 ·unfold saV saC askV askC
  obtain ⟨c0, c1, c2, c3, c4, c5, a0, a1, a2, a3, a4⟩ := S.out.cells
  go_enter Tryz.func15, Tryz.ntmps15
  go_wp2_with fail
  refine (HMA.out _ S.out.s.at_).mono ?_
  rintro r1 w1 ⟨rfl, h1⟩
  clear c0 c1 c2 c3 c4 c5 a0 a1 a2 a3 a4
  replace S := Lib.hid (S.out.below h1)
  clear h1
  obtain ⟨c0, c1, c2, c3, c4, c5, a0, a1, a2, a3, a4⟩ := S.out.cells
  go_wp2_with fail
  refine (HRR.out _ S.out.s.at_).mono ?_
  rintro r2 w2 ⟨rfl, h2⟩
  clear c0 c1 c2 c3 c4 c5 a0 a1 a2 a3 a4
  replace S := Lib.hid (S.out.below h2)
  clear h2
  obtain ⟨c0, c1, c2, c3, c4, c5, a0, a1, a2, a3, a4⟩ := S.out.cells
  go_wp2_with fail
  clear c0 c1 c2 c3 c4 c5 a0 a1 a2 a3 a4
  generalize w2 = W0 at *
  have K0 := S.out.drew
  have K0b := (S.out.below (below_one _ (.cells #[.int .i64 0, .int .i64 0, .slice none 0 0, .slice none 0 0, .slice none 0 0, .slice none 0 0] 39))).drew
  have Z0b : SB w W0.heap.size 39 saO (W0.alloc (.cells #[.int .i64 0, .int .i64 0, .slice none 0 0, .slice none 0 0, .slice none 0 0, .slice none 0 0] 39)).drew := SB.drew (SB.new S.out.s.frame (SaAt.zero W0) 39)
  have N1 : w.heap.size ≠ W0.heap.size := Nat.ne_of_lt S.out.s.lt
  have N2 : w.heap.size + 1 ≠ W0.heap.size := Nat.ne_of_lt S.out.q.lt
  go_wp2_with fail
  go_region_held3 (fun V => V.cell? ⟨w.heap.size, 0, none⟩ = some (.int .i64 x.now) ∧ V.cell? ⟨w.heap.size, 1, none⟩ = some (.int .i64 x.hor) ∧ V.cell? ⟨w.heap.size, 2, none⟩ = some (.slice x.oa x.op.length x.oc) ∧ V.cell? ⟨w.heap.size, 3, none⟩ = some (.slice x.ua x.us.length x.uc) ∧ V.cell? ⟨w.heap.size, 4, none⟩ = some (.slice x.sa x.su.length x.sc) ∧ V.cell? ⟨w.heap.size, 5, none⟩ = some (.slice x.ta x.tb.length x.tc) ∧ V.cell? ⟨w.heap.size + 1, 0, none⟩ = some (.string q.w) ∧ V.cell? ⟨w.heap.size + 1, 1, none⟩ = some (.string q.u) ∧ V.cell? ⟨w.heap.size + 1, 2, none⟩ = some (.int .i64 q.f) ∧ V.cell? ⟨w.heap.size + 1, 3, none⟩ = some (.int .i64 q.t) ∧ V.cell? ⟨w.heap.size + 1, 4, none⟩ = some (.int .i64 q.n))
   (first | with_reducible exact HSC.out _ KT | with_reducible exact HSC.out _ K2b | with_reducible exact HSC.out _ K2 | with_reducible exact HSC.out _ K1b | with_reducible exact HSC.out _ K1 | with_reducible exact HSC.out _ K0b | with_reducible exact HSC.out _ K0)
   (first | (have hseen := y1; clear hseen; go_at_call 62; (first | (have hzz := Z1; clear hzz; (refine (HAP.out _ _ y1 ym).mono ?_; rintro r v2 ⟨z, rfl, hz, zm, h2⟩; have Z2 := Z1.below h2; have K2 := K1.below h2; unfold saO at Z2; obtain ⟨z0, z1, z2, z3, z4, z5⟩ := Z2.cells; obtain ⟨f0, f1, f2, f3, f4, f5⟩ := Z2.free; have hzl := Z2.lt; dsimp only [List.length_nil] at z0 z1 z2 z3 z4 z5; obtain ⟨KT, OB⟩ := K2.over Z2 hz M1 M2; unfold setS at OB KT; (try dsimp only at OB KT))) | (refine (HAP.out _ _ y1b ym).mono ?_; rintro r v2 ⟨z, rfl, hz, zm, h2⟩; have Z2 := Z1b.below h2; have K2 := K1b.below h2; unfold saO at Z2; obtain ⟨z0, z1, z2, z3, z4, z5⟩ := Z2.cells; obtain ⟨f0, f1, f2, f3, f4, f5⟩ := Z2.free; have hzl := Z2.lt; dsimp only [List.length_nil] at z0 z1 z2 z3 z4 z5; obtain ⟨KT, OB⟩ := K2.over Z2 hz M1b M2b; unfold setS at OB KT; (try dsimp only at OB KT)) | (refine (HAP.out _ _ y1 ym).mono ?_; rintro r v2 ⟨z, rfl, hz, zm, h2⟩; have K2 := K1.below h2; have K2b := K2.below (below_one v2 (.cells #[.int .i64 0, .int .i64 0, .slice none 0 0, .slice none 0 0, .slice none 0 0, .slice none 0 0] 39)); have OB : SB w v2.heap.size 39 z (v2.alloc (.cells #[.int .i64 z.now, .int .i64 z.hor, .slice z.oa z.op.length z.oc, .slice z.ua z.us.length z.uc, .slice z.sa z.su.length z.sc, .slice z.ta z.tb.length z.tc] 39)) := SB.new K2.s.frame hz 39; have KT := K2.below (below_one v2 (.cells #[.int .i64 z.now, .int .i64 z.hor, .slice z.oa z.op.length z.oc, .slice z.ua z.us.length z.uc, .slice z.sa z.su.length z.sc, .slice z.ta z.tb.length z.tc] 39))))) | (have hseen := K0; clear hseen; go_at_call 23; (first | (refine (HNW.out _ K0b.s.at_).mono ?_; rintro r v1 ⟨y, rfl, y1, ym, h1⟩; have K1 := K0b.below h1; have Z1 := Z0b.below h1; have M1 := N1; have M2 := N2) | (refine (HNW.out _ K0.s.at_).mono ?_; rintro r v1 ⟨y, rfl, y1, ym, h1⟩; have K1 := K0.below h1; have K1b := K1.below (below_one v1 (.cells #[.int .i64 0, .int .i64 0, .slice none 0 0, .slice none 0 0, .slice none 0 0, .slice none 0 0] 39)); have y1b := y1.below (below_one v1 (.cells #[.int .i64 0, .int .i64 0, .slice none 0 0, .slice none 0 0, .slice none 0 0, .slice none 0 0] 39)); have Z1b : SB w v1.heap.size 39 saO (v1.alloc (.cells #[.int .i64 0, .int .i64 0, .slice none 0 0, .slice none 0 0, .slice none 0 0, .slice none 0 0] 39)) := SB.new K1.s.frame (SaAt.zero v1) 39; have M1b : w.heap.size ≠ v1.heap.size := Nat.ne_of_lt K1.s.lt; have M2b : w.heap.size + 1 ≠ v1.heap.size := Nat.ne_of_lt K1.q.lt))))
  all_goals
   have SK : Hid (S5 w x q _ z _) := Lib.hid ⟨KT, OB⟩
   have ZM := Lib.hid zm
   clear KT OB K0 K0b Z0b N1 N2 hz zm ym y1 h1 h2
   (try clear y1b)
   (try clear K1)
   (try clear K1b)
   (try clear Z1)
   (try clear Z1b)
   (try clear K2)
   (try clear K2b)
   (try clear Z2)
   (try clear M1 M2)
   (try clear M1b M2b)
   (try clear z0 z1 z2 z3 z4 z5 f0 f1 f2 f3 f4 f5 hzl)
   (first
    | (generalize ((((((v2.setCell ⟨W0.heap.size, 0, none⟩ (.int .i64 z.now))).setCell ⟨W0.heap.size, 1, none⟩ (.int .i64 z.hor)).setCell ⟨W0.heap.size, 2, none⟩ (.slice z.oa z.op.length z.oc)).setCell ⟨W0.heap.size, 3, none⟩ (.slice z.ua z.us.length z.uc)).setCell ⟨W0.heap.size, 4, none⟩ (.slice z.sa z.su.length z.sc)).setCell ⟨W0.heap.size, 5, none⟩ (.slice z.ta z.tb.length z.tc) = T at *; generalize W0.heap.size = g at *; (have hseen : S5 w x q g z T := SK.out; clear hseen))
    | (generalize ((((((v2.setCell ⟨v1.heap.size, 0, none⟩ (.int .i64 z.now))).setCell ⟨v1.heap.size, 1, none⟩ (.int .i64 z.hor)).setCell ⟨v1.heap.size, 2, none⟩ (.slice z.oa z.op.length z.oc)).setCell ⟨v1.heap.size, 3, none⟩ (.slice z.ua z.us.length z.uc)).setCell ⟨v1.heap.size, 4, none⟩ (.slice z.sa z.su.length z.sc)).setCell ⟨v1.heap.size, 5, none⟩ (.slice z.ta z.tb.length z.tc) = T at *; generalize v1.heap.size = g at *; (have hseen : S5 w x q g z T := SK.out; clear hseen))
    | (generalize v2.alloc (.cells #[.int .i64 z.now, .int .i64 z.hor, .slice z.oa z.op.length z.oc, .slice z.ua z.us.length z.uc, .slice z.sa z.su.length z.sc, .slice z.ta z.tb.length z.tc] 39) = T at *; generalize v2.heap.size = g at *; (have hseen : S5 w x q g z T := SK.out; clear hseen)))
   clear HSC HNW HAP S
   by_cases hE : E = 0
   ·have HRE' := Lib.hid (HRE.out hE)
    have HLE' := Lib.hid (HLE.out hE)
    clear HRE HLE
    subst hE
    go_wp2_with fail
    have K := SK.out.drew
    clear SK
    go_region_held3 (fun V => V.cell? ⟨g, 0, none⟩ = some (.int .i64 z.now) ∧ V.cell? ⟨g, 1, none⟩ = some (.int .i64 z.hor) ∧ V.cell? ⟨g, 2, none⟩ = some (.slice z.oa z.op.length z.oc) ∧ V.cell? ⟨g, 3, none⟩ = some (.slice z.ua z.us.length z.uc) ∧ V.cell? ⟨g, 4, none⟩ = some (.slice z.sa z.su.length z.sc) ∧ V.cell? ⟨g, 5, none⟩ = some (.slice z.ta z.tb.length z.tc) ∧ V.cell? ⟨w.heap.size + 1, 0, none⟩ = some (.string q.w) ∧ V.cell? ⟨w.heap.size + 1, 1, none⟩ = some (.string q.u) ∧ V.cell? ⟨w.heap.size + 1, 2, none⟩ = some (.int .i64 q.f) ∧ V.cell? ⟨w.heap.size + 1, 3, none⟩ = some (.int .i64 q.t) ∧ V.cell? ⟨w.heap.size + 1, 4, none⟩ = some (.int .i64 q.n))
     (with_reducible exact HS5.out _ _ _ K)
     (first | (go_at_call 48; refine (HRE'.out z _ K.s5.at_ ZM.out).mono ?_; rintro r v2 ⟨b6, q6, rfl, h2⟩; have K := K.below h2) | (go_at_call 49; refine (HNQ.out _).mono ?_; rintro r v1 ⟨rfl, h1⟩; have K := K.below h1))
    have SK := Lib.hid K
    clear K h1 h2
    go_wp2_with fail
    have K := SK.out.drew
    clear SK
    go_region_held3 (fun V => V.cell? ⟨g, 0, none⟩ = some (.int .i64 z.now) ∧ V.cell? ⟨g, 1, none⟩ = some (.int .i64 z.hor) ∧ V.cell? ⟨g, 2, none⟩ = some (.slice z.oa z.op.length z.oc) ∧ V.cell? ⟨g, 3, none⟩ = some (.slice z.ua z.us.length z.uc) ∧ V.cell? ⟨g, 4, none⟩ = some (.slice z.sa z.su.length z.sc) ∧ V.cell? ⟨g, 5, none⟩ = some (.slice z.ta z.tb.length z.tc) ∧ V.cell? ⟨w.heap.size + 1, 0, none⟩ = some (.string q.w) ∧ V.cell? ⟨w.heap.size + 1, 1, none⟩ = some (.string q.u) ∧ V.cell? ⟨w.heap.size + 1, 2, none⟩ = some (.int .i64 q.f) ∧ V.cell? ⟨w.heap.size + 1, 3, none⟩ = some (.int .i64 q.t) ∧ V.cell? ⟨w.heap.size + 1, 4, none⟩ = some (.int .i64 q.n))
     (with_reducible exact HS5.out _ _ _ K)
     (first | (go_at_call 51; refine (HLE'.out z _ K.s5.at_ ZM.out).mono ?_; rintro r v2 ⟨rfl, h2⟩; have K := K.below h2) | (go_at_call 49; refine (HNQ.out _).mono ?_; rintro r v1 ⟨rfl, h1⟩; have K := K.below h1))
    have SK := Lib.hid K
    clear K h1 h2
    go_wp2_with fail
    refine (HAL.out _).mono ?_
    rintro r w8 ⟨rfl, h8⟩
    replace SK := Lib.hid (SK.out.below h8)
    clear h8 HAL HRE' HLE' HNQ HS5 HFD
    obtain ⟨c0, c1, c2, c3, c4, c5, a0, a1, a2, a3, a4⟩ := SK.out.k.cells
    go_wp2_with fail
    refine (HWH.out _ SK.out.k.s.at_).mono ?_
    rintro r w9 ⟨rfl, h9⟩
    clear c0 c1 c2 c3 c4 c5 a0 a1 a2 a3 a4
    replace SK := Lib.hid (SK.out.below h9)
    clear h9 HWH
    have HF := Lib.hid SK.out.s5.frame
    clear SK
    go_wp2
    go_ret
    exact ⟨rfl, HF.out⟩
   ·have hE1 : (E == 0) = false := by simpa using hE
    clear HRE HLE HWH HNQ HS5 HFD
    go_wp2_with fail
    refine (HAL.out _).mono ?_
    rintro r w8 ⟨rfl, h8⟩
    have HF := Lib.hid (SK.out.below h8).s5.frame
    clear SK h8 HAL
    go_wp2
    go_ret
    exact ⟨rfl, HF.out⟩
 ·unfold saV saC askV askC
  obtain ⟨c0, c1, c2, c3, c4, c5, a0, a1, a2, a3, a4⟩ := S.out.cells
  go_enter Tryz.func15, Tryz.ntmps15
  go_wp2_with fail
  refine (HMA.out _ S.out.s.at_).mono ?_
  rintro r1 w1 ⟨rfl, h1⟩
  clear c0 c1 c2 c3 c4 c5 a0 a1 a2 a3 a4
  replace S := Lib.hid (S.out.below h1)
  clear h1
  obtain ⟨c0, c1, c2, c3, c4, c5, a0, a1, a2, a3, a4⟩ := S.out.cells
  go_wp2_with fail
  refine (HRR.out _ S.out.s.at_).mono ?_
  rintro r2 w2 ⟨rfl, h2⟩
  clear c0 c1 c2 c3 c4 c5 a0 a1 a2 a3 a4
  replace S := Lib.hid (S.out.below h2)
  clear h2
  obtain ⟨c0, c1, c2, c3, c4, c5, a0, a1, a2, a3, a4⟩ := S.out.cells
  go_wp2_with fail
  clear c0 c1 c2 c3 c4 c5 a0 a1 a2 a3 a4
  generalize w2 = W0 at *
  have K0 := S.out.drew
  have K0b := (S.out.below (below_one _ (.cells #[.int .i64 0, .int .i64 0, .slice none 0 0, .slice none 0 0, .slice none 0 0, .slice none 0 0] 39))).drew
  have Z0b : SB w W0.heap.size 39 saO (W0.alloc (.cells #[.int .i64 0, .int .i64 0, .slice none 0 0, .slice none 0 0, .slice none 0 0, .slice none 0 0] 39)).drew := SB.drew (SB.new S.out.s.frame (SaAt.zero W0) 39)
  have N1 : w.heap.size ≠ W0.heap.size := Nat.ne_of_lt S.out.s.lt
  have N2 : w.heap.size + 1 ≠ W0.heap.size := Nat.ne_of_lt S.out.q.lt
  go_wp2_with fail
  go_region_held3 (fun V => V.cell? ⟨w.heap.size, 0, none⟩ = some (.int .i64 x.now) ∧ V.cell? ⟨w.heap.size, 1, none⟩ = some (.int .i64 x.hor) ∧ V.cell? ⟨w.heap.size, 2, none⟩ = some (.slice x.oa x.op.length x.oc) ∧ V.cell? ⟨w.heap.size, 3, none⟩ = some (.slice x.ua x.us.length x.uc) ∧ V.cell? ⟨w.heap.size, 4, none⟩ = some (.slice x.sa x.su.length x.sc) ∧ V.cell? ⟨w.heap.size, 5, none⟩ = some (.slice x.ta x.tb.length x.tc) ∧ V.cell? ⟨w.heap.size + 1, 0, none⟩ = some (.string q.w) ∧ V.cell? ⟨w.heap.size + 1, 1, none⟩ = some (.string q.u) ∧ V.cell? ⟨w.heap.size + 1, 2, none⟩ = some (.int .i64 q.f) ∧ V.cell? ⟨w.heap.size + 1, 3, none⟩ = some (.int .i64 q.t) ∧ V.cell? ⟨w.heap.size + 1, 4, none⟩ = some (.int .i64 q.n))
   (first | with_reducible exact HSC.out _ KT | with_reducible exact HSC.out _ K2b | with_reducible exact HSC.out _ K2 | with_reducible exact HSC.out _ K1b | with_reducible exact HSC.out _ K1 | with_reducible exact HSC.out _ K0b | with_reducible exact HSC.out _ K0)
   (first | (have hseen := y1; clear hseen; go_at_call 62; (first | (have hzz := Z1; clear hzz; (refine (HAP.out _ _ y1 ym).mono ?_; rintro r v2 ⟨z, rfl, hz, zm, h2⟩; have Z2 := Z1.below h2; have K2 := K1.below h2; unfold saO at Z2; obtain ⟨z0, z1, z2, z3, z4, z5⟩ := Z2.cells; obtain ⟨f0, f1, f2, f3, f4, f5⟩ := Z2.free; have hzl := Z2.lt; dsimp only [List.length_nil] at z0 z1 z2 z3 z4 z5; obtain ⟨KT, OB⟩ := K2.over Z2 hz M1 M2; unfold setS at OB KT; (try dsimp only at OB KT))) | (refine (HAP.out _ _ y1b ym).mono ?_; rintro r v2 ⟨z, rfl, hz, zm, h2⟩; have Z2 := Z1b.below h2; have K2 := K1b.below h2; unfold saO at Z2; obtain ⟨z0, z1, z2, z3, z4, z5⟩ := Z2.cells; obtain ⟨f0, f1, f2, f3, f4, f5⟩ := Z2.free; have hzl := Z2.lt; dsimp only [List.length_nil] at z0 z1 z2 z3 z4 z5; obtain ⟨KT, OB⟩ := K2.over Z2 hz M1b M2b; unfold setS at OB KT; (try dsimp only at OB KT)) | (refine (HAP.out _ _ y1 ym).mono ?_; rintro r v2 ⟨z, rfl, hz, zm, h2⟩; have K2 := K1.below h2; have K2b := K2.below (below_one v2 (.cells #[.int .i64 0, .int .i64 0, .slice none 0 0, .slice none 0 0, .slice none 0 0, .slice none 0 0] 39)); have OB : SB w v2.heap.size 39 z (v2.alloc (.cells #[.int .i64 z.now, .int .i64 z.hor, .slice z.oa z.op.length z.oc, .slice z.ua z.us.length z.uc, .slice z.sa z.su.length z.sc, .slice z.ta z.tb.length z.tc] 39)) := SB.new K2.s.frame hz 39; have KT := K2.below (below_one v2 (.cells #[.int .i64 z.now, .int .i64 z.hor, .slice z.oa z.op.length z.oc, .slice z.ua z.us.length z.uc, .slice z.sa z.su.length z.sc, .slice z.ta z.tb.length z.tc] 39))))) | (have hseen := K0; clear hseen; go_at_call 23; (first | (refine (HNW.out _ K0b.s.at_).mono ?_; rintro r v1 ⟨y, rfl, y1, ym, h1⟩; have K1 := K0b.below h1; have Z1 := Z0b.below h1; have M1 := N1; have M2 := N2) | (refine (HNW.out _ K0.s.at_).mono ?_; rintro r v1 ⟨y, rfl, y1, ym, h1⟩; have K1 := K0.below h1; have K1b := K1.below (below_one v1 (.cells #[.int .i64 0, .int .i64 0, .slice none 0 0, .slice none 0 0, .slice none 0 0, .slice none 0 0] 39)); have y1b := y1.below (below_one v1 (.cells #[.int .i64 0, .int .i64 0, .slice none 0 0, .slice none 0 0, .slice none 0 0, .slice none 0 0] 39)); have Z1b : SB w v1.heap.size 39 saO (v1.alloc (.cells #[.int .i64 0, .int .i64 0, .slice none 0 0, .slice none 0 0, .slice none 0 0, .slice none 0 0] 39)) := SB.new K1.s.frame (SaAt.zero v1) 39; have M1b : w.heap.size ≠ v1.heap.size := Nat.ne_of_lt K1.s.lt; have M2b : w.heap.size + 1 ≠ v1.heap.size := Nat.ne_of_lt K1.q.lt))))
  all_goals
   have SK : Hid (S5 w x q _ z _) := Lib.hid ⟨KT, OB⟩
   have ZM := Lib.hid zm
   clear KT OB K0 K0b Z0b N1 N2 hz zm ym y1 h1 h2
   (try clear y1b)
   (try clear K1)
   (try clear K1b)
   (try clear Z1)
   (try clear Z1b)
   (try clear K2)
   (try clear K2b)
   (try clear Z2)
   (try clear M1 M2)
   (try clear M1b M2b)
   (try clear z0 z1 z2 z3 z4 z5 f0 f1 f2 f3 f4 f5 hzl)
   (first
    | (generalize ((((((v2.setCell ⟨W0.heap.size, 0, none⟩ (.int .i64 z.now))).setCell ⟨W0.heap.size, 1, none⟩ (.int .i64 z.hor)).setCell ⟨W0.heap.size, 2, none⟩ (.slice z.oa z.op.length z.oc)).setCell ⟨W0.heap.size, 3, none⟩ (.slice z.ua z.us.length z.uc)).setCell ⟨W0.heap.size, 4, none⟩ (.slice z.sa z.su.length z.sc)).setCell ⟨W0.heap.size, 5, none⟩ (.slice z.ta z.tb.length z.tc) = T at *; generalize W0.heap.size = g at *; (have hseen : S5 w x q g z T := SK.out; clear hseen))
    | (generalize ((((((v2.setCell ⟨v1.heap.size, 0, none⟩ (.int .i64 z.now))).setCell ⟨v1.heap.size, 1, none⟩ (.int .i64 z.hor)).setCell ⟨v1.heap.size, 2, none⟩ (.slice z.oa z.op.length z.oc)).setCell ⟨v1.heap.size, 3, none⟩ (.slice z.ua z.us.length z.uc)).setCell ⟨v1.heap.size, 4, none⟩ (.slice z.sa z.su.length z.sc)).setCell ⟨v1.heap.size, 5, none⟩ (.slice z.ta z.tb.length z.tc) = T at *; generalize v1.heap.size = g at *; (have hseen : S5 w x q g z T := SK.out; clear hseen))
    | (generalize v2.alloc (.cells #[.int .i64 z.now, .int .i64 z.hor, .slice z.oa z.op.length z.oc, .slice z.ua z.us.length z.uc, .slice z.sa z.su.length z.sc, .slice z.ta z.tb.length z.tc] 39) = T at *; generalize v2.heap.size = g at *; (have hseen : S5 w x q g z T := SK.out; clear hseen)))
   clear HSC HNW HAP S
   by_cases hE : E = 0
   ·have HRE' := Lib.hid (HRE.out hE)
    have HLE' := Lib.hid (HLE.out hE)
    clear HRE HLE
    subst hE
    go_wp2_with fail
    have K := SK.out.drew
    clear SK
    go_region_held3 (fun V => V.cell? ⟨g, 0, none⟩ = some (.int .i64 z.now) ∧ V.cell? ⟨g, 1, none⟩ = some (.int .i64 z.hor) ∧ V.cell? ⟨g, 2, none⟩ = some (.slice z.oa z.op.length z.oc) ∧ V.cell? ⟨g, 3, none⟩ = some (.slice z.ua z.us.length z.uc) ∧ V.cell? ⟨g, 4, none⟩ = some (.slice z.sa z.su.length z.sc) ∧ V.cell? ⟨g, 5, none⟩ = some (.slice z.ta z.tb.length z.tc) ∧ V.cell? ⟨w.heap.size + 1, 0, none⟩ = some (.string q.w) ∧ V.cell? ⟨w.heap.size + 1, 1, none⟩ = some (.string q.u) ∧ V.cell? ⟨w.heap.size + 1, 2, none⟩ = some (.int .i64 q.f) ∧ V.cell? ⟨w.heap.size + 1, 3, none⟩ = some (.int .i64 q.t) ∧ V.cell? ⟨w.heap.size + 1, 4, none⟩ = some (.int .i64 q.n))
     (with_reducible exact HS5.out _ _ _ K)
     (first | (go_at_call 48; refine (HRE'.out z _ K.s5.at_ ZM.out).mono ?_; rintro r v2 ⟨b6, q6, rfl, h2⟩; have K := K.below h2) | (go_at_call 49; refine (HNQ.out _).mono ?_; rintro r v1 ⟨rfl, h1⟩; have K := K.below h1))
    have SK := Lib.hid K
    clear K h1 h2
    go_wp2_with fail
    have K := SK.out.drew
    clear SK
    go_region_held3 (fun V => V.cell? ⟨g, 0, none⟩ = some (.int .i64 z.now) ∧ V.cell? ⟨g, 1, none⟩ = some (.int .i64 z.hor) ∧ V.cell? ⟨g, 2, none⟩ = some (.slice z.oa z.op.length z.oc) ∧ V.cell? ⟨g, 3, none⟩ = some (.slice z.ua z.us.length z.uc) ∧ V.cell? ⟨g, 4, none⟩ = some (.slice z.sa z.su.length z.sc) ∧ V.cell? ⟨g, 5, none⟩ = some (.slice z.ta z.tb.length z.tc) ∧ V.cell? ⟨w.heap.size + 1, 0, none⟩ = some (.string q.w) ∧ V.cell? ⟨w.heap.size + 1, 1, none⟩ = some (.string q.u) ∧ V.cell? ⟨w.heap.size + 1, 2, none⟩ = some (.int .i64 q.f) ∧ V.cell? ⟨w.heap.size + 1, 3, none⟩ = some (.int .i64 q.t) ∧ V.cell? ⟨w.heap.size + 1, 4, none⟩ = some (.int .i64 q.n))
     (with_reducible exact HS5.out _ _ _ K)
     (first | (go_at_call 51; refine (HLE'.out z _ K.s5.at_ ZM.out).mono ?_; rintro r v2 ⟨rfl, h2⟩; have K := K.below h2) | (go_at_call 49; refine (HNQ.out _).mono ?_; rintro r v1 ⟨rfl, h1⟩; have K := K.below h1))
    have SK := Lib.hid K
    clear K h1 h2
    go_wp2_with fail
    refine (HAL.out _).mono ?_
    rintro r w8 ⟨rfl, h8⟩
    replace SK := Lib.hid (SK.out.below h8)
    clear h8 HAL HRE' HLE' HNQ HS5 HFD
    obtain ⟨c0, c1, c2, c3, c4, c5, a0, a1, a2, a3, a4⟩ := SK.out.k.cells
    go_wp2_with fail
    refine (HWH.out _ SK.out.k.s.at_).mono ?_
    rintro r w9 ⟨rfl, h9⟩
    clear c0 c1 c2 c3 c4 c5 a0 a1 a2 a3 a4
    replace SK := Lib.hid (SK.out.below h9)
    clear h9 HWH
    have HF := Lib.hid SK.out.s5.frame
    clear SK
    go_wp2
    go_ret
    exact ⟨rfl, HF.out⟩
   ·have hE1 : (E == 0) = false := by simpa using hE
    clear HRE HLE HWH HNQ HS5 HFD
    go_wp2_with fail
    refine (HAL.out _).mono ?_
    rintro r w8 ⟨rfl, h8⟩
    have HF := Lib.hid (SK.out.below h8).s5.frame
    clear SK h8 HAL
    go_wp2
    go_ret
    exact ⟨rfl, HF.out⟩
theorem contract (H : Type) (enc : TypeId × Value → H) (W : World) (base : Nat) (args : Array Value) (ds gs : List (DataW H)) (before : List MemPlace)
  (hval : ∀ (j : Nat) t v, Tryz.f15.params[j]? = some t → args[j]? = some v → Value.okWide Tryz.prog W .any base t v)
  (hW : DataW.Whole enc Tryz.prog Tryz.f15.params.toList Rows.gateErasedSpec.vars false W args.toList ds gs before) (hk : Rows.uptoSmall H (ds ++ gs) = true) :
  Calls Tryz.prog 15 args W fun e W' => ∃ v, e = .returned v ∧ Rows.gateErasedSpec.post enc Tryz.prog Tryz.f15 false true false false W args v W' := by
 have hW' := hW
 obtain ⟨p, q, hA0, hV, rfl, hfz, hnd⟩ := hW
 have hA : DataW.TrodAll enc Tryz.prog W 0 (fun _ => true) true Tryz.f15.params.toList args.toList ds p := hA0
 rw [Tryz.params15] at hA hval
 obtain ⟨v0, vs0, d0, ds0, p0, q0, hargs, rfl, rfl, h0, r0⟩ := trodAll_cons hA
 obtain ⟨v1, vs1, d1, ds1, p1, q1, rfl, rfl, rfl, h1, r1⟩ := trodAll_cons r0
 obtain ⟨v2, vs2, d2, ds2, p2, q2, rfl, rfl, rfl, h2, r2⟩ := trodAll_cons r1
 obtain ⟨rfl, rfl, rfl⟩ := trodAll_nil r2
 obtain rfl : args = #[v0, v1, v2] := by cases args; simp_all
 obtain ⟨rfl, rfl⟩ := trodVars_none hV
 have hbk : Rows.uptoBulkAll [d0, d1, d2] ≤ 1048576 := of_decide_eq_true hk
 simp only [Rows.uptoBulkAll] at hbk
 obtain ⟨a0, rfl, s0, z0, b0⟩ := open_state (hval 0 27 v0 rfl rfl) h0
 have u0 : stCnt a0.m + a0.us.length ≤ 1048576 := by omega
 obtain ⟨a1, rfl, w1, x1, y1⟩ := open_ask (hval 1 86 v1 rfl rfl) h1
 obtain ⟨a2, rfl, -, -, w2⟩ := open_string Tryz.underlying9 (hval 2 9 v2 rfl rfl) h2
 refine (walk W a0 s0 z0 u0 a1 w1 x1 y1 a2 w2).mono fun e W' ⟨he, hb⟩ => ?_
 subst he
 exact ⟨_, rfl, law_post rfl hW' (fun ds h => by match ds, h with | [_, _, _], _ => rfl) (by kernel_rfl) (by kernel_rfl) (by kernel_rfl) hb⟩

set_option maxRecDepth 100000 in
theorem lifted (os : Os) (started : os.Started) (H : Type) (enc : TypeId × Value → H) (F : Stop.Interp) :
  ReturnsInHanded {} Tryz.checked os 15 .any ((Rows.OpenSpec.upto Rows.gateErasedSpec).pre6 enc Tryz.prog Tryz.f15 Rows.gateErasedUptoRow.domain false) (((Rows.OpenSpec.upto Rows.gateErasedSpec).at F).post enc Tryz.prog Tryz.f15 false true false false) := by
 refine returnsInHanded_of_cond (C := Tryz.checked) (s := (Rows.OpenSpec.upto Rows.gateErasedSpec)) (k := Rows.uptoSmall) rfl own started (by kernel_rfl) Tryz.func15
  (OpenSpec.witness (enc := enc) (C := Tryz.checked) (s := (Rows.OpenSpec.upto Rows.gateErasedSpec)) (k := Rows.uptoSmall) rfl false ⟨#[], #[.agg #[.int .i64 0, .int .i64 0, .slice none 0 0, .slice none 0 0, .slice none 0 0, .slice none 0 0], .agg #[.string ByteArray.empty, .string ByteArray.empty, .int .i64 0, .int .i64 0, .int .i64 0], .string ByteArray.empty], []⟩ 8 (by kernel_rfl) (by kernel_rfl) (by kernel_rfl)
   (x := ([.agg [.lit (.int .i64 0), .lit (.int .i64 0), .nil, .nil, .nil, .nil], .agg [.lit (.string []), .lit (.string []), .lit (.int .i64 0), .lit (.int .i64 0), .lit (.int .i64 0)], .lit (.string [])], [], [])) (by kernel_rfl) rfl (by kernel_rfl)) ?_
 intro W base args ds gs before hval hW _ hk _
 exact contract H enc W base args ds gs before hval hW hk

theorem proved : Rows.GateErasedUptoSaid :=
 OpenClaim.holds_of_cond 15 Tryz.f15 rfl rfl rfl rfl rfl rfl rfl ⟨rfl, rfl, rfl, rfl, rfl⟩ rfl rfl rfl rfl rfl (by kernel_rfl) Tryz.func15 closedGateErased
  (of_decide_eq_true (by kernel_rfl)) (by unfold Func.isWrapper; first | (rw [if_pos (by decide +kernel)]; kernel_rfl) | (rw [if_neg (by decide +kernel)]; exact ⟨rfl, rfl⟩))
  (fun os started H enc _ F => lifted os started H enc F)
end Go.Proofs.YtmfpjapiijgdgaaGreat.gateErased
