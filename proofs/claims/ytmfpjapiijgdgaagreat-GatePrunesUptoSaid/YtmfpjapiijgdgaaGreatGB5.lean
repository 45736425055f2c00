/- GatePrunes: a state that is pruned tells the same to all questions; for all states of at most 1048576 things. -/
import Derived.JoinedCond
import Derived.Deep.RegionHeld3
import Derived.OrdersHeld
import Derived.Test.YtmfpjapiijgdgaaGreatV00
import Derived.Test.YtmfpjapiijgdgaaGreatRows
import Derived.Test.YtmfpjapiijgdgaaGreatTQ
import Derived.Test.YtmfpjapiijgdgaaGreatV01
import Derived.Test.YtmfpjapiijgdgaaGreatV03
import Derived.Test.YtmfpjapiijgdgaaGreatV05
import Derived.Test.YtmfpjapiijgdgaaGreatV06
import Derived.Test.YtmfpjapiijgdgaaGreatV07
import Derived.Test.YtmfpjapiijgdgaaGreatV20
import Derived.Test.YtmfpjapiijgdgaaGreatV26
import Derived.Test.YtmfpjapiijgdgaaGreatV28
import Derived.Test.YtmfpjapiijgdgaaGreatV35
import Derived.Test.YtmfpjapiijgdgaaGreatV36
import Derived.Test.YtmfpjapiijgdgaaGreatV41
import Derived.Test.YtmfpjapiijgdgaaGreatV44
import Derived.Test.YtmfpjapiijgdgaaGreatV45
import Derived.Test.YtmfpjapiijgdgaaGreatV50
import Derived.Test.YtmfpjapiijgdgaaGreatV51
import Derived.Test.YtmfpjapiijgdgaaGreatV52
import Derived.Test.YtmfpjapiijgdgaaGreatV54
namespace Go.Proofs.YtmfpjapiijgdgaaGreat.gatePrunes
open Go.ChangeShapes Go.WideShapes Go.ChangeAt Go.RowKit Go.Proofs
open Go.ChangeMaps (open_string shut_string)
set_option linter.unusedVariables false
set_option maxRecDepth 100000

set_option maxHeartbeats 8000000 in
theorem walk (w : World) (x : SaL) (h : SaAt w x) (z : SzS x.m) (b : stCnt x.m + x.us.length ≤ 1048576) (q : AskM) (hw : q.w.size ≤ maxLen) (hu : q.u.size ≤ maxLen) (hi : I64 q.f ∧ I64 q.t ∧ I64 q.n) :
  Calls Tryz.prog 14 #[saV x, askV q] w fun e w' => e = .returned (.bool true) ∧ Below w.heap.size w w' := by
 have S := SQ.new w q h 27 86
 unfold saC askC at S
 replace S := Lib.hid S
 have HAL := Lib.hid alive13
 have HMA := Lib.hid (fun V (h : SaAt V x) => many_any x V h b)
 by_cases g1 : 100 < stCnt x.m + x.us.length
 ·have d1 : decide ((100 : Int) < (stCnt x.m : Int) + (x.us.length : Int)) = true := decide_eq_true (by omega)
  clear h z b hw hu hi g1
  unfold saV saC askV askC
  obtain ⟨c0, c1, c2, c3, c4, c5, a0, a1, a2, a3, a4⟩ := S.out.cells
  go_enter Tryz.func14, Tryz.ntmps14
  go_wp2_with fail
  refine (HMA.out _ S.out.s.at_).mono ?_
  rintro r1 w1 ⟨rfl, h1⟩
  clear c0 c1 c2 c3 c4 c5 a0 a1 a2 a3 a4
  replace S := Lib.hid (S.out.below h1)
  clear h1
  obtain ⟨c0, c1, c2, c3, c4, c5, a0, a1, a2, a3, a4⟩ := S.out.cells
  go_wp2_with fail
  refine (HAL.out _).mono ?_
  rintro r2 w2 ⟨rfl, h2⟩
  clear c0 c1 c2 c3 c4 c5 a0 a1 a2 a3 a4
  replace S := Lib.hid (S.out.below h2)
  clear h2
  go_wp2
  go_ret
  exact ⟨rfl, S.out.s.frame⟩
 have d1 : decide ((100 : Int) < (stCnt x.m : Int) + (x.us.length : Int)) = false := decide_eq_false (by omega)
 have hf0 : Few x.m 100 := few_cnt (by omega)
 by_cases hr0 : RightS x.m
 case neg =>
  have HRR := Lib.hid (fun V (h : SaAt V x) => g_rwrong x V h rfl z (hf0.mono (by decide)) hr0)
  clear h z b hw hu hi g1 hf0 hr0
  unfold saV saC askV askC
  obtain ⟨c0, c1, c2, c3, c4, c5, a0, a1, a2, a3, a4⟩ := S.out.cells
  go_enter Tryz.func14, Tryz.ntmps14
  go_wp2_with fail
  refine (HMA.out _ S.out.s.at_).mono ?_
  rintro r1 w1 ⟨rfl, h1⟩
  clear c0 c1 c2 c3 c4 c5 a0 a1 a2 a3 a4
  replace S := Lib.hid (S.out.below h1)
  clear h1
  obtain ⟨c0, c1, c2, c3, c4, c5, a0, a1, a2, a3, a4⟩ := S.out.cells
  go_wp2_with fail
  refine (HRR.out _ S.out.s.at_).mono ?_
  rintro r2 w2 ⟨rfl, h2⟩
  clear c0 c1 c2 c3 c4 c5 a0 a1 a2 a3 a4
  replace S := Lib.hid (S.out.below h2)
  clear h2
  obtain ⟨c0, c1, c2, c3, c4, c5, a0, a1, a2, a3, a4⟩ := S.out.cells
  go_wp2_with fail
  refine (HAL.out _).mono ?_
  rintro r3 w3 ⟨rfl, h3⟩
  clear c0 c1 c2 c3 c4 c5 a0 a1 a2 a3 a4
  replace S := Lib.hid (S.out.below h3)
  clear h3
  go_wp2
  go_ret
  exact ⟨rfl, S.out.s.frame⟩
 have HRR := Lib.hid (fun V (h : SaAt V x) => g_rright x V h rfl z (hf0.mono (by decide)) hr0)
 have hc0 : stCnt x.m ≤ 100 := by omega
 have HNW : Hid (∀ V, SaAt V x → Calls Tryz.prog 23 #[.agg #[.int .i64 x.now, .int .i64 x.hor, .slice x.oa x.op.length x.oc, .slice x.ua x.us.length x.uc, .slice x.sa x.su.length x.sc, .slice x.ta x.tb.length x.tc]] V fun r w' => ∃ y, r = .returned (.agg #[.int .i64 y.now, .int .i64 y.hor, .slice y.oa y.op.length y.oc, .slice y.ua y.us.length y.uc, .slice y.sa y.su.length y.sc, .slice y.ta y.tb.length y.tc]) ∧ SaAt w' y ∧ y.m = x.m ∧ Below V.heap.size V w') := fun V h => g_new x V h rfl (hf0.mono (by decide))
 have HNQ : Hid (∀ V, Calls Tryz.prog 49 #[.agg #[.string q.w, .string q.u, .int .i64 q.f, .int .i64 q.t, .int .i64 q.n]] V fun r w' => r = .returned (.agg #[.string q.w, .string q.u, .int .i64 q.f, .int .i64 q.t, .int .i64 q.n]) ∧ Below V.heap.size V w') := fun V => gnew_any q V
 have HRG : Hid (∀ (y : SaL) V, SaAt V y → Alike13 x.m q y.m → Calls Tryz.prog 48 #[.agg #[.int .i64 y.now, .int .i64 y.hor, .slice y.oa y.op.length y.oc, .slice y.ua y.us.length y.uc, .slice y.sa y.su.length y.sc, .slice y.ta y.tb.length y.tc], .agg #[.string q.w, .string q.u, .int .i64 q.f, .int .i64 q.t, .int .i64 q.n]] V fun r w' => ∃ b c m, r = .returned (.tuple #[.slice b m.length c, .int .i64 (whyV x.m q.w q.u q.n)]) ∧ GTold x.m q m ∧ m.length ≤ 90000 ∧ StSl w' b m ∧ Below V.heap.size V w') := fun y V h hm => by
  refine (range_any13 y q V h hm.few hw hu).mono ?_
  rintro e w' ⟨b, c, m, rfl, h1, h2, h3, h4⟩
  exact ⟨b, c, m, by rw [hm.why], hm.told m h1, h2, h3, h4⟩
 have HLG : Hid (∀ (y : SaL) V, SaAt V y → Alike13 x.m q y.m → Calls Tryz.prog 51 #[.agg #[.int .i64 y.now, .int .i64 y.hor, .slice y.oa y.op.length y.oc, .slice y.ua y.us.length y.uc, .slice y.sa y.su.length y.sc, .slice y.ta y.tb.length y.tc], .agg #[.string q.w, .string q.u], .int .i64 q.n] V fun r w' => ∃ k b, r = .returned (.tuple #[.int .i64 k, .bool b, .int .i64 (whyV x.m q.w q.u q.n)]) ∧ LastT x.m q.w q.u q.n k b ∧ Below V.heap.size V w') := fun y V h hm => by
  refine (last_any13 y q.w q.u q.n V h hm.few hw hu).mono ?_
  rintro e w' ⟨m, rfl, h1, h2⟩
  exact ⟨_, _, by rw [hm.why], hm.last ⟨m, h1, rfl, rfl⟩, h2⟩
 have HSM : Hid (∀ (m : List StM) b c a d V, m.length ≤ 90000 → StSl V b m → StSl V a m → Calls Tryz.prog 59 #[.slice b m.length c, .slice a m.length d] V fun r w' => r = .returned (.bool true) ∧ Below V.heap.size V w') := fun m b c a d V hl h k => by
  have h1 := ssame_any b a c d m m V h k (by unfold maxLen; omega) (by unfold maxLen; omega)
  rwa [decide_eq_true rfl] at h1
 have HTO : Hid (∀ a b, GTold x.m q a → GTold x.m q b → a = b) := fun a b h k => h.only k
 have HLO : Hid (∀ k b k' b', LastT x.m q.w q.u q.n k b → LastT x.m q.w q.u q.n k' b' → k = k' ∧ b = b') := fun k b k' b' h h' => h.only h'
 have HPR : Hid (∀ (y : SaL) V, SaAt V y → y.m = x.m → Calls Tryz.prog 61 #[.agg #[.int .i64 y.now, .int .i64 y.hor, .slice y.oa y.op.length y.oc, .slice y.ua y.us.length y.uc, .slice y.sa y.su.length y.sc, .slice y.ta y.tb.length y.tc]] V fun r w' => ∃ z, r = .returned (.agg #[.int .i64 z.now, .int .i64 z.hor, .slice z.oa z.op.length z.oc, .slice z.ua z.us.length z.uc, .slice z.sa z.su.length z.sc, .slice z.ta z.tb.length z.tc]) ∧ SaAt w' z ∧ z.m = pruneS x.m ∧ Below V.heap.size V w') := fun y V h hm => g_prune y V h hm hr0 (by omega)
 have AL1 : Hid (Alike13 x.m q x.m) := Alike13.self q (hf0.mono (by decide))
 have AL2 : Hid (Alike13 x.m q (pruneS x.m)) := Alike13.prune q hr0 (by omega)
 have HSC := Lib.hid (fun V (k : SQ w w.heap.size (w.heap.size + 1) 27 86 x q V) => k.cells)
 have HS5 := Lib.hid (fun g y V (k : S5 w x q g y V) => k.cells)
 have HFD : ∀ W, (Instr.field 92 (.agg #[.string q.w, .string q.u, .int .i64 q.f, .int .i64 q.t, .int .i64 q.n]) 0).run Tryz.prog W = .ok (.agg #[.string q.w, .string q.u]) W := fun W => by kernel_rfl
 generalize GTold x.m q = TD at *
 generalize LastT x.m q.w q.u q.n = LD at *
 generalize Alike13 x.m q = AL at *
 generalize whyV x.m q.w q.u q.n = Y at *
 have hYY : (Y == Y) = true := beq_self_eq_true _
 clear h z b hw hu hi g1 hf0 hr0 hc0
 unfold saV saC askV askC
 obtain ⟨c0, c1, c2, c3, c4, c5, a0, a1, a2, a3, a4⟩ := S.out.cells
 go_enter Tryz.func14, Tryz.ntmps14
 go_wp2_with fail
 refine (HMA.out _ S.out.s.at_).mono ?_
 rintro r1 w1 ⟨rfl, h1⟩
 clear c0 c1 c2 c3 c4 c5 a0 a1 a2 a3 a4
 replace S := Lib.hid (S.out.below h1)
 clear h1
 obtain ⟨c0, c1, c2, c3, c4, c5, a0, a1, a2, a3, a4⟩ := S.out.cells
 go_wp2_with fail
 refine (HRR.out _ S.out.s.at_).mono ?_
 rintro r2 w2 ⟨rfl, h2⟩
 clear c0 c1 c2 c3 c4 c5 a0 a1 a2 a3 a4
 replace S := Lib.hid (S.out.below h2)
 clear h2
 obtain ⟨c0, c1, c2, c3, c4, c5, a0, a1, a2, a3, a4⟩ := S.out.cells
 go_wp2_with fail
 refine (HNW.out _ S.out.s.at_).mono ?_
 rintro r w3 ⟨y, rfl, hy, ym, h3⟩
 clear c0 c1 c2 c3 c4 c5 a0 a1 a2 a3 a4
 replace S := Lib.hid (S.out.below h3)
 have S5' : Hid (S5 w x q w3.heap.size y (w3.alloc (.cells #[.int .i64 y.now, .int .i64 y.hor, .slice y.oa y.op.length y.oc, .slice y.ua y.us.length y.uc, .slice y.sa y.su.length y.sc, .slice y.ta y.tb.length y.tc] 39))) := Lib.hid ⟨S.out.below (below_one _ _), SB.new S.out.s.frame hy _⟩
 replace AL1 : Hid (AL y.m) := by rw [ym]; exact AL1
 have HYM := Lib.hid ym
 clear h3 hy ym S HNW HMA HRR
 obtain ⟨c0, c1, c2, c3, c4, c5, a0, a1, a2, a3, a4⟩ := HS5.out _ _ _ S5'.out
 go_wp2_with fail
 generalize (w3.alloc (.cells #[.int .i64 y.now, .int .i64 y.hor, .slice y.oa y.op.length y.oc, .slice y.ua y.us.length y.uc, .slice y.sa y.su.length y.sc, .slice y.ta y.tb.length y.tc] 39)) = W3 at *
 generalize w3.heap.size = g at *
 refine (HPR.out _ _ S5'.out.s5.at_ HYM.out).mono ?_
 rintro r w4 ⟨z, rfl, hz, zm, h4⟩
 clear c0 c1 c2 c3 c4 c5 a0 a1 a2 a3 a4
 replace S5' := Lib.hid (S5'.out.below h4)
 have S6' : Hid (S6 w x q g y w4.heap.size z (w4.alloc (.cells #[.int .i64 z.now, .int .i64 z.hor, .slice z.oa z.op.length z.oc, .slice z.ua z.us.length z.uc, .slice z.sa z.su.length z.sc, .slice z.ta z.tb.length z.tc] 39))) := Lib.hid ⟨S5'.out.below (below_one _ _), ⟨S5'.out.k.below (below_one _ _), SB.new S5'.out.k.s.frame hz _⟩⟩
 replace AL2 : Hid (AL z.m) := by rw [zm]; exact AL2
 clear h4 hz zm S5' HPR HYM
 go_wp2_with fail
 generalize (w4.alloc (.cells #[.int .i64 z.now, .int .i64 z.hor, .slice z.oa z.op.length z.oc, .slice z.ua z.us.length z.uc, .slice z.sa z.su.length z.sc, .slice z.ta z.tb.length z.tc] 39)) = W4 at *
 generalize w4.heap.size = g' at *
 have K := S6'.out.drew
 clear S6'
 go_region_held3 (fun V => V.cell? ⟨g, 0, none⟩ = some (.int .i64 y.now) ∧ V.cell? ⟨g, 1, none⟩ = some (.int .i64 y.hor) ∧ V.cell? ⟨g, 2, none⟩ = some (.slice y.oa y.op.length y.oc) ∧ V.cell? ⟨g, 3, none⟩ = some (.slice y.ua y.us.length y.uc) ∧ V.cell? ⟨g, 4, none⟩ = some (.slice y.sa y.su.length y.sc) ∧ V.cell? ⟨g, 5, none⟩ = some (.slice y.ta y.tb.length y.tc) ∧ V.cell? ⟨w.heap.size + 1, 0, none⟩ = some (.string q.w) ∧ V.cell? ⟨w.heap.size + 1, 1, none⟩ = some (.string q.u) ∧ V.cell? ⟨w.heap.size + 1, 2, none⟩ = some (.int .i64 q.f) ∧ V.cell? ⟨w.heap.size + 1, 3, none⟩ = some (.int .i64 q.t) ∧ V.cell? ⟨w.heap.size + 1, 4, none⟩ = some (.int .i64 q.n))
  (with_reducible exact HS5.out _ _ _ K.a)
  (first | (go_at_call 48; refine (HRG.out y _ K.a.s5.at_ AL1.out).mono ?_; rintro r v2 ⟨b5, q5, m5, rfl, l1, l2, l3, h2⟩; have K := K.below h2) | (go_at_call 49; refine (HNQ.out _).mono ?_; rintro r v1 ⟨rfl, h1⟩; have K := K.below h1))
 have T5 := Lib.hid l1
 have E5 := Lib.hid l2
 have R5 := Lib.hid l3
 have S6' := Lib.hid K
 clear K l1 l2 l3 h1 h2
 go_wp2_with fail
 have K := S6'.out.drew
 clear S6'
 go_region_held3 (fun V => V.cell? ⟨g', 0, none⟩ = some (.int .i64 z.now) ∧ V.cell? ⟨g', 1, none⟩ = some (.int .i64 z.hor) ∧ V.cell? ⟨g', 2, none⟩ = some (.slice z.oa z.op.length z.oc) ∧ V.cell? ⟨g', 3, none⟩ = some (.slice z.ua z.us.length z.uc) ∧ V.cell? ⟨g', 4, none⟩ = some (.slice z.sa z.su.length z.sc) ∧ V.cell? ⟨g', 5, none⟩ = some (.slice z.ta z.tb.length z.tc) ∧ V.cell? ⟨w.heap.size + 1, 0, none⟩ = some (.string q.w) ∧ V.cell? ⟨w.heap.size + 1, 1, none⟩ = some (.string q.u) ∧ V.cell? ⟨w.heap.size + 1, 2, none⟩ = some (.int .i64 q.f) ∧ V.cell? ⟨w.heap.size + 1, 3, none⟩ = some (.int .i64 q.t) ∧ V.cell? ⟨w.heap.size + 1, 4, none⟩ = some (.int .i64 q.n))
  (with_reducible exact HS5.out _ _ _ K.b)
  (first | (go_at_call 48; refine (HRG.out z _ K.b.s5.at_ AL2.out).mono ?_; rintro r v2 ⟨b6, q6, m6, rfl, l1, l2, l3, h2⟩; have K := K.below h2) | (go_at_call 49; refine (HNQ.out _).mono ?_; rintro r v1 ⟨rfl, h1⟩; have K := K.below h1))
 obtain rfl := HTO.out _ _ T5.out l1
 have R6 := Lib.hid l3
 replace R5 := Lib.hid (R5.out.below ((Below.refl _ _).drew.trans (h1.trans (h2.mono h1.size))))
 have S6' := Lib.hid K
 clear K l1 l2 l3 h1 h2 T5 HTO HRG
 go_wp2_with fail
 have K := S6'.out.drew
 clear S6'
 go_region_held3 (fun V => V.cell? ⟨g, 0, none⟩ = some (.int .i64 y.now) ∧ V.cell? ⟨g, 1, none⟩ = some (.int .i64 y.hor) ∧ V.cell? ⟨g, 2, none⟩ = some (.slice y.oa y.op.length y.oc) ∧ V.cell? ⟨g, 3, none⟩ = some (.slice y.ua y.us.length y.uc) ∧ V.cell? ⟨g, 4, none⟩ = some (.slice y.sa y.su.length y.sc) ∧ V.cell? ⟨g, 5, none⟩ = some (.slice y.ta y.tb.length y.tc) ∧ V.cell? ⟨w.heap.size + 1, 0, none⟩ = some (.string q.w) ∧ V.cell? ⟨w.heap.size + 1, 1, none⟩ = some (.string q.u) ∧ V.cell? ⟨w.heap.size + 1, 2, none⟩ = some (.int .i64 q.f) ∧ V.cell? ⟨w.heap.size + 1, 3, none⟩ = some (.int .i64 q.t) ∧ V.cell? ⟨w.heap.size + 1, 4, none⟩ = some (.int .i64 q.n))
  (with_reducible exact HS5.out _ _ _ K.a)
  (first | (go_at_call 51; refine (HLG.out y _ K.a.s5.at_ AL1.out).mono ?_; rintro r v2 ⟨k7, e7, rfl, l1, h2⟩; have K := K.below h2) | (go_at_call 49; refine (HNQ.out _).mono ?_; rintro r v1 ⟨rfl, h1⟩; have K := K.below h1))
 have T7 := Lib.hid l1
 replace R5 := Lib.hid (R5.out.below ((Below.refl _ _).drew.trans (h1.trans (h2.mono h1.size))))
 replace R6 := Lib.hid (R6.out.below ((Below.refl _ _).drew.trans (h1.trans (h2.mono h1.size))))
 have S6' := Lib.hid K
 clear K l1 h1 h2
 go_wp2_with fail
 have K := S6'.out.drew
 clear S6'
 go_region_held3 (fun V => V.cell? ⟨g', 0, none⟩ = some (.int .i64 z.now) ∧ V.cell? ⟨g', 1, none⟩ = some (.int .i64 z.hor) ∧ V.cell? ⟨g', 2, none⟩ = some (.slice z.oa z.op.length z.oc) ∧ V.cell? ⟨g', 3, none⟩ = some (.slice z.ua z.us.length z.uc) ∧ V.cell? ⟨g', 4, none⟩ = some (.slice z.sa z.su.length z.sc) ∧ V.cell? ⟨g', 5, none⟩ = some (.slice z.ta z.tb.length z.tc) ∧ V.cell? ⟨w.heap.size + 1, 0, none⟩ = some (.string q.w) ∧ V.cell? ⟨w.heap.size + 1, 1, none⟩ = some (.string q.u) ∧ V.cell? ⟨w.heap.size + 1, 2, none⟩ = some (.int .i64 q.f) ∧ V.cell? ⟨w.heap.size + 1, 3, none⟩ = some (.int .i64 q.t) ∧ V.cell? ⟨w.heap.size + 1, 4, none⟩ = some (.int .i64 q.n))
  (with_reducible exact HS5.out _ _ _ K.b)
  (first | (go_at_call 51; refine (HLG.out z _ K.b.s5.at_ AL2.out).mono ?_; rintro r v2 ⟨k8, e8, rfl, l1, h2⟩; have K := K.below h2) | (go_at_call 49; refine (HNQ.out _).mono ?_; rintro r v1 ⟨rfl, h1⟩; have K := K.below h1))
 obtain ⟨rfl, rfl⟩ := HLO.out _ _ _ _ T7.out l1
 replace R5 := Lib.hid (R5.out.below ((Below.refl _ _).drew.trans (h1.trans (h2.mono h1.size))))
 replace R6 := Lib.hid (R6.out.below ((Below.refl _ _).drew.trans (h1.trans (h2.mono h1.size))))
 have HF := Lib.hid K.a.s5.frame
 have hkk : (k7 == k7) = true := beq_self_eq_true _
 have hbb : (e7 == e7) = true := beq_self_eq_true _
 clear K l1 h1 h2 T7 HLO HLG HNQ HSC HS5 HFD AL1 AL2
 go_wp2_with fail
 refine (HAL.out _).mono ?_
 rintro r w9 ⟨rfl, h9⟩
 replace R5 := Lib.hid (R5.out.below h9)
 replace R6 := Lib.hid (R6.out.below h9)
 replace HF := Lib.hid (HF.out.trans (h9.mono HF.out.size))
 clear h9 HAL
 go_wp2_with fail
 refine (HSM.out m5 _ _ _ _ _ E5.out R5.out R6.out).mono ?_
 rintro r wa ⟨rfl, h9⟩
 replace HF := Lib.hid (HF.out.trans (h9.mono HF.out.size))
 clear h9 R5 R6 E5 HSM
 go_wp2
 go_ret
 exact ⟨rfl, HF.out⟩
theorem contract (H : Type) (enc : TypeId × Value → H) (W : World) (base : Nat) (args : Array Value) (ds gs : List (DataW H)) (before : List MemPlace)
  (hval : ∀ (j : Nat) t v, Tryz.f14.params[j]? = some t → args[j]? = some v → Value.okWide Tryz.prog W .any base t v)
  (hW : DataW.Whole enc Tryz.prog Tryz.f14.params.toList Rows.gatePrunesSpec.vars false W args.toList ds gs before) (hk : Rows.uptoSmall H (ds ++ gs) = true) :
  Calls Tryz.prog 14 args W fun e W' => ∃ v, e = .returned v ∧ Rows.gatePrunesSpec.post enc Tryz.prog Tryz.f14 false true false false W args v W' := by
 have hW' := hW
 obtain ⟨p, q, hA0, hV, rfl, hfz, hnd⟩ := hW
 have hA : DataW.TrodAll enc Tryz.prog W 0 (fun _ => true) true Tryz.f14.params.toList args.toList ds p := hA0
 rw [Tryz.params14] at hA hval
 obtain ⟨v0, vs0, d0, ds0, p0, q0, hargs, rfl, rfl, h0, r0⟩ := trodAll_cons hA
 obtain ⟨v1, vs1, d1, ds1, p1, q1, rfl, rfl, rfl, h1, r1⟩ := trodAll_cons r0
 obtain ⟨rfl, rfl, rfl⟩ := trodAll_nil r1
 obtain rfl : args = #[v0, v1] := by cases args; simp_all
 obtain ⟨rfl, rfl⟩ := trodVars_none hV
 have hbk : Rows.uptoBulkAll [d0, d1] ≤ 1048576 := of_decide_eq_true hk
 simp only [Rows.uptoBulkAll] at hbk
 obtain ⟨a0, rfl, s0, z0, b0⟩ := open_state (hval 0 27 v0 rfl rfl) h0
 have u0 : stCnt a0.m + a0.us.length ≤ 1048576 := by omega
 obtain ⟨a1, rfl, w1, x1, y1⟩ := open_ask (hval 1 86 v1 rfl rfl) h1
 refine (walk W a0 s0 z0 u0 a1 w1 x1 y1).mono fun e W' ⟨he, hb⟩ => ?_
 subst he
 exact ⟨_, rfl, law_post rfl hW' (fun ds h => by match ds, h with | [_, _], _ => rfl) (by kernel_rfl) (by kernel_rfl) (by kernel_rfl) hb⟩

set_option maxRecDepth 100000 in
theorem lifted (os : Os) (started : os.Started) (H : Type) (enc : TypeId × Value → H) (F : Stop.Interp) :
  ReturnsInHanded {} Tryz.checked os 14 .any ((Rows.OpenSpec.upto Rows.gatePrunesSpec).pre6 enc Tryz.prog Tryz.f14 Rows.gatePrunesUptoRow.domain false) (((Rows.OpenSpec.upto Rows.gatePrunesSpec).at F).post enc Tryz.prog Tryz.f14 false true false false) := by
 refine returnsInHanded_of_cond (C := Tryz.checked) (s := (Rows.OpenSpec.upto Rows.gatePrunesSpec)) (k := Rows.uptoSmall) rfl own started (by kernel_rfl) Tryz.func14
  (OpenSpec.witness (enc := enc) (C := Tryz.checked) (s := (Rows.OpenSpec.upto Rows.gatePrunesSpec)) (k := Rows.uptoSmall) rfl false ⟨#[], #[.agg #[.int .i64 0, .int .i64 0, .slice none 0 0, .slice none 0 0, .slice none 0 0, .slice none 0 0], .agg #[.string ByteArray.empty, .string ByteArray.empty, .int .i64 0, .int .i64 0, .int .i64 0]], []⟩ 8 (by kernel_rfl) (by kernel_rfl) (by kernel_rfl)
   (x := ([.agg [.lit (.int .i64 0), .lit (.int .i64 0), .nil, .nil, .nil, .nil], .agg [.lit (.string []), .lit (.string []), .lit (.int .i64 0), .lit (.int .i64 0), .lit (.int .i64 0)]], [], [])) (by kernel_rfl) rfl (by kernel_rfl)) ?_
 intro W base args ds gs before hval hW _ hk _
 exact contract H enc W base args ds gs before hval hW hk

theorem proved : Rows.GatePrunesUptoSaid :=
 OpenClaim.holds_of_cond 14 Tryz.f14 rfl rfl rfl rfl rfl rfl rfl ⟨rfl, rfl, rfl, rfl, rfl⟩ rfl rfl rfl rfl rfl (by kernel_rfl) Tryz.func14 closedGatePrunes
  (of_decide_eq_true (by kernel_rfl)) (by unfold Func.isWrapper; first | (rw [if_pos (by decide +kernel)]; kernel_rfl) | (rw [if_neg (by decide +kernel)]; exact ⟨rfl, rfl⟩))
  (fun os started H enc _ F => lifted os started H enc F)
end Go.Proofs.YtmfpjapiijgdgaaGreat.gatePrunes
