/- GateLater: asked later, nothing that was told is told no more, but that stays that go on are longer; for all states of at most 1048576 things. -/
import Derived.JoinedCond
import Derived.Deep.RegionHeld3
import Derived.OrdersHeld
import Derived.Test.YtapacckmgmdnoaaGreatU00
import Derived.Test.YtapacckmgmdnoaaGreatRows
import Derived.Test.YtapacckmgmdnoaaGreatTQ
import Derived.Test.YtapacckmgmdnoaaGreatU01
import Derived.Test.YtapacckmgmdnoaaGreatU02
import Derived.Test.YtapacckmgmdnoaaGreatU04
import Derived.Test.YtapacckmgmdnoaaGreatU07
import Derived.Test.YtapacckmgmdnoaaGreatU09
import Derived.Test.YtapacckmgmdnoaaGreatU11
import Derived.Test.YtapacckmgmdnoaaGreatU15
import Derived.Test.YtapacckmgmdnoaaGreatU16
import Derived.Test.YtapacckmgmdnoaaGreatU23
import Derived.Test.YtapacckmgmdnoaaGreatU35
import Derived.Test.YtapacckmgmdnoaaGreatU36
import Derived.Test.YtapacckmgmdnoaaGreatU42
import Derived.Test.YtapacckmgmdnoaaGreatU44
import Derived.Test.YtapacckmgmdnoaaGreatU45
import Derived.Test.YtapacckmgmdnoaaGreatU46
namespace Go.Proofs.YtapacckmgmdnoaaGreat.gateLater
open Go.ChangeShapes Go.WideShapes Go.ChangeAt Go.RowKit Go.Proofs
open Go.ChangeMaps (open_string shut_string)
set_option linter.unusedVariables false
set_option maxRecDepth 100000

theorem funnelN {G : Prop} {F P : World → Nat → SaL → Nat → Prop} (tree : (∀ T ga y gb, F T ga y gb → P T ga y gb) → G) (main : ∀ T ga y gb, F T ga y gb → P T ga y gb) : G := tree main
set_option maxHeartbeats 8000000 in
theorem walk (w : World) (x : SaL) (h : SaAt w x) (z : SzS x.m) (b : stCnt x.m + x.us.length ≤ 1048576) (q : AskM) (hw : q.w.size ≤ maxLen) (hu : q.u.size ≤ maxLen) (hi_ : I64 q.f ∧ I64 q.t ∧ I64 q.n) (v : Int) (hv : (Lit.int IntKind.i64 v).wf = true) :
  Calls Tryz.prog 17 #[saV x, askV q, .int .i64 v] w fun e w' => e = .returned (.bool true) ∧ Below w.heap.size w w' := by
 have S := SQ.new w q h 27 86
 unfold saC askC at S
 replace S := Lib.hid S
 have HAL := Lib.hid alive13
 have HMA := Lib.hid (fun V (h : SaAt V x) => many_any x V h b)
 by_cases g1 : 100 < stCnt x.m + x.us.length
 ·have d1 : decide ((100 : Int) < (stCnt x.m : Int) + (x.us.length : Int)) = true := decide_eq_true (by omega)
  clear h z b hw hu hi_ hv g1
  unfold saV saC askV askC
  obtain ⟨c0, c1, c2, c3, c4, c5, a0, a1, a2, a3, a4⟩ := S.out.cells
  go_enter Tryz.func17, Tryz.ntmps17
  go_wp2_with fail
  refine (HMA.out _ S.out.s.at_).mono ?_
  rintro r1 w1 ⟨rfl, h1⟩
  clear c0 c1 c2 c3 c4 c5 a0 a1 a2 a3 a4
  replace S := Lib.hid (S.out.below h1)
  clear h1
  obtain ⟨c0, c1, c2, c3, c4, c5, a0, a1, a2, a3, a4⟩ := S.out.cells
  go_wp2_with fail
  refine (HAL.out _).mono ?_
  rintro r2 w2 ⟨rfl, h2⟩
  clear c0 c1 c2 c3 c4 c5 a0 a1 a2 a3 a4
  replace S := Lib.hid (S.out.below h2)
  clear h2
  go_wp2
  go_ret
  exact ⟨rfl, S.out.s.frame⟩
 have d1 : decide ((100 : Int) < (stCnt x.m : Int) + (x.us.length : Int)) = false := decide_eq_false (by omega)
 have hf0 : Few x.m 100 := few_cnt (by omega)
 by_cases hr0 : RightS x.m
 case neg =>
  have HRR := Lib.hid (fun V (h : SaAt V x) => g_rwrong x V h rfl z (hf0.mono (by decide)) hr0)
  clear h z b hw hu hi_ hv g1 hf0 hr0
  unfold saV saC askV askC
  obtain ⟨c0, c1, c2, c3, c4, c5, a0, a1, a2, a3, a4⟩ := S.out.cells
  go_enter Tryz.func17, Tryz.ntmps17
  go_wp2_with fail
  refine (HMA.out _ S.out.s.at_).mono ?_
  rintro r1 w1 ⟨rfl, h1⟩
  clear c0 c1 c2 c3 c4 c5 a0 a1 a2 a3 a4
  replace S := Lib.hid (S.out.below h1)
  clear h1
  obtain ⟨c0, c1, c2, c3, c4, c5, a0, a1, a2, a3, a4⟩ := S.out.cells
  go_wp2_with fail
  refine (HRR.out _ S.out.s.at_).mono ?_
  rintro r2 w2 ⟨rfl, h2⟩
  clear c0 c1 c2 c3 c4 c5 a0 a1 a2 a3 a4
  replace S := Lib.hid (S.out.below h2)
  clear h2
  obtain ⟨c0, c1, c2, c3, c4, c5, a0, a1, a2, a3, a4⟩ := S.out.cells
  go_wp2_with fail
  refine (HAL.out _).mono ?_
  rintro r3 w3 ⟨rfl, h3⟩
  clear c0 c1 c2 c3 c4 c5 a0 a1 a2 a3 a4
  replace S := Lib.hid (S.out.below h3)
  clear h3
  go_wp2
  go_ret
  exact ⟨rfl, S.out.s.frame⟩
 have HRR := Lib.hid (fun V (h : SaAt V x) => g_rright x V h rfl z (hf0.mono (by decide)) hr0)
 have hc0 : stCnt x.m ≤ 100 := by omega
 by_cases e0 : v < 0
 ·have d0 : decide (v < 0) = true := decide_eq_true e0
  clear h z b hw hu hi_ hv g1 hf0 hr0 hc0
  unfold saV saC askV askC
  obtain ⟨c0, c1, c2, c3, c4, c5, a0, a1, a2, a3, a4⟩ := S.out.cells
  go_enter Tryz.func17, Tryz.ntmps17
  go_wp2_with fail
  refine (HMA.out _ S.out.s.at_).mono ?_
  rintro r1 w1 ⟨rfl, h1⟩
  clear c0 c1 c2 c3 c4 c5 a0 a1 a2 a3 a4
  replace S := Lib.hid (S.out.below h1)
  clear h1
  obtain ⟨c0, c1, c2, c3, c4, c5, a0, a1, a2, a3, a4⟩ := S.out.cells
  go_wp2_with fail
  refine (HRR.out _ S.out.s.at_).mono ?_
  rintro r2 w2 ⟨rfl, h2⟩
  clear c0 c1 c2 c3 c4 c5 a0 a1 a2 a3 a4
  replace S := Lib.hid (S.out.below h2)
  clear h2
  obtain ⟨c0, c1, c2, c3, c4, c5, a0, a1, a2, a3, a4⟩ := S.out.cells
  go_wp2_with fail
  refine (HAL.out _).mono ?_
  rintro r3 w3 ⟨rfl, h3⟩
  clear c0 c1 c2 c3 c4 c5 a0 a1 a2 a3 a4
  replace S := Lib.hid (S.out.below h3)
  clear h3
  go_wp2
  go_ret
  exact ⟨rfl, S.out.s.frame⟩
 have d0 : decide (v < 0) = false := decide_eq_false e0
 by_cases e1 : 1000 < v
 ·have d1 : decide (1000 < v) = true := decide_eq_true e1
  clear h z b hw hu hi_ hv g1 hf0 hr0 hc0
  unfold saV saC askV askC
  obtain ⟨c0, c1, c2, c3, c4, c5, a0, a1, a2, a3, a4⟩ := S.out.cells
  go_enter Tryz.func17, Tryz.ntmps17
  go_wp2_with fail
  refine (HMA.out _ S.out.s.at_).mono ?_
  rintro r1 w1 ⟨rfl, h1⟩
  clear c0 c1 c2 c3 c4 c5 a0 a1 a2 a3 a4
  replace S := Lib.hid (S.out.below h1)
  clear h1
  obtain ⟨c0, c1, c2, c3, c4, c5, a0, a1, a2, a3, a4⟩ := S.out.cells
  go_wp2_with fail
  refine (HRR.out _ S.out.s.at_).mono ?_
  rintro r2 w2 ⟨rfl, h2⟩
  clear c0 c1 c2 c3 c4 c5 a0 a1 a2 a3 a4
  replace S := Lib.hid (S.out.below h2)
  clear h2
  obtain ⟨c0, c1, c2, c3, c4, c5, a0, a1, a2, a3, a4⟩ := S.out.cells
  go_wp2_with fail
  refine (HAL.out _).mono ?_
  rintro r3 w3 ⟨rfl, h3⟩
  clear c0 c1 c2 c3 c4 c5 a0 a1 a2 a3 a4
  replace S := Lib.hid (S.out.below h3)
  clear h3
  go_wp2
  go_ret
  exact ⟨rfl, S.out.s.frame⟩
 have d1 : decide (1000 < v) = false := decide_eq_false e1
 by_cases e2 : 1073741824 < q.n
 ·have d2 : decide (1073741824 < q.n) = true := decide_eq_true e2
  clear h z b hw hu hi_ hv g1 hf0 hr0 hc0
  unfold saV saC askV askC
  obtain ⟨c0, c1, c2, c3, c4, c5, a0, a1, a2, a3, a4⟩ := S.out.cells
  go_enter Tryz.func17, Tryz.ntmps17
  go_wp2_with fail
  refine (HMA.out _ S.out.s.at_).mono ?_
  rintro r1 w1 ⟨rfl, h1⟩
  clear c0 c1 c2 c3 c4 c5 a0 a1 a2 a3 a4
  replace S := Lib.hid (S.out.below h1)
  clear h1
  obtain ⟨c0, c1, c2, c3, c4, c5, a0, a1, a2, a3, a4⟩ := S.out.cells
  go_wp2_with fail
  refine (HRR.out _ S.out.s.at_).mono ?_
  rintro r2 w2 ⟨rfl, h2⟩
  clear c0 c1 c2 c3 c4 c5 a0 a1 a2 a3 a4
  replace S := Lib.hid (S.out.below h2)
  clear h2
  obtain ⟨c0, c1, c2, c3, c4, c5, a0, a1, a2, a3, a4⟩ := S.out.cells
  go_wp2_with fail
  refine (HAL.out _).mono ?_
  rintro r3 w3 ⟨rfl, h3⟩
  clear c0 c1 c2 c3 c4 c5 a0 a1 a2 a3 a4
  replace S := Lib.hid (S.out.below h3)
  clear h3
  go_wp2
  go_ret
  exact ⟨rfl, S.out.s.frame⟩
 have d2 : decide (1073741824 < q.n) = false := decide_eq_false e2
 have HR0 := Lib.hid hr0
 have HNW : Hid (∀ V, SaAt V x → Calls Tryz.prog 23 #[.agg #[.int .i64 x.now, .int .i64 x.hor, .slice x.oa x.op.length x.oc, .slice x.ua x.us.length x.uc, .slice x.sa x.su.length x.sc, .slice x.ta x.tb.length x.tc]] V fun r w' => ∃ y, r = .returned (.agg #[.int .i64 y.now, .int .i64 y.hor, .slice y.oa y.op.length y.oc, .slice y.ua y.us.length y.uc, .slice y.sa y.su.length y.sc, .slice y.ta y.tb.length y.tc]) ∧ SaAt w' y ∧ y.m = x.m ∧ Below V.heap.size V w') := fun V h => g_new x V h rfl (hf0.mono (by decide))
 have HNQ : Hid (∀ V, Calls Tryz.prog 49 #[.agg #[.string q.w, .string q.u, .int .i64 q.f, .int .i64 q.t, .int .i64 q.n]] V fun r w' => r = .returned (.agg #[.string q.w, .string q.u, .int .i64 q.f, .int .i64 q.t, .int .i64 q.n]) ∧ Below V.heap.size V w') := fun V => gnew_any q V
 have HRG : Hid (∀ (y : SaL) (f t n : Int) V, SaAt V y → y.m = x.m → Calls Tryz.prog 48 #[.agg #[.int .i64 y.now, .int .i64 y.hor, .slice y.oa y.op.length y.oc, .slice y.ua y.us.length y.uc, .slice y.sa y.su.length y.sc, .slice y.ta y.tb.length y.tc], .agg #[.string q.w, .string q.u, .int .i64 f, .int .i64 t, .int .i64 n]] V fun r w' => ∃ b c m, r = .returned (.tuple #[.slice b m.length c, .int .i64 (whyV x.m q.w q.u n)]) ∧ GTold x.m ⟨q.w, q.u, f, t, n⟩ m ∧ m.length ≤ 90000 ∧ StSl w' b m ∧ Below V.heap.size V w') := fun y f t n V h hm => by
  have h1 := range_any13 y ⟨q.w, q.u, f, t, n⟩ V h (hm ▸ hf0.mono (by decide)) hw hu
  rw [hm] at h1
  exact h1
 have HCU : Hid (∀ (m : List StM) b c (s : SpM) xb V, m.length ≤ 90000 → StSl V b m → SpSl V xb [s] → Calls Tryz.prog 64 #[.slice b m.length c, .slice xb 1 1] V fun r w' => ∃ a d p, r = .returned (.slice a p.length d) ∧ IsCut m (fun t => s.f ≤ t ∧ t < s.t) p ∧ p.length ≤ 90000 ∧ StSl w' a p ∧ Below V.heap.size V w') := fun m b c s xb V hl h hs => by
  refine (cut_any b c m xb 1 [s] V h hs (by omega) (by simp) (by simp) (by decide) (by simp; omega)).mono ?_
  rintro e w' ⟨v, p, rfl, h1, h2, h3, h4⟩
  obtain ⟨a, d, rfl, _, _, h5, _⟩ := own_st h3
  exact ⟨a, d, p, rfl, h1.congr (fun t => has_one s t), by simp at h2; omega, h5, h4⟩
 have HSM : Hid (∀ (m p : List StM) b c a d V, m = p → m.length ≤ 90000 → StSl V b m → StSl V a p → Calls Tryz.prog 59 #[.slice b m.length c, .slice a p.length d] V fun r w' => r = .returned (.bool true) ∧ Below V.heap.size V w') := fun m p b c a d V e hl h k => by
  subst e
  have h1 := ssame_any b a c d m m V h k (by unfold maxLen; omega) (by unfold maxLen; omega)
  rwa [decide_eq_true rfl] at h1
 have HSC := Lib.hid (fun V (k : SQE w x q (w.heap.size + 1 + 1) none V) => k.k.cells)
 have HX0 := Lib.hid h
 have HR1 := Lib.hid (fun y V h m => HRG.out y q.f q.t q.n V h m)
 have HR2 := Lib.hid (fun y V h m => HRG.out y q.f q.t (q.n + v) V h m)
 have hw1 : IntKind.i64.wrap (q.n + v) = q.n + v := IntWalk.i64_in _ (by have := hi_.2.2; unfold I64 at this; omega)
 have HYL : Hid (whyV x.m q.w q.u q.n = 0 → whyV x.m q.w q.u (q.n + v) = 0 ∧ ∀ l m p, GTold x.m ⟨q.w, q.u, q.f, q.t, q.n⟩ l → GTold x.m ⟨q.w, q.u, q.f, q.t, q.n + v⟩ m → IsCut m (fun t => -1125899906842624 ≤ t ∧ t < q.n) p → p = l) := fun e => by
  have e1 : nameB q.w = true ∧ nameB q.u = true ∧ x.m.now ≤ q.n := by
   unfold whyV at e
   split at e
   ·split at e
    ·cases e
    ·rename_i k1 k2; exact ⟨k1.1, k1.2, by omega⟩
   ·cases e
  have e2 : whyV x.m q.w q.u (q.n + v) = 0 := by
   unfold whyV
   rw [if_pos ⟨e1.1, e1.2.1⟩, if_neg (by omega)]
  exact ⟨e2, fun l m p h1 h2 h3 => range_later hr0 e1.2.2 (by omega) (h1.1 e) (h2.1 e2) h3⟩
 generalize GTold x.m ⟨q.w, q.u, q.f, q.t, q.n⟩ = TD1 at *
 generalize GTold x.m ⟨q.w, q.u, q.f, q.t, q.n + v⟩ = TD2 at *
 generalize whyV x.m q.w q.u q.n = Y at *
 generalize whyV x.m q.w q.u (q.n + v) = Y2 at *
 clear HRG
 clear h z b hw hu hi_ hv g1 hf0 hr0 hc0 e0 e1 e2
 unfold saV saC askV askC
 obtain ⟨c0, c1, c2, c3, c4, c5, a0, a1, a2, a3, a4⟩ := S.out.cells
 go_enter Tryz.func17, Tryz.ntmps17
 go_wp2_with fail
 refine (HMA.out _ S.out.s.at_).mono ?_
 rintro r1 w1 ⟨rfl, h1⟩
 clear c0 c1 c2 c3 c4 c5 a0 a1 a2 a3 a4
 replace S := Lib.hid (S.out.below h1)
 clear h1
 obtain ⟨c0, c1, c2, c3, c4, c5, a0, a1, a2, a3, a4⟩ := S.out.cells
 go_wp2_with fail
 refine (HRR.out _ S.out.s.at_).mono ?_
 rintro r2 w2 ⟨rfl, h2⟩
 clear c0 c1 c2 c3 c4 c5 a0 a1 a2 a3 a4
 replace S := Lib.hid (S.out.below h2)
 clear h2
 obtain ⟨c0, c1, c2, c3, c4, c5, a0, a1, a2, a3, a4⟩ := S.out.cells
 go_wp2_with fail
 have K0 : SQE w x q (w.heap.size + 1 + 1) none w2 := ⟨HX0.out, S.out, Nat.lt_succ_self _, S.out.q.lt, fun o e => by cases e⟩
 clear c0 c1 c2 c3 c4 c5 a0 a1 a2 a3 a4
 clear S HMA HRR HX0
 refine wp_region_held_drew (S := (fun V => V.cell? ⟨w.heap.size, 0, none⟩ = some (.int .i64 x.now) ∧ V.cell? ⟨w.heap.size, 1, none⟩ = some (.int .i64 x.hor) ∧ V.cell? ⟨w.heap.size, 2, none⟩ = some (.slice x.oa x.op.length x.oc) ∧ V.cell? ⟨w.heap.size, 3, none⟩ = some (.slice x.ua x.us.length x.uc) ∧ V.cell? ⟨w.heap.size, 4, none⟩ = some (.slice x.sa x.su.length x.sc) ∧ V.cell? ⟨w.heap.size, 5, none⟩ = some (.slice x.ta x.tb.length x.tc) ∧ V.cell? ⟨w.heap.size + 1, 0, none⟩ = some (.string q.w) ∧ V.cell? ⟨w.heap.size + 1, 1, none⟩ = some (.string q.u) ∧ V.cell? ⟨w.heap.size + 1, 2, none⟩ = some (.int .i64 q.f) ∧ V.cell? ⟨w.heap.size + 1, 3, none⟩ = some (.int .i64 q.t) ∧ V.cell? ⟨w.heap.size + 1, 4, none⟩ = some (.int .i64 q.n))) (by kernel_rfl) ?_ (fun hHeld => ?_)
 ·exact HSC.out _ K0.drew
 replace K0 := K0.drew
 generalize w2.drew = V0 at *
 refine tV 0 36 ?_
 refine tV 2 38 ?_
 clear hHeld
 apply funnelN (F := fun T ga y gb => FkN w x q (w.heap.size + 1 + 1) none ga y gb T)
 ·intro main
  refine wpAnyH_ready (rs := [1, 4, 5]) (by kernel_rfl) (by simp) ?_
  refine AllReadyH.cons (o := ⟨some 37, _, _, _, _, _⟩) rfl (fun K hK => ?_) (AllReadyH.cons (o := ⟨some 7, _, _, _, _, _⟩) rfl (fun K hK => ?_) (AllReadyH.cons (o := ⟨some 8, _, _, _, _, _⟩) rfl (fun K hK => ?_) AllReadyH.nil))
  ·go_simp
   refine (HNW.out _ K0.k.s.at_).mono ?_
   rintro r10 V1 ⟨y, rfl, Y0, YM, h0⟩
   have K1 := K0.below h0
   have FA : FarA (fun b => V1.heap.size ≤ b ∨ (False)) y V1 := far_new Y0 (by rw [YM]; exact HR0.out) (fun b hb => hb.elim .inl (fun e => e.elim))
   have LV : V1.heap.size ≤ V1.heap.size := Nat.le_refl _
   clear Y0
   generalize hvc : V1.heap.size = vc at FA LV
   have LV0 : vc ≤ V1.heap.size := by rw [hvc]; exact Nat.le_refl _
   clear LV hvc
   have LV := LV0
   clear LV0
   go_wp2_with fail
   refine hK.out _ _ ?_ (fun hH0 => ?_)
   ·exact HSC.out _ K1
   clear hK K hH0 h0
   (try simp only [Act.put, List.setIfInBounds_toArray, List.set_cons_zero, List.set_cons_succ])
   refine wpAnyH_ready (rs := [3, 4, 5]) (by kernel_rfl) (by simp) ?_
   refine AllReadyH.cons (o := ⟨some 39, _, _, _, _, _⟩) rfl (fun K hK => ?_) (AllReadyH.cons (o := ⟨some 7, _, _, _, _, _⟩) rfl (fun K hK => ?_) (AllReadyH.cons (o := ⟨some 8, _, _, _, _, _⟩) rfl (fun K hK => ?_) AllReadyH.nil))
   ·go_simp
    refine (HNQ.out _).mono ?_
    rintro r11 V2 ⟨rfl, h1⟩
    have K2 := K1.below h1
    replace FA := FA.below h1
    replace LV := Nat.le_trans LV h1.size
    go_wp2_with fail
    refine hK.out _ _ ?_ (fun hH1 => ?_)
    ·exact HSC.out _ K2
    clear hK K hH1 h1 K1
    (try simp only [Act.put, List.setIfInBounds_toArray, List.set_cons_zero, List.set_cons_succ])
    refine wpAnyH_ready (rs := [4, 5]) (by kernel_rfl) (by simp) ?_
    refine AllReadyH.cons (o := ⟨some 7, _, _, _, _, _⟩) rfl (fun K hK => ?_) (AllReadyH.cons (o := ⟨some 8, _, _, _, _, _⟩) rfl (fun K hK => ?_) AllReadyH.nil)
    ·go_simp
     refine hK.out _ _ ?_ (fun hH2 => ?_)
     ·exact HSC.out _ (K2.below (below_one _ (.cells #[.int .i64 0, .int .i64 0, .slice none 0 0, .slice none 0 0, .slice none 0 0, .slice none 0 0] 39)))
     clear hK K hH2
     (try simp only [Act.put, List.setIfInBounds_toArray, List.set_cons_zero, List.set_cons_succ])
     have ZA : (V2.alloc (.cells #[.int .i64 0, .int .i64 0, .slice none 0 0, .slice none 0 0, .slice none 0 0, .slice none 0 0] 39)).heap[V2.heap.size]? = some (.cells (saC saO) 39 (0, 0)) := heap_alloc_new _ _
     have GA : w.heap.size + 1 + 1 ≤ V2.heap.size := K2.up
     have K3 := K2.below (below_one V2 (.cells #[.int .i64 0, .int .i64 0, .slice none 0 0, .slice none 0 0, .slice none 0 0, .slice none 0 0] 39))
     have LA1 : vc ≤ V2.heap.size := LV
     replace FA := FA.below (below_one _ (.cells #[.int .i64 0, .int .i64 0, .slice none 0 0, .slice none 0 0, .slice none 0 0, .slice none 0 0] 39))
     replace LV := Nat.le_trans LV (below_one V2 (.cells #[.int .i64 0, .int .i64 0, .slice none 0 0, .slice none 0 0, .slice none 0 0, .slice none 0 0] 39)).size
     clear K2
     generalize V2.alloc (.cells #[.int .i64 0, .int .i64 0, .slice none 0 0, .slice none 0 0, .slice none 0 0, .slice none 0 0] 39) = V3 at *
     generalize V2.heap.size = ga at *
     refine wpAnyH_ready (rs := [5]) (by kernel_rfl) (by simp) ?_
     refine AllReadyH.cons (o := ⟨some 8, _, _, _, _, _⟩) rfl (fun K hK => ?_) AllReadyH.nil
     go_simp
     refine hK.out _ _ ?_ (fun hH3 => ?_)
     ·exact HSC.out _ (K3.below (below_one _ (.cells #[.string ⟨#[]⟩, .string ⟨#[]⟩, .int .i64 0, .int .i64 0, .int .i64 0] 92)))
     clear hK K hH3
     (try simp only [Act.put, List.setIfInBounds_toArray, List.set_cons_zero, List.set_cons_succ])
     have ZB : (V3.alloc (.cells #[.string ⟨#[]⟩, .string ⟨#[]⟩, .int .i64 0, .int .i64 0, .int .i64 0] 92)).heap[V3.heap.size]? = some (.cells (askC ask0) 92 (0, 0)) := heap_alloc_new _ _
     have GB : w.heap.size + 1 + 1 ≤ V3.heap.size := K3.up
     have K4 := K3.below (below_one V3 (.cells #[.string ⟨#[]⟩, .string ⟨#[]⟩, .int .i64 0, .int .i64 0, .int .i64 0] 92))
     have AB : ga ≠ V3.heap.size := Nat.ne_of_lt (heap_lt ZA)
     replace ZA := (Below.heap_alloc _ (.cells #[.string ⟨#[]⟩, .string ⟨#[]⟩, .int .i64 0, .int .i64 0, .int .i64 0] 92) _ (heap_lt ZA)).trans ZA
     have LB1 : vc ≤ V3.heap.size := LV
     replace FA := FA.below (below_one _ (.cells #[.string ⟨#[]⟩, .string ⟨#[]⟩, .int .i64 0, .int .i64 0, .int .i64 0] 92))
     replace LV := Nat.le_trans LV (below_one V3 (.cells #[.string ⟨#[]⟩, .string ⟨#[]⟩, .int .i64 0, .int .i64 0, .int .i64 0] 92)).size
     clear K3
     generalize V3.alloc (.cells #[.string ⟨#[]⟩, .string ⟨#[]⟩, .int .i64 0, .int .i64 0, .int .i64 0] 92) = V4 at *
     generalize V3.heap.size = gb at *
     exact main _ _ _ _ ⟨K4, ZA, ZB, FA.mono (fun b hb => hb.elim (fun e => by subst e; exact .inl LA1) (fun e => by subst e; exact .inl LB1)), YM, GA, GB, AB⟩
    ·go_simp
     refine hK.out _ _ ?_ (fun hH2 => ?_)
     ·exact HSC.out _ (K2.below (below_one _ (.cells #[.string ⟨#[]⟩, .string ⟨#[]⟩, .int .i64 0, .int .i64 0, .int .i64 0] 92)))
     clear hK K hH2
     (try simp only [Act.put, List.setIfInBounds_toArray, List.set_cons_zero, List.set_cons_succ])
     have ZB : (V2.alloc (.cells #[.string ⟨#[]⟩, .string ⟨#[]⟩, .int .i64 0, .int .i64 0, .int .i64 0] 92)).heap[V2.heap.size]? = some (.cells (askC ask0) 92 (0, 0)) := heap_alloc_new _ _
     have GB : w.heap.size + 1 + 1 ≤ V2.heap.size := K2.up
     have K3 := K2.below (below_one V2 (.cells #[.string ⟨#[]⟩, .string ⟨#[]⟩, .int .i64 0, .int .i64 0, .int .i64 0] 92))
     have LB1 : vc ≤ V2.heap.size := LV
     replace FA := FA.below (below_one _ (.cells #[.string ⟨#[]⟩, .string ⟨#[]⟩, .int .i64 0, .int .i64 0, .int .i64 0] 92))
     replace LV := Nat.le_trans LV (below_one V2 (.cells #[.string ⟨#[]⟩, .string ⟨#[]⟩, .int .i64 0, .int .i64 0, .int .i64 0] 92)).size
     clear K2
     generalize V2.alloc (.cells #[.string ⟨#[]⟩, .string ⟨#[]⟩, .int .i64 0, .int .i64 0, .int .i64 0] 92) = V3 at *
     generalize V2.heap.size = gb at *
     refine wpAnyH_ready (rs := [4]) (by kernel_rfl) (by simp) ?_
     refine AllReadyH.cons (o := ⟨some 7, _, _, _, _, _⟩) rfl (fun K hK => ?_) AllReadyH.nil
     go_simp
     refine hK.out _ _ ?_ (fun hH3 => ?_)
     ·exact HSC.out _ (K3.below (below_one _ (.cells #[.int .i64 0, .int .i64 0, .slice none 0 0, .slice none 0 0, .slice none 0 0, .slice none 0 0] 39)))
     clear hK K hH3
     (try simp only [Act.put, List.setIfInBounds_toArray, List.set_cons_zero, List.set_cons_succ])
     have ZA : (V3.alloc (.cells #[.int .i64 0, .int .i64 0, .slice none 0 0, .slice none 0 0, .slice none 0 0, .slice none 0 0] 39)).heap[V3.heap.size]? = some (.cells (saC saO) 39 (0, 0)) := heap_alloc_new _ _
     have GA : w.heap.size + 1 + 1 ≤ V3.heap.size := K3.up
     have K4 := K3.below (below_one V3 (.cells #[.int .i64 0, .int .i64 0, .slice none 0 0, .slice none 0 0, .slice none 0 0, .slice none 0 0] 39))
     have AB : gb ≠ V3.heap.size := Nat.ne_of_lt (heap_lt ZB)
     replace ZB := (Below.heap_alloc _ (.cells #[.int .i64 0, .int .i64 0, .slice none 0 0, .slice none 0 0, .slice none 0 0, .slice none 0 0] 39) _ (heap_lt ZB)).trans ZB
     have LA1 : vc ≤ V3.heap.size := LV
     replace FA := FA.below (below_one _ (.cells #[.int .i64 0, .int .i64 0, .slice none 0 0, .slice none 0 0, .slice none 0 0, .slice none 0 0] 39))
     replace LV := Nat.le_trans LV (below_one V3 (.cells #[.int .i64 0, .int .i64 0, .slice none 0 0, .slice none 0 0, .slice none 0 0, .slice none 0 0] 39)).size
     clear K3
     generalize V3.alloc (.cells #[.int .i64 0, .int .i64 0, .slice none 0 0, .slice none 0 0, .slice none 0 0, .slice none 0 0] 39) = V4 at *
     generalize V3.heap.size = ga at *
     exact main _ _ _ _ ⟨K4, ZA, ZB, FA.mono (fun b hb => hb.elim (fun e => by subst e; exact .inl LA1) (fun e => by subst e; exact .inl LB1)), YM, GA, GB, Ne.symm AB⟩
   ·go_simp
    refine hK.out _ _ ?_ (fun hH1 => ?_)
    ·exact HSC.out _ (K1.below (below_one _ (.cells #[.int .i64 0, .int .i64 0, .slice none 0 0, .slice none 0 0, .slice none 0 0, .slice none 0 0] 39)))
    clear hK K hH1
    (try simp only [Act.put, List.setIfInBounds_toArray, List.set_cons_zero, List.set_cons_succ])
    have ZA : (V1.alloc (.cells #[.int .i64 0, .int .i64 0, .slice none 0 0, .slice none 0 0, .slice none 0 0, .slice none 0 0] 39)).heap[V1.heap.size]? = some (.cells (saC saO) 39 (0, 0)) := heap_alloc_new _ _
    have GA : w.heap.size + 1 + 1 ≤ V1.heap.size := K1.up
    have K2 := K1.below (below_one V1 (.cells #[.int .i64 0, .int .i64 0, .slice none 0 0, .slice none 0 0, .slice none 0 0, .slice none 0 0] 39))
    have LA1 : vc ≤ V1.heap.size := LV
    replace FA := FA.below (below_one _ (.cells #[.int .i64 0, .int .i64 0, .slice none 0 0, .slice none 0 0, .slice none 0 0, .slice none 0 0] 39))
    replace LV := Nat.le_trans LV (below_one V1 (.cells #[.int .i64 0, .int .i64 0, .slice none 0 0, .slice none 0 0, .slice none 0 0, .slice none 0 0] 39)).size
    clear K1
    generalize V1.alloc (.cells #[.int .i64 0, .int .i64 0, .slice none 0 0, .slice none 0 0, .slice none 0 0, .slice none 0 0] 39) = V2 at *
    generalize V1.heap.size = ga at *
    refine wpAnyH_ready (rs := [3, 5]) (by kernel_rfl) (by simp) ?_
    refine AllReadyH.cons (o := ⟨some 39, _, _, _, _, _⟩) rfl (fun K hK => ?_) (AllReadyH.cons (o := ⟨some 8, _, _, _, _, _⟩) rfl (fun K hK => ?_) AllReadyH.nil)
    ·go_simp
     refine (HNQ.out _).mono ?_
     rintro r12 V3 ⟨rfl, h2⟩
     have K3 := K2.below h2
     replace ZA := (h2.block _ (heap_lt ZA)).trans ZA
     replace FA := FA.below h2
     replace LV := Nat.le_trans LV h2.size
     go_wp2_with fail
     refine hK.out _ _ ?_ (fun hH2 => ?_)
     ·exact HSC.out _ K3
     clear hK K hH2 h2 K2
     (try simp only [Act.put, List.setIfInBounds_toArray, List.set_cons_zero, List.set_cons_succ])
     refine wpAnyH_ready (rs := [5]) (by kernel_rfl) (by simp) ?_
     refine AllReadyH.cons (o := ⟨some 8, _, _, _, _, _⟩) rfl (fun K hK => ?_) AllReadyH.nil
     go_simp
     refine hK.out _ _ ?_ (fun hH3 => ?_)
     ·exact HSC.out _ (K3.below (below_one _ (.cells #[.string ⟨#[]⟩, .string ⟨#[]⟩, .int .i64 0, .int .i64 0, .int .i64 0] 92)))
     clear hK K hH3
     (try simp only [Act.put, List.setIfInBounds_toArray, List.set_cons_zero, List.set_cons_succ])
     have ZB : (V3.alloc (.cells #[.string ⟨#[]⟩, .string ⟨#[]⟩, .int .i64 0, .int .i64 0, .int .i64 0] 92)).heap[V3.heap.size]? = some (.cells (askC ask0) 92 (0, 0)) := heap_alloc_new _ _
     have GB : w.heap.size + 1 + 1 ≤ V3.heap.size := K3.up
     have K4 := K3.below (below_one V3 (.cells #[.string ⟨#[]⟩, .string ⟨#[]⟩, .int .i64 0, .int .i64 0, .int .i64 0] 92))
     have AB : ga ≠ V3.heap.size := Nat.ne_of_lt (heap_lt ZA)
     replace ZA := (Below.heap_alloc _ (.cells #[.string ⟨#[]⟩, .string ⟨#[]⟩, .int .i64 0, .int .i64 0, .int .i64 0] 92) _ (heap_lt ZA)).trans ZA
     have LB1 : vc ≤ V3.heap.size := LV
     replace FA := FA.below (below_one _ (.cells #[.string ⟨#[]⟩, .string ⟨#[]⟩, .int .i64 0, .int .i64 0, .int .i64 0] 92))
     replace LV := Nat.le_trans LV (below_one V3 (.cells #[.string ⟨#[]⟩, .string ⟨#[]⟩, .int .i64 0, .int .i64 0, .int .i64 0] 92)).size
     clear K3
     generalize V3.alloc (.cells #[.string ⟨#[]⟩, .string ⟨#[]⟩, .int .i64 0, .int .i64 0, .int .i64 0] 92) = V4 at *
     generalize V3.heap.size = gb at *
     exact main _ _ _ _ ⟨K4, ZA, ZB, FA.mono (fun b hb => hb.elim (fun e => by subst e; exact .inl LA1) (fun e => by subst e; exact .inl LB1)), YM, GA, GB, AB⟩
    ·go_simp
     refine hK.out _ _ ?_ (fun hH2 => ?_)
     ·exact HSC.out _ (K2.below (below_one _ (.cells #[.string ⟨#[]⟩, .string ⟨#[]⟩, .int .i64 0, .int .i64 0, .int .i64 0] 92)))
     clear hK K hH2
     (try simp only [Act.put, List.setIfInBounds_toArray, List.set_cons_zero, List.set_cons_succ])
     have ZB : (V2.alloc (.cells #[.string ⟨#[]⟩, .string ⟨#[]⟩, .int .i64 0, .int .i64 0, .int .i64 0] 92)).heap[V2.heap.size]? = some (.cells (askC ask0) 92 (0, 0)) := heap_alloc_new _ _
     have GB : w.heap.size + 1 + 1 ≤ V2.heap.size := K2.up
     have K3 := K2.below (below_one V2 (.cells #[.string ⟨#[]⟩, .string ⟨#[]⟩, .int .i64 0, .int .i64 0, .int .i64 0] 92))
     have AB : ga ≠ V2.heap.size := Nat.ne_of_lt (heap_lt ZA)
     replace ZA := (Below.heap_alloc _ (.cells #[.string ⟨#[]⟩, .string ⟨#[]⟩, .int .i64 0, .int .i64 0, .int .i64 0] 92) _ (heap_lt ZA)).trans ZA
     have LB1 : vc ≤ V2.heap.size := LV
     replace FA := FA.below (below_one _ (.cells #[.string ⟨#[]⟩, .string ⟨#[]⟩, .int .i64 0, .int .i64 0, .int .i64 0] 92))
     replace LV := Nat.le_trans LV (below_one V2 (.cells #[.string ⟨#[]⟩, .string ⟨#[]⟩, .int .i64 0, .int .i64 0, .int .i64 0] 92)).size
     clear K2
     generalize V2.alloc (.cells #[.string ⟨#[]⟩, .string ⟨#[]⟩, .int .i64 0, .int .i64 0, .int .i64 0] 92) = V3 at *
     generalize V2.heap.size = gb at *
     refine wpAnyH_ready (rs := [3]) (by kernel_rfl) (by simp) ?_
     refine AllReadyH.cons (o := ⟨some 39, _, _, _, _, _⟩) rfl (fun K hK => ?_) AllReadyH.nil
     go_simp
     refine (HNQ.out _).mono ?_
     rintro r13 V4 ⟨rfl, h3⟩
     have K4 := K3.below h3
     replace ZA := (h3.block _ (heap_lt ZA)).trans ZA
     replace ZB := (h3.block _ (heap_lt ZB)).trans ZB
     replace FA := FA.below h3
     replace LV := Nat.le_trans LV h3.size
     go_wp2_with fail
     refine hK.out _ _ ?_ (fun hH3 => ?_)
     ·exact HSC.out _ K4
     clear hK K hH3 h3 K3
     (try simp only [Act.put, List.setIfInBounds_toArray, List.set_cons_zero, List.set_cons_succ])
     exact main _ _ _ _ ⟨K4, ZA, ZB, FA.mono (fun b hb => hb.elim (fun e => by subst e; exact .inl LA1) (fun e => by subst e; exact .inl LB1)), YM, GA, GB, AB⟩
   ·go_simp
    refine hK.out _ _ ?_ (fun hH1 => ?_)
    ·exact HSC.out _ (K1.below (below_one _ (.cells #[.string ⟨#[]⟩, .string ⟨#[]⟩, .int .i64 0, .int .i64 0, .int .i64 0] 92)))
    clear hK K hH1
    (try simp only [Act.put, List.setIfInBounds_toArray, List.set_cons_zero, List.set_cons_succ])
    have ZB : (V1.alloc (.cells #[.string ⟨#[]⟩, .string ⟨#[]⟩, .int .i64 0, .int .i64 0, .int .i64 0] 92)).heap[V1.heap.size]? = some (.cells (askC ask0) 92 (0, 0)) := heap_alloc_new _ _
    have GB : w.heap.size + 1 + 1 ≤ V1.heap.size := K1.up
    have K2 := K1.below (below_one V1 (.cells #[.string ⟨#[]⟩, .string ⟨#[]⟩, .int .i64 0, .int .i64 0, .int .i64 0] 92))
    have LB1 : vc ≤ V1.heap.size := LV
    replace FA := FA.below (below_one _ (.cells #[.string ⟨#[]⟩, .string ⟨#[]⟩, .int .i64 0, .int .i64 0, .int .i64 0] 92))
    replace LV := Nat.le_trans LV (below_one V1 (.cells #[.string ⟨#[]⟩, .string ⟨#[]⟩, .int .i64 0, .int .i64 0, .int .i64 0] 92)).size
    clear K1
    generalize V1.alloc (.cells #[.string ⟨#[]⟩, .string ⟨#[]⟩, .int .i64 0, .int .i64 0, .int .i64 0] 92) = V2 at *
    generalize V1.heap.size = gb at *
    refine wpAnyH_ready (rs := [3, 4]) (by kernel_rfl) (by simp) ?_
    refine AllReadyH.cons (o := ⟨some 39, _, _, _, _, _⟩) rfl (fun K hK => ?_) (AllReadyH.cons (o := ⟨some 7, _, _, _, _, _⟩) rfl (fun K hK => ?_) AllReadyH.nil)
    ·go_simp
     refine (HNQ.out _).mono ?_
     rintro r12 V3 ⟨rfl, h2⟩
     have K3 := K2.below h2
     replace ZB := (h2.block _ (heap_lt ZB)).trans ZB
     replace FA := FA.below h2
     replace LV := Nat.le_trans LV h2.size
     go_wp2_with fail
     refine hK.out _ _ ?_ (fun hH2 => ?_)
     ·exact HSC.out _ K3
     clear hK K hH2 h2 K2
     (try simp only [Act.put, List.setIfInBounds_toArray, List.set_cons_zero, List.set_cons_succ])
     refine wpAnyH_ready (rs := [4]) (by kernel_rfl) (by simp) ?_
     refine AllReadyH.cons (o := ⟨some 7, _, _, _, _, _⟩) rfl (fun K hK => ?_) AllReadyH.nil
     go_simp
     refine hK.out _ _ ?_ (fun hH3 => ?_)
     ·exact HSC.out _ (K3.below (below_one _ (.cells #[.int .i64 0, .int .i64 0, .slice none 0 0, .slice none 0 0, .slice none 0 0, .slice none 0 0] 39)))
     clear hK K hH3
     (try simp only [Act.put, List.setIfInBounds_toArray, List.set_cons_zero, List.set_cons_succ])
     have ZA : (V3.alloc (.cells #[.int .i64 0, .int .i64 0, .slice none 0 0, .slice none 0 0, .slice none 0 0, .slice none 0 0] 39)).heap[V3.heap.size]? = some (.cells (saC saO) 39 (0, 0)) := heap_alloc_new _ _
     have GA : w.heap.size + 1 + 1 ≤ V3.heap.size := K3.up
     have K4 := K3.below (below_one V3 (.cells #[.int .i64 0, .int .i64 0, .slice none 0 0, .slice none 0 0, .slice none 0 0, .slice none 0 0] 39))
     have AB : gb ≠ V3.heap.size := Nat.ne_of_lt (heap_lt ZB)
     replace ZB := (Below.heap_alloc _ (.cells #[.int .i64 0, .int .i64 0, .slice none 0 0, .slice none 0 0, .slice none 0 0, .slice none 0 0] 39) _ (heap_lt ZB)).trans ZB
     have LA1 : vc ≤ V3.heap.size := LV
     replace FA := FA.below (below_one _ (.cells #[.int .i64 0, .int .i64 0, .slice none 0 0, .slice none 0 0, .slice none 0 0, .slice none 0 0] 39))
     replace LV := Nat.le_trans LV (below_one V3 (.cells #[.int .i64 0, .int .i64 0, .slice none 0 0, .slice none 0 0, .slice none 0 0, .slice none 0 0] 39)).size
     clear K3
     generalize V3.alloc (.cells #[.int .i64 0, .int .i64 0, .slice none 0 0, .slice none 0 0, .slice none 0 0, .slice none 0 0] 39) = V4 at *
     generalize V3.heap.size = ga at *
     exact main _ _ _ _ ⟨K4, ZA, ZB, FA.mono (fun b hb => hb.elim (fun e => by subst e; exact .inl LA1) (fun e => by subst e; exact .inl LB1)), YM, GA, GB, Ne.symm AB⟩
    ·go_simp
     refine hK.out _ _ ?_ (fun hH2 => ?_)
     ·exact HSC.out _ (K2.below (below_one _ (.cells #[.int .i64 0, .int .i64 0, .slice none 0 0, .slice none 0 0, .slice none 0 0, .slice none 0 0] 39)))
     clear hK K hH2
     (try simp only [Act.put, List.setIfInBounds_toArray, List.set_cons_zero, List.set_cons_succ])
     have ZA : (V2.alloc (.cells #[.int .i64 0, .int .i64 0, .slice none 0 0, .slice none 0 0, .slice none 0 0, .slice none 0 0] 39)).heap[V2.heap.size]? = some (.cells (saC saO) 39 (0, 0)) := heap_alloc_new _ _
     have GA : w.heap.size + 1 + 1 ≤ V2.heap.size := K2.up
     have K3 := K2.below (below_one V2 (.cells #[.int .i64 0, .int .i64 0, .slice none 0 0, .slice none 0 0, .slice none 0 0, .slice none 0 0] 39))
     have AB : gb ≠ V2.heap.size := Nat.ne_of_lt (heap_lt ZB)
     replace ZB := (Below.heap_alloc _ (.cells #[.int .i64 0, .int .i64 0, .slice none 0 0, .slice none 0 0, .slice none 0 0, .slice none 0 0] 39) _ (heap_lt ZB)).trans ZB
     have LA1 : vc ≤ V2.heap.size := LV
     replace FA := FA.below (below_one _ (.cells #[.int .i64 0, .int .i64 0, .slice none 0 0, .slice none 0 0, .slice none 0 0, .slice none 0 0] 39))
     replace LV := Nat.le_trans LV (below_one V2 (.cells #[.int .i64 0, .int .i64 0, .slice none 0 0, .slice none 0 0, .slice none 0 0, .slice none 0 0] 39)).size
     clear K2
     generalize V2.alloc (.cells #[.int .i64 0, .int .i64 0, .slice none 0 0, .slice none 0 0, .slice none 0 0, .slice none 0 0] 39) = V3 at *
     generalize V2.heap.size = ga at *
     refine wpAnyH_ready (rs := [3]) (by kernel_rfl) (by simp) ?_
     refine AllReadyH.cons (o := ⟨some 39, _, _, _, _, _⟩) rfl (fun K hK => ?_) AllReadyH.nil
     go_simp
     refine (HNQ.out _).mono ?_
     rintro r13 V4 ⟨rfl, h3⟩
     have K4 := K3.below h3
     replace ZA := (h3.block _ (heap_lt ZA)).trans ZA
     replace ZB := (h3.block _ (heap_lt ZB)).trans ZB
     replace FA := FA.below h3
     replace LV := Nat.le_trans LV h3.size
     go_wp2_with fail
     refine hK.out _ _ ?_ (fun hH3 => ?_)
     ·exact HSC.out _ K4
     clear hK K hH3 h3 K3
     (try simp only [Act.put, List.setIfInBounds_toArray, List.set_cons_zero, List.set_cons_succ])
     exact main _ _ _ _ ⟨K4, ZA, ZB, FA.mono (fun b hb => hb.elim (fun e => by subst e; exact .inl LA1) (fun e => by subst e; exact .inl LB1)), YM, GA, GB, Ne.symm AB⟩
  ·go_simp
   refine hK.out _ _ ?_ (fun hH0 => ?_)
   ·exact HSC.out _ (K0.below (below_one _ (.cells #[.int .i64 0, .int .i64 0, .slice none 0 0, .slice none 0 0, .slice none 0 0, .slice none 0 0] 39)))
   clear hK K hH0
   (try simp only [Act.put, List.setIfInBounds_toArray, List.set_cons_zero, List.set_cons_succ])
   have ZA : (V0.alloc (.cells #[.int .i64 0, .int .i64 0, .slice none 0 0, .slice none 0 0, .slice none 0 0, .slice none 0 0] 39)).heap[V0.heap.size]? = some (.cells (saC saO) 39 (0, 0)) := heap_alloc_new _ _
   have GA : w.heap.size + 1 + 1 ≤ V0.heap.size := K0.up
   have K1 := K0.below (below_one V0 (.cells #[.int .i64 0, .int .i64 0, .slice none 0 0, .slice none 0 0, .slice none 0 0, .slice none 0 0] 39))
   generalize V0.alloc (.cells #[.int .i64 0, .int .i64 0, .slice none 0 0, .slice none 0 0, .slice none 0 0, .slice none 0 0] 39) = V1 at *
   generalize V0.heap.size = ga at *
   refine wpAnyH_ready (rs := [1, 5]) (by kernel_rfl) (by simp) ?_
   refine AllReadyH.cons (o := ⟨some 37, _, _, _, _, _⟩) rfl (fun K hK => ?_) (AllReadyH.cons (o := ⟨some 8, _, _, _, _, _⟩) rfl (fun K hK => ?_) AllReadyH.nil)
   ·go_simp
    refine (HNW.out _ K1.k.s.at_).mono ?_
    rintro r11 V2 ⟨y, rfl, Y0, YM, h1⟩
    have K2 := K1.below h1
    replace ZA := (h1.block _ (heap_lt ZA)).trans ZA
    have FA : FarA (fun b => V2.heap.size ≤ b ∨ (b = ga)) y V2 := far_new Y0 (by rw [YM]; exact HR0.out) (fun b hb => hb.elim .inl (fun e => .inr (.inl (by subst e; exact ⟨_, ZA⟩))))
    have LV : V2.heap.size ≤ V2.heap.size := Nat.le_refl _
    clear Y0
    generalize hvc : V2.heap.size = vc at FA LV
    have LV0 : vc ≤ V2.heap.size := by rw [hvc]; exact Nat.le_refl _
    clear LV hvc
    have LV := LV0
    clear LV0
    go_wp2_with fail
    refine hK.out _ _ ?_ (fun hH1 => ?_)
    ·exact HSC.out _ K2
    clear hK K hH1 h1 K1
    (try simp only [Act.put, List.setIfInBounds_toArray, List.set_cons_zero, List.set_cons_succ])
    refine wpAnyH_ready (rs := [3, 5]) (by kernel_rfl) (by simp) ?_
    refine AllReadyH.cons (o := ⟨some 39, _, _, _, _, _⟩) rfl (fun K hK => ?_) (AllReadyH.cons (o := ⟨some 8, _, _, _, _, _⟩) rfl (fun K hK => ?_) AllReadyH.nil)
    ·go_simp
     refine (HNQ.out _).mono ?_
     rintro r12 V3 ⟨rfl, h2⟩
     have K3 := K2.below h2
     replace ZA := (h2.block _ (heap_lt ZA)).trans ZA
     replace FA := FA.below h2
     replace LV := Nat.le_trans LV h2.size
     go_wp2_with fail
     refine hK.out _ _ ?_ (fun hH2 => ?_)
     ·exact HSC.out _ K3
     clear hK K hH2 h2 K2
     (try simp only [Act.put, List.setIfInBounds_toArray, List.set_cons_zero, List.set_cons_succ])
     refine wpAnyH_ready (rs := [5]) (by kernel_rfl) (by simp) ?_
     refine AllReadyH.cons (o := ⟨some 8, _, _, _, _, _⟩) rfl (fun K hK => ?_) AllReadyH.nil
     go_simp
     refine hK.out _ _ ?_ (fun hH3 => ?_)
     ·exact HSC.out _ (K3.below (below_one _ (.cells #[.string ⟨#[]⟩, .string ⟨#[]⟩, .int .i64 0, .int .i64 0, .int .i64 0] 92)))
     clear hK K hH3
     (try simp only [Act.put, List.setIfInBounds_toArray, List.set_cons_zero, List.set_cons_succ])
     have ZB : (V3.alloc (.cells #[.string ⟨#[]⟩, .string ⟨#[]⟩, .int .i64 0, .int .i64 0, .int .i64 0] 92)).heap[V3.heap.size]? = some (.cells (askC ask0) 92 (0, 0)) := heap_alloc_new _ _
     have GB : w.heap.size + 1 + 1 ≤ V3.heap.size := K3.up
     have K4 := K3.below (below_one V3 (.cells #[.string ⟨#[]⟩, .string ⟨#[]⟩, .int .i64 0, .int .i64 0, .int .i64 0] 92))
     have AB : ga ≠ V3.heap.size := Nat.ne_of_lt (heap_lt ZA)
     replace ZA := (Below.heap_alloc _ (.cells #[.string ⟨#[]⟩, .string ⟨#[]⟩, .int .i64 0, .int .i64 0, .int .i64 0] 92) _ (heap_lt ZA)).trans ZA
     have LB1 : vc ≤ V3.heap.size := LV
     replace FA := FA.below (below_one _ (.cells #[.string ⟨#[]⟩, .string ⟨#[]⟩, .int .i64 0, .int .i64 0, .int .i64 0] 92))
     replace LV := Nat.le_trans LV (below_one V3 (.cells #[.string ⟨#[]⟩, .string ⟨#[]⟩, .int .i64 0, .int .i64 0, .int .i64 0] 92)).size
     clear K3
     generalize V3.alloc (.cells #[.string ⟨#[]⟩, .string ⟨#[]⟩, .int .i64 0, .int .i64 0, .int .i64 0] 92) = V4 at *
     generalize V3.heap.size = gb at *
     exact main _ _ _ _ ⟨K4, ZA, ZB, FA.mono (fun b hb => hb.elim (fun e => by subst e; exact .inr (by simp)) (fun e => by subst e; exact .inl LB1)), YM, GA, GB, AB⟩
    ·go_simp
     refine hK.out _ _ ?_ (fun hH2 => ?_)
     ·exact HSC.out _ (K2.below (below_one _ (.cells #[.string ⟨#[]⟩, .string ⟨#[]⟩, .int .i64 0, .int .i64 0, .int .i64 0] 92)))
     clear hK K hH2
     (try simp only [Act.put, List.setIfInBounds_toArray, List.set_cons_zero, List.set_cons_succ])
     have ZB : (V2.alloc (.cells #[.string ⟨#[]⟩, .string ⟨#[]⟩, .int .i64 0, .int .i64 0, .int .i64 0] 92)).heap[V2.heap.size]? = some (.cells (askC ask0) 92 (0, 0)) := heap_alloc_new _ _
     have GB : w.heap.size + 1 + 1 ≤ V2.heap.size := K2.up
     have K3 := K2.below (below_one V2 (.cells #[.string ⟨#[]⟩, .string ⟨#[]⟩, .int .i64 0, .int .i64 0, .int .i64 0] 92))
     have AB : ga ≠ V2.heap.size := Nat.ne_of_lt (heap_lt ZA)
     replace ZA := (Below.heap_alloc _ (.cells #[.string ⟨#[]⟩, .string ⟨#[]⟩, .int .i64 0, .int .i64 0, .int .i64 0] 92) _ (heap_lt ZA)).trans ZA
     have LB1 : vc ≤ V2.heap.size := LV
     replace FA := FA.below (below_one _ (.cells #[.string ⟨#[]⟩, .string ⟨#[]⟩, .int .i64 0, .int .i64 0, .int .i64 0] 92))
     replace LV := Nat.le_trans LV (below_one V2 (.cells #[.string ⟨#[]⟩, .string ⟨#[]⟩, .int .i64 0, .int .i64 0, .int .i64 0] 92)).size
     clear K2
     generalize V2.alloc (.cells #[.string ⟨#[]⟩, .string ⟨#[]⟩, .int .i64 0, .int .i64 0, .int .i64 0] 92) = V3 at *
     generalize V2.heap.size = gb at *
     refine wpAnyH_ready (rs := [3]) (by kernel_rfl) (by simp) ?_
     refine AllReadyH.cons (o := ⟨some 39, _, _, _, _, _⟩) rfl (fun K hK => ?_) AllReadyH.nil
     go_simp
     refine (HNQ.out _).mono ?_
     rintro r13 V4 ⟨rfl, h3⟩
     have K4 := K3.below h3
     replace ZA := (h3.block _ (heap_lt ZA)).trans ZA
     replace ZB := (h3.block _ (heap_lt ZB)).trans ZB
     replace FA := FA.below h3
     replace LV := Nat.le_trans LV h3.size
     go_wp2_with fail
     refine hK.out _ _ ?_ (fun hH3 => ?_)
     ·exact HSC.out _ K4
     clear hK K hH3 h3 K3
     (try simp only [Act.put, List.setIfInBounds_toArray, List.set_cons_zero, List.set_cons_succ])
     exact main _ _ _ _ ⟨K4, ZA, ZB, FA.mono (fun b hb => hb.elim (fun e => by subst e; exact .inr (by simp)) (fun e => by subst e; exact .inl LB1)), YM, GA, GB, AB⟩
   ·go_simp
    refine hK.out _ _ ?_ (fun hH1 => ?_)
    ·exact HSC.out _ (K1.below (below_one _ (.cells #[.string ⟨#[]⟩, .string ⟨#[]⟩, .int .i64 0, .int .i64 0, .int .i64 0] 92)))
    clear hK K hH1
    (try simp only [Act.put, List.setIfInBounds_toArray, List.set_cons_zero, List.set_cons_succ])
    have ZB : (V1.alloc (.cells #[.string ⟨#[]⟩, .string ⟨#[]⟩, .int .i64 0, .int .i64 0, .int .i64 0] 92)).heap[V1.heap.size]? = some (.cells (askC ask0) 92 (0, 0)) := heap_alloc_new _ _
    have GB : w.heap.size + 1 + 1 ≤ V1.heap.size := K1.up
    have K2 := K1.below (below_one V1 (.cells #[.string ⟨#[]⟩, .string ⟨#[]⟩, .int .i64 0, .int .i64 0, .int .i64 0] 92))
    have AB : ga ≠ V1.heap.size := Nat.ne_of_lt (heap_lt ZA)
    replace ZA := (Below.heap_alloc _ (.cells #[.string ⟨#[]⟩, .string ⟨#[]⟩, .int .i64 0, .int .i64 0, .int .i64 0] 92) _ (heap_lt ZA)).trans ZA
    clear K1
    generalize V1.alloc (.cells #[.string ⟨#[]⟩, .string ⟨#[]⟩, .int .i64 0, .int .i64 0, .int .i64 0] 92) = V2 at *
    generalize V1.heap.size = gb at *
    refine wpAnyH_ready (rs := [1]) (by kernel_rfl) (by simp) ?_
    refine AllReadyH.cons (o := ⟨some 37, _, _, _, _, _⟩) rfl (fun K hK => ?_) AllReadyH.nil
    go_simp
    refine (HNW.out _ K2.k.s.at_).mono ?_
    rintro r12 V3 ⟨y, rfl, Y0, YM, h2⟩
    have K3 := K2.below h2
    replace ZA := (h2.block _ (heap_lt ZA)).trans ZA
    replace ZB := (h2.block _ (heap_lt ZB)).trans ZB
    have FA : FarA (fun b => V3.heap.size ≤ b ∨ (b = ga ∨ b = gb)) y V3 := far_new Y0 (by rw [YM]; exact HR0.out) (fun b hb => hb.elim .inl (fun k => .inr (k.elim (fun e => .inl (by subst e; exact ⟨_, ZA⟩)) (fun e => .inr (by subst e; exact ⟨_, ZB⟩)))))
    have LV : V3.heap.size ≤ V3.heap.size := Nat.le_refl _
    clear Y0
    generalize hvc : V3.heap.size = vc at FA LV
    have LV0 : vc ≤ V3.heap.size := by rw [hvc]; exact Nat.le_refl _
    clear LV hvc
    have LV := LV0
    clear LV0
    go_wp2_with fail
    refine hK.out _ _ ?_ (fun hH2 => ?_)
    ·exact HSC.out _ K3
    clear hK K hH2 h2 K2
    (try simp only [Act.put, List.setIfInBounds_toArray, List.set_cons_zero, List.set_cons_succ])
    refine wpAnyH_ready (rs := [3]) (by kernel_rfl) (by simp) ?_
    refine AllReadyH.cons (o := ⟨some 39, _, _, _, _, _⟩) rfl (fun K hK => ?_) AllReadyH.nil
    go_simp
    refine (HNQ.out _).mono ?_
    rintro r13 V4 ⟨rfl, h3⟩
    have K4 := K3.below h3
    replace ZA := (h3.block _ (heap_lt ZA)).trans ZA
    replace ZB := (h3.block _ (heap_lt ZB)).trans ZB
    replace FA := FA.below h3
    replace LV := Nat.le_trans LV h3.size
    go_wp2_with fail
    refine hK.out _ _ ?_ (fun hH3 => ?_)
    ·exact HSC.out _ K4
    clear hK K hH3 h3 K3
    (try simp only [Act.put, List.setIfInBounds_toArray, List.set_cons_zero, List.set_cons_succ])
    exact main _ _ _ _ ⟨K4, ZA, ZB, FA.mono (fun b hb => hb.elim (fun e => by subst e; exact .inr (by simp)) (fun e => by subst e; exact .inr (by simp))), YM, GA, GB, AB⟩
  ·go_simp
   refine hK.out _ _ ?_ (fun hH0 => ?_)
   ·exact HSC.out _ (K0.below (below_one _ (.cells #[.string ⟨#[]⟩, .string ⟨#[]⟩, .int .i64 0, .int .i64 0, .int .i64 0] 92)))
   clear hK K hH0
   (try simp only [Act.put, List.setIfInBounds_toArray, List.set_cons_zero, List.set_cons_succ])
   have ZB : (V0.alloc (.cells #[.string ⟨#[]⟩, .string ⟨#[]⟩, .int .i64 0, .int .i64 0, .int .i64 0] 92)).heap[V0.heap.size]? = some (.cells (askC ask0) 92 (0, 0)) := heap_alloc_new _ _
   have GB : w.heap.size + 1 + 1 ≤ V0.heap.size := K0.up
   have K1 := K0.below (below_one V0 (.cells #[.string ⟨#[]⟩, .string ⟨#[]⟩, .int .i64 0, .int .i64 0, .int .i64 0] 92))
   generalize V0.alloc (.cells #[.string ⟨#[]⟩, .string ⟨#[]⟩, .int .i64 0, .int .i64 0, .int .i64 0] 92) = V1 at *
   generalize V0.heap.size = gb at *
   refine wpAnyH_ready (rs := [1, 4]) (by kernel_rfl) (by simp) ?_
   refine AllReadyH.cons (o := ⟨some 37, _, _, _, _, _⟩) rfl (fun K hK => ?_) (AllReadyH.cons (o := ⟨some 7, _, _, _, _, _⟩) rfl (fun K hK => ?_) AllReadyH.nil)
   ·go_simp
    refine (HNW.out _ K1.k.s.at_).mono ?_
    rintro r11 V2 ⟨y, rfl, Y0, YM, h1⟩
    have K2 := K1.below h1
    replace ZB := (h1.block _ (heap_lt ZB)).trans ZB
    have FA : FarA (fun b => V2.heap.size ≤ b ∨ (b = gb)) y V2 := far_new Y0 (by rw [YM]; exact HR0.out) (fun b hb => hb.elim .inl (fun e => .inr (.inr (by subst e; exact ⟨_, ZB⟩))))
    have LV : V2.heap.size ≤ V2.heap.size := Nat.le_refl _
    clear Y0
    generalize hvc : V2.heap.size = vc at FA LV
    have LV0 : vc ≤ V2.heap.size := by rw [hvc]; exact Nat.le_refl _
    clear LV hvc
    have LV := LV0
    clear LV0
    go_wp2_with fail
    refine hK.out _ _ ?_ (fun hH1 => ?_)
    ·exact HSC.out _ K2
    clear hK K hH1 h1 K1
    (try simp only [Act.put, List.setIfInBounds_toArray, List.set_cons_zero, List.set_cons_succ])
    refine wpAnyH_ready (rs := [3, 4]) (by kernel_rfl) (by simp) ?_
    refine AllReadyH.cons (o := ⟨some 39, _, _, _, _, _⟩) rfl (fun K hK => ?_) (AllReadyH.cons (o := ⟨some 7, _, _, _, _, _⟩) rfl (fun K hK => ?_) AllReadyH.nil)
    ·go_simp
     refine (HNQ.out _).mono ?_
     rintro r12 V3 ⟨rfl, h2⟩
     have K3 := K2.below h2
     replace ZB := (h2.block _ (heap_lt ZB)).trans ZB
     replace FA := FA.below h2
     replace LV := Nat.le_trans LV h2.size
     go_wp2_with fail
     refine hK.out _ _ ?_ (fun hH2 => ?_)
     ·exact HSC.out _ K3
     clear hK K hH2 h2 K2
     (try simp only [Act.put, List.setIfInBounds_toArray, List.set_cons_zero, List.set_cons_succ])
     refine wpAnyH_ready (rs := [4]) (by kernel_rfl) (by simp) ?_
     refine AllReadyH.cons (o := ⟨some 7, _, _, _, _, _⟩) rfl (fun K hK => ?_) AllReadyH.nil
     go_simp
     refine hK.out _ _ ?_ (fun hH3 => ?_)
     ·exact HSC.out _ (K3.below (below_one _ (.cells #[.int .i64 0, .int .i64 0, .slice none 0 0, .slice none 0 0, .slice none 0 0, .slice none 0 0] 39)))
     clear hK K hH3
     (try simp only [Act.put, List.setIfInBounds_toArray, List.set_cons_zero, List.set_cons_succ])
     have ZA : (V3.alloc (.cells #[.int .i64 0, .int .i64 0, .slice none 0 0, .slice none 0 0, .slice none 0 0, .slice none 0 0] 39)).heap[V3.heap.size]? = some (.cells (saC saO) 39 (0, 0)) := heap_alloc_new _ _
     have GA : w.heap.size + 1 + 1 ≤ V3.heap.size := K3.up
     have K4 := K3.below (below_one V3 (.cells #[.int .i64 0, .int .i64 0, .slice none 0 0, .slice none 0 0, .slice none 0 0, .slice none 0 0] 39))
     have AB : gb ≠ V3.heap.size := Nat.ne_of_lt (heap_lt ZB)
     replace ZB := (Below.heap_alloc _ (.cells #[.int .i64 0, .int .i64 0, .slice none 0 0, .slice none 0 0, .slice none 0 0, .slice none 0 0] 39) _ (heap_lt ZB)).trans ZB
     have LA1 : vc ≤ V3.heap.size := LV
     replace FA := FA.below (below_one _ (.cells #[.int .i64 0, .int .i64 0, .slice none 0 0, .slice none 0 0, .slice none 0 0, .slice none 0 0] 39))
     replace LV := Nat.le_trans LV (below_one V3 (.cells #[.int .i64 0, .int .i64 0, .slice none 0 0, .slice none 0 0, .slice none 0 0, .slice none 0 0] 39)).size
     clear K3
     generalize V3.alloc (.cells #[.int .i64 0, .int .i64 0, .slice none 0 0, .slice none 0 0, .slice none 0 0, .slice none 0 0] 39) = V4 at *
     generalize V3.heap.size = ga at *
     exact main _ _ _ _ ⟨K4, ZA, ZB, FA.mono (fun b hb => hb.elim (fun e => by subst e; exact .inl LA1) (fun e => by subst e; exact .inr (by simp))), YM, GA, GB, Ne.symm AB⟩
    ·go_simp
     refine hK.out _ _ ?_ (fun hH2 => ?_)
     ·exact HSC.out _ (K2.below (below_one _ (.cells #[.int .i64 0, .int .i64 0, .slice none 0 0, .slice none 0 0, .slice none 0 0, .slice none 0 0] 39)))
     clear hK K hH2
     (try simp only [Act.put, List.setIfInBounds_toArray, List.set_cons_zero, List.set_cons_succ])
     have ZA : (V2.alloc (.cells #[.int .i64 0, .int .i64 0, .slice none 0 0, .slice none 0 0, .slice none 0 0, .slice none 0 0] 39)).heap[V2.heap.size]? = some (.cells (saC saO) 39 (0, 0)) := heap_alloc_new _ _
     have GA : w.heap.size + 1 + 1 ≤ V2.heap.size := K2.up
     have K3 := K2.below (below_one V2 (.cells #[.int .i64 0, .int .i64 0, .slice none 0 0, .slice none 0 0, .slice none 0 0, .slice none 0 0] 39))
     have AB : gb ≠ V2.heap.size := Nat.ne_of_lt (heap_lt ZB)
     replace ZB := (Below.heap_alloc _ (.cells #[.int .i64 0, .int .i64 0, .slice none 0 0, .slice none 0 0, .slice none 0 0, .slice none 0 0] 39) _ (heap_lt ZB)).trans ZB
     have LA1 : vc ≤ V2.heap.size := LV
     replace FA := FA.below (below_one _ (.cells #[.int .i64 0, .int .i64 0, .slice none 0 0, .slice none 0 0, .slice none 0 0, .slice none 0 0] 39))
     replace LV := Nat.le_trans LV (below_one V2 (.cells #[.int .i64 0, .int .i64 0, .slice none 0 0, .slice none 0 0, .slice none 0 0, .slice none 0 0] 39)).size
     clear K2
     generalize V2.alloc (.cells #[.int .i64 0, .int .i64 0, .slice none 0 0, .slice none 0 0, .slice none 0 0, .slice none 0 0] 39) = V3 at *
     generalize V2.heap.size = ga at *
     refine wpAnyH_ready (rs := [3]) (by kernel_rfl) (by simp) ?_
     refine AllReadyH.cons (o := ⟨some 39, _, _, _, _, _⟩) rfl (fun K hK => ?_) AllReadyH.nil
     go_simp
     refine (HNQ.out _).mono ?_
     rintro r13 V4 ⟨rfl, h3⟩
     have K4 := K3.below h3
     replace ZA := (h3.block _ (heap_lt ZA)).trans ZA
     replace ZB := (h3.block _ (heap_lt ZB)).trans ZB
     replace FA := FA.below h3
     replace LV := Nat.le_trans LV h3.size
     go_wp2_with fail
     refine hK.out _ _ ?_ (fun hH3 => ?_)
     ·exact HSC.out _ K4
     clear hK K hH3 h3 K3
     (try simp only [Act.put, List.setIfInBounds_toArray, List.set_cons_zero, List.set_cons_succ])
     exact main _ _ _ _ ⟨K4, ZA, ZB, FA.mono (fun b hb => hb.elim (fun e => by subst e; exact .inl LA1) (fun e => by subst e; exact .inr (by simp))), YM, GA, GB, Ne.symm AB⟩
   ·go_simp
    refine hK.out _ _ ?_ (fun hH1 => ?_)
    ·exact HSC.out _ (K1.below (below_one _ (.cells #[.int .i64 0, .int .i64 0, .slice none 0 0, .slice none 0 0, .slice none 0 0, .slice none 0 0] 39)))
    clear hK K hH1
    (try simp only [Act.put, List.setIfInBounds_toArray, List.set_cons_zero, List.set_cons_succ])
    have ZA : (V1.alloc (.cells #[.int .i64 0, .int .i64 0, .slice none 0 0, .slice none 0 0, .slice none 0 0, .slice none 0 0] 39)).heap[V1.heap.size]? = some (.cells (saC saO) 39 (0, 0)) := heap_alloc_new _ _
    have GA : w.heap.size + 1 + 1 ≤ V1.heap.size := K1.up
    have K2 := K1.below (below_one V1 (.cells #[.int .i64 0, .int .i64 0, .slice none 0 0, .slice none 0 0, .slice none 0 0, .slice none 0 0] 39))
    have AB : gb ≠ V1.heap.size := Nat.ne_of_lt (heap_lt ZB)
    replace ZB := (Below.heap_alloc _ (.cells #[.int .i64 0, .int .i64 0, .slice none 0 0, .slice none 0 0, .slice none 0 0, .slice none 0 0] 39) _ (heap_lt ZB)).trans ZB
    clear K1
    generalize V1.alloc (.cells #[.int .i64 0, .int .i64 0, .slice none 0 0, .slice none 0 0, .slice none 0 0, .slice none 0 0] 39) = V2 at *
    generalize V1.heap.size = ga at *
    refine wpAnyH_ready (rs := [1]) (by kernel_rfl) (by simp) ?_
    refine AllReadyH.cons (o := ⟨some 37, _, _, _, _, _⟩) rfl (fun K hK => ?_) AllReadyH.nil
    go_simp
    refine (HNW.out _ K2.k.s.at_).mono ?_
    rintro r12 V3 ⟨y, rfl, Y0, YM, h2⟩
    have K3 := K2.below h2
    replace ZA := (h2.block _ (heap_lt ZA)).trans ZA
    replace ZB := (h2.block _ (heap_lt ZB)).trans ZB
    have FA : FarA (fun b => V3.heap.size ≤ b ∨ (b = ga ∨ b = gb)) y V3 := far_new Y0 (by rw [YM]; exact HR0.out) (fun b hb => hb.elim .inl (fun k => .inr (k.elim (fun e => .inl (by subst e; exact ⟨_, ZA⟩)) (fun e => .inr (by subst e; exact ⟨_, ZB⟩)))))
    have LV : V3.heap.size ≤ V3.heap.size := Nat.le_refl _
    clear Y0
    generalize hvc : V3.heap.size = vc at FA LV
    have LV0 : vc ≤ V3.heap.size := by rw [hvc]; exact Nat.le_refl _
    clear LV hvc
    have LV := LV0
    clear LV0
    go_wp2_with fail
    refine hK.out _ _ ?_ (fun hH2 => ?_)
    ·exact HSC.out _ K3
    clear hK K hH2 h2 K2
    (try simp only [Act.put, List.setIfInBounds_toArray, List.set_cons_zero, List.set_cons_succ])
    refine wpAnyH_ready (rs := [3]) (by kernel_rfl) (by simp) ?_
    refine AllReadyH.cons (o := ⟨some 39, _, _, _, _, _⟩) rfl (fun K hK => ?_) AllReadyH.nil
    go_simp
    refine (HNQ.out _).mono ?_
    rintro r13 V4 ⟨rfl, h3⟩
    have K4 := K3.below h3
    replace ZA := (h3.block _ (heap_lt ZA)).trans ZA
    replace ZB := (h3.block _ (heap_lt ZB)).trans ZB
    replace FA := FA.below h3
    replace LV := Nat.le_trans LV h3.size
    go_wp2_with fail
    refine hK.out _ _ ?_ (fun hH3 => ?_)
    ·exact HSC.out _ K4
    clear hK K hH3 h3 K3
    (try simp only [Act.put, List.setIfInBounds_toArray, List.set_cons_zero, List.set_cons_succ])
    exact main _ _ _ _ ⟨K4, ZA, ZB, FA.mono (fun b hb => hb.elim (fun e => by subst e; exact .inr (by simp)) (fun e => by subst e; exact .inr (by simp))), YM, GA, GB, Ne.symm AB⟩
 ·intro T ga y gb hF
  have YM := hF.m
  have Z2 : SB w ga 39 saO T := ⟨hF.za, by have := hF.ge; have := hF.k.lo; omega, hF.k.k.s.frame, SaAt.zero _⟩
  unfold saO at Z2
  obtain ⟨z0, z1, z2, z3, z4, z5⟩ := Z2.cells
  obtain ⟨f0, f1, f2, f3, f4, f5⟩ := Z2.free
  have zl := Z2.lt
  dsimp only [List.length_nil] at z0 z1 z2 z3 z4 z5
  have KG := FkN.setS hF
  unfold setS at KG
  clear Z2
  refine wpAnyH_ready (rs := [6]) (by kernel_rfl) (by simp) ?_
  refine AllReadyH.cons (o := ⟨none, _, _, _, _, _⟩) rfl (fun K hK => ?_) AllReadyH.nil
  go_simp
  refine hK.out _ _ ?_ (fun hH6 => ?_)
  ·exact HSC.out _ KG.k
  clear hK K hH6 z0 z1 z2 z3 z4 z5 f0 f1 f2 f3 f4 f5 zl hF
  (try simp only [Act.put, List.setIfInBounds_toArray, List.set_cons_zero, List.set_cons_succ])
  generalize ((((((T.setCell ⟨ga, 0, none⟩ (.int .i64 y.now))).setCell ⟨ga, 1, none⟩ (.int .i64 y.hor)).setCell ⟨ga, 2, none⟩ (.slice y.oa y.op.length y.oc)).setCell ⟨ga, 3, none⟩ (.slice y.ua y.us.length y.uc)).setCell ⟨ga, 4, none⟩ (.slice y.sa y.su.length y.sc)).setCell ⟨ga, 5, none⟩ (.slice y.ta y.tb.length y.tc) = T1 at *
  obtain ⟨z0, z1, z2, z3, z4⟩ := KG.ha.cells
  obtain ⟨f0, f1, f2, f3, f4⟩ := KG.ha.free
  unfold ask0 at z0 z1 z2 z3 z4
  dsimp only at z0 z1 z2 z3 z4
  have zl := KG.ha.lt
  replace KG := KG.setQ q
  unfold setQ at KG
  refine wpAnyH_ready (rs := [7]) (by kernel_rfl) (by simp) ?_
  refine AllReadyH.cons (o := ⟨none, _, _, _, _, _⟩) rfl (fun K hK => ?_) AllReadyH.nil
  go_simp
  refine hK.out _ _ ?_ (fun hH7 => ?_)
  ·exact HSC.out _ KG.k
  clear hK K hH7 z0 z1 z2 z3 z4 f0 f1 f2 f3 f4 zl
  (try simp only [Act.put, List.setIfInBounds_toArray, List.set_cons_zero, List.set_cons_succ])
  refine wpAnyH_done (by kernel_rfl) ?_ _
  generalize ((((T1.setCell ⟨gb, 0, none⟩ (.string q.w)).setCell ⟨gb, 1, none⟩ (.string q.u)).setCell ⟨gb, 2, none⟩ (.int .i64 q.f)).setCell ⟨gb, 3, none⟩ (.int .i64 q.t)).setCell ⟨gb, 4, none⟩ (.int .i64 q.n) = T2 at *
  clear HSC
  replace KG := Lib.hid KG
  replace YM := Lib.hid YM
  obtain ⟨c0, c1, c2, c3, c4, c5, a0, a1, a2, a3, a4⟩ := KG.out.cells
  go_wp2_with fail
  refine (HR1.out y _ KG.out.far.at_ YM.out).mono ?_
  rintro r w4 ⟨b4, q4, l, rfl, l1, l2, l3, h4⟩
  clear c0 c1 c2 c3 c4 c5 a0 a1 a2 a3 a4
  replace KG := Lib.hid (KG.out.below h4)
  have T1 := Lib.hid l1
  have L1 := Lib.hid l2
  have R1 := Lib.hid l3
  clear HR1 h4 l1 l2 l3
  obtain ⟨c0, c1, c2, c3, c4, c5, a0, a1, a2, a3, a4⟩ := KG.out.cells
  obtain ⟨f0, f1, f2, f3, f4⟩ := KG.out.ha.free
  have hgl := KG.out.ha.lt
  have KN := KG.out.setN (q.n + v)
  have RN := Lib.hid (qb_st KG.out.ha R1.out 4 (.int .i64 (q.n + v)))
  go_upto_region 7 with fail
  replace KG := Lib.hid KN
  replace R1 := RN
  clear c0 c1 c2 c3 c4 c5 a0 a1 a2 a3 a4 f0 f1 f2 f3 f4 hgl KN RN hw1
  generalize w4.setCell ⟨gb, 4, none⟩ (.int .i64 (q.n + v)) = W4 at *
  obtain ⟨c0, c1, c2, c3, c4, c5, a0, a1, a2, a3, a4⟩ := KG.out.cells
  dsimp only at a0 a1 a2 a3 a4
  go_wp2_with fail
  refine (HR2.out y _ KG.out.far.at_ YM.out).mono ?_
  rintro r w5 ⟨b5, q5, m, rfl, l1, l2, l3, h5⟩
  clear c0 c1 c2 c3 c4 c5 a0 a1 a2 a3 a4
  replace KG := Lib.hid (KG.out.below h5)
  replace R1 := Lib.hid (R1.out.below h5)
  have T2 := Lib.hid l1
  have L2 := Lib.hid l2
  have R2 := Lib.hid l3
  clear HR2 h5 l1 l2 l3 YM HNW HNQ
  by_cases hY : Y = 0
  ·obtain ⟨hY2, HCUT⟩ := HYL.out hY
   replace HCUT := Lib.hid HCUT
   clear HYL
   subst hY hY2
   go_wp2_with fail
   refine (HAL.out _).mono ?_
   rintro r w6 ⟨rfl, h6⟩
   replace KG := Lib.hid (KG.out.below h6)
   replace R1 := Lib.hid (R1.out.below h6)
   replace R2 := Lib.hid (R2.out.below h6)
   clear HAL h6
   go_wp2_with fail
   refine (HCU.out m _ _ ⟨-1125899906842624, q.n⟩ _ _ L2.out (R2.out.below (below_one _ _)) (cells_sp _ [⟨-1125899906842624, q.n⟩] _ _ _ rfl rfl)).mono ?_
   rintro r w7 ⟨b7, q7, p, rfl, k1, k2, k3, h7⟩
   replace KG := Lib.hid ((KG.out.below (below_one _ _)).below h7)
   replace R1 := Lib.hid ((R1.out.below (below_one _ _)).below h7)
   have HE := Lib.hid (HCUT.out l m p T1.out T2.out k1)
   have L3 := Lib.hid k2
   have R3 := Lib.hid k3
   clear HCU HCUT T1 T2 R2 L2 k1 k2 k3 h7
   go_wp2_with fail
   refine (HSM.out p l _ _ _ _ _ HE.out L3.out R3.out R1.out).mono ?_
   rintro r w8 ⟨rfl, h8⟩
   replace KG := Lib.hid (KG.out.below h8)
   clear HSM HE L3 R3 R1 L1 h8
   go_wp2
   go_ret
   exact ⟨rfl, KG.out.k.k.s.frame⟩
  ·have hY1 : (Y == 0) = false := by simpa using hY
   clear HYL HCU HSM T1 T2 L1 L2 R1 R2
   go_wp2_with fail
   refine (HAL.out _).mono ?_
   rintro r w6 ⟨rfl, h6⟩
   replace KG := Lib.hid (KG.out.below h6)
   clear HAL h6
   go_wp2
   go_ret
   exact ⟨rfl, KG.out.k.k.s.frame⟩
theorem contract (H : Type) (enc : TypeId × Value → H) (W : World) (base : Nat) (args : Array Value) (ds gs : List (DataW H)) (before : List MemPlace)
  (hval : ∀ (j : Nat) t v, Tryz.f17.params[j]? = some t → args[j]? = some v → Value.okWide Tryz.prog W .any base t v)
  (hW : DataW.Whole enc Tryz.prog Tryz.f17.params.toList Rows.gateLaterSpec.vars false W args.toList ds gs before) (hk : Rows.uptoSmall H (ds ++ gs) = true) :
  Calls Tryz.prog 17 args W fun e W' => ∃ v, e = .returned v ∧ Rows.gateLaterSpec.post enc Tryz.prog Tryz.f17 false true false false W args v W' := by
 have hW' := hW
 obtain ⟨p, q, hA0, hV, rfl, hfz, hnd⟩ := hW
 have hA : DataW.TrodAll enc Tryz.prog W 0 (fun _ => true) true Tryz.f17.params.toList args.toList ds p := hA0
 rw [Tryz.params17] at hA hval
 obtain ⟨v0, vs0, d0, ds0, p0, q0, hargs, rfl, rfl, h0, r0⟩ := trodAll_cons hA
 obtain ⟨v1, vs1, d1, ds1, p1, q1, rfl, rfl, rfl, h1, r1⟩ := trodAll_cons r0
 obtain ⟨v2, vs2, d2, ds2, p2, q2, rfl, rfl, rfl, h2, r2⟩ := trodAll_cons r1
 obtain ⟨rfl, rfl, rfl⟩ := trodAll_nil r2
 obtain rfl : args = #[v0, v1, v2] := by cases args; simp_all
 obtain ⟨rfl, rfl⟩ := trodVars_none hV
 have hbk : Rows.uptoBulkAll [d0, d1, d2] ≤ 1048576 := of_decide_eq_true hk
 simp only [Rows.uptoBulkAll] at hbk
 obtain ⟨a0, rfl, s0, z0, b0⟩ := open_state (hval 0 27 v0 rfl rfl) h0
 have u0 : stCnt a0.m + a0.us.length ≤ 1048576 := by omega
 obtain ⟨a1, rfl, w1, x1, y1⟩ := open_ask (hval 1 86 v1 rfl rfl) h1
 obtain ⟨a2, rfl, -, -, w2⟩ := open_int Tryz.underlying3 (hval 2 3 v2 rfl rfl) h2
 refine (walk W a0 s0 z0 u0 a1 w1 x1 y1 a2 w2).mono fun e W' ⟨he, hb⟩ => ?_
 subst he
 exact ⟨_, rfl, law_post rfl hW' (fun ds h => by match ds, h with | [_, _, _], _ => rfl) (by kernel_rfl) (by kernel_rfl) (by kernel_rfl) hb⟩

set_option maxRecDepth 100000 in
theorem lifted (os : Os) (started : os.Started) (H : Type) (enc : TypeId × Value → H) (F : Stop.Interp) :
  ReturnsInHanded {} Tryz.checked os 17 .any ((Rows.OpenSpec.upto Rows.gateLaterSpec).pre6 enc Tryz.prog Tryz.f17 Rows.gateLaterUptoRow.domain false) (((Rows.OpenSpec.upto Rows.gateLaterSpec).at F).post enc Tryz.prog Tryz.f17 false true false false) := by
 refine returnsInHanded_of_cond (C := Tryz.checked) (s := (Rows.OpenSpec.upto Rows.gateLaterSpec)) (k := Rows.uptoSmall) rfl own started (by kernel_rfl) Tryz.func17
  (OpenSpec.witness (enc := enc) (C := Tryz.checked) (s := (Rows.OpenSpec.upto Rows.gateLaterSpec)) (k := Rows.uptoSmall) rfl false ⟨#[], #[.agg #[.int .i64 0, .int .i64 0, .slice none 0 0, .slice none 0 0, .slice none 0 0, .slice none 0 0], .agg #[.string ByteArray.empty, .string ByteArray.empty, .int .i64 0, .int .i64 0, .int .i64 0], .int .i64 0], []⟩ 8 (by kernel_rfl) (by kernel_rfl) (by kernel_rfl)
   (x := ([.agg [.lit (.int .i64 0), .lit (.int .i64 0), .nil, .nil, .nil, .nil], .agg [.lit (.string []), .lit (.string []), .lit (.int .i64 0), .lit (.int .i64 0), .lit (.int .i64 0)], .lit (.int .i64 0)], [], [])) (by kernel_rfl) rfl (by kernel_rfl)) ?_
 intro W base args ds gs before hval hW _ hk _
 exact contract H enc W base args ds gs before hval hW hk

theorem proved : Rows.GateLaterUptoSaid :=
 OpenClaim.holds_of_cond 17 Tryz.f17 rfl rfl rfl rfl rfl rfl rfl ⟨rfl, rfl, rfl, rfl, rfl⟩ rfl rfl rfl rfl rfl (by kernel_rfl) Tryz.func17 closedGateLater
  (of_decide_eq_true (by kernel_rfl)) (by unfold Func.isWrapper; first | (rw [if_pos (by decide +kernel)]; kernel_rfl) | (rw [if_neg (by decide +kernel)]; exact ⟨rfl, rfl⟩))
  (fun os started H enc _ F => lifted os started H enc F)
end Go.Proofs.YtapacckmgmdnoaaGreat.gateLater
