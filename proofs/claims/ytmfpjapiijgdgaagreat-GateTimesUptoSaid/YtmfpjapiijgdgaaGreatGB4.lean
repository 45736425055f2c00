/- GateTimes: no time is told in which the watcher might not see the user, and each that is told is one of the user's; for all states of at most 1048576 things. -/
import Derived.JoinedCond
import Derived.Deep.RegionHeld3
import Derived.OrdersHeld
import Derived.Test.YtmfpjapiijgdgaaGreatV00
import Derived.Test.YtmfpjapiijgdgaaGreatRows
import Derived.Test.YtmfpjapiijgdgaaGreatTQ
import Derived.Test.YtmfpjapiijgdgaaGreatV01
import Derived.Test.YtmfpjapiijgdgaaGreatV03
import Derived.Test.YtmfpjapiijgdgaaGreatV05
import Derived.Test.YtmfpjapiijgdgaaGreatV06
import Derived.Test.YtmfpjapiijgdgaaGreatV07
import Derived.Test.YtmfpjapiijgdgaaGreatV20
import Derived.Test.YtmfpjapiijgdgaaGreatV28
import Derived.Test.YtmfpjapiijgdgaaGreatV30
import Derived.Test.YtmfpjapiijgdgaaGreatV34
import Derived.Test.YtmfpjapiijgdgaaGreatV35
import Derived.Test.YtmfpjapiijgdgaaGreatV41
import Derived.Test.YtmfpjapiijgdgaaGreatV44
import Derived.Test.YtmfpjapiijgdgaaGreatV45
import Derived.Test.YtmfpjapiijgdgaaGreatV49
namespace Go.Proofs.YtmfpjapiijgdgaaGreat.gateTimes
open Go.ChangeShapes Go.WideShapes Go.ChangeAt Go.RowKit Go.Proofs
open Go.ChangeMaps (open_string shut_string)
set_option linter.unusedVariables false
set_option maxRecDepth 100000

theorem count_next (p : StM → Bool) (l : List StM) (j : Nat) (h : j < l.length) : (l.take (j + 1)).countP p = (l.take j).countP p + (if p l[j] = true then 1 else 0) := by
 rw [List.take_succ_eq_append_getElem h, List.countP_append, List.countP_singleton]
set_option maxHeartbeats 8000000 in
theorem walk (w : World) (x : SaL) (h : SaAt w x) (z : SzS x.m) (b : stCnt x.m + x.us.length ≤ 1048576) (q : AskM) (hw : q.w.size ≤ maxLen) (hu : q.u.size ≤ maxLen) (hi : I64 q.f ∧ I64 q.t ∧ I64 q.n) (v : Int) (hv : (Lit.int IntKind.i64 v).wf = true) :
  Calls Tryz.prog 13 #[saV x, askV q, .int .i64 v] w fun e w' => e = .returned (.bool true) ∧ Below w.heap.size w w' := by
 have S := SQ.new w q h 27 86
 unfold saC askC at S
 replace S := Lib.hid S
 have HAL := Lib.hid alive13
 have HMA := Lib.hid (fun V (h : SaAt V x) => many_any x V h b)
 by_cases g1 : 100 < stCnt x.m + x.us.length
 ·have d1 : decide ((100 : Int) < (stCnt x.m : Int) + (x.us.length : Int)) = true := decide_eq_true (by omega)
  clear h z b hw hu hi hv g1
  unfold saV saC askV askC
  obtain ⟨c0, c1, c2, c3, c4, c5, a0, a1, a2, a3, a4⟩ := S.out.cells
  go_enter Tryz.func13, Tryz.ntmps13
  go_wp2_with fail
  refine (HMA.out _ S.out.s.at_).mono ?_
  rintro r1 w1 ⟨rfl, h1⟩
  clear c0 c1 c2 c3 c4 c5 a0 a1 a2 a3 a4
  replace S := Lib.hid (S.out.below h1)
  clear h1
  obtain ⟨c0, c1, c2, c3, c4, c5, a0, a1, a2, a3, a4⟩ := S.out.cells
  go_wp2_with fail
  refine (HAL.out _).mono ?_
  rintro r2 w2 ⟨rfl, h2⟩
  clear c0 c1 c2 c3 c4 c5 a0 a1 a2 a3 a4
  replace S := Lib.hid (S.out.below h2)
  clear h2
  go_wp2
  go_ret
  exact ⟨rfl, S.out.s.frame⟩
 have d1 : decide ((100 : Int) < (stCnt x.m : Int) + (x.us.length : Int)) = false := decide_eq_false (by omega)
 have hf0 : Few x.m 100 := few_cnt (by omega)
 by_cases hr0 : RightS x.m
 case neg =>
  have HRR := Lib.hid (fun V (h : SaAt V x) => g_rwrong x V h rfl z (hf0.mono (by decide)) hr0)
  clear h z b hw hu hi hv g1 hf0 hr0
  unfold saV saC askV askC
  obtain ⟨c0, c1, c2, c3, c4, c5, a0, a1, a2, a3, a4⟩ := S.out.cells
  go_enter Tryz.func13, Tryz.ntmps13
  go_wp2_with fail
  refine (HMA.out _ S.out.s.at_).mono ?_
  rintro r1 w1 ⟨rfl, h1⟩
  clear c0 c1 c2 c3 c4 c5 a0 a1 a2 a3 a4
  replace S := Lib.hid (S.out.below h1)
  clear h1
  obtain ⟨c0, c1, c2, c3, c4, c5, a0, a1, a2, a3, a4⟩ := S.out.cells
  go_wp2_with fail
  refine (HRR.out _ S.out.s.at_).mono ?_
  rintro r2 w2 ⟨rfl, h2⟩
  clear c0 c1 c2 c3 c4 c5 a0 a1 a2 a3 a4
  replace S := Lib.hid (S.out.below h2)
  clear h2
  obtain ⟨c0, c1, c2, c3, c4, c5, a0, a1, a2, a3, a4⟩ := S.out.cells
  go_wp2_with fail
  refine (HAL.out _).mono ?_
  rintro r3 w3 ⟨rfl, h3⟩
  clear c0 c1 c2 c3 c4 c5 a0 a1 a2 a3 a4
  replace S := Lib.hid (S.out.below h3)
  clear h3
  go_wp2
  go_ret
  exact ⟨rfl, S.out.s.frame⟩
 have HRR := Lib.hid (fun V (h : SaAt V x) => g_rright x V h rfl z (hf0.mono (by decide)) hr0)
 have hc0 : stCnt x.m ≤ 100 := by omega
 have HNW : Hid (∀ V, SaAt V x → Calls Tryz.prog 23 #[.agg #[.int .i64 x.now, .int .i64 x.hor, .slice x.oa x.op.length x.oc, .slice x.ua x.us.length x.uc, .slice x.sa x.su.length x.sc, .slice x.ta x.tb.length x.tc]] V fun r w' => ∃ y, r = .returned (.agg #[.int .i64 y.now, .int .i64 y.hor, .slice y.oa y.op.length y.oc, .slice y.ua y.us.length y.uc, .slice y.sa y.su.length y.sc, .slice y.ta y.tb.length y.tc]) ∧ SaAt w' y ∧ y.m = x.m ∧ Below V.heap.size V w') := fun V h => g_new x V h rfl (hf0.mono (by decide))
 have HNQ : Hid (∀ V, Calls Tryz.prog 49 #[.agg #[.string q.w, .string q.u, .int .i64 q.f, .int .i64 q.t, .int .i64 q.n]] V fun r w' => r = .returned (.agg #[.string q.w, .string q.u, .int .i64 q.f, .int .i64 q.t, .int .i64 q.n]) ∧ Below V.heap.size V w') := fun V => gnew_any q V
 have HRG : Hid (∀ (y : SaL) V, SaAt V y → y.m = x.m → Calls Tryz.prog 48 #[.agg #[.int .i64 y.now, .int .i64 y.hor, .slice y.oa y.op.length y.oc, .slice y.ua y.us.length y.uc, .slice y.sa y.su.length y.sc, .slice y.ta y.tb.length y.tc], .agg #[.string q.w, .string q.u, .int .i64 q.f, .int .i64 q.t, .int .i64 q.n]] V fun r w' => ∃ b c m, r = .returned (.tuple #[.slice b m.length c, .int .i64 (whyV x.m q.w q.u q.n)]) ∧ GTold x.m q m ∧ m.length ≤ 90000 ∧ StSl w' b m ∧ Below V.heap.size V w') := fun y V h hm => by
  have h1 := range_any13 y q V h (hm ▸ hf0.mono (by decide)) hw hu
  rw [hm] at h1
  exact h1
 have HST : Hid (∀ V, SaAt V x → Calls Tryz.prog 46 #[.agg #[.int .i64 x.now, .int .i64 x.hor, .slice x.oa x.op.length x.oc, .slice x.ua x.us.length x.uc, .slice x.sa x.su.length x.sc, .slice x.ta x.tb.length x.tc], .string q.u, .int .i64 q.n] V fun r w' => ∃ b c, r = .returned (.slice b (staysS x.m q.u q.n).length c) ∧ StSl w' b (staysS x.m q.u q.n) ∧ Below V.heap.size V w') := fun V h => rstays_any11 x q.u q.n V h (hf0.mono (by decide))
 have hSL : (staysS x.m q.u q.n).length ≤ 90000 := Nat.le_trans (stays_few13 hf0 q.u q.n) (by decide)
 have HSD : Hid (∀ V, SaAt V x → Calls Tryz.prog 54 #[.agg #[.int .i64 x.now, .int .i64 x.hor, .slice x.oa x.op.length x.oc, .slice x.ua x.us.length x.uc, .slice x.sa x.su.length x.sc, .slice x.ta x.tb.length x.tc], .agg #[.string q.w, .string q.u], .int .i64 v] V fun r w' => r = .returned (.bool (hasB (perS x.m.su q.w q.u) v)) ∧ Below V.heap.size V w') := fun V h => rsees_any13 x q.w q.u v V h (Nat.le_trans hf0.su (by decide))
 have HHS : Hid (∀ (f t : Int) V, Calls Tryz.prog 60 #[.agg #[.int .i64 f, .int .i64 t], .int .i64 v] V fun r w' => r = .returned (.bool (decide (f ≤ v) && decide (v < t))) ∧ Below V.heap.size V w') := fun f t V => shas_any f t v V
 have HNO : Hid (∀ m, GTold x.m q m → whyV x.m q.w q.u q.n ≠ 0 → m = []) := fun m h k => h.2 k
 have HYE : Hid (∀ m, GTold x.m q m → whyV x.m q.w q.u q.n = 0 → ((hasB (perS x.m.su q.w q.u) v = true ∧ x.hor ≤ v ∧ v < 1099511627776 ∧ q.f ≤ v ∧ v < q.t) → m.countP (atT v) = (staysS x.m q.u q.n).countP (atT v)) ∧ (¬ (hasB (perS x.m.su q.w q.u) v = true ∧ x.hor ≤ v ∧ v < 1099511627776 ∧ q.f ≤ v ∧ v < q.t) → m.countP (atT v) = 0)) := fun m h k => by
  have h1 := range_count (h.1 k) v
  have e : gateP x.m q.w q.u q.f q.t v ↔ (hasB (perS x.m.su q.w q.u) v = true ∧ x.hor ≤ v ∧ v < 1099511627776 ∧ q.f ≤ v ∧ v < q.t) := by
   unfold gateP
   rw [hasB_iff, show x.m.hor = x.hor from rfl]
   constructor
   ·rintro ⟨k1, ⟨k2, k3⟩, k4, k5⟩; exact ⟨k1, k4, k5, k2, k3⟩
   ·rintro ⟨k1, k4, k5, k2, k3⟩; exact ⟨k1, ⟨k2, k3⟩, k4, k5⟩
  rw [e] at h1
  exact h1
 have HSC := Lib.hid (fun V (k : SQ w w.heap.size (w.heap.size + 1) 27 86 x q V) => k.cells)
 generalize GTold x.m q = TD at *
 generalize whyV x.m q.w q.u q.n = Y at *
 generalize staysS x.m q.u q.n = L at *
 generalize hasB (perS x.m.su q.w q.u) v = B at *
 clear h z b hw hu hi hv g1 hf0 hr0 hc0
 unfold saV saC askV askC
 obtain ⟨c0, c1, c2, c3, c4, c5, a0, a1, a2, a3, a4⟩ := S.out.cells
 go_enter Tryz.func13, Tryz.ntmps13
 go_wp2_with fail
 refine (HMA.out _ S.out.s.at_).mono ?_
 rintro r1 w1 ⟨rfl, h1⟩
 clear c0 c1 c2 c3 c4 c5 a0 a1 a2 a3 a4
 replace S := Lib.hid (S.out.below h1)
 clear h1
 obtain ⟨c0, c1, c2, c3, c4, c5, a0, a1, a2, a3, a4⟩ := S.out.cells
 go_wp2_with fail
 refine (HRR.out _ S.out.s.at_).mono ?_
 rintro r2 w2 ⟨rfl, h2⟩
 clear c0 c1 c2 c3 c4 c5 a0 a1 a2 a3 a4
 replace S := Lib.hid (S.out.below h2)
 clear h2
 obtain ⟨c0, c1, c2, c3, c4, c5, a0, a1, a2, a3, a4⟩ := S.out.cells
 go_wp2_with fail
 clear c0 c1 c2 c3 c4 c5 a0 a1 a2 a3 a4
 have K := S.out.drew
 clear S HMA HRR
 go_region_held3 (fun V => V.cell? ⟨w.heap.size, 0, none⟩ = some (.int .i64 x.now) ∧ V.cell? ⟨w.heap.size, 1, none⟩ = some (.int .i64 x.hor) ∧ V.cell? ⟨w.heap.size, 2, none⟩ = some (.slice x.oa x.op.length x.oc) ∧ V.cell? ⟨w.heap.size, 3, none⟩ = some (.slice x.ua x.us.length x.uc) ∧ V.cell? ⟨w.heap.size, 4, none⟩ = some (.slice x.sa x.su.length x.sc) ∧ V.cell? ⟨w.heap.size, 5, none⟩ = some (.slice x.ta x.tb.length x.tc) ∧ V.cell? ⟨w.heap.size + 1, 0, none⟩ = some (.string q.w) ∧ V.cell? ⟨w.heap.size + 1, 1, none⟩ = some (.string q.u) ∧ V.cell? ⟨w.heap.size + 1, 2, none⟩ = some (.int .i64 q.f) ∧ V.cell? ⟨w.heap.size + 1, 3, none⟩ = some (.int .i64 q.t) ∧ V.cell? ⟨w.heap.size + 1, 4, none⟩ = some (.int .i64 q.n))
  (with_reducible exact HSC.out _ K)
  (first | (go_at_call 48; refine (HRG.out _ _ Y2 ym).mono ?_; rintro r v3 ⟨b3, q3, m, rfl, l1, l2, l3, h3⟩; have K := K.below h3) | (go_at_call 23; refine (HNW.out _ K.s.at_).mono ?_; rintro r v2 ⟨y, rfl, Y2, ym, h2⟩; have K := K.below h2) | (go_at_call 49; refine (HNQ.out _).mono ?_; rintro r v1 ⟨rfl, h1⟩; have K := K.below h1; (try have Y2 := Y2.below h1)))
 all_goals
  have S := Lib.hid K
  have HT := Lib.hid l1
  have R3 := Lib.hid l3
  clear K Y2 ym h1 h2 h3 l1 l3 HNW HNQ HRG
 by_cases hY : Y = 0
 case neg =>
  have hY1 : (Y == 0) = false := by simpa using hY
  obtain rfl := HNO.out m HT.out hY
  clear HST HSD HHS HNO HYE HSC R3 HT hSL l2
  go_wp2_with fail
  refine (HAL.out _).mono ?_
  rintro r w9 ⟨rfl, h9⟩
  replace S := Lib.hid (S.out.below h9)
  clear h9
  go_wp2
  go_ret
  exact ⟨rfl, S.out.s.frame⟩
 have HYX := Lib.hid (HYE.out m HT.out hY)
 clear HYE HNO HT
 subst hY
 go_wp2
 go_loopw [9, 43] (fun tv iv wr => ∃ (j : Nat), j ≤ m.length ∧ iv = .int .i64 j ∧ tv = .int .i64 ((m.take j).countP (atT v) : Nat) ∧ Hid (SQ w w.heap.size (w.heap.size + 1) 27 86 x q wr) ∧ Hid (StSl wr b3 m)) (fun _ iv _ => m.length - (intOf iv).toNat)
 case atStart => exact ⟨0, by omega, rfl, by simp, S.out, R3.out⟩
 case round =>
  clear S R3
  obtain ⟨j, hj, rfl, rfl, S, R3⟩ := hrel
  by_cases hjl : j < m.length
  ·obtain ⟨b, off, rfl, hbl, r0, r1, r2, r3⟩ := R3.out j hjl
   have HN := Lib.hid (count_next (atT v) m j hjl)
   have hcl := Lib.hid (List.countP_le_length (p := atT v) (l := m.take j))
   have htl := Lib.hid (List.length_take_le j m)
   have SA := Lib.hid (fun o => S.out.below (below_one wr o))
   have RA := Lib.hid (fun o => R3.out.below (below_one wr o))
   generalize (m.take j).countP (atT v) = c at *
   generalize m[j] = s at *
   have hcm : (c : Int) ≤ 90000 := by have := hcl.out; have := htl.out; omega
   clear S R3 HST HSD HAL HSC HYX hcl htl
   by_cases hb : s.f ≤ v ∧ v < s.t
   ·have e1 : (decide (s.f ≤ v) && decide (v < s.t)) = true := by simp [hb]
    have HH1 := HHS.out s.f s.t
    simp only [e1] at HH1
    have HN2 : Hid ((m.take (j + 1)).countP (atT v) = c + 1) := by unfold Hid; rw [HN.out, if_pos (show atT v s = true from e1)]
    have HH := Lib.hid HH1
    clear HHS HH1 HN hb e1
    go_wp2_with fail
    refine (HH.out _).mono ?_
    rintro r w4 ⟨rfl, h4⟩
    have S4 := Lib.hid ((SA.out _).below h4)
    have R4 := Lib.hid ((RA.out _).below h4)
    clear SA RA HH h4 r0 r1 r2 r3
    go_wp2
    go_roundw
    case rel => exact ⟨j + 1, by omega, by go_num, by rw [HN2.out]; go_num, S4.out, R4.out⟩
    case measure => simp [intOf]; omega
   ·have e1 : (decide (s.f ≤ v) && decide (v < s.t)) = false := by simpa using hb
    have HH1 := HHS.out s.f s.t
    simp only [e1] at HH1
    have HN2 : Hid ((m.take (j + 1)).countP (atT v) = c) := by unfold Hid; rw [HN.out, if_neg (show ¬ atT v s = true by show ¬ (decide (s.f ≤ v) && decide (v < s.t)) = true; rw [e1]; decide)]; rfl
    have HH := Lib.hid HH1
    clear HHS HH1 HN hb e1
    go_wp2_with fail
    refine (HH.out _).mono ?_
    rintro r w4 ⟨rfl, h4⟩
    have S4 := Lib.hid ((SA.out _).below h4)
    have R4 := Lib.hid ((RA.out _).below h4)
    clear SA RA HH h4 r0 r1 r2 r3
    go_wp2
    go_roundw
    case rel => exact ⟨j + 1, by omega, by go_num, by rw [HN2.out], S4.out, R4.out⟩
    case measure => simp [intOf]; omega
  ·obtain rfl : j = m.length := by omega
   rw [List.take_length]
   have hNM := List.countP_le_length (p := atT v) (l := m)
   generalize m.countP (atT v) = NM at *
   clear R3 HHS hjl hj l2
   obtain ⟨c0, c1, c2, c3, c4, c5, a0, a1, a2, a3, a4⟩ := S.out.cells
   go_wp2_with fail
   refine (HST.out _ S.out.s.at_).mono ?_
   rintro r w5 ⟨b5, q5, rfl, p5, h5⟩
   clear c0 c1 c2 c3 c4 c5 a0 a1 a2 a3 a4
   replace S := Lib.hid (S.out.below h5)
   have R5 := Lib.hid p5
   clear HST h5 p5
   go_wp2
   go_loopw [10, 61] (fun tv iv wr => ∃ (j : Nat), j ≤ L.length ∧ iv = .int .i64 j ∧ tv = .int .i64 ((L.take j).countP (atT v) : Nat) ∧ Hid (SQ w w.heap.size (w.heap.size + 1) 27 86 x q wr) ∧ Hid (StSl wr b5 L)) (fun _ iv _ => L.length - (intOf iv).toNat)
   case atStart => exact ⟨0, by omega, rfl, by simp, S.out, R5.out⟩
   case round =>
    clear S R5
    obtain ⟨j, hj, rfl, rfl, S, R5⟩ := hrel
    by_cases hjl : j < L.length
    ·obtain ⟨b, off, rfl, hbl, r0, r1, r2, r3⟩ := R5.out j hjl
     have HN := Lib.hid (count_next (atT v) L j hjl)
     have hcl := Lib.hid (List.countP_le_length (p := atT v) (l := L.take j))
     have htl := Lib.hid (List.length_take_le j L)
     have SA := Lib.hid (fun o => S.out.below (below_one wr o))
     have RA := Lib.hid (fun o => R5.out.below (below_one wr o))
     generalize (L.take j).countP (atT v) = c at *
     generalize L[j] = s at *
     have hcm : (c : Int) ≤ 90000 := by have := hcl.out; have := htl.out; omega
     clear S R5 HSD HAL HSC HYX hcl htl
     by_cases hb : s.f ≤ v ∧ v < s.t
     ·have HN2 : Hid ((L.take (j + 1)).countP (atT v) = c + 1) := by unfold Hid; rw [HN.out, if_pos (show atT v s = true by unfold atT; simp [hb])]
      have hb1 := hb.1
      have hb2 := hb.2
      clear HN hb
      go_wp2
      go_roundw
      case rel => exact ⟨j + 1, by omega, by go_num, by rw [HN2.out]; go_num, SA.out _, RA.out _⟩
      case measure => simp [intOf]; omega
     ·have HN2 : Hid ((L.take (j + 1)).countP (atT v) = c) := by unfold Hid; rw [HN.out, if_neg (show ¬ atT v s = true by unfold atT; simpa using hb)]; rfl
      by_cases hb1 : s.f ≤ v
      ·have hb2 : ¬ v < s.t := fun h => hb ⟨hb1, h⟩
       clear HN hb
       go_wp2
       go_roundw
       case rel => exact ⟨j + 1, by omega, by go_num, by rw [HN2.out], SA.out _, RA.out _⟩
       case measure => simp [intOf]; omega
      ·clear HN hb
       go_wp2
       go_roundw
       case rel => exact ⟨j + 1, by omega, by go_num, by rw [HN2.out], SA.out _, RA.out _⟩
       case measure => simp [intOf]; omega
    ·obtain rfl : j = L.length := by omega
     rw [List.take_length]
     generalize L.countP (atT v) = NL at *
     clear R5 hjl hj hSL HSC
     by_cases hall : B = true ∧ x.hor ≤ v ∧ v < 1099511627776 ∧ q.f ≤ v ∧ v < q.t
     ·obtain rfl := HYX.out.1 hall
      obtain ⟨rfl, g1, g2, g3, g4⟩ := hall
      have hnn : ((NM : Int) == (NM : Int)) = true := beq_self_eq_true _
      clear HYX
      obtain ⟨c0, c1, c2, c3, c4, c5, a0, a1, a2, a3, a4⟩ := S.out.cells
      go_wp2_with fail
      refine (HSD.out _ S.out.s.at_).mono ?_
      rintro r w6 ⟨rfl, h6⟩
      clear c0 c1 c2 c3 c4 c5 a0 a1 a2 a3 a4
      replace S := Lib.hid (S.out.below h6)
      clear h6 HSD
      obtain ⟨c0, c1, c2, c3, c4, c5, a0, a1, a2, a3, a4⟩ := S.out.cells
      go_wp2_with fail
      refine (HAL.out _).mono ?_
      rintro r w7 ⟨rfl, h7⟩
      clear c0 c1 c2 c3 c4 c5 a0 a1 a2 a3 a4
      replace S := Lib.hid (S.out.below h7)
      clear h7 HAL
      go_wp2
      go_ret
      exact ⟨rfl, S.out.s.frame⟩
     ·obtain rfl := HYX.out.2 hall
      clear HYX
      cases B
      ·clear hall
       obtain ⟨c0, c1, c2, c3, c4, c5, a0, a1, a2, a3, a4⟩ := S.out.cells
       go_wp2_with fail
       refine (HSD.out _ S.out.s.at_).mono ?_
       rintro r w6 ⟨rfl, h6⟩
       clear c0 c1 c2 c3 c4 c5 a0 a1 a2 a3 a4
       replace S := Lib.hid (S.out.below h6)
       clear h6 HSD
       obtain ⟨c0, c1, c2, c3, c4, c5, a0, a1, a2, a3, a4⟩ := S.out.cells
       go_wp2_with fail
       refine (HAL.out _).mono ?_
       rintro r w7 ⟨rfl, h7⟩
       clear c0 c1 c2 c3 c4 c5 a0 a1 a2 a3 a4
       replace S := Lib.hid (S.out.below h7)
       clear h7 HAL
       go_wp2
       go_ret
       exact ⟨rfl, S.out.s.frame⟩
      ·by_cases g1 : x.hor ≤ v
       ·by_cases g2 : v < 1099511627776
        ·by_cases g3 : q.f ≤ v
         ·by_cases g4 : v < q.t
          ·exact absurd ⟨rfl, g1, g2, g3, g4⟩ hall
          ·clear hall
           obtain ⟨c0, c1, c2, c3, c4, c5, a0, a1, a2, a3, a4⟩ := S.out.cells
           go_wp2_with fail
           refine (HSD.out _ S.out.s.at_).mono ?_
           rintro r w6 ⟨rfl, h6⟩
           clear c0 c1 c2 c3 c4 c5 a0 a1 a2 a3 a4
           replace S := Lib.hid (S.out.below h6)
           clear h6 HSD
           obtain ⟨c0, c1, c2, c3, c4, c5, a0, a1, a2, a3, a4⟩ := S.out.cells
           go_wp2_with fail
           refine (HAL.out _).mono ?_
           rintro r w7 ⟨rfl, h7⟩
           clear c0 c1 c2 c3 c4 c5 a0 a1 a2 a3 a4
           replace S := Lib.hid (S.out.below h7)
           clear h7 HAL
           go_wp2
           go_ret
           exact ⟨rfl, S.out.s.frame⟩
         ·clear hall
          obtain ⟨c0, c1, c2, c3, c4, c5, a0, a1, a2, a3, a4⟩ := S.out.cells
          go_wp2_with fail
          refine (HSD.out _ S.out.s.at_).mono ?_
          rintro r w6 ⟨rfl, h6⟩
          clear c0 c1 c2 c3 c4 c5 a0 a1 a2 a3 a4
          replace S := Lib.hid (S.out.below h6)
          clear h6 HSD
          obtain ⟨c0, c1, c2, c3, c4, c5, a0, a1, a2, a3, a4⟩ := S.out.cells
          go_wp2_with fail
          refine (HAL.out _).mono ?_
          rintro r w7 ⟨rfl, h7⟩
          clear c0 c1 c2 c3 c4 c5 a0 a1 a2 a3 a4
          replace S := Lib.hid (S.out.below h7)
          clear h7 HAL
          go_wp2
          go_ret
          exact ⟨rfl, S.out.s.frame⟩
        ·clear hall
         obtain ⟨c0, c1, c2, c3, c4, c5, a0, a1, a2, a3, a4⟩ := S.out.cells
         go_wp2_with fail
         refine (HSD.out _ S.out.s.at_).mono ?_
         rintro r w6 ⟨rfl, h6⟩
         clear c0 c1 c2 c3 c4 c5 a0 a1 a2 a3 a4
         replace S := Lib.hid (S.out.below h6)
         clear h6 HSD
         obtain ⟨c0, c1, c2, c3, c4, c5, a0, a1, a2, a3, a4⟩ := S.out.cells
         go_wp2_with fail
         refine (HAL.out _).mono ?_
         rintro r w7 ⟨rfl, h7⟩
         clear c0 c1 c2 c3 c4 c5 a0 a1 a2 a3 a4
         replace S := Lib.hid (S.out.below h7)
         clear h7 HAL
         go_wp2
         go_ret
         exact ⟨rfl, S.out.s.frame⟩
       ·clear hall
        obtain ⟨c0, c1, c2, c3, c4, c5, a0, a1, a2, a3, a4⟩ := S.out.cells
        go_wp2_with fail
        refine (HSD.out _ S.out.s.at_).mono ?_
        rintro r w6 ⟨rfl, h6⟩
        clear c0 c1 c2 c3 c4 c5 a0 a1 a2 a3 a4
        replace S := Lib.hid (S.out.below h6)
        clear h6 HSD
        obtain ⟨c0, c1, c2, c3, c4, c5, a0, a1, a2, a3, a4⟩ := S.out.cells
        go_wp2_with fail
        refine (HAL.out _).mono ?_
        rintro r w7 ⟨rfl, h7⟩
        clear c0 c1 c2 c3 c4 c5 a0 a1 a2 a3 a4
        replace S := Lib.hid (S.out.below h7)
        clear h7 HAL
        go_wp2
        go_ret
        exact ⟨rfl, S.out.s.frame⟩
theorem contract (H : Type) (enc : TypeId × Value → H) (W : World) (base : Nat) (args : Array Value) (ds gs : List (DataW H)) (before : List MemPlace)
  (hval : ∀ (j : Nat) t v, Tryz.f13.params[j]? = some t → args[j]? = some v → Value.okWide Tryz.prog W .any base t v)
  (hW : DataW.Whole enc Tryz.prog Tryz.f13.params.toList Rows.gateTimesSpec.vars false W args.toList ds gs before) (hk : Rows.uptoSmall H (ds ++ gs) = true) :
  Calls Tryz.prog 13 args W fun e W' => ∃ v, e = .returned v ∧ Rows.gateTimesSpec.post enc Tryz.prog Tryz.f13 false true false false W args v W' := by
 have hW' := hW
 obtain ⟨p, q, hA0, hV, rfl, hfz, hnd⟩ := hW
 have hA : DataW.TrodAll enc Tryz.prog W 0 (fun _ => true) true Tryz.f13.params.toList args.toList ds p := hA0
 rw [Tryz.params13] at hA hval
 obtain ⟨v0, vs0, d0, ds0, p0, q0, hargs, rfl, rfl, h0, r0⟩ := trodAll_cons hA
 obtain ⟨v1, vs1, d1, ds1, p1, q1, rfl, rfl, rfl, h1, r1⟩ := trodAll_cons r0
 obtain ⟨v2, vs2, d2, ds2, p2, q2, rfl, rfl, rfl, h2, r2⟩ := trodAll_cons r1
 obtain ⟨rfl, rfl, rfl⟩ := trodAll_nil r2
 obtain rfl : args = #[v0, v1, v2] := by cases args; simp_all
 obtain ⟨rfl, rfl⟩ := trodVars_none hV
 have hbk : Rows.uptoBulkAll [d0, d1, d2] ≤ 1048576 := of_decide_eq_true hk
 simp only [Rows.uptoBulkAll] at hbk
 obtain ⟨a0, rfl, s0, z0, b0⟩ := open_state (hval 0 27 v0 rfl rfl) h0
 have u0 : stCnt a0.m + a0.us.length ≤ 1048576 := by omega
 obtain ⟨a1, rfl, w1, x1, y1⟩ := open_ask (hval 1 86 v1 rfl rfl) h1
 obtain ⟨a2, rfl, -, -, w2⟩ := open_int Tryz.underlying3 (hval 2 3 v2 rfl rfl) h2
 refine (walk W a0 s0 z0 u0 a1 w1 x1 y1 a2 w2).mono fun e W' ⟨he, hb⟩ => ?_
 subst he
 exact ⟨_, rfl, law_post rfl hW' (fun ds h => by match ds, h with | [_, _, _], _ => rfl) (by kernel_rfl) (by kernel_rfl) (by kernel_rfl) hb⟩

set_option maxRecDepth 100000 in
theorem lifted (os : Os) (started : os.Started) (H : Type) (enc : TypeId × Value → H) (F : Stop.Interp) :
  ReturnsInHanded {} Tryz.checked os 13 .any ((Rows.OpenSpec.upto Rows.gateTimesSpec).pre6 enc Tryz.prog Tryz.f13 Rows.gateTimesUptoRow.domain false) (((Rows.OpenSpec.upto Rows.gateTimesSpec).at F).post enc Tryz.prog Tryz.f13 false true false false) := by
 refine returnsInHanded_of_cond (C := Tryz.checked) (s := (Rows.OpenSpec.upto Rows.gateTimesSpec)) (k := Rows.uptoSmall) rfl own started (by kernel_rfl) Tryz.func13
  (OpenSpec.witness (enc := enc) (C := Tryz.checked) (s := (Rows.OpenSpec.upto Rows.gateTimesSpec)) (k := Rows.uptoSmall) rfl false ⟨#[], #[.agg #[.int .i64 0, .int .i64 0, .slice none 0 0, .slice none 0 0, .slice none 0 0, .slice none 0 0], .agg #[.string ByteArray.empty, .string ByteArray.empty, .int .i64 0, .int .i64 0, .int .i64 0], .int .i64 0], []⟩ 8 (by kernel_rfl) (by kernel_rfl) (by kernel_rfl)
   (x := ([.agg [.lit (.int .i64 0), .lit (.int .i64 0), .nil, .nil, .nil, .nil], .agg [.lit (.string []), .lit (.string []), .lit (.int .i64 0), .lit (.int .i64 0), .lit (.int .i64 0)], .lit (.int .i64 0)], [], [])) (by kernel_rfl) rfl (by kernel_rfl)) ?_
 intro W base args ds gs before hval hW _ hk _
 exact contract H enc W base args ds gs before hval hW hk

theorem proved : Rows.GateTimesUptoSaid :=
 OpenClaim.holds_of_cond 13 Tryz.f13 rfl rfl rfl rfl rfl rfl rfl ⟨rfl, rfl, rfl, rfl, rfl⟩ rfl rfl rfl rfl rfl (by kernel_rfl) Tryz.func13 closedGateTimes
  (of_decide_eq_true (by kernel_rfl)) (by unfold Func.isWrapper; first | (rw [if_pos (by decide +kernel)]; kernel_rfl) | (rw [if_neg (by decide +kernel)]; exact ⟨rfl, rfl⟩))
  (fun os started H enc _ F => lifted os started H enc F)
end Go.Proofs.YtmfpjapiijgdgaaGreat.gateTimes
