/- Texts of mine, one behind the other, of each what is wanted. -/
import Derived.Test.YtmfpjapiijgdgaaGreatQ00
import Derived.Test.YtmfpjapiijgdgaaGreatShelf
import Derived.Test.YtmfpjapiijgdgaaGreatRows
import Derived.Test.YtmfpjapiijgdgaaGreatQ01
import Derived.Test.YtmfpjapiijgdgaaGreatQ02
import Derived.Test.YtmfpjapiijgdgaaGreatQ05
import Derived.Test.YtmfpjapiijgdgaaGreatQ06
import Derived.Test.YtmfpjapiijgdgaaGreatQ17
import Derived.Test.YtmfpjapiijgdgaaGreatQ20
import Derived.Test.YtmfpjapiijgdgaaGreatQ21
import Derived.Test.YtmfpjapiijgdgaaGreatQ33
import Derived.Test.YtmfpjapiijgdgaaGreatQ36
import Derived.Test.YtmfpjapiijgdgaaGreatQ41
namespace Go.Proofs.YtmfpjapiijgdgaaGreat
open Go.RowKit Go.Proofs
set_option linter.unusedVariables false
set_option maxRecDepth 100000
set_option maxRecDepth 100000
theorem same_five {x y : SaL} : x.m = y.m ↔ x.now = y.now ∧ x.hor = y.hor ∧ umS x.us = umS y.us ∧ x.tb = y.tb ∧ x.op = y.op ∧ x.su = y.su := by
 unfold SaL.m
 constructor
 ·intro h
  injection h with h1 h2 h3 h4 h5 h6
  exact ⟨h1, h2, h4, h6, h3, h5⟩
 ·rintro ⟨h1, h2, h3, h4, h5, h6⟩
  rw [h1, h2, h3, h4, h5, h6]
set_option maxHeartbeats 2000000 in
theorem rsame_any11 (x y : SaL) (w : World) (h : SaAt w x) (k : SaAt w y) (hf : Few x.m 900) (kf : Few y.m 900) :
  Calls Tryz.prog 26 #[saV x, saV y] w (TellsB w (x.m = y.m)) := by
 obtain ⟨HA, HB⟩ := two_states h k 27 27
 have HS := Lib.hid HA
 have HT := Lib.hid HB
 have hun := few_us hf
 have hun2 := few_us kf
 have htn : x.tb.length ≤ 900 := hf.tb
 have htn2 : y.tb.length ≤ 900 := kf.tb
 have HOP := Lib.hid (fun V (h : OpSl V x.oa x.op) (k : OpSl V y.oa y.op) => o_rsame x.oa y.oa x.oc y.oc x.op y.op V h k (Nat.le_trans hf.op (by decide)) (Nat.le_trans kf.op (by decide)))
 have HSU := Lib.hid (fun V (h : EnSl V x.sa x.su) (k : EnSl V y.sa y.su) => e_rsame x.sa y.sa x.sc y.sc x.su y.su V h k (Nat.le_trans hf.su (by decide)) (Nat.le_trans kf.su (by decide)))
 have HST := Lib.hid (fun (i : Nat) (hi : i < x.us.length) (hj : i < y.us.length) V (h : UsAt V x.us[i]) (k : UsAt V y.us[i]) => srefSame_any (x.us[i]).a (y.us[i]).a (x.us[i]).c (y.us[i]).c (x.us[i]).l (y.us[i]).l V h.st k.st (Nat.le_trans h.le h.mx) (Nat.le_trans k.le k.mx))
 have HEQ := Lib.hid (same_five (x := x) (y := y))
 generalize (x.m = y.m) = E at *
 obtain ⟨c0, c1, c2, c3, c4, c5⟩ := HA.cells
 obtain ⟨d0, d1, d2, d3, d4, d5⟩ := HB.cells
 obtain ⟨now, hor, oa, op, oc, ua, us, uc, sa, su, sc, ta, tb, tc⟩ := x
 obtain ⟨now2, hor2, oa2, op2, oc2, ua2, us2, uc2, sa2, su2, sc2, ta2, tb2, tc2⟩ := y
 unfold saV saC at *
 dsimp only at *
 clear h k hf kf HA HB
 by_cases q0 : now = now2
 ·subst q0
  have e0 : (now == now) = true := beq_self_eq_true _
  by_cases q1 : hor = hor2
  ·subst q1
   have e1 : (hor == hor) = true := beq_self_eq_true _
   by_cases q2 : us.length = us2.length
   ·by_cases q3 : tb.length = tb2.length
    ·obtain ⟨n, hn⟩ : ∃ n, n = us2.length := ⟨_, rfl⟩
     obtain ⟨m, hm⟩ : ∃ m, m = tb2.length := ⟨_, rfl⟩
     have HL : Hid (us.length = n) := q2.trans hn.symm
     have HM : Hid (us2.length = n) := hn.symm
     have KL : Hid (tb.length = m) := q3.trans hm.symm
     have KM : Hid (tb2.length = m) := hm.symm
     have hun3 : n ≤ 900 := by omega
     have htn3 : m ≤ 900 := by omega
     rw [HL.out, HM.out, KL.out, KM.out] at HS HT c0 c1 c2 c3 c4 c5 d0 d1 d2 d3 d4 d5 ⊢
     have en : ((n : Int) == (n : Int)) = true := beq_self_eq_true _
     have em : ((m : Int) == (m : Int)) = true := beq_self_eq_true _
     clear q2 q3 hn hm hun hun2 htn htn2
     go_enter Tryz.func26, Tryz.ntmps26
     go_wp2
     go_loopw [5] (fun iv wr => ∃ (j : Nat), j ≤ n ∧ iv = .int .i64 j ∧ Hid ((umS us).take j = (umS us2).take j) ∧ Hid (SB w w.heap.size 27 ⟨now, hor, oa, op, oc, ua, us, uc, sa, su, sc, ta, tb, tc⟩ wr) ∧ Hid (SB w (w.heap.size + 1) 27 ⟨now, hor, oa2, op2, oc2, ua2, us2, uc2, sa2, su2, sc2, ta2, tb2, tc2⟩ wr)) (fun iv _ => n - (intOf iv).toNat)
     case atStart => exact ⟨0, by omega, rfl, (by unfold Hid; rfl), HS.out, HT.out⟩
     case round =>
      clear HS HT c0 c1 c2 c3 c4 c5 d0 d1 d2 d3 d4 d5
      obtain ⟨j, hj, rfl, HTK, HS, HT⟩ := hrel
      by_cases hjn : j < n
      ·have hjl : j < us.length := by have := HL.out; omega
       have hjm : j < us2.length := by have := HM.out; omega
       obtain ⟨b, off, rfl, hb1, r0, r1, ra⟩ := HS.out.at_.us.get hjl
       obtain ⟨b2, off2, rfl, hb2, s0, s1, sa'⟩ := HT.out.at_.us.get hjm
       have HXB : Hid (∀ V, SB w w.heap.size 27 ⟨now, hor, oa, op, oc, (some ⟨b, off, none⟩), us, uc, sa, su, sc, ta, tb, tc⟩ V → SB w (w.heap.size + 1) 27 ⟨now, hor, oa2, op2, oc2, (some ⟨b2, off2, none⟩), us2, uc2, sa2, su2, sc2, ta2, tb2, tc2⟩ V → V.cell? ⟨w.heap.size, 3, none⟩ = some (.slice (some ⟨b, off, none⟩) n uc) ∧ V.cell? ⟨w.heap.size + 1, 3, none⟩ = some (.slice (some ⟨b2, off2, none⟩) n uc2) ∧ V.cell? ⟨b, off + j * 2, none⟩ = some (.string us[j].u) ∧ V.cell? ⟨b, off + j * 2 + 1, none⟩ = some (.slice us[j].a us[j].l.length us[j].c) ∧ V.cell? ⟨b2, off2 + j * 2, none⟩ = some (.string us2[j].u) ∧ V.cell? ⟨b2, off2 + j * 2 + 1, none⟩ = some (.slice us2[j].a us2[j].l.length us2[j].c)) := fun V p q => by
        obtain ⟨b', off', e, -, k0, k1, -⟩ := p.at_.us.get hjl
        cases e
        obtain ⟨b', off', e, -, l0, l1, -⟩ := q.at_.us.get hjm
        cases e
        have p3 := p.cells.2.2.2.1
        have q3 := q.cells.2.2.2.1
        dsimp only at p3 q3
        rw [HL.out] at p3
        rw [HM.out] at q3
        exact ⟨p3, q3, k0, k1, l0, l1⟩
       obtain ⟨c3, d3, -, -, -, -⟩ := HXB.out _ HS.out HT.out
       have HN := Lib.hid (take_same (l := umS us) (m := umS us2) (j := j) (by rw [umS_len]; exact hjl) (by rw [umS_len]; exact hjm) HTK.out)
       have e1 : (umS us)[j]'(by rw [umS_len]; exact hjl) = us[j].m := by simp [umS]
       have e2 : (umS us2)[j]'(by rw [umS_len]; exact hjm) = us2[j].m := by simp [umS]
       have HNE : Hid (us[j].m ≠ us2[j].m → ¬ E) := fun h q => h (by rw [← e1, ← e2]; have := (HEQ.out.1 q).2.2.1; simp only [this])
       have HN2 : Hid (us[j].u = us2[j].u → us[j].l = us2[j].l → (umS us).take (j + 1) = (umS us2).take (j + 1)) := fun h1 h2 => HN.out (by rw [e1, e2]; unfold UsL.m; rw [h1, h2])
       have HNU : Hid (us[j].u ≠ us2[j].u → ¬ E) := fun h => HNE.out (fun e => h (congrArg UsM.u e))
       have HNL : Hid (us[j].l ≠ us2[j].l → ¬ E) := fun h => HNE.out (fun e => h (congrArg UsM.l e))
       have HSJ := Lib.hid (fun V h k => HST.out j hjl hjm V h k)
       have P1 := HS.out.below (Below.refl _ _).drew
       have Q1 := HT.out.below (Below.refl _ _).drew
       have RA := Lib.hid (ra.below (Below.refl _ _).drew)
       have RB := Lib.hid (sa'.below (Below.refl _ _).drew)
       clear HN HNE e1 e2 HTK HST HEQ ra sa' HOP HSU
       generalize us[j] = y at *
       generalize us2[j] = z at *
       by_cases hu : y.u = z.u
       ·by_cases hl : y.l = z.l
        ·have HN3 := Lib.hid (HN2.out hu hl)
         have dl : decide (y.l = z.l) = true := decide_eq_true hl
         have he1 := txt_eq z.u
         clear HN2 HNU HNL hl
         rw [hu] at r0 HXB
         clear hu
         generalize decide (y.l = z.l) = bl at *
         subst dl
         go_wp2_with fail
         go_region_held3 (fun V => V.cell? ⟨w.heap.size, 3, none⟩ = some (.slice (some ⟨b, off, none⟩) n uc) ∧ V.cell? ⟨w.heap.size + 1, 3, none⟩ = some (.slice (some ⟨b2, off2, none⟩) n uc2) ∧ V.cell? ⟨b, off + j * 2, none⟩ = some (.string z.u) ∧ V.cell? ⟨b, off + j * 2 + 1, none⟩ = some (.slice y.a y.l.length y.c) ∧ V.cell? ⟨b2, off2 + j * 2, none⟩ = some (.string z.u) ∧ V.cell? ⟨b2, off2 + j * 2 + 1, none⟩ = some (.slice z.a z.l.length z.c))
          (first | with_reducible exact HXB.out _ P2 Q2 | with_reducible exact HXB.out _ P1 Q1)
          (first | (go_at_call 37; refine (HSJ.out _ RA.out RB.out).mono ?_; rintro e w2 ⟨rfl, h2⟩; have P2 := P1.below h2; have Q2 := Q1.below h2))
         all_goals
          have HP2 := Lib.hid P2
          have HQ2 := Lib.hid Q2
          clear P1 Q1 P2 Q2 HXB HSJ RA RB h2
          go_wp2
          go_roundw
          case rel => exact ⟨j + 1, by omega, by go_num, HN3.out, HP2.out, HQ2.out⟩
          case measure => simp [intOf]; omega
        ·have HF := Lib.hid (HNL.out hl)
         have dl : decide (y.l = z.l) = false := decide_eq_false hl
         have he1 := txt_eq z.u
         clear HN2 HNU HNL hl
         rw [hu] at r0 HXB
         clear hu
         generalize decide (y.l = z.l) = bl at *
         subst dl
         go_wp2_with fail
         go_region_held3 (fun V => V.cell? ⟨w.heap.size, 3, none⟩ = some (.slice (some ⟨b, off, none⟩) n uc) ∧ V.cell? ⟨w.heap.size + 1, 3, none⟩ = some (.slice (some ⟨b2, off2, none⟩) n uc2) ∧ V.cell? ⟨b, off + j * 2, none⟩ = some (.string z.u) ∧ V.cell? ⟨b, off + j * 2 + 1, none⟩ = some (.slice y.a y.l.length y.c) ∧ V.cell? ⟨b2, off2 + j * 2, none⟩ = some (.string z.u) ∧ V.cell? ⟨b2, off2 + j * 2 + 1, none⟩ = some (.slice z.a z.l.length z.c))
          (first | with_reducible exact HXB.out _ P2 Q2 | with_reducible exact HXB.out _ P1 Q1)
          (first | (go_at_call 37; refine (HSJ.out _ RA.out RB.out).mono ?_; rintro e w2 ⟨rfl, h2⟩; have P2 := P1.below h2; have Q2 := Q1.below h2))
         all_goals
          have HP2 := Lib.hid P2.frame
          clear P1 Q1 P2 Q2 HXB HSJ RA RB h2
          go_wp2
          go_ret
          exact ⟨false, rfl, ⟨(fun h => by cases h), fun h => absurd h HF.out⟩, HP2.out⟩
       ·have HF := Lib.hid (HNU.out hu)
        have heq := txt_ne hu
        have HFR := Lib.hid HS.out.frame
        clear HN2 HNU HNL hu P1 Q1 HXB HSJ RA RB HS HT
        go_wp2
        go_quiet (fail)
        go_wp2
        go_ret
        exact ⟨false, rfl, ⟨(fun h => by cases h), fun h => absurd h HF.out⟩, HFR.out.trans ((Drew.below ⟨_, rfl⟩ _).mono HFR.out.size)⟩
      ·obtain rfl : j = n := by omega
       have HU : Hid (umS us = umS us2) := by
        have := HTK.out
        rwa [List.take_of_length_le (by rw [umS_len]; exact Nat.le_of_eq HL.out), List.take_of_length_le (by rw [umS_len]; exact Nat.le_of_eq HM.out)] at this
       obtain ⟨c0, c1, c2, c3, c4, c5⟩ := HS.out.cells
       obtain ⟨d0, d1, d2, d3, d4, d5⟩ := HT.out.cells
       dsimp only at *
       rw [HL.out] at c3
       rw [HM.out] at d3
       clear HTK HST
       go_wp2
       go_loopw [6] (fun iv wr => ∃ (j : Nat), j ≤ m ∧ iv = .int .i64 j ∧ Hid (tb.take j = tb2.take j) ∧ Hid (SB w w.heap.size 27 ⟨now, hor, oa, op, oc, ua, us, uc, sa, su, sc, ta, tb, tc⟩ wr) ∧ Hid (SB w (w.heap.size + 1) 27 ⟨now, hor, oa2, op2, oc2, ua2, us2, uc2, sa2, su2, sc2, ta2, tb2, tc2⟩ wr)) (fun iv _ => m - (intOf iv).toNat)
       case atStart => exact ⟨0, by omega, rfl, (by unfold Hid; rfl), HS.out, HT.out⟩
       case round =>
        clear HS HT c0 c1 c2 c3 c4 c5 d0 d1 d2 d3 d4 d5
        obtain ⟨i, hi, rfl, HTK, HS, HT⟩ := hrel
        obtain ⟨c0, c1, c2, c3, c4, c5⟩ := HS.out.cells
        obtain ⟨d0, d1, d2, d3, d4, d5⟩ := HT.out.cells
        dsimp only at *
        rw [KL.out] at c5
        rw [KM.out] at d5
        by_cases him : i < m
        ·have hil : i < tb.length := by have := KL.out; omega
         have hil2 : i < tb2.length := by have := KM.out; omega
         obtain ⟨b, off, rfl, hb1, r0, r1⟩ := HS.out.at_.tb.get hil
         obtain ⟨b2, off2, rfl, hb2, s0, s1⟩ := HT.out.at_.tb.get hil2
         have HN := Lib.hid (take_same hil hil2 HTK.out)
         have HNE : Hid (tb[i] ≠ tb2[i] → ¬ E) := fun h q => h (by have := (HEQ.out.1 q).2.2.2.1; simp only [this])
         clear HTK HEQ HOP HSU HU
         generalize tb[i] = y at *
         generalize tb2[i] = z at *
         obtain ⟨t1, f1⟩ := y
         obtain ⟨t2, f2⟩ := z
         dsimp only at *
         by_cases h1 : t1 = t2
         ·subst h1
          have he1 := txt_eq t1
          by_cases h0 : f1 = f2
          ·subst h0
           have he0 : (f1 == f1) = true := beq_self_eq_true _
           have HN2 := Lib.hid (HN.out rfl)
           clear HN HNE
           go_wp2
           go_quiet (fail)
           go_wp2
           go_roundw
           case rel => exact ⟨i + 1, by omega, by go_num, HN2.out, HS.out.below (Drew.below ⟨_, rfl⟩ _), HT.out.below (Drew.below ⟨_, rfl⟩ _)⟩
           case measure => simp [intOf]; omega
          ·have HF := Lib.hid (HNE.out (fun e => h0 (congrArg TbM.a e)))
           have heq : (f1 == f2) = false := beq_eq_false_iff_ne.2 h0
           have HFR := Lib.hid HS.out.frame
           clear HN HNE HS HT
           go_wp2
           go_quiet (fail)
           go_wp2
           go_ret
           exact ⟨false, rfl, ⟨(fun h => by cases h), fun h => absurd h HF.out⟩, HFR.out.trans ((Drew.below ⟨_, rfl⟩ _).mono HFR.out.size)⟩
         ·have HF := Lib.hid (HNE.out (fun e => h1 (congrArg TbM.u e)))
          have heq := txt_ne h1
          have HFR := Lib.hid HS.out.frame
          clear HN HNE HS HT
          go_wp2
          go_quiet (fail)
          go_wp2
          go_ret
          exact ⟨false, rfl, ⟨(fun h => by cases h), fun h => absurd h HF.out⟩, HFR.out.trans ((Drew.below ⟨_, rfl⟩ _).mono HFR.out.size)⟩
        ·obtain rfl : i = m := by omega
         have HV : Hid (tb = tb2) := by
          have := HTK.out
          rwa [List.take_of_length_le (Nat.le_of_eq KL.out), List.take_of_length_le (Nat.le_of_eq KM.out)] at this
         have HE2 : Hid (E ↔ op = op2 ∧ su = su2) := ⟨fun h => (HEQ.out.1 h).2.2.2.2, fun h => HEQ.out.2 ⟨(by trivial), (by trivial), HU.out, HV.out, h.1, h.2⟩⟩
         clear HTK HEQ HU HV
         go_wp2_with fail
         refine (HOP.out _ HS.out.at_.op HT.out.at_.op).mono ?_
         rintro e w2 ⟨rfl, h2⟩
         have HS2 := Lib.hid (HS.out.below h2)
         have HT2 := Lib.hid (HT.out.below h2)
         clear c0 c1 c2 c3 c4 c5 d0 d1 d2 d3 d4 d5 h2 HS HT HOP
         obtain ⟨c0, c1, c2, c3, c4, c5⟩ := HS2.out.cells
         obtain ⟨d0, d1, d2, d3, d4, d5⟩ := HT2.out.cells
         dsimp only at *
         by_cases hop : op = op2
         ·have dop : decide (op = op2) = true := decide_eq_true hop
          have HE3 : Hid (E ↔ su = su2) := ⟨fun h => (HE2.out.1 h).2, fun h => HE2.out.2 ⟨hop, h⟩⟩
          clear hop HE2
          generalize decide (op = op2) = bo at *
          subst dop
          go_wp2_with fail
          refine (HSU.out _ HS2.out.at_.su HT2.out.at_.su).mono ?_
          rintro e w3 ⟨rfl, h3⟩
          have HFR := Lib.hid (HS2.out.below h3).frame
          clear c0 c1 c2 c3 c4 c5 d0 d1 d2 d3 d4 d5 h3 HS2 HT2 HSU
          go_wp2
          go_ret
          exact ⟨_, rfl, by rw [decide_eq_true_iff]; exact HE3.out.symm, HFR.out⟩
         ·have dop : decide (op = op2) = false := decide_eq_false hop
          have HF : Hid (¬ E) := fun h => hop (HE2.out.1 h).1
          have HFR := Lib.hid HS2.out.frame
          clear hop HE2 HS2 HT2 HSU
          generalize decide (op = op2) = bo at *
          subst dop
          go_wp2
          go_ret
          exact ⟨false, rfl, ⟨(fun h => by cases h), fun h => absurd h HF.out⟩, HFR.out⟩
    ·have HF : Hid (¬ E) := fun h => q3 (by rw [(HEQ.out.1 h).2.2.2.1])
     have e2 : ((us.length : Int) == (us2.length : Int)) = true := by rw [q2]; exact beq_self_eq_true _
     have e3 : ((tb.length : Int) == (tb2.length : Int)) = false := beq_eq_false_iff_ne.2 (by omega)
     have HFR := Lib.hid HS.out.frame
     have e3b : ((tb.length : Int) != (tb2.length : Int)) = true := by rw [bne, e3]; rfl
     rw [q2] at c0 c1 c2 c3 c4 c5 d0 d1 d2 d3 d4 d5 e2 HFR ⊢
     clear HEQ HST HSU HOP HS HT q3
     go_enter Tryz.func26, Tryz.ntmps26
     go_wp2
     go_ret
     exact ⟨false, rfl, ⟨(fun h => by cases h), fun h => absurd h HF.out⟩, HFR.out⟩
   ·have HF : Hid (¬ E) := fun h => q2 (by rw [← umS_len us, ← umS_len us2, (HEQ.out.1 h).2.2.1])
    have e2 : ((us.length : Int) == (us2.length : Int)) = false := beq_eq_false_iff_ne.2 (by omega)
    have e2b : ((us.length : Int) != (us2.length : Int)) = true := by rw [bne, e2]; rfl
    have HFR := Lib.hid HS.out.frame
    clear HEQ HST HSU HOP HS HT q2
    go_enter Tryz.func26, Tryz.ntmps26
    go_wp2
    go_ret
    exact ⟨false, rfl, ⟨(fun h => by cases h), fun h => absurd h HF.out⟩, HFR.out⟩
  ·have HF : Hid (¬ E) := fun h => q1 (HEQ.out.1 h).2.1
   have e1 : (hor == hor2) = false := beq_eq_false_iff_ne.2 q1
   have e1b : (hor != hor2) = true := by rw [bne, e1]; rfl
   have HFR := Lib.hid HS.out.frame
   clear HEQ HST HSU HOP HS HT q1
   go_enter Tryz.func26, Tryz.ntmps26
   go_wp2
   go_ret
   exact ⟨false, rfl, ⟨(fun h => by cases h), fun h => absurd h HF.out⟩, HFR.out⟩
 ·have HF : Hid (¬ E) := fun h => q0 (HEQ.out.1 h).1
  have e0 : (now == now2) = false := beq_eq_false_iff_ne.2 q0
  have e0b : (now != now2) = true := by rw [bne, e0]; rfl
  have HFR := Lib.hid HS.out.frame
  clear HEQ HST HSU HOP HS HT q0
  go_enter Tryz.func26, Tryz.ntmps26
  go_wp2
  go_ret
  exact ⟨false, rfl, ⟨(fun h => by cases h), fun h => absurd h HF.out⟩, HFR.out⟩
end Go.Proofs.YtmfpjapiijgdgaaGreat
