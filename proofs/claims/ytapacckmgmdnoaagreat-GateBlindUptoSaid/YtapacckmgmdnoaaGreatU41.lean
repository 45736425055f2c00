/- Texts of mine, one behind the other, of each what is wanted. -/
import Derived.Test.YtapacckmgmdnoaaGreatU00
import Derived.Test.YtapacckmgmdnoaaGreatShelf
import Derived.Test.YtapacckmgmdnoaaGreatU01
import Derived.Test.YtapacckmgmdnoaaGreatU02
import Derived.Test.YtapacckmgmdnoaaGreatU04
import Derived.Test.YtapacckmgmdnoaaGreatU06
import Derived.Test.YtapacckmgmdnoaaGreatU11
import Derived.Test.YtapacckmgmdnoaaGreatU15
import Derived.Test.YtapacckmgmdnoaaGreatTQ
namespace Go.Proofs.YtapacckmgmdnoaaGreat
open Go.RowKit Go.Proofs
set_option linter.unusedVariables false
set_option maxRecDepth 100000
set_option maxRecDepth 100000
theorem RiseN.zero {α : Type} (key : α → ByteArray) (l : List α) : RiseN key l 0 := fun k h hk => absurd hk (by omega)
theorem RiseN.next {α : Type} {key : α → ByteArray} {l : List α} {j : Nat} (h : RiseN key l j) (hj : j < l.length) (h1 : nameB (key l[j]) = true) (h2 : 0 < j → cmpS (key (l[j - 1]'(by omega))) (key l[j]) < 0) : RiseN key l (j + 1) := fun k hk hkj => by
 rcases Nat.lt_or_ge k j with h3 | h3
 ·exact h k hk h3
 ·obtain rfl : k = j := by omega
  exact ⟨h1, h2⟩
set_option maxHeartbeats 8000000 in
theorem rising_us (a : Option Addr) (c : Nat) (l : List UsL) (w : World) (hr : UsSl w a l) (hs : ∀ x ∈ l, (UsL.u x).size ≤ maxLen) (hl : l.length ≤ 100000) :
  Calls Tryz.prog 116 #[.slice a l.length c, .func (.func 117) #[] #[]] w fun r w' => r = .returned (.bool (decide (riseNB UsL.u l))) ∧ Below w.heap.size w w' := by
 have HR := Lib.hid hr
 have HSZ := Lib.hid hs
 have HU := Lib.hid userName_any
 clear hr hs
 go_enter Tryz.func116, Tryz.ntmps116
 go_wp2
 go_loopw [9] (fun i wr => ∃ (j : Nat), j ≤ l.length ∧ i = .int .i64 j ∧ Hid (RiseN UsL.u l j) ∧ Hid (Below w.heap.size w wr)) (fun i _ => l.length - (intOf i).toNat)
 case atStart => exact ⟨0, by omega, rfl, RiseN.zero _ _, Below.refl _ _⟩
 case round =>
  obtain ⟨j, hj, rfl, HO, HB⟩ := hrel
  by_cases hjl : j < l.length
  ·have HRB := Lib.hid (HR.out.below HB.out)
   obtain ⟨b, off, rfl, hbl, hc0, hc1, -⟩ := HRB.out.get hjl
   have hb1 := below_one wr (.cells #[.string l[j].u, .slice l[j].a l[j].l.length l[j].c] 108)
   have HBF := Lib.hid (HB.out.trans (hb1.mono HB.out.size))
   have HXB : Hid (∀ V, Below (wr.alloc (.cells #[.string l[j].u, .slice l[j].a l[j].l.length l[j].c] 108)).heap.size (wr.alloc (.cells #[.string l[j].u, .slice l[j].a l[j].l.length l[j].c] 108)) V → V.cell? ⟨wr.heap.size, 0, none⟩ = some (.string l[j].u) ∧ V.cell? ⟨wr.heap.size, 1, none⟩ = some (.slice l[j].a l[j].l.length l[j].c)) := fun V q => pcell2 ((q.block _ (by rw [size1]; omega)).trans (heap_alloc_new wr _))
   have HNR := Lib.hid (fun V => right_any (UsL.u l[j]) V (HSZ.out _ (List.getElem_mem hjl)))
   have HEN : Hid (isName (UsL.u l[j]).data.toList = nameB (UsL.u l[j])) := rfl
   rw [HEN.out] at HNR
   have HNX := Lib.hid (fun h1 h2 => HO.out.next hjl h1 h2)
   have HNO : Hid (∀ (h : nameB (UsL.u l[j]) = false), ¬ riseNB UsL.u l) := fun h q => by have := (q j hjl hjl).1; rw [h] at this; cases this
   have Q1 : Below (wr.alloc (.cells #[.string l[j].u, .slice l[j].a l[j].l.length l[j].c] 108)).heap.size (wr.alloc (.cells #[.string l[j].u, .slice l[j].a l[j].l.length l[j].c] 108)) (wr.alloc (.cells #[.string l[j].u, .slice l[j].a l[j].l.length l[j].c] 108)).drew := (Below.refl _ _).drew
   cases hn : nameB (UsL.u l[j]) with
   | false =>
    rw [hn] at HNR
    have HE := Lib.hid (HNO.out hn)
    clear HNX HNO HEN hn hb1 HRB
    generalize l[j] = y at *
    go_wp2_with fail
    refine wp_region_held_drew (S := (fun V => V.cell? ⟨wr.heap.size, 0, none⟩ = some (.string y.u) ∧ V.cell? ⟨wr.heap.size, 1, none⟩ = some (.slice y.a y.l.length y.c))) (by kernel_rfl) ?_ (fun hHeld => ?_)
    ·exact HXB.out _ Q1
    refine tV 0 14 ?_
    refine tV 1 15 ?_
    refine wpAnyH_ready (rs := [2]) (by kernel_rfl) (by simp) ?_
    refine AllReadyH.cons (o := ⟨some 16, _, _, _, _, _⟩) rfl (fun K hK => ?_) AllReadyH.nil
    go_simp
    refine (HU.out _ _ _ _ _).mono ?_
    rintro e w2 ⟨rfl, h2⟩
    have Q2 := Q1.trans (h2.mono Q1.size)
    go_wp2_with fail
    refine hK.out _ _ ?_ (fun hH2 => ?_)
    ·exact HXB.out _ Q2
    clear hK K
    (try simp only [Act.put, List.setIfInBounds_toArray, List.set_cons_zero, List.set_cons_succ])
    refine wpAnyH_ready (rs := [3]) (by kernel_rfl) (by simp) ?_
    refine AllReadyH.cons (o := ⟨some 17, _, _, _, _, _⟩) rfl (fun K hK => ?_) AllReadyH.nil
    go_simp
    refine (HNR.out _).mono ?_
    rintro e w3 ⟨rfl, rfl⟩
    go_wp2_with fail
    refine hK.out _ _ ?_ (fun hH3 => ?_)
    ·exact HXB.out _ Q2
    clear hK K
    (try simp only [Act.put, List.setIfInBounds_toArray, List.set_cons_zero, List.set_cons_succ])
    refine tV 4 18 ?_
    refine tV 5 19 ?_
    refine tU 6 20 ?_
    refine tU 7 21 ?_
    refine tU 8 22 ?_
    refine tU 9 23 ?_
    refine tU 10 24 ?_
    refine tU 11 25 ?_
    refine tU 12 26 ?_
    refine tU 13 27 ?_
    refine tU 14 28 ?_
    refine tU 15 29 ?_
    refine tU 16 30 ?_
    refine tU 17 31 ?_
    refine tU 18 32 ?_
    refine tU 19 33 ?_
    refine tU 20 34 ?_
    refine tU 21 35 ?_
    refine tV 22 36 ?_
    refine wpAnyH_done (by kernel_rfl) ?_ _
    all_goals
     go_wp2
     go_ret
     exact ⟨retB (decide_eq_false HE.out).symm, HBF.out.trans (Q2.mono HBF.out.size)⟩
   | true =>
    rw [hn] at HNR
    by_cases hj0 : 0 < j
    ·obtain ⟨i, hi⟩ : ∃ i, i + 1 = j := ⟨j - 1, by omega⟩
     have hil : i < l.length := by omega
     obtain ⟨b', off', e1, -, hp0, hp1, -⟩ := HRB.out.get hil
     cases e1
     have HPB : Hid (∀ V, Below (wr.alloc (.cells #[.string l[j].u, .slice l[j].a l[j].l.length l[j].c] 108)).heap.size (wr.alloc (.cells #[.string l[j].u, .slice l[j].a l[j].l.length l[j].c] 108)) V → V.cell? ⟨b, off + i * 2, none⟩ = some (.string l[i].u) ∧ V.cell? ⟨b, off + i * 2 + 1, none⟩ = some (.slice l[i].a l[i].l.length l[i].c)) := fun V q => by
      have q2 := hb1.trans (q.mono hb1.size)
      exact ⟨(q2.cell (p := ⟨b, off + i * 2, none⟩) hbl).trans hp0, (q2.cell (p := ⟨b, off + i * 2 + 1, none⟩) hbl).trans hp1⟩
     have HSC := Lib.hid (fun V q => And.intro (HXB.out V q).1 (And.intro (HXB.out V q).2 (HPB.out V q)))
     have hpj : IntKind.i64.wrap ((j : Int) - 1) = (i : Int) := by rw [IntWalk.i64_in] <;> omega
     have hdj : decide ((0 : Int) < (j : Int)) = true := decide_eq_true (by omega)
     have hdj2 : decide (0 < j) = true := decide_eq_true hj0
     have hiI : (i : Int) < (l.length : Int) := by omega
     have hi0 : (0 : Int) ≤ (i : Int) := by omega
     have HC := Lib.hid (fun V => cmp_any (UsL.u l[j]) (UsL.u l[i]) V)
     have HEC : Hid (Lib.compareBytes (UsL.u l[j]).data.toList (UsL.u l[i]).data.toList = cmpS (UsL.u l[j]) (UsL.u l[i])) := rfl
     rw [HEC.out] at HC
     have HY2 : Hid (0 < cmpS (UsL.u l[j]) (UsL.u l[i]) → RiseN UsL.u l (j + 1)) := fun h => HNX.out hn fun _ => by
      have e : l[j - 1] = l[i] := by congr 1; omega
      rw [e, cmpS_neg]
      omega
     have HN2 : Hid (¬ 0 < cmpS (UsL.u l[j]) (UsL.u l[i]) → ¬ riseNB UsL.u l) := fun h q => by
      have h3 := (q j hjl hjl).2 hj0
      have e : l[j - 1] = l[i] := by congr 1; omega
      rw [e, cmpS_neg] at h3
      omega
     clear HNX HNO HEN HEC hn hb1 HXB HPB hp0 hp1 HRB hi hj0
     generalize l[j] = y at *
     generalize l[i] = z at *
     generalize cmpS (UsL.u y) (UsL.u z) = q at *
     by_cases hq : 0 < q
     ·have HN := Lib.hid (HY2.out hq)
      have dq : decide (q ≤ 0) = false := decide_eq_false (by omega)
      clear HY2 HN2 hq
      go_wp2_with fail
      go_region_held3 (fun V => V.cell? ⟨wr.heap.size, 0, none⟩ = some (.string y.u) ∧ V.cell? ⟨wr.heap.size, 1, none⟩ = some (.slice y.a y.l.length y.c) ∧ V.cell? ⟨b, off + i * 2, none⟩ = some (.string z.u) ∧ V.cell? ⟨b, off + i * 2 + 1, none⟩ = some (.slice z.a z.l.length z.c))
       (first | with_reducible exact HSC.out _ Q4 | with_reducible exact HSC.out _ Q3 | with_reducible exact HSC.out _ Q2 | with_reducible exact HSC.out _ Q1)
       (first | (have hseen := Q4; clear hseen; go_at_call 174; refine (HC.out _).mono ?_; rintro e w7 ⟨rfl, rfl⟩) | (have hseen := Q3; clear hseen; go_at_call 117; refine (HU.out _ _ _ _ _).mono ?_; rintro e w6 ⟨rfl, h6⟩; have Q4 := Q3.trans (h6.mono Q3.size)) | (have hseen := Q2; clear hseen; go_at_call 117; refine (HU.out _ _ _ _ _).mono ?_; rintro e w5 ⟨rfl, h5⟩; have Q3 := Q2.trans (h5.mono Q2.size)) | (have hseen := Q2; clear hseen; go_at_call 173; refine (HNR.out _).mono ?_; rintro e w4 ⟨rfl, rfl⟩) | (have hseen := Q1; clear hseen; go_at_call 117; refine (HU.out _ _ _ _ _).mono ?_; rintro e w2 ⟨rfl, h2⟩; have Q2 := Q1.trans (h2.mono Q1.size)))
      all_goals
       go_wp2
       go_roundw
       case rel => exact ⟨j + 1, by omega, by go_num, HN, HBF.out.trans (Q4.mono HBF.out.size)⟩
       case measure => simp [intOf]; omega
     ·have HE := Lib.hid (HN2.out hq)
      have dq : decide (q ≤ 0) = true := decide_eq_true (by omega)
      clear HY2 HN2 hq
      go_wp2_with fail
      go_region_held3 (fun V => V.cell? ⟨wr.heap.size, 0, none⟩ = some (.string y.u) ∧ V.cell? ⟨wr.heap.size, 1, none⟩ = some (.slice y.a y.l.length y.c) ∧ V.cell? ⟨b, off + i * 2, none⟩ = some (.string z.u) ∧ V.cell? ⟨b, off + i * 2 + 1, none⟩ = some (.slice z.a z.l.length z.c))
       (first | with_reducible exact HSC.out _ Q4 | with_reducible exact HSC.out _ Q3 | with_reducible exact HSC.out _ Q2 | with_reducible exact HSC.out _ Q1)
       (first | (have hseen := Q4; clear hseen; go_at_call 174; refine (HC.out _).mono ?_; rintro e w7 ⟨rfl, rfl⟩) | (have hseen := Q3; clear hseen; go_at_call 117; refine (HU.out _ _ _ _ _).mono ?_; rintro e w6 ⟨rfl, h6⟩; have Q4 := Q3.trans (h6.mono Q3.size)) | (have hseen := Q2; clear hseen; go_at_call 117; refine (HU.out _ _ _ _ _).mono ?_; rintro e w5 ⟨rfl, h5⟩; have Q3 := Q2.trans (h5.mono Q2.size)) | (have hseen := Q2; clear hseen; go_at_call 173; refine (HNR.out _).mono ?_; rintro e w4 ⟨rfl, rfl⟩) | (have hseen := Q1; clear hseen; go_at_call 117; refine (HU.out _ _ _ _ _).mono ?_; rintro e w2 ⟨rfl, h2⟩; have Q2 := Q1.trans (h2.mono Q1.size)))
      all_goals
       go_wp2
       go_ret
       exact ⟨retB (decide_eq_false HE.out).symm, HBF.out.trans (Q4.mono HBF.out.size)⟩
    ·have HN := Lib.hid (HNX.out hn (fun h => absurd h hj0))
     have hdj : decide ((0 : Int) < (j : Int)) = false := decide_eq_false (by omega)
     have hdj2 : decide (0 < j) = false := decide_eq_false hj0
     clear HNX HNO HEN hn hb1 HRB
     generalize l[j] = y at *
     go_wp2_with fail
     refine wp_region_held_drew (S := (fun V => V.cell? ⟨wr.heap.size, 0, none⟩ = some (.string y.u) ∧ V.cell? ⟨wr.heap.size, 1, none⟩ = some (.slice y.a y.l.length y.c))) (by kernel_rfl) ?_ (fun hHeld => ?_)
     ·exact HXB.out _ Q1
     refine tV 0 14 ?_
     refine tV 1 15 ?_
     refine wpAnyH_ready (rs := [2]) (by kernel_rfl) (by simp) ?_
     refine AllReadyH.cons (o := ⟨some 16, _, _, _, _, _⟩) rfl (fun K hK => ?_) AllReadyH.nil
     go_simp
     refine (HU.out _ _ _ _ _).mono ?_
     rintro e w2 ⟨rfl, h2⟩
     have Q2 := Q1.trans (h2.mono Q1.size)
     go_wp2_with fail
     refine hK.out _ _ ?_ (fun hH2 => ?_)
     ·exact HXB.out _ Q2
     clear hK K
     (try simp only [Act.put, List.setIfInBounds_toArray, List.set_cons_zero, List.set_cons_succ])
     refine wpAnyH_ready (rs := [3]) (by kernel_rfl) (by simp) ?_
     refine AllReadyH.cons (o := ⟨some 17, _, _, _, _, _⟩) rfl (fun K hK => ?_) AllReadyH.nil
     go_simp
     refine (HNR.out _).mono ?_
     rintro e w3 ⟨rfl, rfl⟩
     go_wp2_with fail
     refine hK.out _ _ ?_ (fun hH3 => ?_)
     ·exact HXB.out _ Q2
     clear hK K
     (try simp only [Act.put, List.setIfInBounds_toArray, List.set_cons_zero, List.set_cons_succ])
     refine tV 4 18 ?_
     refine tV 5 19 ?_
     refine tV 6 20 ?_
     refine tV 7 21 ?_
     refine tV 8 22 ?_
     refine tU 9 23 ?_
     refine tU 10 24 ?_
     refine tU 11 25 ?_
     refine tU 12 26 ?_
     refine tU 13 27 ?_
     refine tU 14 28 ?_
     refine tU 15 29 ?_
     refine tU 16 30 ?_
     refine tU 17 31 ?_
     refine tU 18 32 ?_
     refine tU 19 33 ?_
     refine tU 20 34 ?_
     refine tV 21 35 ?_
     refine tV 22 36 ?_
     refine wpAnyH_done (by kernel_rfl) ?_ _
     all_goals
      go_wp2
      go_roundw
      case rel => exact ⟨j + 1, by omega, by go_num, HN, HBF.out.trans (Q2.mono HBF.out.size)⟩
      case measure => simp [intOf]; omega
  ·have HE : Hid (riseNB UsL.u l) := by
    have hj2 : j = l.length := by omega
    have := HO.out
    rw [hj2] at this
    exact this
   have hlt : ¬ (j : Int) < (l.length : Int) := by omega
   go_wp2
   go_ret
   exact ⟨retB (decide_eq_true HE.out).symm, HB.out⟩
set_option maxHeartbeats 8000000 in
theorem rising_tb (a : Option Addr) (c : Nat) (l : List TbM) (w : World) (hr : TbSl w a l) (hs : ∀ x ∈ l, (TbM.u x).size ≤ maxLen) (hl : l.length ≤ 100000) :
  Calls Tryz.prog 125 #[.slice a l.length c, .func (.func 126) #[] #[]] w fun r w' => r = .returned (.bool (decide (riseNB TbM.u l))) ∧ Below w.heap.size w w' := by
 have HR := Lib.hid hr
 have HSZ := Lib.hid hs
 have HU := Lib.hid tombName_any
 clear hr hs
 go_enter Tryz.func125, Tryz.ntmps125
 go_wp2
 go_loopw [9] (fun i wr => ∃ (j : Nat), j ≤ l.length ∧ i = .int .i64 j ∧ Hid (RiseN TbM.u l j) ∧ Hid (Below w.heap.size w wr)) (fun i _ => l.length - (intOf i).toNat)
 case atStart => exact ⟨0, by omega, rfl, RiseN.zero _ _, Below.refl _ _⟩
 case round =>
  obtain ⟨j, hj, rfl, HO, HB⟩ := hrel
  by_cases hjl : j < l.length
  ·have HRB := Lib.hid (HR.out.below HB.out)
   obtain ⟨b, off, rfl, hbl, hc0, hc1⟩ := HRB.out.get hjl
   have hb1 := below_one wr (.cells #[.string l[j].u, .int .i64 l[j].a] 141)
   have HBF := Lib.hid (HB.out.trans (hb1.mono HB.out.size))
   have HXB : Hid (∀ V, Below (wr.alloc (.cells #[.string l[j].u, .int .i64 l[j].a] 141)).heap.size (wr.alloc (.cells #[.string l[j].u, .int .i64 l[j].a] 141)) V → V.cell? ⟨wr.heap.size, 0, none⟩ = some (.string l[j].u) ∧ V.cell? ⟨wr.heap.size, 1, none⟩ = some (.int .i64 l[j].a)) := fun V q => pcell2 ((q.block _ (by rw [size1]; omega)).trans (heap_alloc_new wr _))
   have HNR := Lib.hid (fun V => right_any (TbM.u l[j]) V (HSZ.out _ (List.getElem_mem hjl)))
   have HEN : Hid (isName (TbM.u l[j]).data.toList = nameB (TbM.u l[j])) := rfl
   rw [HEN.out] at HNR
   have HNX := Lib.hid (fun h1 h2 => HO.out.next hjl h1 h2)
   have HNO : Hid (∀ (h : nameB (TbM.u l[j]) = false), ¬ riseNB TbM.u l) := fun h q => by have := (q j hjl hjl).1; rw [h] at this; cases this
   have Q1 : Below (wr.alloc (.cells #[.string l[j].u, .int .i64 l[j].a] 141)).heap.size (wr.alloc (.cells #[.string l[j].u, .int .i64 l[j].a] 141)) (wr.alloc (.cells #[.string l[j].u, .int .i64 l[j].a] 141)).drew := (Below.refl _ _).drew
   cases hn : nameB (TbM.u l[j]) with
   | false =>
    rw [hn] at HNR
    have HE := Lib.hid (HNO.out hn)
    clear HNX HNO HEN hn hb1 HRB
    generalize l[j] = y at *
    go_wp2_with fail
    refine wp_region_held_drew (S := (fun V => V.cell? ⟨wr.heap.size, 0, none⟩ = some (.string y.u) ∧ V.cell? ⟨wr.heap.size, 1, none⟩ = some (.int .i64 y.a))) (by kernel_rfl) ?_ (fun hHeld => ?_)
    ·exact HXB.out _ Q1
    refine tV 0 14 ?_
    refine tV 1 15 ?_
    refine wpAnyH_ready (rs := [2]) (by kernel_rfl) (by simp) ?_
    refine AllReadyH.cons (o := ⟨some 16, _, _, _, _, _⟩) rfl (fun K hK => ?_) AllReadyH.nil
    go_simp
    refine (HU.out _ _ _).mono ?_
    rintro e w2 ⟨rfl, h2⟩
    have Q2 := Q1.trans (h2.mono Q1.size)
    go_wp2_with fail
    refine hK.out _ _ ?_ (fun hH2 => ?_)
    ·exact HXB.out _ Q2
    clear hK K
    (try simp only [Act.put, List.setIfInBounds_toArray, List.set_cons_zero, List.set_cons_succ])
    refine wpAnyH_ready (rs := [3]) (by kernel_rfl) (by simp) ?_
    refine AllReadyH.cons (o := ⟨some 17, _, _, _, _, _⟩) rfl (fun K hK => ?_) AllReadyH.nil
    go_simp
    refine (HNR.out _).mono ?_
    rintro e w3 ⟨rfl, rfl⟩
    go_wp2_with fail
    refine hK.out _ _ ?_ (fun hH3 => ?_)
    ·exact HXB.out _ Q2
    clear hK K
    (try simp only [Act.put, List.setIfInBounds_toArray, List.set_cons_zero, List.set_cons_succ])
    refine tV 4 18 ?_
    refine tV 5 19 ?_
    refine tU 6 20 ?_
    refine tU 7 21 ?_
    refine tU 8 22 ?_
    refine tU 9 23 ?_
    refine tU 10 24 ?_
    refine tU 11 25 ?_
    refine tU 12 26 ?_
    refine tU 13 27 ?_
    refine tU 14 28 ?_
    refine tU 15 29 ?_
    refine tU 16 30 ?_
    refine tU 17 31 ?_
    refine tU 18 32 ?_
    refine tU 19 33 ?_
    refine tU 20 34 ?_
    refine tU 21 35 ?_
    refine tV 22 36 ?_
    refine wpAnyH_done (by kernel_rfl) ?_ _
    all_goals
     go_wp2
     go_ret
     exact ⟨retB (decide_eq_false HE.out).symm, HBF.out.trans (Q2.mono HBF.out.size)⟩
   | true =>
    rw [hn] at HNR
    by_cases hj0 : 0 < j
    ·obtain ⟨i, hi⟩ : ∃ i, i + 1 = j := ⟨j - 1, by omega⟩
     have hil : i < l.length := by omega
     obtain ⟨b', off', e1, -, hp0, hp1⟩ := HRB.out.get hil
     cases e1
     have HPB : Hid (∀ V, Below (wr.alloc (.cells #[.string l[j].u, .int .i64 l[j].a] 141)).heap.size (wr.alloc (.cells #[.string l[j].u, .int .i64 l[j].a] 141)) V → V.cell? ⟨b, off + i * 2, none⟩ = some (.string l[i].u) ∧ V.cell? ⟨b, off + i * 2 + 1, none⟩ = some (.int .i64 l[i].a)) := fun V q => by
      have q2 := hb1.trans (q.mono hb1.size)
      exact ⟨(q2.cell (p := ⟨b, off + i * 2, none⟩) hbl).trans hp0, (q2.cell (p := ⟨b, off + i * 2 + 1, none⟩) hbl).trans hp1⟩
     have HSC := Lib.hid (fun V q => And.intro (HXB.out V q).1 (And.intro (HXB.out V q).2 (HPB.out V q)))
     have hpj : IntKind.i64.wrap ((j : Int) - 1) = (i : Int) := by rw [IntWalk.i64_in] <;> omega
     have hdj : decide ((0 : Int) < (j : Int)) = true := decide_eq_true (by omega)
     have hdj2 : decide (0 < j) = true := decide_eq_true hj0
     have hiI : (i : Int) < (l.length : Int) := by omega
     have hi0 : (0 : Int) ≤ (i : Int) := by omega
     have HC := Lib.hid (fun V => cmp_any (TbM.u l[j]) (TbM.u l[i]) V)
     have HEC : Hid (Lib.compareBytes (TbM.u l[j]).data.toList (TbM.u l[i]).data.toList = cmpS (TbM.u l[j]) (TbM.u l[i])) := rfl
     rw [HEC.out] at HC
     have HY2 : Hid (0 < cmpS (TbM.u l[j]) (TbM.u l[i]) → RiseN TbM.u l (j + 1)) := fun h => HNX.out hn fun _ => by
      have e : l[j - 1] = l[i] := by congr 1; omega
      rw [e, cmpS_neg]
      omega
     have HN2 : Hid (¬ 0 < cmpS (TbM.u l[j]) (TbM.u l[i]) → ¬ riseNB TbM.u l) := fun h q => by
      have h3 := (q j hjl hjl).2 hj0
      have e : l[j - 1] = l[i] := by congr 1; omega
      rw [e, cmpS_neg] at h3
      omega
     clear HNX HNO HEN HEC hn hb1 HXB HPB hp0 hp1 HRB hi hj0
     generalize l[j] = y at *
     generalize l[i] = z at *
     generalize cmpS (TbM.u y) (TbM.u z) = q at *
     by_cases hq : 0 < q
     ·have HN := Lib.hid (HY2.out hq)
      have dq : decide (q ≤ 0) = false := decide_eq_false (by omega)
      clear HY2 HN2 hq
      go_wp2_with fail
      go_region_held3 (fun V => V.cell? ⟨wr.heap.size, 0, none⟩ = some (.string y.u) ∧ V.cell? ⟨wr.heap.size, 1, none⟩ = some (.int .i64 y.a) ∧ V.cell? ⟨b, off + i * 2, none⟩ = some (.string z.u) ∧ V.cell? ⟨b, off + i * 2 + 1, none⟩ = some (.int .i64 z.a))
       (first | with_reducible exact HSC.out _ Q4 | with_reducible exact HSC.out _ Q3 | with_reducible exact HSC.out _ Q2 | with_reducible exact HSC.out _ Q1)
       (first | (have hseen := Q4; clear hseen; go_at_call 174; refine (HC.out _).mono ?_; rintro e w7 ⟨rfl, rfl⟩) | (have hseen := Q3; clear hseen; go_at_call 126; refine (HU.out _ _ _).mono ?_; rintro e w6 ⟨rfl, h6⟩; have Q4 := Q3.trans (h6.mono Q3.size)) | (have hseen := Q2; clear hseen; go_at_call 126; refine (HU.out _ _ _).mono ?_; rintro e w5 ⟨rfl, h5⟩; have Q3 := Q2.trans (h5.mono Q2.size)) | (have hseen := Q2; clear hseen; go_at_call 173; refine (HNR.out _).mono ?_; rintro e w4 ⟨rfl, rfl⟩) | (have hseen := Q1; clear hseen; go_at_call 126; refine (HU.out _ _ _).mono ?_; rintro e w2 ⟨rfl, h2⟩; have Q2 := Q1.trans (h2.mono Q1.size)))
      all_goals
       go_wp2
       go_roundw
       case rel => exact ⟨j + 1, by omega, by go_num, HN, HBF.out.trans (Q4.mono HBF.out.size)⟩
       case measure => simp [intOf]; omega
     ·have HE := Lib.hid (HN2.out hq)
      have dq : decide (q ≤ 0) = true := decide_eq_true (by omega)
      clear HY2 HN2 hq
      go_wp2_with fail
      go_region_held3 (fun V => V.cell? ⟨wr.heap.size, 0, none⟩ = some (.string y.u) ∧ V.cell? ⟨wr.heap.size, 1, none⟩ = some (.int .i64 y.a) ∧ V.cell? ⟨b, off + i * 2, none⟩ = some (.string z.u) ∧ V.cell? ⟨b, off + i * 2 + 1, none⟩ = some (.int .i64 z.a))
       (first | with_reducible exact HSC.out _ Q4 | with_reducible exact HSC.out _ Q3 | with_reducible exact HSC.out _ Q2 | with_reducible exact HSC.out _ Q1)
       (first | (have hseen := Q4; clear hseen; go_at_call 174; refine (HC.out _).mono ?_; rintro e w7 ⟨rfl, rfl⟩) | (have hseen := Q3; clear hseen; go_at_call 126; refine (HU.out _ _ _).mono ?_; rintro e w6 ⟨rfl, h6⟩; have Q4 := Q3.trans (h6.mono Q3.size)) | (have hseen := Q2; clear hseen; go_at_call 126; refine (HU.out _ _ _).mono ?_; rintro e w5 ⟨rfl, h5⟩; have Q3 := Q2.trans (h5.mono Q2.size)) | (have hseen := Q2; clear hseen; go_at_call 173; refine (HNR.out _).mono ?_; rintro e w4 ⟨rfl, rfl⟩) | (have hseen := Q1; clear hseen; go_at_call 126; refine (HU.out _ _ _).mono ?_; rintro e w2 ⟨rfl, h2⟩; have Q2 := Q1.trans (h2.mono Q1.size)))
      all_goals
       go_wp2
       go_ret
       exact ⟨retB (decide_eq_false HE.out).symm, HBF.out.trans (Q4.mono HBF.out.size)⟩
    ·have HN := Lib.hid (HNX.out hn (fun h => absurd h hj0))
     have hdj : decide ((0 : Int) < (j : Int)) = false := decide_eq_false (by omega)
     have hdj2 : decide (0 < j) = false := decide_eq_false hj0
     clear HNX HNO HEN hn hb1 HRB
     generalize l[j] = y at *
     go_wp2_with fail
     refine wp_region_held_drew (S := (fun V => V.cell? ⟨wr.heap.size, 0, none⟩ = some (.string y.u) ∧ V.cell? ⟨wr.heap.size, 1, none⟩ = some (.int .i64 y.a))) (by kernel_rfl) ?_ (fun hHeld => ?_)
     ·exact HXB.out _ Q1
     refine tV 0 14 ?_
     refine tV 1 15 ?_
     refine wpAnyH_ready (rs := [2]) (by kernel_rfl) (by simp) ?_
     refine AllReadyH.cons (o := ⟨some 16, _, _, _, _, _⟩) rfl (fun K hK => ?_) AllReadyH.nil
     go_simp
     refine (HU.out _ _ _).mono ?_
     rintro e w2 ⟨rfl, h2⟩
     have Q2 := Q1.trans (h2.mono Q1.size)
     go_wp2_with fail
     refine hK.out _ _ ?_ (fun hH2 => ?_)
     ·exact HXB.out _ Q2
     clear hK K
     (try simp only [Act.put, List.setIfInBounds_toArray, List.set_cons_zero, List.set_cons_succ])
     refine wpAnyH_ready (rs := [3]) (by kernel_rfl) (by simp) ?_
     refine AllReadyH.cons (o := ⟨some 17, _, _, _, _, _⟩) rfl (fun K hK => ?_) AllReadyH.nil
     go_simp
     refine (HNR.out _).mono ?_
     rintro e w3 ⟨rfl, rfl⟩
     go_wp2_with fail
     refine hK.out _ _ ?_ (fun hH3 => ?_)
     ·exact HXB.out _ Q2
     clear hK K
     (try simp only [Act.put, List.setIfInBounds_toArray, List.set_cons_zero, List.set_cons_succ])
     refine tV 4 18 ?_
     refine tV 5 19 ?_
     refine tV 6 20 ?_
     refine tV 7 21 ?_
     refine tV 8 22 ?_
     refine tU 9 23 ?_
     refine tU 10 24 ?_
     refine tU 11 25 ?_
     refine tU 12 26 ?_
     refine tU 13 27 ?_
     refine tU 14 28 ?_
     refine tU 15 29 ?_
     refine tU 16 30 ?_
     refine tU 17 31 ?_
     refine tU 18 32 ?_
     refine tU 19 33 ?_
     refine tU 20 34 ?_
     refine tV 21 35 ?_
     refine tV 22 36 ?_
     refine wpAnyH_done (by kernel_rfl) ?_ _
     all_goals
      go_wp2
      go_roundw
      case rel => exact ⟨j + 1, by omega, by go_num, HN, HBF.out.trans (Q2.mono HBF.out.size)⟩
      case measure => simp [intOf]; omega
  ·have HE : Hid (riseNB TbM.u l) := by
    have hj2 : j = l.length := by omega
    have := HO.out
    rw [hj2] at this
    exact this
   have hlt : ¬ (j : Int) < (l.length : Int) := by omega
   go_wp2
   go_ret
   exact ⟨retB (decide_eq_true HE.out).symm, HB.out⟩
end Go.Proofs.YtapacckmgmdnoaaGreat
