/- Texts of mine, one behind the other, of each what is wanted. -/
import Derived.Test.YtapacckmgmdnoaaGreatR00
import Derived.Test.YtapacckmgmdnoaaGreatR03
import Derived.Test.YtapacckmgmdnoaaGreatR04
import Derived.Test.YtapacckmgmdnoaaGreatR09
import Derived.Test.YtapacckmgmdnoaaGreatR12
import Derived.Test.YtapacckmgmdnoaaGreatR16
import Derived.Test.YtapacckmgmdnoaaGreatR23
import Derived.Test.YtapacckmgmdnoaaGreatTQ
namespace Go.Proofs.YtapacckmgmdnoaaGreat
open Go.RowKit
set_option linter.unusedVariables false
set_option maxRecDepth 100000
set_option maxRecDepth 100000
set_option maxHeartbeats 8000000 in
theorem refERising_any (a : Option Addr) (c : Nat) (l : List EnM) (w : World) (hr : EnSl w a l) (hsz : SzE l) (hl : l.length ≤ 1000000) :
  Calls Tryz.prog 67 #[.slice a l.length c] w fun e w' => e = .returned (.bool (decide (RiseE l))) ∧ Below w.heap.size w w' := by
 have HR := Lib.hid hr
 have HSZ := Lib.hid hsz
 have HRT := Lib.hid (fun s (h : s.size ≤ maxLen) W => refRight_any s W h)
 have HAH := Lib.hid (fun x y (h1 : x ∈ l) (h2 : y ∈ l) W => eahead_any x y W (HSZ.out x h1).1 (HSZ.out x h1).2 (HSZ.out y h2).1 (HSZ.out y h2).2)
 unfold enV at HAH
 clear hr hsz
 go_enter Tryz.func67, Tryz.ntmps67
 go_wp2
 go_loopw [3] (fun i wr => ∃ (j : Nat), j ≤ l.length ∧ i = .int .i64 j ∧ Hid (eRiseTo l j) ∧ Hid (Below w.heap.size w wr)) (fun i _ => l.length - (intOf i).toNat)
 case atStart => exact ⟨0, by omega, rfl, fun k _ h => absurd h (by omega), Below.refl _ _⟩
 case round =>
  obtain ⟨j, hj, rfl, HO, HB⟩ := hrel
  by_cases hjl : j < l.length
  ·obtain ⟨b, off, rfl, hbl, hc0, hc1, hc2, hc3⟩ := (HR.out.below HB.out).at_ hjl
   have HK := Lib.hid (RsE.new (x := l[j]) (HR.out.below HB.out) HB.out 135)
   have HNX := Lib.hid (HO.out.next hjl)
   have HNF : Hid (¬ OkE l[j] → decide (RiseE l) = false) := fun h => decide_eq_false fun k => h (k j hjl).1
   have HNP : Hid (∀ (h0 : 0 < j), ¬ FolE (l[j - 1]'(by omega)) l[j] → decide (RiseE l) = false) := fun h0 h => decide_eq_false fun k => h ((k j hjl).2 h0)
   have HW : Hid (∀ W, Calls Tryz.prog 36 #[.string l[j].w] W fun e w' => e = .returned (.bool (nameB l[j].w)) ∧ W = w') := fun W => HRT.out _ (HSZ.out _ (List.getElem_mem hjl)).1 W
   have HU : Hid (∀ W, Calls Tryz.prog 36 #[.string l[j].u] W fun e w' => e = .returned (.bool (nameB l[j].u)) ∧ W = w') := fun W => HRT.out _ (HSZ.out _ (List.getElem_mem hjl)).2 W
   clear HRT
   by_cases h1 : l[j].t ≤ l[j].f
   ·have HF := Lib.hid (HNF.out (fun h => by have := h.1; omega))
    have hd := decide_eq_true h1
    clear HNX HNF HNP HAH HW HU
    generalize l[j] = x at *
    go_wp2
    go_ret
    exact ⟨by rw [HF.out]; rfl, HK.out.frame⟩
   ·have hd := decide_eq_false h1
    cases hn1 : nameB l[j].w with
    | false =>
     have HF := Lib.hid (HNF.out (fun h => by rw [h.2.1] at hn1; cases hn1))
     rw [hn1] at HW
     clear HNX HNF HNP HAH hn1 HU
     generalize l[j] = x at *
     go_wp2_with (go_at_call 36; refine (HW.out _).mono ?_; rintro e w' ⟨rfl, rfl⟩)
     go_ret
     exact ⟨by rw [HF.out]; rfl, HK.out.frame⟩
    | true =>
     rw [hn1] at HW
     cases hn2 : nameB l[j].u with
     | false =>
      have HF := Lib.hid (HNF.out (fun h => by rw [h.2.2] at hn2; cases hn2))
      rw [hn2] at HU
      clear HNX HNF HNP HAH hn1 hn2
      generalize l[j] = x at *
      obtain ⟨xw, xu, xf, xt⟩ := x
      dsimp only at *
      go_wp2_with fail
      refine (HW.out _).mono ?_
      rintro e w' ⟨rfl, rfl⟩
      go_wp2_with fail
      refine (HU.out _).mono ?_
      rintro e w' ⟨rfl, rfl⟩
      go_wp2
      go_ret
      exact ⟨by rw [HF.out]; rfl, HK.out.frame⟩
     | true =>
      rw [hn2] at HU
      have HNX := Lib.hid (HNX.out ⟨by omega, hn1, hn2⟩)
      by_cases h0 : 0 < j
      ·obtain ⟨k, hk⟩ : ∃ k, j = k + 1 := ⟨j - 1, by omega⟩
       have hkl : k < l.length := by omega
       have hpw : IntKind.i64.wrap ((j : Int) - 1) = (k : Int) := by rw [IntWalk.i64_in] <;> omega
       have hne : ((j : Int) == 0) = false := beq_eq_false_iff_ne.2 (by omega)
       have HCX := Lib.hid (HAH.out l[k] l[j] (List.getElem_mem _) (List.getElem_mem _))
       have HP0 : Hid (∀ W, RsE w wr.heap.size l[j] (some ⟨b, off, none⟩) l W → W.cell? ⟨wr.heap.size, 0, none⟩ = some (.string l[j].w) ∧ W.cell? ⟨wr.heap.size, 1, none⟩ = some (.string l[j].u) ∧ W.cell? ⟨wr.heap.size, 2, none⟩ = some (.int .i64 l[j].f) ∧ W.cell? ⟨wr.heap.size, 3, none⟩ = some (.int .i64 l[j].t) ∧ W.cell? ⟨b, off + k * 4, none⟩ = some (.string l[k].w) ∧ W.cell? ⟨b, off + k * 4 + 1, none⟩ = some (.string l[k].u) ∧ W.cell? ⟨b, off + k * 4 + 2, none⟩ = some (.int .i64 l[k].f) ∧ W.cell? ⟨b, off + k * 4 + 3, none⟩ = some (.int .i64 l[k].t)) := fun W h => h.at_ hkl
       have hkp : ∀ h, l[j - 1]'h = l[k] := fun h => by congr 1; omega
       have HNX3 : Hid (FolE l[k] l[j] → eRiseTo l (j + 1)) := fun h => HNX.out (fun _ => by rw [hkp]; exact h)
       have HNP3 : Hid (¬ FolE l[k] l[j] → decide (RiseE l) = false) := fun h => HNP.out h0 (by rw [hkp]; exact h)
       clear HNF HNP HAH HNX hkp hk hn1 hn2
       generalize l[k] = y at *
       generalize l[j] = x at *
       by_cases h3 : aheadE y x
       ·rw [decide_eq_true h3] at HCX
        by_cases h4 : y.w = x.w
        ·have e1 : (y.w.toList == x.w.toList) = true := by rw [h4]; exact str_eq _
         by_cases h5 : y.u = x.u
         ·have e2 : (y.u.toList == x.u.toList) = true := by rw [h5]; exact str_eq _
          by_cases h6 : x.f < y.t
          ·have HNF4 := Lib.hid (HNP3.out (fun h => by have := h.2 ⟨h4, h5⟩; omega))
           have hd6 := decide_eq_true h6
           clear HNX3 HNP3 h3 h4 h5 h6
           go_wp2_with fail
           refine (HW.out _).mono ?_
           rintro e w' ⟨rfl, rfl⟩
           go_wp2_with fail
           refine (HU.out _).mono ?_
           rintro e w' ⟨rfl, rfl⟩
           go_wp2_with fail
           generalize wr.alloc (.cells #[.string x.w, .string x.u, .int .i64 x.f, .int .i64 x.t] 135) = W at *
           generalize wr.heap.size = g at *
           refine wp_region_held_drew (S := (fun W => W.cell? ⟨g, 0, none⟩ = some (.string x.w) ∧ W.cell? ⟨g, 1, none⟩ = some (.string x.u) ∧ W.cell? ⟨g, 2, none⟩ = some (.int .i64 x.f) ∧ W.cell? ⟨g, 3, none⟩ = some (.int .i64 x.t) ∧ W.cell? ⟨b, off + k * 4, none⟩ = some (.string y.w) ∧ W.cell? ⟨b, off + k * 4 + 1, none⟩ = some (.string y.u) ∧ W.cell? ⟨b, off + k * 4 + 2, none⟩ = some (.int .i64 y.f) ∧ W.cell? ⟨b, off + k * 4 + 3, none⟩ = some (.int .i64 y.t))) (by kernel_rfl) ?_ (fun hHeld => ?_)
           ·exact HP0.out _ (HK.out.below (Below.refl _ _).drew)
           refine tV 0 34 ?_
           refine tV 1 35 ?_
           refine tV 2 36 ?_
           refine tV 3 37 ?_
           refine tV 4 38 ?_
           refine tV 5 39 ?_
           refine wpAnyH_ready (rs := [6]) (by kernel_rfl) (by simp) ?_
           refine AllReadyH.cons (o := ⟨some 40, _, _, _, _, _⟩) rfl (fun K hK => ?_) AllReadyH.nil
           go_simp
           refine (HCX.out _).mono ?_
           rintro e w4 ⟨rfl, h4⟩
           have K4 := (HK.out.below (Below.refl _ _).drew).below h4
           go_wp2_with fail
           refine hK.out _ _ ?_ (fun hH6 => ?_)
           ·exact HP0.out _ K4
           clear hK K
           (try simp only [Act.put, List.setIfInBounds_toArray, List.set_cons_zero, List.set_cons_succ])
           refine tV 7 41 ?_
           refine tV 8 42 ?_
           refine tV 9 43 ?_
           refine tV 10 44 ?_
           refine tV 11 45 ?_
           refine tV 12 46 ?_
           refine tV 13 47 ?_
           refine tV 14 48 ?_
           refine tV 15 49 ?_
           refine tV 16 50 ?_
           refine tV 17 51 ?_
           refine tV 18 52 ?_
           refine tV 19 53 ?_
           refine tV 20 54 ?_
           refine tV 21 55 ?_
           refine tV 22 56 ?_
           refine tV 23 57 ?_
           refine tV 24 58 ?_
           refine tV 25 59 ?_
           refine tV 26 60 ?_
           refine tV 27 61 ?_
           refine tV 28 62 ?_
           refine tV 29 63 ?_
           refine tV 30 64 ?_
           refine tV 31 65 ?_
           refine tV 32 66 ?_
           refine tV 33 67 ?_
           refine tV 34 68 ?_
           refine tV 35 69 ?_
           refine tV 36 70 ?_
           refine tV 37 71 ?_
           refine tV 38 72 ?_
           refine tV 39 73 ?_
           refine tV 40 74 ?_
           refine wpAnyH_done (by kernel_rfl) ?_ _
           all_goals
            go_wp2
            go_ret
            exact ⟨by rw [HNF4.out]; rfl, K4.frame⟩
          ·have HNX4 := Lib.hid (HNX3.out ⟨h3, fun _ => by omega⟩)
           have hd6 := decide_eq_false h6
           clear HNX3 HNP3 h3 h4 h5 h6
           go_wp2_with fail
           refine (HW.out _).mono ?_
           rintro e w' ⟨rfl, rfl⟩
           go_wp2_with fail
           refine (HU.out _).mono ?_
           rintro e w' ⟨rfl, rfl⟩
           go_wp2_with fail
           generalize wr.alloc (.cells #[.string x.w, .string x.u, .int .i64 x.f, .int .i64 x.t] 135) = W at *
           generalize wr.heap.size = g at *
           refine wp_region_held_drew (S := (fun W => W.cell? ⟨g, 0, none⟩ = some (.string x.w) ∧ W.cell? ⟨g, 1, none⟩ = some (.string x.u) ∧ W.cell? ⟨g, 2, none⟩ = some (.int .i64 x.f) ∧ W.cell? ⟨g, 3, none⟩ = some (.int .i64 x.t) ∧ W.cell? ⟨b, off + k * 4, none⟩ = some (.string y.w) ∧ W.cell? ⟨b, off + k * 4 + 1, none⟩ = some (.string y.u) ∧ W.cell? ⟨b, off + k * 4 + 2, none⟩ = some (.int .i64 y.f) ∧ W.cell? ⟨b, off + k * 4 + 3, none⟩ = some (.int .i64 y.t))) (by kernel_rfl) ?_ (fun hHeld => ?_)
           ·exact HP0.out _ (HK.out.below (Below.refl _ _).drew)
           refine tV 0 34 ?_
           refine tV 1 35 ?_
           refine tV 2 36 ?_
           refine tV 3 37 ?_
           refine tV 4 38 ?_
           refine tV 5 39 ?_
           refine wpAnyH_ready (rs := [6]) (by kernel_rfl) (by simp) ?_
           refine AllReadyH.cons (o := ⟨some 40, _, _, _, _, _⟩) rfl (fun K hK => ?_) AllReadyH.nil
           go_simp
           refine (HCX.out _).mono ?_
           rintro e w4 ⟨rfl, h4⟩
           have K4 := (HK.out.below (Below.refl _ _).drew).below h4
           go_wp2_with fail
           refine hK.out _ _ ?_ (fun hH6 => ?_)
           ·exact HP0.out _ K4
           clear hK K
           (try simp only [Act.put, List.setIfInBounds_toArray, List.set_cons_zero, List.set_cons_succ])
           refine tV 7 41 ?_
           refine tV 8 42 ?_
           refine tV 9 43 ?_
           refine tV 10 44 ?_
           refine tV 11 45 ?_
           refine tV 12 46 ?_
           refine tV 13 47 ?_
           refine tV 14 48 ?_
           refine tV 15 49 ?_
           refine tV 16 50 ?_
           refine tV 17 51 ?_
           refine tV 18 52 ?_
           refine tV 19 53 ?_
           refine tV 20 54 ?_
           refine tV 21 55 ?_
           refine tV 22 56 ?_
           refine tV 23 57 ?_
           refine tV 24 58 ?_
           refine tV 25 59 ?_
           refine tV 26 60 ?_
           refine tV 27 61 ?_
           refine tV 28 62 ?_
           refine tV 29 63 ?_
           refine tV 30 64 ?_
           refine tV 31 65 ?_
           refine tV 32 66 ?_
           refine tV 33 67 ?_
           refine tV 34 68 ?_
           refine tV 35 69 ?_
           refine tV 36 70 ?_
           refine tV 37 71 ?_
           refine tV 38 72 ?_
           refine tV 39 73 ?_
           refine tV 40 74 ?_
           refine wpAnyH_done (by kernel_rfl) ?_ _
           all_goals
            go_wp2
            go_roundw
            case rel => exact ⟨j + 1, by omega, by go_num, HNX4, K4.frame⟩
            case measure => simp [intOf]; omega
         ·have e2 := str_ne h5
          have HNX4 := Lib.hid (HNX3.out ⟨h3, fun h => absurd h.2 h5⟩)
          clear HNX3 HNP3 h3 h4 h5
          go_wp2_with fail
          refine (HW.out _).mono ?_
          rintro e w' ⟨rfl, rfl⟩
          go_wp2_with fail
          refine (HU.out _).mono ?_
          rintro e w' ⟨rfl, rfl⟩
          go_wp2_with fail
          generalize wr.alloc (.cells #[.string x.w, .string x.u, .int .i64 x.f, .int .i64 x.t] 135) = W at *
          generalize wr.heap.size = g at *
          refine wp_region_held_drew (S := (fun W => W.cell? ⟨g, 0, none⟩ = some (.string x.w) ∧ W.cell? ⟨g, 1, none⟩ = some (.string x.u) ∧ W.cell? ⟨g, 2, none⟩ = some (.int .i64 x.f) ∧ W.cell? ⟨g, 3, none⟩ = some (.int .i64 x.t) ∧ W.cell? ⟨b, off + k * 4, none⟩ = some (.string y.w) ∧ W.cell? ⟨b, off + k * 4 + 1, none⟩ = some (.string y.u) ∧ W.cell? ⟨b, off + k * 4 + 2, none⟩ = some (.int .i64 y.f) ∧ W.cell? ⟨b, off + k * 4 + 3, none⟩ = some (.int .i64 y.t))) (by kernel_rfl) ?_ (fun hHeld => ?_)
          ·exact HP0.out _ (HK.out.below (Below.refl _ _).drew)
          refine tV 0 34 ?_
          refine tV 1 35 ?_
          refine tV 2 36 ?_
          refine tV 3 37 ?_
          refine tV 4 38 ?_
          refine tV 5 39 ?_
          refine wpAnyH_ready (rs := [6]) (by kernel_rfl) (by simp) ?_
          refine AllReadyH.cons (o := ⟨some 40, _, _, _, _, _⟩) rfl (fun K hK => ?_) AllReadyH.nil
          go_simp
          refine (HCX.out _).mono ?_
          rintro e w4 ⟨rfl, h4⟩
          have K4 := (HK.out.below (Below.refl _ _).drew).below h4
          go_wp2_with fail
          refine hK.out _ _ ?_ (fun hH6 => ?_)
          ·exact HP0.out _ K4
          clear hK K
          (try simp only [Act.put, List.setIfInBounds_toArray, List.set_cons_zero, List.set_cons_succ])
          refine tV 7 41 ?_
          refine tV 8 42 ?_
          refine tV 9 43 ?_
          refine tV 10 44 ?_
          refine tV 11 45 ?_
          refine tV 12 46 ?_
          refine tV 13 47 ?_
          refine tV 14 48 ?_
          refine tV 15 49 ?_
          refine tV 16 50 ?_
          refine tV 17 51 ?_
          refine tV 18 52 ?_
          refine tV 19 53 ?_
          refine tV 20 54 ?_
          refine tV 21 55 ?_
          refine tV 22 56 ?_
          refine tV 23 57 ?_
          refine tV 24 58 ?_
          refine tV 25 59 ?_
          refine tV 26 60 ?_
          refine tV 27 61 ?_
          refine tV 28 62 ?_
          refine tV 29 63 ?_
          refine tU 30 64 ?_
          refine tU 31 65 ?_
          refine tU 32 66 ?_
          refine tU 33 67 ?_
          refine tU 34 68 ?_
          refine tU 35 69 ?_
          refine tU 36 70 ?_
          refine tU 37 71 ?_
          refine tU 38 72 ?_
          refine tV 39 73 ?_
          refine tV 40 74 ?_
          refine wpAnyH_done (by kernel_rfl) ?_ _
          all_goals
           go_wp2
           go_roundw
           case rel => exact ⟨j + 1, by omega, by go_num, HNX4, K4.frame⟩
           case measure => simp [intOf]; omega
        ·have e1 := str_ne h4
         have HNX4 := Lib.hid (HNX3.out ⟨h3, fun h => absurd h.1 h4⟩)
         clear HNX3 HNP3 h3 h4
         go_wp2_with fail
         refine (HW.out _).mono ?_
         rintro e w' ⟨rfl, rfl⟩
         go_wp2_with fail
         refine (HU.out _).mono ?_
         rintro e w' ⟨rfl, rfl⟩
         go_wp2_with fail
         generalize wr.alloc (.cells #[.string x.w, .string x.u, .int .i64 x.f, .int .i64 x.t] 135) = W at *
         generalize wr.heap.size = g at *
         refine wp_region_held_drew (S := (fun W => W.cell? ⟨g, 0, none⟩ = some (.string x.w) ∧ W.cell? ⟨g, 1, none⟩ = some (.string x.u) ∧ W.cell? ⟨g, 2, none⟩ = some (.int .i64 x.f) ∧ W.cell? ⟨g, 3, none⟩ = some (.int .i64 x.t) ∧ W.cell? ⟨b, off + k * 4, none⟩ = some (.string y.w) ∧ W.cell? ⟨b, off + k * 4 + 1, none⟩ = some (.string y.u) ∧ W.cell? ⟨b, off + k * 4 + 2, none⟩ = some (.int .i64 y.f) ∧ W.cell? ⟨b, off + k * 4 + 3, none⟩ = some (.int .i64 y.t))) (by kernel_rfl) ?_ (fun hHeld => ?_)
         ·exact HP0.out _ (HK.out.below (Below.refl _ _).drew)
         refine tV 0 34 ?_
         refine tV 1 35 ?_
         refine tV 2 36 ?_
         refine tV 3 37 ?_
         refine tV 4 38 ?_
         refine tV 5 39 ?_
         refine wpAnyH_ready (rs := [6]) (by kernel_rfl) (by simp) ?_
         refine AllReadyH.cons (o := ⟨some 40, _, _, _, _, _⟩) rfl (fun K hK => ?_) AllReadyH.nil
         go_simp
         refine (HCX.out _).mono ?_
         rintro e w4 ⟨rfl, h4⟩
         have K4 := (HK.out.below (Below.refl _ _).drew).below h4
         go_wp2_with fail
         refine hK.out _ _ ?_ (fun hH6 => ?_)
         ·exact HP0.out _ K4
         clear hK K
         (try simp only [Act.put, List.setIfInBounds_toArray, List.set_cons_zero, List.set_cons_succ])
         refine tV 7 41 ?_
         refine tV 8 42 ?_
         refine tV 9 43 ?_
         refine tV 10 44 ?_
         refine tV 11 45 ?_
         refine tV 12 46 ?_
         refine tV 13 47 ?_
         refine tV 14 48 ?_
         refine tV 15 49 ?_
         refine tV 16 50 ?_
         refine tV 17 51 ?_
         refine tV 18 52 ?_
         refine tU 19 53 ?_
         refine tU 20 54 ?_
         refine tU 21 55 ?_
         refine tU 22 56 ?_
         refine tU 23 57 ?_
         refine tU 24 58 ?_
         refine tU 25 59 ?_
         refine tU 26 60 ?_
         refine tU 27 61 ?_
         refine tV 28 62 ?_
         refine tV 29 63 ?_
         refine tU 30 64 ?_
         refine tU 31 65 ?_
         refine tU 32 66 ?_
         refine tU 33 67 ?_
         refine tU 34 68 ?_
         refine tU 35 69 ?_
         refine tU 36 70 ?_
         refine tU 37 71 ?_
         refine tU 38 72 ?_
         refine tV 39 73 ?_
         refine tV 40 74 ?_
         refine wpAnyH_done (by kernel_rfl) ?_ _
         all_goals
          go_wp2
          go_roundw
          case rel => exact ⟨j + 1, by omega, by go_num, HNX4, K4.frame⟩
          case measure => simp [intOf]; omega
       ·rw [decide_eq_false h3] at HCX
        have HNF4 := Lib.hid (HNP3.out (fun h => h3 h.1))
        clear HNX3 HNP3 h3
        go_wp2_with fail
        refine (HW.out _).mono ?_
        rintro e w' ⟨rfl, rfl⟩
        go_wp2_with fail
        refine (HU.out _).mono ?_
        rintro e w' ⟨rfl, rfl⟩
        go_wp2_with fail
        generalize wr.alloc (.cells #[.string x.w, .string x.u, .int .i64 x.f, .int .i64 x.t] 135) = W at *
        generalize wr.heap.size = g at *
        refine wp_region_held_drew (S := (fun W => W.cell? ⟨g, 0, none⟩ = some (.string x.w) ∧ W.cell? ⟨g, 1, none⟩ = some (.string x.u) ∧ W.cell? ⟨g, 2, none⟩ = some (.int .i64 x.f) ∧ W.cell? ⟨g, 3, none⟩ = some (.int .i64 x.t) ∧ W.cell? ⟨b, off + k * 4, none⟩ = some (.string y.w) ∧ W.cell? ⟨b, off + k * 4 + 1, none⟩ = some (.string y.u) ∧ W.cell? ⟨b, off + k * 4 + 2, none⟩ = some (.int .i64 y.f) ∧ W.cell? ⟨b, off + k * 4 + 3, none⟩ = some (.int .i64 y.t))) (by kernel_rfl) ?_ (fun hHeld => ?_)
        ·exact HP0.out _ (HK.out.below (Below.refl _ _).drew)
        refine tV 0 34 ?_
        refine tV 1 35 ?_
        refine tV 2 36 ?_
        refine tV 3 37 ?_
        refine tV 4 38 ?_
        refine tV 5 39 ?_
        refine wpAnyH_ready (rs := [6]) (by kernel_rfl) (by simp) ?_
        refine AllReadyH.cons (o := ⟨some 40, _, _, _, _, _⟩) rfl (fun K hK => ?_) AllReadyH.nil
        go_simp
        refine (HCX.out _).mono ?_
        rintro e w4 ⟨rfl, h4⟩
        have K4 := (HK.out.below (Below.refl _ _).drew).below h4
        go_wp2_with fail
        refine hK.out _ _ ?_ (fun hH6 => ?_)
        ·exact HP0.out _ K4
        clear hK K
        (try simp only [Act.put, List.setIfInBounds_toArray, List.set_cons_zero, List.set_cons_succ])
        refine tV 7 41 ?_
        refine tV 8 42 ?_
        refine tU 9 43 ?_
        refine tU 10 44 ?_
        refine tU 11 45 ?_
        refine tU 12 46 ?_
        refine tU 13 47 ?_
        refine tU 14 48 ?_
        refine tU 15 49 ?_
        refine tU 16 50 ?_
        refine tU 17 51 ?_
        refine tU 18 52 ?_
        refine tU 19 53 ?_
        refine tU 20 54 ?_
        refine tU 21 55 ?_
        refine tU 22 56 ?_
        refine tU 23 57 ?_
        refine tU 24 58 ?_
        refine tU 25 59 ?_
        refine tU 26 60 ?_
        refine tU 27 61 ?_
        refine tU 28 62 ?_
        refine tU 29 63 ?_
        refine tU 30 64 ?_
        refine tU 31 65 ?_
        refine tU 32 66 ?_
        refine tU 33 67 ?_
        refine tU 34 68 ?_
        refine tU 35 69 ?_
        refine tU 36 70 ?_
        refine tU 37 71 ?_
        refine tU 38 72 ?_
        refine tU 39 73 ?_
        refine tV 40 74 ?_
        refine wpAnyH_done (by kernel_rfl) ?_ _
        all_goals
         go_wp2
         go_ret
         exact ⟨by rw [HNF4.out]; rfl, K4.frame⟩
      ·have HNX2 := Lib.hid (HNX.out (fun h => absurd h h0))
       have hne : ((j : Int) == 0) = true := beq_iff_eq.2 (by omega)
       clear HNF HNP HAH HNX hn1 hn2
       generalize l[j] = x at *
       go_wp2_with fail
       refine (HW.out _).mono ?_
       rintro e w' ⟨rfl, rfl⟩
       go_wp2_with fail
       refine (HU.out _).mono ?_
       rintro e w' ⟨rfl, rfl⟩
       go_wp2
       go_roundw
       case rel => exact ⟨j + 1, by omega, by go_num, HNX2, HK.out.frame⟩
       case measure => simp [intOf]; omega
  ·obtain rfl : j = l.length := by omega
   have HE := Lib.hid (decide_eq_true HO.out.all)
   go_wp2
   go_ret
   exact ⟨by rw [HE.out]; rfl, HB.out⟩
end Go.Proofs.YtapacckmgmdnoaaGreat
