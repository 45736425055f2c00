/- Texts of mine, one behind the other, of each what is wanted. -/
import Derived.Test.YtapacckmgmdnoaaGreatU00
import Derived.Test.YtapacckmgmdnoaaGreatU02
import Derived.Test.YtapacckmgmdnoaaGreatU07
import Derived.Test.YtapacckmgmdnoaaGreatU15
import Derived.Test.YtapacckmgmdnoaaGreatU23
import Derived.Test.YtapacckmgmdnoaaGreatTQ
namespace Go.Proofs.YtapacckmgmdnoaaGreat
open Go.RowKit
set_option linter.unusedVariables false
set_option maxRecDepth 100000
set_option maxRecDepth 100000
set_option maxHeartbeats 2000000 in
theorem follows_any (a b : EnM) (w : World) : Calls Tryz.prog 181 #[enV a, enV b] w fun e w' => e = .returned (.bool (decide (FolE b a))) ∧ Below w.heap.size w w' := by
 have K0 := Lib.hid (TwE.new w a b 165 165)
 have HC := Lib.hid (fun W => above_any a b W)
 have HP : FolE b a ↔ (aheadE b a ∧ (b.w = a.w ∧ b.u = a.u → b.t ≤ a.f)) := Iff.rfl
 unfold enV at *
 have HF : Hid (∀ x : Bool, (x = true ↔ FolE b a) → x = decide (FolE b a)) := fun x h => by
  cases x with
  | true => exact (decide_eq_true (h.1 rfl)).symm
  | false => exact (decide_eq_false (fun k => by cases h.2 k)).symm
 by_cases h1 : aheadE b a
 ·rw [decide_eq_true h1] at HC
  by_cases h2 : b.w = a.w
  ·have e1 : (a.w.toList == b.w.toList) = true := by rw [h2]; exact str_eq _
   by_cases h3 : b.u = a.u
   ·have e2 : (a.u.toList == b.u.toList) = true := by rw [h3]; exact str_eq _
    have HE := Lib.hid (HF.out (decide (b.t ≤ a.f)) (by rw [HP, decide_eq_true_iff]; exact ⟨fun h => ⟨h1, fun _ => h⟩, fun h => h.2 ⟨h2, h3⟩⟩))
    clear HF HP h1 h2 h3
    go_enter Tryz.func181, Tryz.ntmps181
    go_wp2_with fail
    refine (HC.out _).mono ?_
    rintro e w2 ⟨rfl, hB⟩
    have K1 := K0.out.below hB
    obtain ⟨a0, a1, a2, a3⟩ := K1.a
    obtain ⟨b0, b1, b2, b3⟩ := K1.b
    clear K0 HC hB
    go_wp2
    go_ret
    exact ⟨by rw [← HE.out]; rfl, K1.frame⟩
   ·have e2 : (a.u.toList == b.u.toList) = false := str_ne (fun h => h3 h.symm)
    have HE := Lib.hid (HF.out true (by rw [HP]; exact ⟨fun _ => ⟨h1, fun h => absurd h.2 h3⟩, fun _ => rfl⟩))
    clear HF HP h1 h2 h3
    go_enter Tryz.func181, Tryz.ntmps181
    go_wp2_with fail
    refine (HC.out _).mono ?_
    rintro e w2 ⟨rfl, hB⟩
    have K1 := K0.out.below hB
    obtain ⟨a0, a1, a2, a3⟩ := K1.a
    obtain ⟨b0, b1, b2, b3⟩ := K1.b
    clear K0 HC hB
    go_wp2
    go_ret
    exact ⟨by rw [← HE.out]; rfl, K1.frame⟩
  ·have e1 : (a.w.toList == b.w.toList) = false := str_ne (fun h => h2 h.symm)
   have HE := Lib.hid (HF.out true (by rw [HP]; exact ⟨fun _ => ⟨h1, fun h => absurd h.1 h2⟩, fun _ => rfl⟩))
   clear HF HP h1 h2
   go_enter Tryz.func181, Tryz.ntmps181
   go_wp2_with fail
   refine (HC.out _).mono ?_
   rintro e w2 ⟨rfl, hB⟩
   have K1 := K0.out.below hB
   obtain ⟨a0, a1, a2, a3⟩ := K1.a
   obtain ⟨b0, b1, b2, b3⟩ := K1.b
   clear K0 HC hB
   go_wp2
   go_ret
   exact ⟨by rw [← HE.out]; rfl, K1.frame⟩
 ·rw [decide_eq_false h1] at HC
  have HE := Lib.hid (HF.out false (by rw [HP]; exact ⟨fun h => (by cases h), fun h => absurd h.1 h1⟩))
  clear HF HP h1
  go_enter Tryz.func181, Tryz.ntmps181
  go_wp2_with fail
  refine (HC.out _).mono ?_
  rintro e w2 ⟨rfl, hB⟩
  have K1 := K0.out.below hB
  clear K0 HC hB
  go_wp2
  go_ret
  exact ⟨by rw [← HE.out]; rfl, K1.frame⟩
set_option maxHeartbeats 8000000 in
theorem erising_any (a : Option Addr) (c : Nat) (l : List EnM) (w : World) (hr : EnSl w a l) (hsz : SzE l) (hl : l.length ≤ 1000000) :
  Calls Tryz.prog 121 #[.slice a l.length c] w fun e w' => e = .returned (.bool (decide (RiseE l))) ∧ Below w.heap.size w w' := by
 have HR := Lib.hid hr
 have HNO := Lib.hid enone_any
 have HSZ := Lib.hid hsz
 have HRT := Lib.hid (fun x (h : x ∈ l) W => pairRight_any x.w x.u W (HSZ.out x h).1 (HSZ.out x h).2)
 have HFO := Lib.hid (fun x y W => follows_any x y W)
 unfold enV at HFO
 unfold pr at HRT
 clear hr hsz HSZ
 go_enter Tryz.func121, Tryz.ntmps121
 go_wp2
 go_loopw [7] (fun i wr => ∃ (j : Nat), j ≤ l.length ∧ i = .int .i64 j ∧ Hid (eRiseTo l j) ∧ Hid (Below w.heap.size w wr)) (fun i _ => l.length - (intOf i).toNat)
 case atStart => exact ⟨0, by omega, rfl, fun k _ h => absurd h (by omega), Below.refl _ _⟩
 case round =>
  obtain ⟨j, hj, rfl, HO, HB⟩ := hrel
  by_cases hjl : j < l.length
  ·obtain ⟨b, off, rfl, hbl, hc0, hc1, hc2, hc3⟩ := (HR.out.below HB.out).at_ hjl
   have HK := Lib.hid (RsE.new (x := l[j]) (HR.out.below HB.out) HB.out 165)
   have HNX := Lib.hid (HO.out.next hjl)
   have HNF : Hid (¬ OkE l[j] → decide (RiseE l) = false) := fun h => decide_eq_false fun k => h (k j hjl).1
   have HNP : Hid (∀ (h0 : 0 < j), ¬ FolE (l[j - 1]'(by omega)) l[j] → decide (RiseE l) = false) := fun h0 h => decide_eq_false fun k => h ((k j hjl).2 h0)
   have HRX := Lib.hid (HRT.out l[j] (List.getElem_mem hjl))
   clear HRT
   by_cases h1 : l[j].t ≤ l[j].f
   ·have HF := Lib.hid (HNF.out (fun h => by have := h.1; omega))
    have HN1 : Hid (∀ W, Calls Tryz.prog 108 #[.agg #[.int .i64 l[j].f, .int .i64 l[j].t]] W fun e w' => e = .returned (.bool true) ∧ Below W.heap.size W w') := fun W => by
     have := HNO.out l[j].f l[j].t W
     rwa [decide_eq_true h1] at this
    clear HNX HNF HNP HNO HFO HRX
    generalize l[j] = x at *
    go_wp2_with fail
    generalize wr.alloc (.cells #[.string x.w, .string x.u, .int .i64 x.f, .int .i64 x.t] 165) = W at *
    generalize wr.heap.size = g at *
    refine wp_region_held_drew (S := (fun W => W.cell? ⟨g, 0, none⟩ = some (.string x.w) ∧ W.cell? ⟨g, 1, none⟩ = some (.string x.u) ∧ W.cell? ⟨g, 2, none⟩ = some (.int .i64 x.f) ∧ W.cell? ⟨g, 3, none⟩ = some (.int .i64 x.t))) (by kernel_rfl) ?_ (fun hHeld => ?_)
    ·exact (HK.out.below (Below.refl _ _).drew).box
    refine tV 0 12 ?_
    refine tV 1 13 ?_
    refine wpAnyH_ready (rs := [2]) (by kernel_rfl) (by simp) ?_
    refine AllReadyH.cons (o := ⟨some 14, _, _, _, _, _⟩) rfl (fun K hK => ?_) AllReadyH.nil
    go_simp
    refine (HN1.out _).mono ?_
    rintro e w2 ⟨rfl, h2⟩
    have K2 := (HK.out.below (Below.refl _ _).drew).below h2
    go_wp2_with fail
    refine hK.out _ _ ?_ (fun hH2 => ?_)
    ·exact K2.box
    clear hK K
    (try simp only [Act.put, List.setIfInBounds_toArray, List.set_cons_zero, List.set_cons_succ])
    refine tV 3 15 ?_
    refine tU 4 16 ?_
    refine tU 5 17 ?_
    refine tU 6 18 ?_
    refine tU 7 19 ?_
    refine tV 8 20 ?_
    refine tV 9 21 ?_
    refine tU 10 22 ?_
    refine tU 11 23 ?_
    refine tU 12 24 ?_
    refine tU 13 25 ?_
    refine tU 14 26 ?_
    refine tU 15 27 ?_
    refine tU 16 28 ?_
    refine tU 17 29 ?_
    refine tU 18 30 ?_
    refine tU 19 31 ?_
    refine tU 20 32 ?_
    refine tU 21 33 ?_
    refine tV 22 34 ?_
    refine wpAnyH_done (by kernel_rfl) ?_ _
    all_goals
     go_wp2
     go_ret
     exact ⟨by rw [HF.out]; rfl, K2.frame⟩
   ·have HN1 : Hid (∀ W, Calls Tryz.prog 108 #[.agg #[.int .i64 l[j].f, .int .i64 l[j].t]] W fun e w' => e = .returned (.bool false) ∧ Below W.heap.size W w') := fun W => by
     have := HNO.out l[j].f l[j].t W
     rwa [decide_eq_false h1] at this
    cases hn : (nameB l[j].w && nameB l[j].u) with
    | false =>
     have HF := Lib.hid (HNF.out (fun h => by rw [h.2.1, h.2.2] at hn; cases hn))
     rw [hn] at HRX
     clear HNX HNF HNP HNO HFO hn
     generalize l[j] = x at *
     go_wp2_with fail
     generalize wr.alloc (.cells #[.string x.w, .string x.u, .int .i64 x.f, .int .i64 x.t] 165) = W at *
     generalize wr.heap.size = g at *
     refine wp_region_held_drew (S := (fun W => W.cell? ⟨g, 0, none⟩ = some (.string x.w) ∧ W.cell? ⟨g, 1, none⟩ = some (.string x.u) ∧ W.cell? ⟨g, 2, none⟩ = some (.int .i64 x.f) ∧ W.cell? ⟨g, 3, none⟩ = some (.int .i64 x.t))) (by kernel_rfl) ?_ (fun hHeld => ?_)
     ·exact (HK.out.below (Below.refl _ _).drew).box
     refine tV 0 12 ?_
     refine tV 1 13 ?_
     refine wpAnyH_ready (rs := [2]) (by kernel_rfl) (by simp) ?_
     refine AllReadyH.cons (o := ⟨some 14, _, _, _, _, _⟩) rfl (fun K hK => ?_) AllReadyH.nil
     go_simp
     refine (HN1.out _).mono ?_
     rintro e w2 ⟨rfl, h2⟩
     have K2 := (HK.out.below (Below.refl _ _).drew).below h2
     go_wp2_with fail
     refine hK.out _ _ ?_ (fun hH2 => ?_)
     ·exact K2.box
     clear hK K
     (try simp only [Act.put, List.setIfInBounds_toArray, List.set_cons_zero, List.set_cons_succ])
     refine tV 3 15 ?_
     refine tV 4 16 ?_
     refine tV 5 17 ?_
     refine wpAnyH_ready (rs := [6]) (by kernel_rfl) (by simp) ?_
     refine AllReadyH.cons (o := ⟨some 18, _, _, _, _, _⟩) rfl (fun K hK => ?_) AllReadyH.nil
     go_simp
     refine (HRX.out _).mono ?_
     rintro e w3 ⟨rfl, h3⟩
     have K3 := K2.below h3
     go_wp2_with fail
     refine hK.out _ _ ?_ (fun hH6 => ?_)
     ·exact K3.box
     clear hK K
     (try simp only [Act.put, List.setIfInBounds_toArray, List.set_cons_zero, List.set_cons_succ])
     refine tV 7 19 ?_
     refine tV 8 20 ?_
     refine tV 9 21 ?_
     refine tU 10 22 ?_
     refine tU 11 23 ?_
     refine tU 12 24 ?_
     refine tU 13 25 ?_
     refine tU 14 26 ?_
     refine tU 15 27 ?_
     refine tU 16 28 ?_
     refine tU 17 29 ?_
     refine tU 18 30 ?_
     refine tU 19 31 ?_
     refine tU 20 32 ?_
     refine tU 21 33 ?_
     refine tV 22 34 ?_
     refine wpAnyH_done (by kernel_rfl) ?_ _
     all_goals
      go_wp2
      go_ret
      exact ⟨by rw [HF.out]; rfl, K3.frame⟩
    | true =>
     have HNX := Lib.hid (HNX.out ⟨by omega, ((Bool.and_eq_true _ _).mp hn).1, ((Bool.and_eq_true _ _).mp hn).2⟩)
     rw [hn] at HRX
     by_cases h0 : 0 < j
     ·obtain ⟨k, hk⟩ : ∃ k, j = k + 1 := ⟨j - 1, by omega⟩
      have hkl : k < l.length := by omega
      have hpw : IntKind.i64.wrap ((j : Int) - 1) = (k : Int) := by rw [IntWalk.i64_in] <;> omega
      have hgt : decide ((0 : Int) < (j : Int)) = true := decide_eq_true (by omega)
      have HCX := Lib.hid (HFO.out l[j] l[k])
      have HP0 : Hid (∀ W, RsE w wr.heap.size l[j] (some ⟨b, off, none⟩) l W → W.cell? ⟨wr.heap.size, 0, none⟩ = some (.string l[j].w) ∧ W.cell? ⟨wr.heap.size, 1, none⟩ = some (.string l[j].u) ∧ W.cell? ⟨wr.heap.size, 2, none⟩ = some (.int .i64 l[j].f) ∧ W.cell? ⟨wr.heap.size, 3, none⟩ = some (.int .i64 l[j].t) ∧ W.cell? ⟨b, off + k * 4, none⟩ = some (.string l[k].w) ∧ W.cell? ⟨b, off + k * 4 + 1, none⟩ = some (.string l[k].u) ∧ W.cell? ⟨b, off + k * 4 + 2, none⟩ = some (.int .i64 l[k].f) ∧ W.cell? ⟨b, off + k * 4 + 3, none⟩ = some (.int .i64 l[k].t)) := fun W h => h.at_ hkl
      have hkp : ∀ h, l[j - 1]'h = l[k] := fun h => by congr 1; omega
      have HNX3 : Hid (FolE l[k] l[j] → eRiseTo l (j + 1)) := fun h => HNX.out (fun _ => by rw [hkp]; exact h)
      have HNP3 : Hid (¬ FolE l[k] l[j] → decide (RiseE l) = false) := fun h => HNP.out h0 (by rw [hkp]; exact h)
      clear HNF HNP HNO HFO HNX hkp hk hn
      generalize l[k] = y at *
      generalize l[j] = x at *
      by_cases h3 : FolE y x
      ·have HNX4 := Lib.hid (HNX3.out h3)
       rw [decide_eq_true h3] at HCX
       clear HNX3 HNP3 h3
       go_wp2_with fail
       generalize wr.alloc (.cells #[.string x.w, .string x.u, .int .i64 x.f, .int .i64 x.t] 165) = W at *
       generalize wr.heap.size = g at *
       refine wp_region_held_drew (S := (fun W => W.cell? ⟨g, 0, none⟩ = some (.string x.w) ∧ W.cell? ⟨g, 1, none⟩ = some (.string x.u) ∧ W.cell? ⟨g, 2, none⟩ = some (.int .i64 x.f) ∧ W.cell? ⟨g, 3, none⟩ = some (.int .i64 x.t) ∧ W.cell? ⟨b, off + k * 4, none⟩ = some (.string y.w) ∧ W.cell? ⟨b, off + k * 4 + 1, none⟩ = some (.string y.u) ∧ W.cell? ⟨b, off + k * 4 + 2, none⟩ = some (.int .i64 y.f) ∧ W.cell? ⟨b, off + k * 4 + 3, none⟩ = some (.int .i64 y.t))) (by kernel_rfl) ?_ (fun hHeld => ?_)
       ·exact HP0.out _ (HK.out.below (Below.refl _ _).drew)
       refine tV 0 12 ?_
       refine tV 1 13 ?_
       refine wpAnyH_ready (rs := [2]) (by kernel_rfl) (by simp) ?_
       refine AllReadyH.cons (o := ⟨some 14, _, _, _, _, _⟩) rfl (fun K hK => ?_) AllReadyH.nil
       go_simp
       refine (HN1.out _).mono ?_
       rintro e w2 ⟨rfl, h2⟩
       have K2 := (HK.out.below (Below.refl _ _).drew).below h2
       go_wp2_with fail
       refine hK.out _ _ ?_ (fun hH2 => ?_)
       ·exact HP0.out _ K2
       clear hK K
       (try simp only [Act.put, List.setIfInBounds_toArray, List.set_cons_zero, List.set_cons_succ])
       refine tV 3 15 ?_
       refine tV 4 16 ?_
       refine tV 5 17 ?_
       refine wpAnyH_ready (rs := [6]) (by kernel_rfl) (by simp) ?_
       refine AllReadyH.cons (o := ⟨some 18, _, _, _, _, _⟩) rfl (fun K hK => ?_) AllReadyH.nil
       go_simp
       refine (HRX.out _).mono ?_
       rintro e w3 ⟨rfl, h3⟩
       have K3 := K2.below h3
       go_wp2_with fail
       refine hK.out _ _ ?_ (fun hH6 => ?_)
       ·exact HP0.out _ K3
       clear hK K
       (try simp only [Act.put, List.setIfInBounds_toArray, List.set_cons_zero, List.set_cons_succ])
       refine tV 7 19 ?_
       refine tV 8 20 ?_
       refine tV 9 21 ?_
       refine tV 10 22 ?_
       refine tV 11 23 ?_
       refine tV 12 24 ?_
       refine tV 13 25 ?_
       refine tV 14 26 ?_
       refine tV 15 27 ?_
       refine tV 16 28 ?_
       refine tV 17 29 ?_
       refine tV 18 30 ?_
       refine wpAnyH_ready (rs := [19]) (by kernel_rfl) (by simp) ?_
       refine AllReadyH.cons (o := ⟨some 31, _, _, _, _, _⟩) rfl (fun K hK => ?_) AllReadyH.nil
       go_simp
       refine (HCX.out _).mono ?_
       rintro e w4 ⟨rfl, h4⟩
       have K4 := K3.below h4
       go_wp2_with fail
       refine hK.out _ _ ?_ (fun hH19 => ?_)
       ·exact HP0.out _ K4
       clear hK K
       (try simp only [Act.put, List.setIfInBounds_toArray, List.set_cons_zero, List.set_cons_succ])
       refine tV 20 32 ?_
       refine tV 21 33 ?_
       refine tV 22 34 ?_
       refine wpAnyH_done (by kernel_rfl) ?_ _
       all_goals
        go_wp2
        go_roundw
        case rel => exact ⟨j + 1, by omega, by go_num, HNX4, K4.frame⟩
        case measure => simp [intOf]; omega
      ·have HNF4 := Lib.hid (HNP3.out h3)
       rw [decide_eq_false h3] at HCX
       clear HNX3 HNP3 h3
       go_wp2_with fail
       generalize wr.alloc (.cells #[.string x.w, .string x.u, .int .i64 x.f, .int .i64 x.t] 165) = W at *
       generalize wr.heap.size = g at *
       refine wp_region_held_drew (S := (fun W => W.cell? ⟨g, 0, none⟩ = some (.string x.w) ∧ W.cell? ⟨g, 1, none⟩ = some (.string x.u) ∧ W.cell? ⟨g, 2, none⟩ = some (.int .i64 x.f) ∧ W.cell? ⟨g, 3, none⟩ = some (.int .i64 x.t) ∧ W.cell? ⟨b, off + k * 4, none⟩ = some (.string y.w) ∧ W.cell? ⟨b, off + k * 4 + 1, none⟩ = some (.string y.u) ∧ W.cell? ⟨b, off + k * 4 + 2, none⟩ = some (.int .i64 y.f) ∧ W.cell? ⟨b, off + k * 4 + 3, none⟩ = some (.int .i64 y.t))) (by kernel_rfl) ?_ (fun hHeld => ?_)
       ·exact HP0.out _ (HK.out.below (Below.refl _ _).drew)
       refine tV 0 12 ?_
       refine tV 1 13 ?_
       refine wpAnyH_ready (rs := [2]) (by kernel_rfl) (by simp) ?_
       refine AllReadyH.cons (o := ⟨some 14, _, _, _, _, _⟩) rfl (fun K hK => ?_) AllReadyH.nil
       go_simp
       refine (HN1.out _).mono ?_
       rintro e w2 ⟨rfl, h2⟩
       have K2 := (HK.out.below (Below.refl _ _).drew).below h2
       go_wp2_with fail
       refine hK.out _ _ ?_ (fun hH2 => ?_)
       ·exact HP0.out _ K2
       clear hK K
       (try simp only [Act.put, List.setIfInBounds_toArray, List.set_cons_zero, List.set_cons_succ])
       refine tV 3 15 ?_
       refine tV 4 16 ?_
       refine tV 5 17 ?_
       refine wpAnyH_ready (rs := [6]) (by kernel_rfl) (by simp) ?_
       refine AllReadyH.cons (o := ⟨some 18, _, _, _, _, _⟩) rfl (fun K hK => ?_) AllReadyH.nil
       go_simp
       refine (HRX.out _).mono ?_
       rintro e w3 ⟨rfl, h3⟩
       have K3 := K2.below h3
       go_wp2_with fail
       refine hK.out _ _ ?_ (fun hH6 => ?_)
       ·exact HP0.out _ K3
       clear hK K
       (try simp only [Act.put, List.setIfInBounds_toArray, List.set_cons_zero, List.set_cons_succ])
       refine tV 7 19 ?_
       refine tV 8 20 ?_
       refine tV 9 21 ?_
       refine tV 10 22 ?_
       refine tV 11 23 ?_
       refine tV 12 24 ?_
       refine tV 13 25 ?_
       refine tV 14 26 ?_
       refine tV 15 27 ?_
       refine tV 16 28 ?_
       refine tV 17 29 ?_
       refine tV 18 30 ?_
       refine wpAnyH_ready (rs := [19]) (by kernel_rfl) (by simp) ?_
       refine AllReadyH.cons (o := ⟨some 31, _, _, _, _, _⟩) rfl (fun K hK => ?_) AllReadyH.nil
       go_simp
       refine (HCX.out _).mono ?_
       rintro e w4 ⟨rfl, h4⟩
       have K4 := K3.below h4
       go_wp2_with fail
       refine hK.out _ _ ?_ (fun hH19 => ?_)
       ·exact HP0.out _ K4
       clear hK K
       (try simp only [Act.put, List.setIfInBounds_toArray, List.set_cons_zero, List.set_cons_succ])
       refine tV 20 32 ?_
       refine tV 21 33 ?_
       refine tV 22 34 ?_
       refine wpAnyH_done (by kernel_rfl) ?_ _
       all_goals
        go_wp2
        go_ret
        exact ⟨by rw [HNF4.out]; rfl, K4.frame⟩
     ·have HNX2 := Lib.hid (HNX.out (fun h => absurd h h0))
      have hgt : decide ((0 : Int) < (j : Int)) = false := decide_eq_false (by omega)
      clear HNF HNP HNO HFO HNX hn
      generalize l[j] = x at *
      go_wp2_with fail
      generalize wr.alloc (.cells #[.string x.w, .string x.u, .int .i64 x.f, .int .i64 x.t] 165) = W at *
      generalize wr.heap.size = g at *
      refine wp_region_held_drew (S := (fun W => W.cell? ⟨g, 0, none⟩ = some (.string x.w) ∧ W.cell? ⟨g, 1, none⟩ = some (.string x.u) ∧ W.cell? ⟨g, 2, none⟩ = some (.int .i64 x.f) ∧ W.cell? ⟨g, 3, none⟩ = some (.int .i64 x.t))) (by kernel_rfl) ?_ (fun hHeld => ?_)
      ·exact (HK.out.below (Below.refl _ _).drew).box
      refine tV 0 12 ?_
      refine tV 1 13 ?_
      refine wpAnyH_ready (rs := [2]) (by kernel_rfl) (by simp) ?_
      refine AllReadyH.cons (o := ⟨some 14, _, _, _, _, _⟩) rfl (fun K hK => ?_) AllReadyH.nil
      go_simp
      refine (HN1.out _).mono ?_
      rintro e w2 ⟨rfl, h2⟩
      have K2 := (HK.out.below (Below.refl _ _).drew).below h2
      go_wp2_with fail
      refine hK.out _ _ ?_ (fun hH2 => ?_)
      ·exact K2.box
      clear hK K
      (try simp only [Act.put, List.setIfInBounds_toArray, List.set_cons_zero, List.set_cons_succ])
      refine tV 3 15 ?_
      refine tV 4 16 ?_
      refine tV 5 17 ?_
      refine wpAnyH_ready (rs := [6]) (by kernel_rfl) (by simp) ?_
      refine AllReadyH.cons (o := ⟨some 18, _, _, _, _, _⟩) rfl (fun K hK => ?_) AllReadyH.nil
      go_simp
      refine (HRX.out _).mono ?_
      rintro e w3 ⟨rfl, h3⟩
      have K3 := K2.below h3
      go_wp2_with fail
      refine hK.out _ _ ?_ (fun hH6 => ?_)
      ·exact K3.box
      clear hK K
      (try simp only [Act.put, List.setIfInBounds_toArray, List.set_cons_zero, List.set_cons_succ])
      refine tV 7 19 ?_
      refine tV 8 20 ?_
      refine tV 9 21 ?_
      refine tV 10 22 ?_
      refine tV 11 23 ?_
      refine tV 12 24 ?_
      refine tU 13 25 ?_
      refine tU 14 26 ?_
      refine tU 15 27 ?_
      refine tU 16 28 ?_
      refine tU 17 29 ?_
      refine tU 18 30 ?_
      refine tU 19 31 ?_
      refine tU 20 32 ?_
      refine tV 21 33 ?_
      refine tV 22 34 ?_
      refine wpAnyH_done (by kernel_rfl) ?_ _
      all_goals
       go_wp2
       go_roundw
       case rel => exact ⟨j + 1, by omega, by go_num, HNX2, K3.frame⟩
       case measure => simp [intOf]; omega
  ·obtain rfl : j = l.length := by omega
   have HE := Lib.hid (decide_eq_true HO.out.all)
   go_wp2
   go_ret
   exact ⟨by rw [HE.out]; rfl, HB.out⟩
end Go.Proofs.YtapacckmgmdnoaaGreat
