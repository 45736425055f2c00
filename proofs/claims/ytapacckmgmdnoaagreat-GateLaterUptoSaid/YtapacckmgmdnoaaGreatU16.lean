/- Texts of mine, one behind the other, of each what is wanted. -/
import Derived.Test.YtapacckmgmdnoaaGreatU00
import Derived.Test.YtapacckmgmdnoaaGreatShelf
import Derived.Test.YtapacckmgmdnoaaGreatRows
import Derived.Test.YtapacckmgmdnoaaGreatU01
import Derived.Test.YtapacckmgmdnoaaGreatU02
import Derived.Test.YtapacckmgmdnoaaGreatU04
import Derived.Test.YtapacckmgmdnoaaGreatU07
import Derived.Test.YtapacckmgmdnoaaGreatU14
import Derived.Test.YtapacckmgmdnoaaGreatTQ
namespace Go.Proofs.YtapacckmgmdnoaaGreat
open Go.RowKit Go.Sort Go.Proofs
set_option linter.unusedVariables false
set_option maxRecDepth 100000
set_option maxRecDepth 100000
structure RwK (w : World) (a : Option Addr) (l : List StM) (W : World) : Prop where
 row : StSl W a l
 frame : Below w.heap.size w W
theorem RwK.below {w W W' : World} {a : Option Addr} {l : List StM} (h : RwK w a l W) (q : Below W.heap.size W W') : RwK w a l W' :=
 ⟨h.row.below q, h.frame.trans (q.mono h.frame.size)⟩
theorem RwK.at_ {w W : World} {b off : Nat} {l : List StM} (h : RwK w (some ⟨b, off, none⟩) l W) {k : Nat} (hk : k < l.length) :
  W.cell? ⟨b, off + k * 4, none⟩ = some (.int .i64 l[k].f) ∧ W.cell? ⟨b, off + k * 4 + 1, none⟩ = some (.int .i64 l[k].t) ∧ W.cell? ⟨b, off + k * 4 + 2, none⟩ = some (.int .i64 l[k].n) ∧ W.cell? ⟨b, off + k * 4 + 3, none⟩ = some (.int .i64 l[k].s) := by
 obtain ⟨_, _, e, _, h0, h1, h2, h3⟩ := h.row.at_ hk
 cases e
 exact ⟨h0, h1, h2, h3⟩
set_option maxHeartbeats 4000000 in
theorem refRising_any (a : Option Addr) (c : Nat) (l : List StM) (w : World) (hr : StSl w a l) (hl : l.length ≤ 1000000) :
  Calls Tryz.prog 138 #[.slice a l.length c] w fun e w' => e = .returned (.bool (decide (RiseS l))) ∧ Below w.heap.size w w' := by
 have HR := Lib.hid hr
 have HCM := Lib.hid (fun x y W => (ahead_any x y W).mono fun e w' (h : _ ∧ Grew W w') => And.intro h.1 (h.2.below (Nat.le_refl _)))
 unfold stV at HCM
 clear hr
 go_enter Tryz.func138, Tryz.ntmps138
 go_wp2
 go_loopw [3] (fun i wr => ∃ (j : Nat), j ≤ l.length ∧ i = .int .i64 j ∧ Hid (RiseTo l j) ∧ Hid (Below w.heap.size w wr)) (fun i _ => l.length - (intOf i).toNat)
 case atStart => exact ⟨0, by omega, rfl, fun k _ h => absurd h (by omega), Below.refl _ _⟩
 case round =>
  obtain ⟨j, hj, rfl, HO, HB⟩ := hrel
  by_cases hjl : j < l.length
  ·obtain ⟨b, off, rfl, hbl, hc0, hc1, hc2, hc3⟩ := (HR.out.below HB.out).at_ hjl
   have HK : Hid (RwK w (some ⟨b, off, none⟩) l wr) := ⟨HR.out.below HB.out, HB.out⟩
   have HNX := Lib.hid (HO.out.next hjl)
   have HNF : Hid (¬ l[j].f < l[j].t → decide (RiseS l) = false) := fun h => decide_eq_false fun k => h (k j hjl).1
   have HNP : Hid (∀ (h0 : 0 < j), ¬ ltSt (l[j - 1]'(by omega)) l[j] → decide (RiseS l) = false) := fun h0 h => decide_eq_false fun k => h ((k j hjl).2 h0)
   have HQ0 : Hid (∀ W, RwK w (some ⟨b, off, none⟩) l W → W.cell? ⟨b, off + j * 4, none⟩ = some (.int .i64 l[j].f) ∧ W.cell? ⟨b, off + j * 4 + 1, none⟩ = some (.int .i64 l[j].t) ∧ W.cell? ⟨b, off + j * 4 + 2, none⟩ = some (.int .i64 l[j].n) ∧ W.cell? ⟨b, off + j * 4 + 3, none⟩ = some (.int .i64 l[j].s)) := fun W h => h.at_ hjl
   clear hc0 hc1 hc2 hc3
   by_cases h1 : l[j].t ≤ l[j].f
   ·have HF := Lib.hid (HNF.out (by omega))
    have hle := decide_eq_true h1
    clear HNX HNF HNP HCM h1
    generalize l[j] = x at *
    go_wp2_with fail
    refine wp_region_held_drew (S := (fun W => W.cell? ⟨b, off + j * 4, none⟩ = some (.int .i64 x.f) ∧ W.cell? ⟨b, off + j * 4 + 1, none⟩ = some (.int .i64 x.t) ∧ W.cell? ⟨b, off + j * 4 + 2, none⟩ = some (.int .i64 x.n) ∧ W.cell? ⟨b, off + j * 4 + 3, none⟩ = some (.int .i64 x.s))) (by kernel_rfl) ?_ (fun hHeld => ?_)
    ·exact HQ0.out _ (HK.out.below (Below.refl _ _).drew)
    refine tV 0 10 ?_
    refine tV 1 11 ?_
    refine tV 2 12 ?_
    refine tV 3 13 ?_
    refine tV 4 14 ?_
    refine tV 5 15 ?_
    refine tV 6 16 ?_
    refine tV 7 17 ?_
    refine tV 8 18 ?_
    refine tV 9 19 ?_
    refine tV 10 20 ?_
    refine tV 11 21 ?_
    refine tU 12 22 ?_
    refine tU 13 23 ?_
    refine tU 14 24 ?_
    refine tU 15 25 ?_
    refine tU 16 26 ?_
    refine tU 17 27 ?_
    refine tU 18 28 ?_
    refine tU 19 29 ?_
    refine tU 20 30 ?_
    refine tU 21 31 ?_
    refine tU 22 32 ?_
    refine tU 23 33 ?_
    refine tU 24 34 ?_
    refine tU 25 35 ?_
    refine tU 26 36 ?_
    refine tV 27 37 ?_
    refine wpAnyH_done (by kernel_rfl) ?_ _
    all_goals
     go_wp2
     go_ret
     exact ⟨by rw [HF.out]; rfl, (HK.out.below (Below.refl _ _).drew).frame⟩
   ·have hle := decide_eq_false h1
    have HNX := Lib.hid (HNX.out (by omega))
    clear h1
    by_cases h0 : 0 < j
    ·obtain ⟨k, hk⟩ : ∃ k, j = k + 1 := ⟨j - 1, by omega⟩
     have hkl : k < l.length := by omega
     have hpw : IntKind.i64.wrap ((j : Int) - 1) = (k : Int) := by rw [IntWalk.i64_in] <;> omega
     have hgt : decide ((0 : Int) < (j : Int)) = true := decide_eq_true (by omega)
     have HCX0 := Lib.hid (HCM.out l[k] l[j])
     have HP0 : Hid (∀ W, RwK w (some ⟨b, off, none⟩) l W → W.cell? ⟨b, off + k * 4, none⟩ = some (.int .i64 l[k].f) ∧ W.cell? ⟨b, off + k * 4 + 1, none⟩ = some (.int .i64 l[k].t) ∧ W.cell? ⟨b, off + k * 4 + 2, none⟩ = some (.int .i64 l[k].n) ∧ W.cell? ⟨b, off + k * 4 + 3, none⟩ = some (.int .i64 l[k].s)) := fun W h => h.at_ hkl
     have hkp : ∀ h, l[j - 1]'h = l[k] := fun h => by congr 1; omega
     have HNX3 : Hid (ltSt l[k] l[j] → RiseTo l (j + 1)) := fun h => HNX.out (fun _ => by rw [hkp]; exact h)
     have HNP3 : Hid (¬ ltSt l[k] l[j] → decide (RiseS l) = false) := fun h => HNP.out h0 (by rw [hkp]; exact h)
     clear HNF HNP HCM HNX hkp hk
     generalize l[k] = y at *
     generalize l[j] = x at *
     by_cases h3 : ltSt y x
     ·have HNX4 := Lib.hid (HNX3.out h3)
      have HCX : Hid (∀ W, Calls Tryz.prog 157 #[.agg #[.int .i64 y.f, .int .i64 y.t, .int .i64 y.n, .int .i64 y.s], .agg #[.int .i64 x.f, .int .i64 x.t, .int .i64 x.n, .int .i64 x.s]] W fun e w' => e = .returned (.bool true) ∧ Below W.heap.size W w') := fun W => by
       have := HCX0.out W
       rwa [decide_eq_true h3] at this
      clear HNX3 HNP3 h3 HCX0
      go_wp2_with fail
      refine wp_region_held_drew (S := (fun W => W.cell? ⟨b, off + j * 4, none⟩ = some (.int .i64 x.f) ∧ W.cell? ⟨b, off + j * 4 + 1, none⟩ = some (.int .i64 x.t) ∧ W.cell? ⟨b, off + j * 4 + 2, none⟩ = some (.int .i64 x.n) ∧ W.cell? ⟨b, off + j * 4 + 3, none⟩ = some (.int .i64 x.s) ∧ W.cell? ⟨b, off + k * 4, none⟩ = some (.int .i64 y.f) ∧ W.cell? ⟨b, off + k * 4 + 1, none⟩ = some (.int .i64 y.t) ∧ W.cell? ⟨b, off + k * 4 + 2, none⟩ = some (.int .i64 y.n) ∧ W.cell? ⟨b, off + k * 4 + 3, none⟩ = some (.int .i64 y.s))) (by kernel_rfl) ?_ (fun hHeld => ?_)
      ·have K1 := HK.out.below (Below.refl _ _).drew; obtain ⟨k1, k2, k3, k4⟩ := HQ0.out _ K1; exact ⟨k1, k2, k3, k4, HP0.out _ K1⟩
      refine tV 0 10 ?_
      refine tV 1 11 ?_
      refine tV 2 12 ?_
      refine tV 3 13 ?_
      refine tV 4 14 ?_
      refine tV 5 15 ?_
      refine tV 6 16 ?_
      refine tV 7 17 ?_
      refine tV 8 18 ?_
      refine tV 9 19 ?_
      refine tV 10 20 ?_
      refine tV 11 21 ?_
      refine tV 12 22 ?_
      refine tV 13 23 ?_
      refine tV 14 24 ?_
      refine tV 15 25 ?_
      refine tV 16 26 ?_
      refine tV 17 27 ?_
      refine tV 18 28 ?_
      refine tV 19 29 ?_
      refine tV 20 30 ?_
      refine tV 21 31 ?_
      refine tV 22 32 ?_
      refine tV 23 33 ?_
      refine wpAnyH_ready (rs := [24]) (by kernel_rfl) (by simp) ?_
      refine AllReadyH.cons (o := ⟨some 34, _, _, _, _, _⟩) rfl (fun K hK => ?_) AllReadyH.nil
      go_simp
      refine (HCX.out _).mono ?_
      rintro e w3 ⟨rfl, h3⟩
      have K3 := (HK.out.below (Below.refl _ _).drew).below h3
      go_wp2_with fail
      refine hK.out _ _ ?_ (fun hH24 => ?_)
      ·obtain ⟨k1, k2, k3, k4⟩ := HQ0.out _ K3; exact ⟨k1, k2, k3, k4, HP0.out _ K3⟩
      clear hK K
      (try simp only [Act.put, List.setIfInBounds_toArray, List.set_cons_zero, List.set_cons_succ])
      refine tV 25 35 ?_
      refine tV 26 36 ?_
      refine tV 27 37 ?_
      refine wpAnyH_done (by kernel_rfl) ?_ _
      all_goals
       go_wp2
       go_roundw
       case rel => exact ⟨j + 1, by omega, by go_num, HNX4, K3.frame⟩
       case measure => simp [intOf]; omega
     ·have HNF4 := Lib.hid (HNP3.out h3)
      have HCX : Hid (∀ W, Calls Tryz.prog 157 #[.agg #[.int .i64 y.f, .int .i64 y.t, .int .i64 y.n, .int .i64 y.s], .agg #[.int .i64 x.f, .int .i64 x.t, .int .i64 x.n, .int .i64 x.s]] W fun e w' => e = .returned (.bool false) ∧ Below W.heap.size W w') := fun W => by
       have := HCX0.out W
       rwa [decide_eq_false h3] at this
      clear HNX3 HNP3 h3 HCX0
      go_wp2_with fail
      refine wp_region_held_drew (S := (fun W => W.cell? ⟨b, off + j * 4, none⟩ = some (.int .i64 x.f) ∧ W.cell? ⟨b, off + j * 4 + 1, none⟩ = some (.int .i64 x.t) ∧ W.cell? ⟨b, off + j * 4 + 2, none⟩ = some (.int .i64 x.n) ∧ W.cell? ⟨b, off + j * 4 + 3, none⟩ = some (.int .i64 x.s) ∧ W.cell? ⟨b, off + k * 4, none⟩ = some (.int .i64 y.f) ∧ W.cell? ⟨b, off + k * 4 + 1, none⟩ = some (.int .i64 y.t) ∧ W.cell? ⟨b, off + k * 4 + 2, none⟩ = some (.int .i64 y.n) ∧ W.cell? ⟨b, off + k * 4 + 3, none⟩ = some (.int .i64 y.s))) (by kernel_rfl) ?_ (fun hHeld => ?_)
      ·have K1 := HK.out.below (Below.refl _ _).drew; obtain ⟨k1, k2, k3, k4⟩ := HQ0.out _ K1; exact ⟨k1, k2, k3, k4, HP0.out _ K1⟩
      refine tV 0 10 ?_
      refine tV 1 11 ?_
      refine tV 2 12 ?_
      refine tV 3 13 ?_
      refine tV 4 14 ?_
      refine tV 5 15 ?_
      refine tV 6 16 ?_
      refine tV 7 17 ?_
      refine tV 8 18 ?_
      refine tV 9 19 ?_
      refine tV 10 20 ?_
      refine tV 11 21 ?_
      refine tV 12 22 ?_
      refine tV 13 23 ?_
      refine tV 14 24 ?_
      refine tV 15 25 ?_
      refine tV 16 26 ?_
      refine tV 17 27 ?_
      refine tV 18 28 ?_
      refine tV 19 29 ?_
      refine tV 20 30 ?_
      refine tV 21 31 ?_
      refine tV 22 32 ?_
      refine tV 23 33 ?_
      refine wpAnyH_ready (rs := [24]) (by kernel_rfl) (by simp) ?_
      refine AllReadyH.cons (o := ⟨some 34, _, _, _, _, _⟩) rfl (fun K hK => ?_) AllReadyH.nil
      go_simp
      refine (HCX.out _).mono ?_
      rintro e w3 ⟨rfl, h3⟩
      have K3 := (HK.out.below (Below.refl _ _).drew).below h3
      go_wp2_with fail
      refine hK.out _ _ ?_ (fun hH24 => ?_)
      ·obtain ⟨k1, k2, k3, k4⟩ := HQ0.out _ K3; exact ⟨k1, k2, k3, k4, HP0.out _ K3⟩
      clear hK K
      (try simp only [Act.put, List.setIfInBounds_toArray, List.set_cons_zero, List.set_cons_succ])
      refine tV 25 35 ?_
      refine tV 26 36 ?_
      refine tV 27 37 ?_
      refine wpAnyH_done (by kernel_rfl) ?_ _
      all_goals
       go_wp2
       go_ret
       exact ⟨by rw [HNF4.out]; rfl, K3.frame⟩
    ·have HNX2 := Lib.hid (HNX.out (fun h => absurd h h0))
     have hgt : decide ((0 : Int) < (j : Int)) = false := decide_eq_false (by omega)
     clear HNF HNP HCM HNX
     generalize l[j] = x at *
     go_wp2_with fail
     refine wp_region_held_drew (S := (fun W => W.cell? ⟨b, off + j * 4, none⟩ = some (.int .i64 x.f) ∧ W.cell? ⟨b, off + j * 4 + 1, none⟩ = some (.int .i64 x.t) ∧ W.cell? ⟨b, off + j * 4 + 2, none⟩ = some (.int .i64 x.n) ∧ W.cell? ⟨b, off + j * 4 + 3, none⟩ = some (.int .i64 x.s))) (by kernel_rfl) ?_ (fun hHeld => ?_)
     ·exact HQ0.out _ (HK.out.below (Below.refl _ _).drew)
     refine tV 0 10 ?_
     refine tV 1 11 ?_
     refine tV 2 12 ?_
     refine tV 3 13 ?_
     refine tV 4 14 ?_
     refine tV 5 15 ?_
     refine tV 6 16 ?_
     refine tV 7 17 ?_
     refine tV 8 18 ?_
     refine tV 9 19 ?_
     refine tV 10 20 ?_
     refine tV 11 21 ?_
     refine tV 12 22 ?_
     refine tV 13 23 ?_
     refine tV 14 24 ?_
     refine tU 15 25 ?_
     refine tU 16 26 ?_
     refine tU 17 27 ?_
     refine tU 18 28 ?_
     refine tU 19 29 ?_
     refine tU 20 30 ?_
     refine tU 21 31 ?_
     refine tU 22 32 ?_
     refine tU 23 33 ?_
     refine tU 24 34 ?_
     refine tU 25 35 ?_
     refine tV 26 36 ?_
     refine tV 27 37 ?_
     refine wpAnyH_done (by kernel_rfl) ?_ _
     all_goals
      go_wp2
      go_roundw
      case rel => exact ⟨j + 1, by omega, by go_num, HNX2, (HK.out.below (Below.refl _ _).drew).frame⟩
      case measure => simp [intOf]; omega
  ·obtain rfl : j = l.length := by omega
   have HE := Lib.hid (decide_eq_true HO.out.all)
   go_wp2
   go_ret
   exact ⟨by rw [HE.out]; rfl, HB.out⟩
end Go.Proofs.YtapacckmgmdnoaaGreat
namespace Go.Proofs.YtapacckmgmdnoaaGreat
open Go.RowKit Go.Proofs
set_option linter.unusedVariables false
set_option maxRecDepth 100000
set_option maxRecDepth 100000
deriving instance DecidableEq for TbM
deriving instance DecidableEq for UsM
end Go.Proofs.YtapacckmgmdnoaaGreat
