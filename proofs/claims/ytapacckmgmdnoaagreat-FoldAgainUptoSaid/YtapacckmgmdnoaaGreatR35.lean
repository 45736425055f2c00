/- Texts of mine, one behind the other, of each what is wanted. -/
import Derived.Test.YtapacckmgmdnoaaGreatR00
import Derived.Test.YtapacckmgmdnoaaGreatShelf
import Derived.Test.YtapacckmgmdnoaaGreatRows
import Derived.Test.YtapacckmgmdnoaaGreatR01
import Derived.Test.YtapacckmgmdnoaaGreatR03
import Derived.Test.YtapacckmgmdnoaaGreatR04
import Derived.Test.YtapacckmgmdnoaaGreatR09
import Derived.Test.YtapacckmgmdnoaaGreatR18
import Derived.Test.YtapacckmgmdnoaaGreatR22
import Derived.Test.YtapacckmgmdnoaaGreatR23
import Derived.Test.YtapacckmgmdnoaaGreatR31
import Derived.Test.YtapacckmgmdnoaaGreatTQ
namespace Go.Proofs.YtapacckmgmdnoaaGreat
open Go.RowKit Go.Sort Go.Proofs
set_option linter.unusedVariables false
set_option maxRecDepth 100000
set_option maxRecDepth 100000
structure RwK (w : World) (a : Option Addr) (l : List StM) (W : World) : Prop where
 row : StSl W a l
 frame : Below w.heap.size w W
theorem RwK.below {w W W' : World} {a : Option Addr} {l : List StM} (h : RwK w a l W) (q : Below W.heap.size W W') : RwK w a l W' :=
 ⟨h.row.below q, h.frame.trans (q.mono h.frame.size)⟩
theorem RwK.at_ {w W : World} {b off : Nat} {l : List StM} (h : RwK w (some ⟨b, off, none⟩) l W) {k : Nat} (hk : k < l.length) :
  W.cell? ⟨b, off + k * 4, none⟩ = some (.int .i64 l[k].f) ∧ W.cell? ⟨b, off + k * 4 + 1, none⟩ = some (.int .i64 l[k].t) ∧ W.cell? ⟨b, off + k * 4 + 2, none⟩ = some (.int .i64 l[k].n) ∧ W.cell? ⟨b, off + k * 4 + 3, none⟩ = some (.int .i64 l[k].s) := by
 obtain ⟨_, _, e, _, h0, h1, h2, h3⟩ := h.row.at_ hk
 cases e
 exact ⟨h0, h1, h2, h3⟩
set_option maxHeartbeats 4000000 in
theorem refRising_any (a : Option Addr) (c : Nat) (l : List StM) (w : World) (hr : StSl w a l) (hl : l.length ≤ 1000000) :
  Calls Tryz.prog 138 #[.slice a l.length c] w fun e w' => e = .returned (.bool (decide (RiseS l))) ∧ Below w.heap.size w w' := by
 have HR := Lib.hid hr
 have HCM := Lib.hid (fun x y W => (ahead_any x y W).mono fun e w' (h : _ ∧ Grew W w') => And.intro h.1 (h.2.below (Nat.le_refl _)))
 unfold stV at HCM
 clear hr
 go_enter Tryz.func138, Tryz.ntmps138
 go_wp2
 go_loopw [3] (fun i wr => ∃ (j : Nat), j ≤ l.length ∧ i = .int .i64 j ∧ Hid (RiseTo l j) ∧ Hid (Below w.heap.size w wr)) (fun i _ => l.length - (intOf i).toNat)
 case atStart => exact ⟨0, by omega, rfl, fun k _ h => absurd h (by omega), Below.refl _ _⟩
 case round =>
  obtain ⟨j, hj, rfl, HO, HB⟩ := hrel
  by_cases hjl : j < l.length
  ·obtain ⟨b, off, rfl, hbl, hc0, hc1, hc2, hc3⟩ := (HR.out.below HB.out).at_ hjl
   have HK : Hid (RwK w (some ⟨b, off, none⟩) l wr) := ⟨HR.out.below HB.out, HB.out⟩
   have HNX := Lib.hid (HO.out.next hjl)
   have HNF : Hid (¬ l[j].f < l[j].t → decide (RiseS l) = false) := fun h => decide_eq_false fun k => h (k j hjl).1
   have HNP : Hid (∀ (h0 : 0 < j), ¬ ltSt (l[j - 1]'(by omega)) l[j] → decide (RiseS l) = false) := fun h0 h => decide_eq_false fun k => h ((k j hjl).2 h0)
   have HQ0 : Hid (∀ W, RwK w (some ⟨b, off, none⟩) l W → W.cell? ⟨b, off + j * 4, none⟩ = some (.int .i64 l[j].f) ∧ W.cell? ⟨b, off + j * 4 + 1, none⟩ = some (.int .i64 l[j].t) ∧ W.cell? ⟨b, off + j * 4 + 2, none⟩ = some (.int .i64 l[j].n) ∧ W.cell? ⟨b, off + j * 4 + 3, none⟩ = some (.int .i64 l[j].s)) := fun W h => h.at_ hjl
   clear hc0 hc1 hc2 hc3
   by_cases h1 : l[j].t ≤ l[j].f
   ·have HF := Lib.hid (HNF.out (by omega))
    have hle := decide_eq_true h1
    clear HNX HNF HNP HCM h1
    generalize l[j] = x at *
    go_wp2_with fail
    refine wp_region_held_drew (S := (fun W => W.cell? ⟨b, off + j * 4, none⟩ = some (.int .i64 x.f) ∧ W.cell? ⟨b, off + j * 4 + 1, none⟩ = some (.int .i64 x.t) ∧ W.cell? ⟨b, off + j * 4 + 2, none⟩ = some (.int .i64 x.n) ∧ W.cell? ⟨b, off + j * 4 + 3, none⟩ = some (.int .i64 x.s))) (by kernel_rfl) ?_ (fun hHeld => ?_)
    ·exact HQ0.out _ (HK.out.below (Below.refl _ _).drew)
    refine tV 0 10 ?_
    refine tV 1 11 ?_
    refine tV 2 12 ?_
    refine tV 3 13 ?_
    refine tV 4 14 ?_
    refine tV 5 15 ?_
    refine tV 6 16 ?_
    refine tV 7 17 ?_
    refine tV 8 18 ?_
    refine tV 9 19 ?_
    refine tV 10 20 ?_
    refine tV 11 21 ?_
    refine tU 12 22 ?_
    refine tU 13 23 ?_
    refine tU 14 24 ?_
    refine tU 15 25 ?_
    refine tU 16 26 ?_
    refine tU 17 27 ?_
    refine tU 18 28 ?_
    refine tU 19 29 ?_
    refine tU 20 30 ?_
    refine tU 21 31 ?_
    refine tU 22 32 ?_
    refine tU 23 33 ?_
    refine tU 24 34 ?_
    refine tU 25 35 ?_
    refine tU 26 36 ?_
    refine tV 27 37 ?_
    refine wpAnyH_done (by kernel_rfl) ?_ _
    all_goals
     go_wp2
     go_ret
     exact ⟨by rw [HF.out]; rfl, (HK.out.below (Below.refl _ _).drew).frame⟩
   ·have hle := decide_eq_false h1
    have HNX := Lib.hid (HNX.out (by omega))
    clear h1
    by_cases h0 : 0 < j
    ·obtain ⟨k, hk⟩ : ∃ k, j = k + 1 := ⟨j - 1, by omega⟩
     have hkl : k < l.length := by omega
     have hpw : IntKind.i64.wrap ((j : Int) - 1) = (k : Int) := by rw [IntWalk.i64_in] <;> omega
     have hgt : decide ((0 : Int) < (j : Int)) = true := decide_eq_true (by omega)
     have HCX0 := Lib.hid (HCM.out l[k] l[j])
     have HP0 : Hid (∀ W, RwK w (some ⟨b, off, none⟩) l W → W.cell? ⟨b, off + k * 4, none⟩ = some (.int .i64 l[k].f) ∧ W.cell? ⟨b, off + k * 4 + 1, none⟩ = some (.int .i64 l[k].t) ∧ W.cell? ⟨b, off + k * 4 + 2, none⟩ = some (.int .i64 l[k].n) ∧ W.cell? ⟨b, off + k * 4 + 3, none⟩ = some (.int .i64 l[k].s)) := fun W h => h.at_ hkl
     have hkp : ∀ h, l[j - 1]'h = l[k] := fun h => by congr 1; omega
     have HNX3 : Hid (ltSt l[k] l[j] → RiseTo l (j + 1)) := fun h => HNX.out (fun _ => by rw [hkp]; exact h)
     have HNP3 : Hid (¬ ltSt l[k] l[j] → decide (RiseS l) = false) := fun h => HNP.out h0 (by rw [hkp]; exact h)
     clear HNF HNP HCM HNX hkp hk
     generalize l[k] = y at *
     generalize l[j] = x at *
     by_cases h3 : ltSt y x
     ·have HNX4 := Lib.hid (HNX3.out h3)
      have HCX : Hid (∀ W, Calls Tryz.prog 157 #[.agg #[.int .i64 y.f, .int .i64 y.t, .int .i64 y.n, .int .i64 y.s], .agg #[.int .i64 x.f, .int .i64 x.t, .int .i64 x.n, .int .i64 x.s]] W fun e w' => e = .returned (.bool true) ∧ Below W.heap.size W w') := fun W => by
       have := HCX0.out W
       rwa [decide_eq_true h3] at this
      clear HNX3 HNP3 h3 HCX0
      go_wp2_with fail
      refine wp_region_held_drew (S := (fun W => W.cell? ⟨b, off + j * 4, none⟩ = some (.int .i64 x.f) ∧ W.cell? ⟨b, off + j * 4 + 1, none⟩ = some (.int .i64 x.t) ∧ W.cell? ⟨b, off + j * 4 + 2, none⟩ = some (.int .i64 x.n) ∧ W.cell? ⟨b, off + j * 4 + 3, none⟩ = some (.int .i64 x.s) ∧ W.cell? ⟨b, off + k * 4, none⟩ = some (.int .i64 y.f) ∧ W.cell? ⟨b, off + k * 4 + 1, none⟩ = some (.int .i64 y.t) ∧ W.cell? ⟨b, off + k * 4 + 2, none⟩ = some (.int .i64 y.n) ∧ W.cell? ⟨b, off + k * 4 + 3, none⟩ = some (.int .i64 y.s))) (by kernel_rfl) ?_ (fun hHeld => ?_)
      ·have K1 := HK.out.below (Below.refl _ _).drew; obtain ⟨k1, k2, k3, k4⟩ := HQ0.out _ K1; exact ⟨k1, k2, k3, k4, HP0.out _ K1⟩
      refine tV 0 10 ?_
      refine tV 1 11 ?_
      refine tV 2 12 ?_
      refine tV 3 13 ?_
      refine tV 4 14 ?_
      refine tV 5 15 ?_
      refine tV 6 16 ?_
      refine tV 7 17 ?_
      refine tV 8 18 ?_
      refine tV 9 19 ?_
      refine tV 10 20 ?_
      refine tV 11 21 ?_
      refine tV 12 22 ?_
      refine tV 13 23 ?_
      refine tV 14 24 ?_
      refine tV 15 25 ?_
      refine tV 16 26 ?_
      refine tV 17 27 ?_
      refine tV 18 28 ?_
      refine tV 19 29 ?_
      refine tV 20 30 ?_
      refine tV 21 31 ?_
      refine tV 22 32 ?_
      refine tV 23 33 ?_
      refine wpAnyH_ready (rs := [24]) (by kernel_rfl) (by simp) ?_
      refine AllReadyH.cons (o := ⟨some 34, _, _, _, _, _⟩) rfl (fun K hK => ?_) AllReadyH.nil
      go_simp
      refine (HCX.out _).mono ?_
      rintro e w3 ⟨rfl, h3⟩
      have K3 := (HK.out.below (Below.refl _ _).drew).below h3
      go_wp2_with fail
      refine hK.out _ _ ?_ (fun hH24 => ?_)
      ·obtain ⟨k1, k2, k3, k4⟩ := HQ0.out _ K3; exact ⟨k1, k2, k3, k4, HP0.out _ K3⟩
      clear hK K
      (try simp only [Act.put, List.setIfInBounds_toArray, List.set_cons_zero, List.set_cons_succ])
      refine tV 25 35 ?_
      refine tV 26 36 ?_
      refine tV 27 37 ?_
      refine wpAnyH_done (by kernel_rfl) ?_ _
      all_goals
       go_wp2
       go_roundw
       case rel => exact ⟨j + 1, by omega, by go_num, HNX4, K3.frame⟩
       case measure => simp [intOf]; omega
     ·have HNF4 := Lib.hid (HNP3.out h3)
      have HCX : Hid (∀ W, Calls Tryz.prog 157 #[.agg #[.int .i64 y.f, .int .i64 y.t, .int .i64 y.n, .int .i64 y.s], .agg #[.int .i64 x.f, .int .i64 x.t, .int .i64 x.n, .int .i64 x.s]] W fun e w' => e = .returned (.bool false) ∧ Below W.heap.size W w') := fun W => by
       have := HCX0.out W
       rwa [decide_eq_false h3] at this
      clear HNX3 HNP3 h3 HCX0
      go_wp2_with fail
      refine wp_region_held_drew (S := (fun W => W.cell? ⟨b, off + j * 4, none⟩ = some (.int .i64 x.f) ∧ W.cell? ⟨b, off + j * 4 + 1, none⟩ = some (.int .i64 x.t) ∧ W.cell? ⟨b, off + j * 4 + 2, none⟩ = some (.int .i64 x.n) ∧ W.cell? ⟨b, off + j * 4 + 3, none⟩ = some (.int .i64 x.s) ∧ W.cell? ⟨b, off + k * 4, none⟩ = some (.int .i64 y.f) ∧ W.cell? ⟨b, off + k * 4 + 1, none⟩ = some (.int .i64 y.t) ∧ W.cell? ⟨b, off + k * 4 + 2, none⟩ = some (.int .i64 y.n) ∧ W.cell? ⟨b, off + k * 4 + 3, none⟩ = some (.int .i64 y.s))) (by kernel_rfl) ?_ (fun hHeld => ?_)
      ·have K1 := HK.out.below (Below.refl _ _).drew; obtain ⟨k1, k2, k3, k4⟩ := HQ0.out _ K1; exact ⟨k1, k2, k3, k4, HP0.out _ K1⟩
      refine tV 0 10 ?_
      refine tV 1 11 ?_
      refine tV 2 12 ?_
      refine tV 3 13 ?_
      refine tV 4 14 ?_
      refine tV 5 15 ?_
      refine tV 6 16 ?_
      refine tV 7 17 ?_
      refine tV 8 18 ?_
      refine tV 9 19 ?_
      refine tV 10 20 ?_
      refine tV 11 21 ?_
      refine tV 12 22 ?_
      refine tV 13 23 ?_
      refine tV 14 24 ?_
      refine tV 15 25 ?_
      refine tV 16 26 ?_
      refine tV 17 27 ?_
      refine tV 18 28 ?_
      refine tV 19 29 ?_
      refine tV 20 30 ?_
      refine tV 21 31 ?_
      refine tV 22 32 ?_
      refine tV 23 33 ?_
      refine wpAnyH_ready (rs := [24]) (by kernel_rfl) (by simp) ?_
      refine AllReadyH.cons (o := ⟨some 34, _, _, _, _, _⟩) rfl (fun K hK => ?_) AllReadyH.nil
      go_simp
      refine (HCX.out _).mono ?_
      rintro e w3 ⟨rfl, h3⟩
      have K3 := (HK.out.below (Below.refl _ _).drew).below h3
      go_wp2_with fail
      refine hK.out _ _ ?_ (fun hH24 => ?_)
      ·obtain ⟨k1, k2, k3, k4⟩ := HQ0.out _ K3; exact ⟨k1, k2, k3, k4, HP0.out _ K3⟩
      clear hK K
      (try simp only [Act.put, List.setIfInBounds_toArray, List.set_cons_zero, List.set_cons_succ])
      refine tV 25 35 ?_
      refine tV 26 36 ?_
      refine tV 27 37 ?_
      refine wpAnyH_done (by kernel_rfl) ?_ _
      all_goals
       go_wp2
       go_ret
       exact ⟨by rw [HNF4.out]; rfl, K3.frame⟩
    ·have HNX2 := Lib.hid (HNX.out (fun h => absurd h h0))
     have hgt : decide ((0 : Int) < (j : Int)) = false := decide_eq_false (by omega)
     clear HNF HNP HCM HNX
     generalize l[j] = x at *
     go_wp2_with fail
     refine wp_region_held_drew (S := (fun W => W.cell? ⟨b, off + j * 4, none⟩ = some (.int .i64 x.f) ∧ W.cell? ⟨b, off + j * 4 + 1, none⟩ = some (.int .i64 x.t) ∧ W.cell? ⟨b, off + j * 4 + 2, none⟩ = some (.int .i64 x.n) ∧ W.cell? ⟨b, off + j * 4 + 3, none⟩ = some (.int .i64 x.s))) (by kernel_rfl) ?_ (fun hHeld => ?_)
     ·exact HQ0.out _ (HK.out.below (Below.refl _ _).drew)
     refine tV 0 10 ?_
     refine tV 1 11 ?_
     refine tV 2 12 ?_
     refine tV 3 13 ?_
     refine tV 4 14 ?_
     refine tV 5 15 ?_
     refine tV 6 16 ?_
     refine tV 7 17 ?_
     refine tV 8 18 ?_
     refine tV 9 19 ?_
     refine tV 10 20 ?_
     refine tV 11 21 ?_
     refine tV 12 22 ?_
     refine tV 13 23 ?_
     refine tV 14 24 ?_
     refine tU 15 25 ?_
     refine tU 16 26 ?_
     refine tU 17 27 ?_
     refine tU 18 28 ?_
     refine tU 19 29 ?_
     refine tU 20 30 ?_
     refine tU 21 31 ?_
     refine tU 22 32 ?_
     refine tU 23 33 ?_
     refine tU 24 34 ?_
     refine tU 25 35 ?_
     refine tV 26 36 ?_
     refine tV 27 37 ?_
     refine wpAnyH_done (by kernel_rfl) ?_ _
     all_goals
      go_wp2
      go_roundw
      case rel => exact ⟨j + 1, by omega, by go_num, HNX2, (HK.out.below (Below.refl _ _).drew).frame⟩
      case measure => simp [intOf]; omega
  ·obtain rfl : j = l.length := by omega
   have HE := Lib.hid (decide_eq_true HO.out.all)
   go_wp2
   go_ret
   exact ⟨by rw [HE.out]; rfl, HB.out⟩
end Go.Proofs.YtapacckmgmdnoaaGreat
namespace Go.Proofs.YtapacckmgmdnoaaGreat
open Go.RowKit Go.Proofs
set_option linter.unusedVariables false
set_option maxRecDepth 100000
set_option maxRecDepth 100000
theorem own_grown {w w' : World} {B B2 : Nat} {e e2 : TypeId} {k k2 n n2 : Nat} {v v2 : Value} {xs xs2 : List Value} (hv : w.ownsRow B e k v n xs) (h2 : w.ownsRow B2 e2 k2 v2 n2 xs2) (hne : e ≠ e2) (hg : w.grownBy w' v.ownBlock) : w'.ownsRow B2 e2 k2 v2 n2 xs2 := by
 refine ⟨h2.1, ?_⟩
 rcases h2.2 with ⟨h3, h4⟩ | ⟨g, cap, cur, h3, h4, h5, h6⟩
 ·exact .inl ⟨h3, h4⟩
 ·refine .inr ⟨g, cap, cur, h3, h4, ?_, h6⟩
  rw [hg.block g (heap_lt h5) ?_, h5]
  rcases hv.2 with ⟨h7, _⟩ | ⟨g', cap', cur', h7, _, h8, _⟩
  ·rw [h7]; simp [Value.ownBlock]
  ·rw [h7]
   intro e1
   simp only [Value.ownBlock] at e1
   injection e1 with e1
   subst e1
   rw [h5] at h8
   injection h8 with h8
   injection h8 with _ h8
   exact hne h8.symm
def OwnSt (W : World) (B : Nat) (y : UsL) : Prop := W.ownsRow B 111 4 (.slice y.a y.l.length y.c) y.l.length (sts y.l)
theorem OwnSt.at_ {W : World} {B : Nat} {y : UsL} (h : OwnSt W B y) : UsAt W y := by
 obtain ⟨x, q, h1, h2, h3, h4, h5⟩ := own_st h
 injection h1 with k1 k2 k3
 subst k1 k3
 exact ⟨h4, h2, h3, h5⟩
theorem usv_snoc (D : List UsL) (y : UsL) : usv (D ++ [y]) = usv D ++ [.string y.u, .slice y.a y.l.length y.c] := by
 unfold usv
 rw [List.map_append]
 exact pps_snoc _ _
def TellsB (w : World) (P : Prop) (r : Ending) (w' : World) : Prop := ∃ b, r = .returned (.bool b) ∧ (b = true ↔ P) ∧ Below w.heap.size w w'
def StaysP (now : Int) (op : List OpM) (l : List StM) : Prop := (∀ x ∈ l, OkSt now op x) ∧ l ≠ [] ∧ RiseS l
set_option maxHeartbeats 2000000 in
theorem rstayok_any (a : Option Addr) (c : Nat) (l : List StM) (now : Int) (oa : Option Addr) (oc : Nat) (op : List OpM) (w : World) (h : StSl w a l) (ho : OpSl w oa op) (hl : l.length ≤ 1000) (hol : op.length ≤ 1000) :
  Calls Tryz.prog 68 #[.slice a l.length c, .int .i64 now, .slice oa op.length oc] w (TellsB w (StaysP now op l)) := by
 have HR := Lib.hid h
 have HO := Lib.hid ho
 have HRS := Lib.hid (fun V (h : StSl V a l) => refRising_any a c l V h (by omega))
 clear h ho
 go_enter Tryz.func68, Tryz.ntmps68
 go_wp2
 go_loopw [7, 8, 9] (fun iv pv qv wr => ∃ (j : Nat), j ≤ l.length ∧ iv = .int .i64 j ∧ Hid (∀ i (h : i < l.length), i < j → OkSt now op l[i]) ∧ Hid (Below w.heap.size w wr)) (fun iv _ _ _ => l.length - (intOf iv).toNat)
 case atStart => exact ⟨0, by omega, rfl, (fun i h hi => by omega), Below.refl _ _⟩
 case round =>
  obtain ⟨j, hj, rfl, HLW, HB⟩ := hrel
  by_cases hjl : j < l.length
  ·obtain ⟨b, off, rfl, hbl, r0, r1, r2, r3⟩ := (HR.out.below HB.out) j hjl
   have hb := below_one wr (.cells #[.int .i64 (l[j]).f, .int .i64 (l[j]).t, .int .i64 (l[j]).n, .int .i64 (l[j]).s] 104)
   have ST := heap_alloc_new wr (.cells #[.int .i64 (l[j]).f, .int .i64 (l[j]).t, .int .i64 (l[j]).n, .int .i64 (l[j]).s] 104)
   have hsz := size1 wr (.cells #[.int .i64 (l[j]).f, .int .i64 (l[j]).t, .int .i64 (l[j]).n, .int .i64 (l[j]).s] 104)
   have HX := Lib.hid (fun (h : ¬ OkSt now op l[j]) (h' : StaysP now op l) => h (h'.1 _ (List.getElem_mem hjl)))
   have HBT := Lib.hid (HB.out.trans (hb.mono HB.out.size))
   have HN := Lib.hid (fun (h : OkSt now op l[j]) => (show ∀ i (h : i < l.length), i < j + 1 → OkSt now op l[i] from fun i hi hij => by
    by_cases e : i = j
    ·subst e; exact h
    ·exact HLW.out i hi (by omega)))
   clear HLW HB
   generalize l[j] = s at *
   go_wp2
   obtain ⟨T, hT⟩ : ∃ T, T = wr.alloc (.cells #[.int .i64 s.f, .int .i64 s.t, .int .i64 s.n, .int .i64 s.s] 104) := ⟨_, rfl⟩
   rw [← hT] at ST hsz HBT ⊢
   have HST := Lib.hid ST
   have hlt : wr.heap.size < T.heap.size := by omega
   clear hb ST r0 r1 r2 r3 hT hbl
   go_loopw [9] (fun qv wq => ∃ (i : Nat), i ≤ op.length ∧ qv = .int .i64 i ∧ Hid (∀ m (h : m < op.length), m < i → op[m].n = s.n → s.t ≤ op[m].f) ∧ Hid (Below T.heap.size T wq)) (fun qv _ => op.length - (intOf qv).toNat)
   case atStart => exact ⟨0, by omega, rfl, (fun i h hi => by omega), Below.refl _ _⟩
   case round =>
    obtain ⟨i, hi, rfl, HLQ, HQ⟩ := hrel
    obtain ⟨s0, s1, s2, s3⟩ := cells4 ((HQ.out.block _ hlt).trans HST.out)
    by_cases hil : i < op.length
    ·obtain ⟨b2, off2, rfl, hbl2, o0, o1, o2, o3⟩ := ((HO.out.below HBT.out).below HQ.out) i hil
     have HQN := Lib.hid (fun (h : op[i].n = s.n → s.t ≤ op[i].f) => (show ∀ m (h : m < op.length), m < i + 1 → op[m].n = s.n → s.t ≤ op[m].f from fun m hm hmi => by
      by_cases e : m = i
      ·subst e; exact h
      ·exact HLQ.out m hm (by omega)))
     have HXX := Lib.hid (fun (h1 : op[i].n = s.n) (h2 : op[i].f < s.t) => HX.out (fun h => by have := h.2.2.2.2.2.2 _ (List.getElem_mem hil) h1; omega))
     clear HLQ HRS HN HX
     by_cases hn : op[i].n = s.n
     ·by_cases hf : op[i].f < s.t
      ·have HP := Lib.hid (HXX.out hn hf)
       have hd : decide (op[i].f < s.t) = true := decide_eq_true hf
       have HF0 := Lib.hid (HBT.out.trans (HQ.out.mono HBT.out.size))
       rw [hn] at o0
       clear HQN HXX hf HQ HST
       generalize op[i] = e at *
       clear hn
       go_wp2
       go_quiet (fail)
       go_wp2
       go_ret
       exact ⟨false, rfl, ⟨(fun h => by cases h), fun h => absurd h HP.out⟩, HF0.out.trans ((Drew.below ⟨_, rfl⟩ _).mono HF0.out.size)⟩
      ·have HQ2 := Lib.hid (HQN.out fun _ => by omega)
       have hd : decide (op[i].f < s.t) = false := decide_eq_false hf
       rw [hn] at o0
       clear HQN HXX hf
       generalize op[i] = e at *
       clear hn
       go_wp2
       go_quiet (fail)
       go_wp2
       go_roundw
       case rel => exact ⟨i + 1, by omega, by go_num, HQ2.out, HQ.out.trans ((Drew.below ⟨_, rfl⟩ _).mono HQ.out.size)⟩
       case measure => simp [intOf]; omega
     ·have HQ2 := Lib.hid (HQN.out fun h => absurd h hn)
      clear HQN HXX
      generalize op[i] = e at *
      have hd1 : (e.n == s.n) = false := beq_eq_false_iff_ne.2 hn
      go_wp2
      go_quiet (fail)
      go_wp2
      go_roundw
      case rel => exact ⟨i + 1, by omega, by go_num, HQ2.out, HQ.out.trans ((Drew.below ⟨_, rfl⟩ _).mono HQ.out.size)⟩
      case measure => simp [intOf]; omega
    ·obtain rfl : i = op.length := by omega
     have HAL : Hid (∀ o ∈ op, o.n = s.n → s.t ≤ o.f) := fun o ho => by
      obtain ⟨m, hm, rfl⟩ := List.getElem_of_mem ho
      exact HLQ.out m hm hm
     have HFR := Lib.hid (HBT.out.trans (HQ.out.mono HBT.out.size))
     clear HLQ HQ HBT HST HRS
     by_cases q0 : s.f < 0
     ·have HP := Lib.hid (HX.out (fun h => by have := h.1; omega))
      have d0 : decide (s.f < 0) = true := decide_eq_true q0
      clear HN HX HAL
      go_wp2
      go_ret
      exact ⟨false, rfl, ⟨(fun h => by cases h), fun h => absurd h HP.out⟩, HFR.out⟩
     ·skip
      by_cases q1 : now < s.t
      ·have HP := Lib.hid (HX.out (fun h => by have := h.2.1; omega))
       have d0 : decide (s.f < 0) = false := decide_eq_false q0
       have d1 : decide (now < s.t) = true := decide_eq_true q1
       clear HN HX HAL
       go_wp2
       go_ret
       exact ⟨false, rfl, ⟨(fun h => by cases h), fun h => absurd h HP.out⟩, HFR.out⟩
      ·skip
       by_cases q2 : s.n < 1
       ·have HP := Lib.hid (HX.out (fun h => by have := h.2.2.1; omega))
        have d0 : decide (s.f < 0) = false := decide_eq_false q0
        have d1 : decide (now < s.t) = false := decide_eq_false q1
        have d2 : decide (s.n < 1) = true := decide_eq_true q2
        clear HN HX HAL
        go_wp2
        go_ret
        exact ⟨false, rfl, ⟨(fun h => by cases h), fun h => absurd h HP.out⟩, HFR.out⟩
       ·skip
        by_cases q3 : 999 < s.n
        ·have HP := Lib.hid (HX.out (fun h => by have := h.2.2.2.1; omega))
         have d0 : decide (s.f < 0) = false := decide_eq_false q0
         have d1 : decide (now < s.t) = false := decide_eq_false q1
         have d2 : decide (s.n < 1) = false := decide_eq_false q2
         have d3 : decide (999 < s.n) = true := decide_eq_true q3
         clear HN HX HAL
         go_wp2
         go_ret
         exact ⟨false, rfl, ⟨(fun h => by cases h), fun h => absurd h HP.out⟩, HFR.out⟩
        ·skip
         by_cases q4 : s.s < 1
         ·have HP := Lib.hid (HX.out (fun h => by have := h.2.2.2.2.1; omega))
          have d0 : decide (s.f < 0) = false := decide_eq_false q0
          have d1 : decide (now < s.t) = false := decide_eq_false q1
          have d2 : decide (s.n < 1) = false := decide_eq_false q2
          have d3 : decide (999 < s.n) = false := decide_eq_false q3
          have d4 : decide (s.s < 1) = true := decide_eq_true q4
          clear HN HX HAL
          go_wp2
          go_ret
          exact ⟨false, rfl, ⟨(fun h => by cases h), fun h => absurd h HP.out⟩, HFR.out⟩
         ·skip
          by_cases q5 : 4 < s.s
          ·have HP := Lib.hid (HX.out (fun h => by have := h.2.2.2.2.2.1; omega))
           have d0 : decide (s.f < 0) = false := decide_eq_false q0
           have d1 : decide (now < s.t) = false := decide_eq_false q1
           have d2 : decide (s.n < 1) = false := decide_eq_false q2
           have d3 : decide (999 < s.n) = false := decide_eq_false q3
           have d4 : decide (s.s < 1) = false := decide_eq_false q4
           have d5 : decide (4 < s.s) = true := decide_eq_true q5
           clear HN HX HAL
           go_wp2
           go_ret
           exact ⟨false, rfl, ⟨(fun h => by cases h), fun h => absurd h HP.out⟩, HFR.out⟩
          ·skip
           have d0 : decide (s.f < 0) = false := decide_eq_false q0
           have d1 : decide (now < s.t) = false := decide_eq_false q1
           have d2 : decide (s.n < 1) = false := decide_eq_false q2
           have d3 : decide (999 < s.n) = false := decide_eq_false q3
           have d4 : decide (s.s < 1) = false := decide_eq_false q4
           have d5 : decide (4 < s.s) = false := decide_eq_false q5
           have HN2 := Lib.hid (HN.out ⟨by omega, by omega, by omega, by omega, by omega, by omega, HAL.out⟩)
           clear HN HX HAL
           go_wp2
           go_roundw
           case rel => exact ⟨j + 1, by omega, by go_num, HN2.out, HFR.out⟩
           case measure => simp [intOf]; omega
  ·obtain rfl : j = l.length := by omega
   have HAL : Hid (∀ x ∈ l, OkSt now op x) := fun x hx => by
    obtain ⟨m, hm, rfl⟩ := List.getElem_of_mem hx
    exact HLW.out m hm hm
   have HL := Lib.hid (HR.out.below HB.out)
   by_cases hnil : l = []
   ·have HF : Hid (¬ StaysP now op l) := fun h => h.2.1 hnil
    subst hnil
    clear HAL HL HLW HRS HR HO
    go_wp2
    go_ret
    exact ⟨false, rfl, ⟨(fun h => by cases h), fun h => absurd h HF.out⟩, HB.out⟩
   ·have hlen : 0 < l.length := List.length_pos_iff.2 hnil
    have hd : decide ((0 : Int) < (l.length : Int)) = true := decide_eq_true (by omega)
    have HF : Hid (StaysP now op l ↔ RiseS l) := ⟨fun h => h.2.2, fun h => ⟨HAL.out, hnil, h⟩⟩
    clear HAL HLW HR HO hnil
    go_wp2_with fail
    refine (HRS.out _ HL.out).mono ?_
    rintro e w2 ⟨rfl, h2⟩
    have HB2 := Lib.hid (HB.out.trans (h2.mono HB.out.size))
    clear h2 HB HL HRS
    go_wp2
    go_ret
    exact ⟨_, rfl, by rw [decide_eq_true_iff]; exact HF.out.symm, HB2.out⟩
end Go.Proofs.YtapacckmgmdnoaaGreat
