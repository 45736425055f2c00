/- Texts of mine, one behind the other, of each what is wanted. -/
import Derived.Test.YtapacckmgmdnoaaGreatR00
import Derived.Test.YtapacckmgmdnoaaGreatR01
import Derived.Test.YtapacckmgmdnoaaGreatR03
import Derived.Test.YtapacckmgmdnoaaGreatR14
import Derived.Test.YtapacckmgmdnoaaGreatTQ
namespace Go.Proofs.YtapacckmgmdnoaaGreat
open Go.RowKit
set_option linter.unusedVariables false
set_option maxRecDepth 100000
set_option maxRecDepth 100000
def EFits (e : EvM) : Prop := e.user.size ≤ maxLen ∧ e.other.size ≤ maxLen
set_option maxHeartbeats 8000000 in
theorem evright_any (e : EvM) (he : EFits e) (w : World) : Calls Tryz.prog 133 #[evV e] w fun r w' => r = .returned (.bool (rightE e)) ∧ Below w.heap.size w w' := by
 have HSH := Lib.hid (fun W => shapeOf_any e.kind W)
 have HU := Lib.hid (fun b W => rightText_any e.user b W he.1)
 have HO := Lib.hid (fun b W => rightText_any e.other b W he.2)
 have HR : Hid (rightE e = (isK e.kind && (inB 0 1099511627775 e.at_ && (rText e.user (shK e.kind).user && (rText e.other (shK e.kind).other && (inB (shK e.kind).n0 (shK e.kind).n1 e.n && inB (shK e.kind).s0 (shK e.kind).s1 e.status)))))) := rfl
 have HE : Hid (∀ W, Below (w.alloc (.cells #[.int .i64 e.kind, .int .i64 e.at_, .string e.user, .string e.other, .int .i64 e.n, .int .i64 e.status] 64)).heap.size (w.alloc (.cells #[.int .i64 e.kind, .int .i64 e.at_, .string e.user, .string e.other, .int .i64 e.n, .int .i64 e.status] 64)) W → W.heap[w.heap.size]? = some (.cells #[.int .i64 e.kind, .int .i64 e.at_, .string e.user, .string e.other, .int .i64 e.n, .int .i64 e.status] 64 (0, 0)) ∧ Below w.heap.size w W) := fun W hb => ⟨(hb.block _ (by rw [size1]; omega)).trans (heap_alloc_new w _), ((Below.refl _ _).alloc (Nat.le_refl _) _).trans (hb.mono (by rw [size1]; omega))⟩
 unfold evV shV at *
 generalize rightE e = R at *
 generalize shK e.kind = s at *
 generalize isK e.kind = ik at *
 clear he
 go_enter Tryz.func133, Tryz.ntmps133
 go_wp2_with fail
 refine (HSH.out _).mono ?_
 rintro r w1 ⟨rfl, h1⟩
 have HE1 := Lib.hid (HE.out _ h1)
 have hsz : w.heap.size < w1.heap.size := (Array.getElem?_eq_some_iff.1 HE1.out.1).1
 have HXB := Lib.hid (fun o => heap_alloc_new w1 o)
 have HEB := Lib.hid (fun o => (Below.heap_alloc w1 o _ hsz).trans HE1.out.1)
 have HBW := Lib.hid (fun o => HE1.out.2.alloc HE1.out.2.size o)
 clear h1
 go_wp2_with fail
 have hx0 := HXB.out (.cells #[.bool s.user, .bool s.other, .int .i64 s.n0, .int .i64 s.n1, .int .i64 s.s0, .int .i64 s.s1] 242)
 have he0 := HEB.out (.cells #[.bool s.user, .bool s.other, .int .i64 s.n0, .int .i64 s.n1, .int .i64 s.s0, .int .i64 s.s1] 242)
 have hb0 := HBW.out (.cells #[.bool s.user, .bool s.other, .int .i64 s.n0, .int .i64 s.n1, .int .i64 s.s0, .int .i64 s.s1] 242)
 have hX : w1.heap.size < (w1.alloc (.cells #[.bool s.user, .bool s.other, .int .i64 s.n0, .int .i64 s.n1, .int .i64 s.s0, .int .i64 s.s1] 242)).heap.size := by rw [size1]; omega
 clear HXB HEB HBW HE1 HE HSH
 generalize w1.heap.size = X at *
 generalize (w1.alloc (.cells #[.bool s.user, .bool s.other, .int .i64 s.n0, .int .i64 s.n1, .int .i64 s.s0, .int .i64 s.s1] 242)) = W0 at *
 have HSS : Hid (∀ W, Below W0.heap.size W0 W → W.cell? ⟨w.heap.size, 0, none⟩ = some (.int .i64 e.kind) ∧ W.cell? ⟨w.heap.size, 1, none⟩ = some (.int .i64 e.at_) ∧ W.cell? ⟨w.heap.size, 2, none⟩ = some (.string e.user) ∧ W.cell? ⟨w.heap.size, 3, none⟩ = some (.string e.other) ∧ W.cell? ⟨w.heap.size, 4, none⟩ = some (.int .i64 e.n) ∧ W.cell? ⟨w.heap.size, 5, none⟩ = some (.int .i64 e.status) ∧ W.cell? ⟨X, 0, none⟩ = some (.bool s.user) ∧ W.cell? ⟨X, 1, none⟩ = some (.bool s.other) ∧ W.cell? ⟨X, 2, none⟩ = some (.int .i64 s.n0) ∧ W.cell? ⟨X, 3, none⟩ = some (.int .i64 s.n1) ∧ W.cell? ⟨X, 4, none⟩ = some (.int .i64 s.s0) ∧ W.cell? ⟨X, 5, none⟩ = some (.int .i64 s.s1)) := fun W hb => by
  obtain ⟨q0, q1, q2, q3, q4, q5⟩ := (cells6 ((hb.block w.heap.size (by omega)).trans he0)).1
  exact ⟨q0, q1, q2, q3, q4, q5, (cells6 ((hb.block X hX).trans hx0)).1⟩
 have HBB : Hid (∀ W, Below W0.heap.size W0 W → Below w.heap.size w W) := fun W hb => hb0.trans (hb.mono hb0.size)
 have HB0 : Hid (Below W0.heap.size W0 W0.drew) := (Below.refl _ _).drew
 clear hx0 he0 hb0 hX hsz
 by_cases hik : ik = false
 ·rw [hik] at HR
  subst hik
  refine wp_region_held_drew (S := (fun W => W.cell? ⟨w.heap.size, 0, none⟩ = some (.int .i64 e.kind) ∧ W.cell? ⟨w.heap.size, 1, none⟩ = some (.int .i64 e.at_) ∧ W.cell? ⟨w.heap.size, 2, none⟩ = some (.string e.user) ∧ W.cell? ⟨w.heap.size, 3, none⟩ = some (.string e.other) ∧ W.cell? ⟨w.heap.size, 4, none⟩ = some (.int .i64 e.n) ∧ W.cell? ⟨w.heap.size, 5, none⟩ = some (.int .i64 e.status) ∧ W.cell? ⟨X, 0, none⟩ = some (.bool s.user) ∧ W.cell? ⟨X, 1, none⟩ = some (.bool s.other) ∧ W.cell? ⟨X, 2, none⟩ = some (.int .i64 s.n0) ∧ W.cell? ⟨X, 3, none⟩ = some (.int .i64 s.n1) ∧ W.cell? ⟨X, 4, none⟩ = some (.int .i64 s.s0) ∧ W.cell? ⟨X, 5, none⟩ = some (.int .i64 s.s1))) (by kernel_rfl) ?_ (fun hHeld => ?_)
  ·exact HSS.out _ HB0.out
  refine tV 0 11 ?_
  refine tV 1 12 ?_
  refine tU 2 13 ?_
  refine tU 3 14 ?_
  refine tU 4 15 ?_
  refine tU 5 16 ?_
  refine tV 6 17 ?_
  refine tV 7 18 ?_
  refine tU 8 19 ?_
  refine tU 9 20 ?_
  refine tU 10 21 ?_
  refine tU 11 22 ?_
  refine tU 12 23 ?_
  refine tV 13 24 ?_
  refine tV 14 25 ?_
  refine tU 15 26 ?_
  refine tU 16 27 ?_
  refine tU 17 28 ?_
  refine tU 18 29 ?_
  refine tU 19 30 ?_
  refine tV 20 31 ?_
  refine tV 21 32 ?_
  refine tU 22 33 ?_
  refine tU 23 34 ?_
  refine tU 24 35 ?_
  refine tU 25 36 ?_
  refine tU 26 37 ?_
  refine tV 27 38 ?_
  refine tV 28 39 ?_
  refine tU 29 40 ?_
  refine tU 30 41 ?_
  refine tU 31 42 ?_
  refine tU 32 43 ?_
  refine tU 33 44 ?_
  refine tV 34 45 ?_
  refine tV 35 2 ?_
  refine wpAnyH_done (by kernel_rfl) ?_ _
  all_goals
   go_wp2
   go_ret
   exact ⟨retB (by rw [HR.out]; simp), HBB.out _ HB0.out⟩
 have hik' : ik = true := by simpa using hik
 clear hik
 rw [hik'] at HR
 subst hik'
 by_cases hat : inB 0 1099511627775 e.at_ = false
 ·rw [hat] at HR
  refine wp_region_held_drew (S := (fun W => W.cell? ⟨w.heap.size, 0, none⟩ = some (.int .i64 e.kind) ∧ W.cell? ⟨w.heap.size, 1, none⟩ = some (.int .i64 e.at_) ∧ W.cell? ⟨w.heap.size, 2, none⟩ = some (.string e.user) ∧ W.cell? ⟨w.heap.size, 3, none⟩ = some (.string e.other) ∧ W.cell? ⟨w.heap.size, 4, none⟩ = some (.int .i64 e.n) ∧ W.cell? ⟨w.heap.size, 5, none⟩ = some (.int .i64 e.status) ∧ W.cell? ⟨X, 0, none⟩ = some (.bool s.user) ∧ W.cell? ⟨X, 1, none⟩ = some (.bool s.other) ∧ W.cell? ⟨X, 2, none⟩ = some (.int .i64 s.n0) ∧ W.cell? ⟨X, 3, none⟩ = some (.int .i64 s.n1) ∧ W.cell? ⟨X, 4, none⟩ = some (.int .i64 s.s0) ∧ W.cell? ⟨X, 5, none⟩ = some (.int .i64 s.s1))) (by kernel_rfl) ?_ (fun hHeld => ?_)
  ·exact HSS.out _ HB0.out
  refine tV 0 11 ?_
  refine tV 1 12 ?_
  refine tV 3 14 ?_
  refine tV 4 15 ?_
  refine wpAnyH_ready (rs := [2]) (by kernel_rfl) (by simp) ?_
  refine AllReadyH.cons (o := ⟨some 13, _, _, _, _, _⟩) rfl (fun K hK => ?_) AllReadyH.nil
  go_simp
  refine (times_any _).mono ?_
  rintro r v1 ⟨rfl, k1⟩
  have HB1 : Hid (Below W0.heap.size W0 v1) := HB0.out.trans (k1.mono HB0.out.size)
  clear k1
  go_wp2_with fail
  refine hK.out _ _ ?_ (fun hH2 => ?_)
  ·exact HSS.out _ HB1.out
  clear hK K
  (try simp only [Act.put, List.setIfInBounds_toArray, List.set_cons_zero, List.set_cons_succ])
  refine wpAnyH_ready (rs := [5]) (by kernel_rfl) (by simp) ?_
  refine AllReadyH.cons (o := ⟨some 16, _, _, _, _, _⟩) rfl (fun K hK => ?_) AllReadyH.nil
  go_simp
  refine (has_any _ _ _ _).mono ?_
  rintro r v2 ⟨rfl, k2⟩
  have HB2 : Hid (Below W0.heap.size W0 v2) := HB1.out.trans (k2.mono HB1.out.size)
  clear k2
  go_wp2_with fail
  refine hK.out _ _ ?_ (fun hH5 => ?_)
  ·exact HSS.out _ HB2.out
  clear hK K
  (try simp only [Act.put, List.setIfInBounds_toArray, List.set_cons_zero, List.set_cons_succ])
  refine tV 6 17 ?_
  refine tV 7 18 ?_
  refine tU 8 19 ?_
  refine tU 9 20 ?_
  refine tU 10 21 ?_
  refine tU 11 22 ?_
  refine tU 12 23 ?_
  refine tV 13 24 ?_
  refine tV 14 25 ?_
  refine tU 15 26 ?_
  refine tU 16 27 ?_
  refine tU 17 28 ?_
  refine tU 18 29 ?_
  refine tU 19 30 ?_
  refine tV 20 31 ?_
  refine tV 21 32 ?_
  refine tU 22 33 ?_
  refine tU 23 34 ?_
  refine tU 24 35 ?_
  refine tU 25 36 ?_
  refine tU 26 37 ?_
  refine tV 27 38 ?_
  refine tV 28 39 ?_
  refine tU 29 40 ?_
  refine tU 30 41 ?_
  refine tU 31 42 ?_
  refine tU 32 43 ?_
  refine tU 33 44 ?_
  refine tV 34 45 ?_
  refine tV 35 2 ?_
  refine wpAnyH_done (by kernel_rfl) ?_ _
  all_goals
   go_wp2
   go_ret
   exact ⟨retB (by rw [HR.out]; simp), HBB.out _ HB2.out⟩
 have hat' : inB 0 1099511627775 e.at_ = true := by simpa using hat
 clear hat
 rw [hat'] at HR
 by_cases hus : rText e.user s.user = false
 ·rw [hus] at HR
  refine wp_region_held_drew (S := (fun W => W.cell? ⟨w.heap.size, 0, none⟩ = some (.int .i64 e.kind) ∧ W.cell? ⟨w.heap.size, 1, none⟩ = some (.int .i64 e.at_) ∧ W.cell? ⟨w.heap.size, 2, none⟩ = some (.string e.user) ∧ W.cell? ⟨w.heap.size, 3, none⟩ = some (.string e.other) ∧ W.cell? ⟨w.heap.size, 4, none⟩ = some (.int .i64 e.n) ∧ W.cell? ⟨w.heap.size, 5, none⟩ = some (.int .i64 e.status) ∧ W.cell? ⟨X, 0, none⟩ = some (.bool s.user) ∧ W.cell? ⟨X, 1, none⟩ = some (.bool s.other) ∧ W.cell? ⟨X, 2, none⟩ = some (.int .i64 s.n0) ∧ W.cell? ⟨X, 3, none⟩ = some (.int .i64 s.n1) ∧ W.cell? ⟨X, 4, none⟩ = some (.int .i64 s.s0) ∧ W.cell? ⟨X, 5, none⟩ = some (.int .i64 s.s1))) (by kernel_rfl) ?_ (fun hHeld => ?_)
  ·exact HSS.out _ HB0.out
  refine tV 0 11 ?_
  refine tV 1 12 ?_
  refine tV 3 14 ?_
  refine tV 4 15 ?_
  refine wpAnyH_ready (rs := [2]) (by kernel_rfl) (by simp) ?_
  refine AllReadyH.cons (o := ⟨some 13, _, _, _, _, _⟩) rfl (fun K hK => ?_) AllReadyH.nil
  go_simp
  refine (times_any _).mono ?_
  rintro r v1 ⟨rfl, k1⟩
  have HB1 : Hid (Below W0.heap.size W0 v1) := HB0.out.trans (k1.mono HB0.out.size)
  clear k1
  go_wp2_with fail
  refine hK.out _ _ ?_ (fun hH2 => ?_)
  ·exact HSS.out _ HB1.out
  clear hK K
  (try simp only [Act.put, List.setIfInBounds_toArray, List.set_cons_zero, List.set_cons_succ])
  refine wpAnyH_ready (rs := [5]) (by kernel_rfl) (by simp) ?_
  refine AllReadyH.cons (o := ⟨some 16, _, _, _, _, _⟩) rfl (fun K hK => ?_) AllReadyH.nil
  go_simp
  refine (has_any _ _ _ _).mono ?_
  rintro r v2 ⟨rfl, k2⟩
  have HB2 : Hid (Below W0.heap.size W0 v2) := HB1.out.trans (k2.mono HB1.out.size)
  clear k2
  go_wp2_with fail
  refine hK.out _ _ ?_ (fun hH5 => ?_)
  ·exact HSS.out _ HB2.out
  clear hK K
  (try simp only [Act.put, List.setIfInBounds_toArray, List.set_cons_zero, List.set_cons_succ])
  refine tV 6 17 ?_
  refine tV 7 18 ?_
  refine tV 8 19 ?_
  refine tV 9 20 ?_
  refine tV 10 21 ?_
  refine tV 11 22 ?_
  refine wpAnyH_ready (rs := [12]) (by kernel_rfl) (by simp) ?_
  refine AllReadyH.cons (o := ⟨some 23, _, _, _, _, _⟩) rfl (fun K hK => ?_) AllReadyH.nil
  go_simp
  refine (HU.out _ _).mono ?_
  rintro r v3 ⟨rfl, rfl⟩
  go_wp2_with fail
  refine hK.out _ _ ?_ (fun hH12 => ?_)
  ·exact HSS.out _ HB2.out
  clear hK K
  (try simp only [Act.put, List.setIfInBounds_toArray, List.set_cons_zero, List.set_cons_succ])
  refine tV 13 24 ?_
  refine tV 14 25 ?_
  refine tU 15 26 ?_
  refine tU 16 27 ?_
  refine tU 17 28 ?_
  refine tU 18 29 ?_
  refine tU 19 30 ?_
  refine tV 20 31 ?_
  refine tV 21 32 ?_
  refine tU 22 33 ?_
  refine tU 23 34 ?_
  refine tU 24 35 ?_
  refine tU 25 36 ?_
  refine tU 26 37 ?_
  refine tV 27 38 ?_
  refine tV 28 39 ?_
  refine tU 29 40 ?_
  refine tU 30 41 ?_
  refine tU 31 42 ?_
  refine tU 32 43 ?_
  refine tU 33 44 ?_
  refine tV 34 45 ?_
  refine tV 35 2 ?_
  refine wpAnyH_done (by kernel_rfl) ?_ _
  all_goals
   go_wp2
   go_ret
   exact ⟨retB (by rw [HR.out]; simp), HBB.out _ HB2.out⟩
 have hus' : rText e.user s.user = true := by simpa using hus
 clear hus
 rw [hus'] at HR
 by_cases hot : rText e.other s.other = false
 ·rw [hot] at HR
  refine wp_region_held_drew (S := (fun W => W.cell? ⟨w.heap.size, 0, none⟩ = some (.int .i64 e.kind) ∧ W.cell? ⟨w.heap.size, 1, none⟩ = some (.int .i64 e.at_) ∧ W.cell? ⟨w.heap.size, 2, none⟩ = some (.string e.user) ∧ W.cell? ⟨w.heap.size, 3, none⟩ = some (.string e.other) ∧ W.cell? ⟨w.heap.size, 4, none⟩ = some (.int .i64 e.n) ∧ W.cell? ⟨w.heap.size, 5, none⟩ = some (.int .i64 e.status) ∧ W.cell? ⟨X, 0, none⟩ = some (.bool s.user) ∧ W.cell? ⟨X, 1, none⟩ = some (.bool s.other) ∧ W.cell? ⟨X, 2, none⟩ = some (.int .i64 s.n0) ∧ W.cell? ⟨X, 3, none⟩ = some (.int .i64 s.n1) ∧ W.cell? ⟨X, 4, none⟩ = some (.int .i64 s.s0) ∧ W.cell? ⟨X, 5, none⟩ = some (.int .i64 s.s1))) (by kernel_rfl) ?_ (fun hHeld => ?_)
  ·exact HSS.out _ HB0.out
  refine tV 0 11 ?_
  refine tV 1 12 ?_
  refine tV 3 14 ?_
  refine tV 4 15 ?_
  refine wpAnyH_ready (rs := [2]) (by kernel_rfl) (by simp) ?_
  refine AllReadyH.cons (o := ⟨some 13, _, _, _, _, _⟩) rfl (fun K hK => ?_) AllReadyH.nil
  go_simp
  refine (times_any _).mono ?_
  rintro r v1 ⟨rfl, k1⟩
  have HB1 : Hid (Below W0.heap.size W0 v1) := HB0.out.trans (k1.mono HB0.out.size)
  clear k1
  go_wp2_with fail
  refine hK.out _ _ ?_ (fun hH2 => ?_)
  ·exact HSS.out _ HB1.out
  clear hK K
  (try simp only [Act.put, List.setIfInBounds_toArray, List.set_cons_zero, List.set_cons_succ])
  refine wpAnyH_ready (rs := [5]) (by kernel_rfl) (by simp) ?_
  refine AllReadyH.cons (o := ⟨some 16, _, _, _, _, _⟩) rfl (fun K hK => ?_) AllReadyH.nil
  go_simp
  refine (has_any _ _ _ _).mono ?_
  rintro r v2 ⟨rfl, k2⟩
  have HB2 : Hid (Below W0.heap.size W0 v2) := HB1.out.trans (k2.mono HB1.out.size)
  clear k2
  go_wp2_with fail
  refine hK.out _ _ ?_ (fun hH5 => ?_)
  ·exact HSS.out _ HB2.out
  clear hK K
  (try simp only [Act.put, List.setIfInBounds_toArray, List.set_cons_zero, List.set_cons_succ])
  refine tV 6 17 ?_
  refine tV 7 18 ?_
  refine tV 8 19 ?_
  refine tV 9 20 ?_
  refine tV 10 21 ?_
  refine tV 11 22 ?_
  refine wpAnyH_ready (rs := [12]) (by kernel_rfl) (by simp) ?_
  refine AllReadyH.cons (o := ⟨some 23, _, _, _, _, _⟩) rfl (fun K hK => ?_) AllReadyH.nil
  go_simp
  refine (HU.out _ _).mono ?_
  rintro r v3 ⟨rfl, rfl⟩
  go_wp2_with fail
  refine hK.out _ _ ?_ (fun hH12 => ?_)
  ·exact HSS.out _ HB2.out
  clear hK K
  (try simp only [Act.put, List.setIfInBounds_toArray, List.set_cons_zero, List.set_cons_succ])
  refine tV 13 24 ?_
  refine tV 14 25 ?_
  refine tV 15 26 ?_
  refine tV 16 27 ?_
  refine tV 17 28 ?_
  refine tV 18 29 ?_
  refine wpAnyH_ready (rs := [19]) (by kernel_rfl) (by simp) ?_
  refine AllReadyH.cons (o := ⟨some 30, _, _, _, _, _⟩) rfl (fun K hK => ?_) AllReadyH.nil
  go_simp
  refine (HO.out _ _).mono ?_
  rintro r v4 ⟨rfl, rfl⟩
  go_wp2_with fail
  refine hK.out _ _ ?_ (fun hH19 => ?_)
  ·exact HSS.out _ HB2.out
  clear hK K
  (try simp only [Act.put, List.setIfInBounds_toArray, List.set_cons_zero, List.set_cons_succ])
  refine tV 20 31 ?_
  refine tV 21 32 ?_
  refine tU 22 33 ?_
  refine tU 23 34 ?_
  refine tU 24 35 ?_
  refine tU 25 36 ?_
  refine tU 26 37 ?_
  refine tV 27 38 ?_
  refine tV 28 39 ?_
  refine tU 29 40 ?_
  refine tU 30 41 ?_
  refine tU 31 42 ?_
  refine tU 32 43 ?_
  refine tU 33 44 ?_
  refine tV 34 45 ?_
  refine tV 35 2 ?_
  refine wpAnyH_done (by kernel_rfl) ?_ _
  all_goals
   go_wp2
   go_ret
   exact ⟨retB (by rw [HR.out]; simp), HBB.out _ HB2.out⟩
 have hot' : rText e.other s.other = true := by simpa using hot
 clear hot
 rw [hot'] at HR
 by_cases hnn : inB s.n0 s.n1 e.n = false
 ·rw [hnn] at HR
  refine wp_region_held_drew (S := (fun W => W.cell? ⟨w.heap.size, 0, none⟩ = some (.int .i64 e.kind) ∧ W.cell? ⟨w.heap.size, 1, none⟩ = some (.int .i64 e.at_) ∧ W.cell? ⟨w.heap.size, 2, none⟩ = some (.string e.user) ∧ W.cell? ⟨w.heap.size, 3, none⟩ = some (.string e.other) ∧ W.cell? ⟨w.heap.size, 4, none⟩ = some (.int .i64 e.n) ∧ W.cell? ⟨w.heap.size, 5, none⟩ = some (.int .i64 e.status) ∧ W.cell? ⟨X, 0, none⟩ = some (.bool s.user) ∧ W.cell? ⟨X, 1, none⟩ = some (.bool s.other) ∧ W.cell? ⟨X, 2, none⟩ = some (.int .i64 s.n0) ∧ W.cell? ⟨X, 3, none⟩ = some (.int .i64 s.n1) ∧ W.cell? ⟨X, 4, none⟩ = some (.int .i64 s.s0) ∧ W.cell? ⟨X, 5, none⟩ = some (.int .i64 s.s1))) (by kernel_rfl) ?_ (fun hHeld => ?_)
  ·exact HSS.out _ HB0.out
  refine tV 0 11 ?_
  refine tV 1 12 ?_
  refine tV 3 14 ?_
  refine tV 4 15 ?_
  refine wpAnyH_ready (rs := [2]) (by kernel_rfl) (by simp) ?_
  refine AllReadyH.cons (o := ⟨some 13, _, _, _, _, _⟩) rfl (fun K hK => ?_) AllReadyH.nil
  go_simp
  refine (times_any _).mono ?_
  rintro r v1 ⟨rfl, k1⟩
  have HB1 : Hid (Below W0.heap.size W0 v1) := HB0.out.trans (k1.mono HB0.out.size)
  clear k1
  go_wp2_with fail
  refine hK.out _ _ ?_ (fun hH2 => ?_)
  ·exact HSS.out _ HB1.out
  clear hK K
  (try simp only [Act.put, List.setIfInBounds_toArray, List.set_cons_zero, List.set_cons_succ])
  refine wpAnyH_ready (rs := [5]) (by kernel_rfl) (by simp) ?_
  refine AllReadyH.cons (o := ⟨some 16, _, _, _, _, _⟩) rfl (fun K hK => ?_) AllReadyH.nil
  go_simp
  refine (has_any _ _ _ _).mono ?_
  rintro r v2 ⟨rfl, k2⟩
  have HB2 : Hid (Below W0.heap.size W0 v2) := HB1.out.trans (k2.mono HB1.out.size)
  clear k2
  go_wp2_with fail
  refine hK.out _ _ ?_ (fun hH5 => ?_)
  ·exact HSS.out _ HB2.out
  clear hK K
  (try simp only [Act.put, List.setIfInBounds_toArray, List.set_cons_zero, List.set_cons_succ])
  refine tV 6 17 ?_
  refine tV 7 18 ?_
  refine tV 8 19 ?_
  refine tV 9 20 ?_
  refine tV 10 21 ?_
  refine tV 11 22 ?_
  refine wpAnyH_ready (rs := [12]) (by kernel_rfl) (by simp) ?_
  refine AllReadyH.cons (o := ⟨some 23, _, _, _, _, _⟩) rfl (fun K hK => ?_) AllReadyH.nil
  go_simp
  refine (HU.out _ _).mono ?_
  rintro r v3 ⟨rfl, rfl⟩
  go_wp2_with fail
  refine hK.out _ _ ?_ (fun hH12 => ?_)
  ·exact HSS.out _ HB2.out
  clear hK K
  (try simp only [Act.put, List.setIfInBounds_toArray, List.set_cons_zero, List.set_cons_succ])
  refine tV 13 24 ?_
  refine tV 14 25 ?_
  refine tV 15 26 ?_
  refine tV 16 27 ?_
  refine tV 17 28 ?_
  refine tV 18 29 ?_
  refine wpAnyH_ready (rs := [19]) (by kernel_rfl) (by simp) ?_
  refine AllReadyH.cons (o := ⟨some 30, _, _, _, _, _⟩) rfl (fun K hK => ?_) AllReadyH.nil
  go_simp
  refine (HO.out _ _).mono ?_
  rintro r v4 ⟨rfl, rfl⟩
  go_wp2_with fail
  refine hK.out _ _ ?_ (fun hH19 => ?_)
  ·exact HSS.out _ HB2.out
  clear hK K
  (try simp only [Act.put, List.setIfInBounds_toArray, List.set_cons_zero, List.set_cons_succ])
  refine tV 20 31 ?_
  refine tV 21 32 ?_
  refine tV 22 33 ?_
  refine tV 23 34 ?_
  refine tV 24 35 ?_
  refine tV 25 36 ?_
  refine wpAnyH_ready (rs := [26]) (by kernel_rfl) (by simp) ?_
  refine AllReadyH.cons (o := ⟨some 37, _, _, _, _, _⟩) rfl (fun K hK => ?_) AllReadyH.nil
  go_simp
  refine (has_any _ _ _ _).mono ?_
  rintro r v5 ⟨rfl, k5⟩
  have HB5 : Hid (Below W0.heap.size W0 v5) := HB2.out.trans (k5.mono HB2.out.size)
  clear k5
  go_wp2_with fail
  refine hK.out _ _ ?_ (fun hH26 => ?_)
  ·exact HSS.out _ HB5.out
  clear hK K
  (try simp only [Act.put, List.setIfInBounds_toArray, List.set_cons_zero, List.set_cons_succ])
  refine tV 27 38 ?_
  refine tV 28 39 ?_
  refine tU 29 40 ?_
  refine tU 30 41 ?_
  refine tU 31 42 ?_
  refine tU 32 43 ?_
  refine tU 33 44 ?_
  refine tV 34 45 ?_
  refine tV 35 2 ?_
  refine wpAnyH_done (by kernel_rfl) ?_ _
  all_goals
   go_wp2
   go_ret
   exact ⟨retB (by rw [HR.out]; simp), HBB.out _ HB5.out⟩
 have hnn' : inB s.n0 s.n1 e.n = true := by simpa using hnn
 clear hnn
 rw [hnn'] at HR
 refine wp_region_held_drew (S := (fun W => W.cell? ⟨w.heap.size, 0, none⟩ = some (.int .i64 e.kind) ∧ W.cell? ⟨w.heap.size, 1, none⟩ = some (.int .i64 e.at_) ∧ W.cell? ⟨w.heap.size, 2, none⟩ = some (.string e.user) ∧ W.cell? ⟨w.heap.size, 3, none⟩ = some (.string e.other) ∧ W.cell? ⟨w.heap.size, 4, none⟩ = some (.int .i64 e.n) ∧ W.cell? ⟨w.heap.size, 5, none⟩ = some (.int .i64 e.status) ∧ W.cell? ⟨X, 0, none⟩ = some (.bool s.user) ∧ W.cell? ⟨X, 1, none⟩ = some (.bool s.other) ∧ W.cell? ⟨X, 2, none⟩ = some (.int .i64 s.n0) ∧ W.cell? ⟨X, 3, none⟩ = some (.int .i64 s.n1) ∧ W.cell? ⟨X, 4, none⟩ = some (.int .i64 s.s0) ∧ W.cell? ⟨X, 5, none⟩ = some (.int .i64 s.s1))) (by kernel_rfl) ?_ (fun hHeld => ?_)
 ·exact HSS.out _ HB0.out
 refine tV 0 11 ?_
 refine tV 1 12 ?_
 refine tV 3 14 ?_
 refine tV 4 15 ?_
 refine wpAnyH_ready (rs := [2]) (by kernel_rfl) (by simp) ?_
 refine AllReadyH.cons (o := ⟨some 13, _, _, _, _, _⟩) rfl (fun K hK => ?_) AllReadyH.nil
 go_simp
 refine (times_any _).mono ?_
 rintro r v1 ⟨rfl, k1⟩
 have HB1 : Hid (Below W0.heap.size W0 v1) := HB0.out.trans (k1.mono HB0.out.size)
 clear k1
 go_wp2_with fail
 refine hK.out _ _ ?_ (fun hH2 => ?_)
 ·exact HSS.out _ HB1.out
 clear hK K
 (try simp only [Act.put, List.setIfInBounds_toArray, List.set_cons_zero, List.set_cons_succ])
 refine wpAnyH_ready (rs := [5]) (by kernel_rfl) (by simp) ?_
 refine AllReadyH.cons (o := ⟨some 16, _, _, _, _, _⟩) rfl (fun K hK => ?_) AllReadyH.nil
 go_simp
 refine (has_any _ _ _ _).mono ?_
 rintro r v2 ⟨rfl, k2⟩
 have HB2 : Hid (Below W0.heap.size W0 v2) := HB1.out.trans (k2.mono HB1.out.size)
 clear k2
 go_wp2_with fail
 refine hK.out _ _ ?_ (fun hH5 => ?_)
 ·exact HSS.out _ HB2.out
 clear hK K
 (try simp only [Act.put, List.setIfInBounds_toArray, List.set_cons_zero, List.set_cons_succ])
 refine tV 6 17 ?_
 refine tV 7 18 ?_
 refine tV 8 19 ?_
 refine tV 9 20 ?_
 refine tV 10 21 ?_
 refine tV 11 22 ?_
 refine wpAnyH_ready (rs := [12]) (by kernel_rfl) (by simp) ?_
 refine AllReadyH.cons (o := ⟨some 23, _, _, _, _, _⟩) rfl (fun K hK => ?_) AllReadyH.nil
 go_simp
 refine (HU.out _ _).mono ?_
 rintro r v3 ⟨rfl, rfl⟩
 go_wp2_with fail
 refine hK.out _ _ ?_ (fun hH12 => ?_)
 ·exact HSS.out _ HB2.out
 clear hK K
 (try simp only [Act.put, List.setIfInBounds_toArray, List.set_cons_zero, List.set_cons_succ])
 refine tV 13 24 ?_
 refine tV 14 25 ?_
 refine tV 15 26 ?_
 refine tV 16 27 ?_
 refine tV 17 28 ?_
 refine tV 18 29 ?_
 refine wpAnyH_ready (rs := [19]) (by kernel_rfl) (by simp) ?_
 refine AllReadyH.cons (o := ⟨some 30, _, _, _, _, _⟩) rfl (fun K hK => ?_) AllReadyH.nil
 go_simp
 refine (HO.out _ _).mono ?_
 rintro r v4 ⟨rfl, rfl⟩
 go_wp2_with fail
 refine hK.out _ _ ?_ (fun hH19 => ?_)
 ·exact HSS.out _ HB2.out
 clear hK K
 (try simp only [Act.put, List.setIfInBounds_toArray, List.set_cons_zero, List.set_cons_succ])
 refine tV 20 31 ?_
 refine tV 21 32 ?_
 refine tV 22 33 ?_
 refine tV 23 34 ?_
 refine tV 24 35 ?_
 refine tV 25 36 ?_
 refine wpAnyH_ready (rs := [26]) (by kernel_rfl) (by simp) ?_
 refine AllReadyH.cons (o := ⟨some 37, _, _, _, _, _⟩) rfl (fun K hK => ?_) AllReadyH.nil
 go_simp
 refine (has_any _ _ _ _).mono ?_
 rintro r v5 ⟨rfl, k5⟩
 have HB5 : Hid (Below W0.heap.size W0 v5) := HB2.out.trans (k5.mono HB2.out.size)
 clear k5
 go_wp2_with fail
 refine hK.out _ _ ?_ (fun hH26 => ?_)
 ·exact HSS.out _ HB5.out
 clear hK K
 (try simp only [Act.put, List.setIfInBounds_toArray, List.set_cons_zero, List.set_cons_succ])
 refine tV 27 38 ?_
 refine tV 28 39 ?_
 refine tV 29 40 ?_
 refine tV 30 41 ?_
 refine tV 31 42 ?_
 refine tV 32 43 ?_
 refine wpAnyH_ready (rs := [33]) (by kernel_rfl) (by simp) ?_
 refine AllReadyH.cons (o := ⟨some 44, _, _, _, _, _⟩) rfl (fun K hK => ?_) AllReadyH.nil
 go_simp
 refine (has_any _ _ _ _).mono ?_
 rintro r v6 ⟨rfl, k6⟩
 have HB6 : Hid (Below W0.heap.size W0 v6) := HB5.out.trans (k6.mono HB5.out.size)
 clear k6
 go_wp2_with fail
 refine hK.out _ _ ?_ (fun hH33 => ?_)
 ·exact HSS.out _ HB6.out
 clear hK K
 (try simp only [Act.put, List.setIfInBounds_toArray, List.set_cons_zero, List.set_cons_succ])
 refine tV 34 45 ?_
 refine tV 35 2 ?_
 refine wpAnyH_done (by kernel_rfl) ?_ _
 all_goals
  go_wp2
  go_ret
  exact ⟨retB (by rw [HR.out]; simp), HBB.out _ HB6.out⟩
end Go.Proofs.YtapacckmgmdnoaaGreat
