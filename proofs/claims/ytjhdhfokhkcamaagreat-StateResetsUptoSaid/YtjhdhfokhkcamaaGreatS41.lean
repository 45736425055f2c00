/- Texts of mine, one behind the other, of each what is wanted. -/
import Derived.Test.YtjhdhfokhkcamaaGreatS00
import Derived.Test.YtjhdhfokhkcamaaGreatShelf
import Derived.Test.YtjhdhfokhkcamaaGreatRows
import Derived.Test.YtjhdhfokhkcamaaGreatS01
import Derived.Test.YtjhdhfokhkcamaaGreatS02
import Derived.Test.YtjhdhfokhkcamaaGreatS03
import Derived.Test.YtjhdhfokhkcamaaGreatS04
import Derived.Test.YtjhdhfokhkcamaaGreatS06
import Derived.Test.YtjhdhfokhkcamaaGreatS07
import Derived.Test.YtjhdhfokhkcamaaGreatS09
import Derived.Test.YtjhdhfokhkcamaaGreatS11
import Derived.Test.YtjhdhfokhkcamaaGreatS14
import Derived.Test.YtjhdhfokhkcamaaGreatS15
import Derived.Test.YtjhdhfokhkcamaaGreatS17
import Derived.Test.YtjhdhfokhkcamaaGreatS22
import Derived.Test.YtjhdhfokhkcamaaGreatS23
import Derived.Test.YtjhdhfokhkcamaaGreatS24
import Derived.Test.YtjhdhfokhkcamaaGreatS26
import Derived.Test.YtjhdhfokhkcamaaGreatS28
import Derived.Test.YtjhdhfokhkcamaaGreatS29
import Derived.Test.YtjhdhfokhkcamaaGreatTQ
namespace Go.Proofs.YtjhdhfokhkcamaaGreat
set_option linter.unusedVariables false
set_option maxRecDepth 100000
theorem ofU_nil {l : List UsM} {u : ByteArray} (h : ∀ x ∈ l, x.u ≠ u) : ofU l u = [] := by
 unfold ofU
 have : l.find? (isKy UsM.u u) = none := List.find?_eq_none.2 fun x hx hk => h x hx (isKy_iff.1 hk)
 rw [this]
theorem users_ext {l m : List UsM} (hl : RiseK UsM.u l) (hm : RiseK UsM.u m) (h1 : ∀ x ∈ l, x.l ≠ []) (h2 : ∀ x ∈ m, x.l ≠ []) (h : ∀ u, ofU l u = ofU m u) : l = m := by
 refine riseK_ext hl hm fun x => ?_
 have key : ∀ {l m : List UsM}, RiseK UsM.u l → (∀ x ∈ l, x.l ≠ []) → (∀ u, ofU l u = ofU m u) → x ∈ l → x ∈ m := by
  intro l m hl h1 h hx
  have h3 := ofU_mem hl hx
  have h4 := h1 x hx
  rw [h x.u] at h3
  rcases ofU_cases m x.u with h5 | h5
  ·exact absurd (h3.symm.trans h5) h4
  ·rw [h3] at h5; exact h5
 exact ⟨key hl h1 h, key hm h2 fun u => (h u).symm⟩
theorem reset_again (s : SaM) : resetS (resetS s) = resetS s := rfl
theorem aft_twice (l : List StM) {t t' : Int} (h : t ≤ t') : aftS (aftS l t) t' = aftS l t' := by
 unfold aftS
 rw [List.filter_filter]
 refine List.filter_congr fun s _ => ?_
 by_cases h1 : t' < s.t
 ·have : t < s.t := by omega
  simp [h1, this]
 ·simp [h1]
theorem ofU_prune {l : List UsM} {t : Int} (h : RiseK UsM.u l) (u : ByteArray) : ofU (pruneU l t) u = aftS (ofU l u) t := by
 by_cases hu : ∃ x ∈ l, x.u = u
 ·obtain ⟨x, hx, rfl⟩ := hu
  rw [ofU_mem h hx]
  by_cases h1 : aftS x.l t = []
  ·rw [h1]
   refine ofU_nil fun y hy hyu => ?_
   obtain ⟨⟨z, hz, rfl⟩, h2⟩ := pruneU_mem.1 hy
   have := riseK_one h hz hx hyu
   subst this
   exact h2 h1
  ·exact ofU_mem (x := ⟨x.u, aftS x.l t⟩) (pruneU_rise h) (pruneU_mem.2 ⟨⟨x, hx, rfl⟩, h1⟩)
 ·rw [ofU_nil (l := l) fun x hx e => hu ⟨x, hx, e⟩]
  refine (ofU_nil fun y hy hyu => ?_).trans (by rfl)
  obtain ⟨⟨z, hz, rfl⟩, _⟩ := pruneU_mem.1 hy
  exact hu ⟨z, hz, hyu⟩
theorem prune_again (s : SaM) (h : RiseK UsM.u s.us) : pruneS (pruneS s) = pruneS s := by
 unfold pruneS
 have h1 : pruneU (pruneU s.us s.hor) s.hor = pruneU s.us s.hor := by
  refine users_ext (pruneU_rise (pruneU_rise h)) (pruneU_rise h) (fun x hx => (pruneU_mem.1 hx).2) (fun x hx => (pruneU_mem.1 hx).2) fun u => ?_
  rw [ofU_prune (pruneU_rise h), ofU_prune h, aft_twice _ (Int.le_refl _)]
 have h2 : aftE (aftE s.su s.hor) s.hor = aftE s.su s.hor := by
  unfold aftE
  rw [List.filter_filter]
  simp
 simp only [h1, h2]
end Go.Proofs.YtjhdhfokhkcamaaGreat
namespace Go.Proofs.YtjhdhfokhkcamaaGreat
open Go.RowKit
set_option linter.unusedVariables false
set_option maxRecDepth 100000
set_option maxRecDepth 100000
def I64 (n : Int) : Prop := -9223372036854775808 ≤ n ∧ n ≤ 9223372036854775807
end Go.Proofs.YtjhdhfokhkcamaaGreat
namespace Go.Proofs.YtjhdhfokhkcamaaGreat
open Go.RowKit
set_option linter.unusedVariables false
set_option maxRecDepth 100000
section
variable {W : World} {g : Nat} {x : SaL} {t : TypeId}
end
section
variable {w W W' : World} {g : Nat} {x : SaL} {t : TypeId}
end
section
variable {w W W' : World} {g : Nat} {x : SaL} {t : TypeId}
theorem SB.keepAt (h : SB w g t x W) {y : SaL} (hy : SaAt W y) {z : SaL} (hz : SaAt W z) : SaAt (setS W g y) z := by
 have h0 := h.setNow y.now
 have y0 := hy.setB h.blk 0 (.int .i64 y.now)
 have z0 := hz.setB h.blk 0 (.int .i64 y.now)
 have h1 := h0.setHor y.hor
 have y1 := y0.setB h0.blk 1 (.int .i64 y.hor)
 have z1 := z0.setB h0.blk 1 (.int .i64 y.hor)
 have h2 := h1.setOp rfl y1.op y1.oc
 have y2 := y1.setB h1.blk 2 (.slice y.oa y.op.length y.oc)
 have z2 := z1.setB h1.blk 2 (.slice y.oa y.op.length y.oc)
 have h3 := h2.setUs rfl y2.us y2.uc
 have y3 := y2.setB h2.blk 3 (.slice y.ua y.us.length y.uc)
 have z3 := z2.setB h2.blk 3 (.slice y.ua y.us.length y.uc)
 have h4 := h3.setSu rfl y3.su y3.sc
 have y4 := y3.setB h3.blk 4 (.slice y.sa y.su.length y.sc)
 have z4 := z3.setB h3.blk 4 (.slice y.sa y.su.length y.sc)
 exact z4.setB h4.blk 5 _
end
end Go.Proofs.YtjhdhfokhkcamaaGreat
namespace Go.Proofs.YtjhdhfokhkcamaaGreat
open Go.RowKit Go.Sort Go.Proofs
set_option linter.unusedVariables false
set_option maxRecDepth 100000
set_option maxRecDepth 100000
structure RwK (w : World) (a : Option Addr) (l : List StM) (W : World) : Prop where
 row : StSl W a l
 frame : Below w.heap.size w W
theorem RwK.below {w W W' : World} {a : Option Addr} {l : List StM} (h : RwK w a l W) (q : Below W.heap.size W W') : RwK w a l W' :=
 ⟨h.row.below q, h.frame.trans (q.mono h.frame.size)⟩
theorem RwK.at_ {w W : World} {b off : Nat} {l : List StM} (h : RwK w (some ⟨b, off, none⟩) l W) {k : Nat} (hk : k < l.length) :
  W.cell? ⟨b, off + k * 4, none⟩ = some (.int .i64 l[k].f) ∧ W.cell? ⟨b, off + k * 4 + 1, none⟩ = some (.int .i64 l[k].t) ∧ W.cell? ⟨b, off + k * 4 + 2, none⟩ = some (.int .i64 l[k].n) ∧ W.cell? ⟨b, off + k * 4 + 3, none⟩ = some (.int .i64 l[k].s) := by
 obtain ⟨_, _, e, _, h0, h1, h2, h3⟩ := h.row.at_ hk
 cases e
 exact ⟨h0, h1, h2, h3⟩
set_option maxHeartbeats 4000000 in
theorem refRising_any (a : Option Addr) (c : Nat) (l : List StM) (w : World) (hr : StSl w a l) (hl : l.length ≤ 1000000) :
  Calls Tryz.prog 103 #[.slice a l.length c] w fun e w' => e = .returned (.bool (decide (RiseS l))) ∧ Below w.heap.size w w' := by
 have HR := Lib.hid hr
 have HCM := Lib.hid (fun x y W => (ahead_any x y W).mono fun e w' (h : _ ∧ Grew W w') => And.intro h.1 (h.2.below (Nat.le_refl _)))
 unfold stV at HCM
 clear hr
 go_enter Tryz.func103, Tryz.ntmps103
 go_wp2
 go_loopw [3] (fun i wr => ∃ (j : Nat), j ≤ l.length ∧ i = .int .i64 j ∧ Hid (RiseTo l j) ∧ Hid (Below w.heap.size w wr)) (fun i _ => l.length - (intOf i).toNat)
 case atStart => exact ⟨0, by omega, rfl, fun k _ h => absurd h (by omega), Below.refl _ _⟩
 case round =>
  obtain ⟨j, hj, rfl, HO, HB⟩ := hrel
  by_cases hjl : j < l.length
  ·obtain ⟨b, off, rfl, hbl, hc0, hc1, hc2, hc3⟩ := (HR.out.below HB.out).at_ hjl
   have HK : Hid (RwK w (some ⟨b, off, none⟩) l wr) := ⟨HR.out.below HB.out, HB.out⟩
   have HNX := Lib.hid (HO.out.next hjl)
   have HNF : Hid (¬ l[j].f < l[j].t → decide (RiseS l) = false) := fun h => decide_eq_false fun k => h (k j hjl).1
   have HNP : Hid (∀ (h0 : 0 < j), ¬ ltSt (l[j - 1]'(by omega)) l[j] → decide (RiseS l) = false) := fun h0 h => decide_eq_false fun k => h ((k j hjl).2 h0)
   have HQ0 : Hid (∀ W, RwK w (some ⟨b, off, none⟩) l W → W.cell? ⟨b, off + j * 4, none⟩ = some (.int .i64 l[j].f) ∧ W.cell? ⟨b, off + j * 4 + 1, none⟩ = some (.int .i64 l[j].t) ∧ W.cell? ⟨b, off + j * 4 + 2, none⟩ = some (.int .i64 l[j].n) ∧ W.cell? ⟨b, off + j * 4 + 3, none⟩ = some (.int .i64 l[j].s)) := fun W h => h.at_ hjl
   clear hc0 hc1 hc2 hc3
   by_cases h1 : l[j].t ≤ l[j].f
   ·have HF := Lib.hid (HNF.out (by omega))
    have hle := decide_eq_true h1
    clear HNX HNF HNP HCM h1
    generalize l[j] = x at *
    go_wp2_with fail
    refine wp_region_held_drew (S := (fun W => W.cell? ⟨b, off + j * 4, none⟩ = some (.int .i64 x.f) ∧ W.cell? ⟨b, off + j * 4 + 1, none⟩ = some (.int .i64 x.t) ∧ W.cell? ⟨b, off + j * 4 + 2, none⟩ = some (.int .i64 x.n) ∧ W.cell? ⟨b, off + j * 4 + 3, none⟩ = some (.int .i64 x.s))) (by kernel_rfl) ?_ (fun hHeld => ?_)
    ·exact HQ0.out _ (HK.out.below (Below.refl _ _).drew)
    refine tV 0 10 ?_
    refine tV 1 11 ?_
    refine tV 2 12 ?_
    refine tV 3 13 ?_
    refine tV 4 14 ?_
    refine tV 5 15 ?_
    refine tV 6 16 ?_
    refine tV 7 17 ?_
    refine tV 8 18 ?_
    refine tV 9 19 ?_
    refine tV 10 20 ?_
    refine tV 11 21 ?_
    refine tU 12 22 ?_
    refine tU 13 23 ?_
    refine tU 14 24 ?_
    refine tU 15 25 ?_
    refine tU 16 26 ?_
    refine tU 17 27 ?_
    refine tU 18 28 ?_
    refine tU 19 29 ?_
    refine tU 20 30 ?_
    refine tU 21 31 ?_
    refine tU 22 32 ?_
    refine tU 23 33 ?_
    refine tU 24 34 ?_
    refine tU 25 35 ?_
    refine tU 26 36 ?_
    refine tV 27 37 ?_
    refine wpAnyH_done (by kernel_rfl) ?_ _
    all_goals
     go_wp2
     go_ret
     exact ⟨by rw [HF.out]; rfl, (HK.out.below (Below.refl _ _).drew).frame⟩
   ·have hle := decide_eq_false h1
    have HNX := Lib.hid (HNX.out (by omega))
    clear h1
    by_cases h0 : 0 < j
    ·obtain ⟨k, hk⟩ : ∃ k, j = k + 1 := ⟨j - 1, by omega⟩
     have hkl : k < l.length := by omega
     have hpw : IntKind.i64.wrap ((j : Int) - 1) = (k : Int) := by rw [IntWalk.i64_in] <;> omega
     have hgt : decide ((0 : Int) < (j : Int)) = true := decide_eq_true (by omega)
     have HCX0 := Lib.hid (HCM.out l[k] l[j])
     have HP0 : Hid (∀ W, RwK w (some ⟨b, off, none⟩) l W → W.cell? ⟨b, off + k * 4, none⟩ = some (.int .i64 l[k].f) ∧ W.cell? ⟨b, off + k * 4 + 1, none⟩ = some (.int .i64 l[k].t) ∧ W.cell? ⟨b, off + k * 4 + 2, none⟩ = some (.int .i64 l[k].n) ∧ W.cell? ⟨b, off + k * 4 + 3, none⟩ = some (.int .i64 l[k].s)) := fun W h => h.at_ hkl
     have hkp : ∀ h, l[j - 1]'h = l[k] := fun h => by congr 1; omega
     have HNX3 : Hid (ltSt l[k] l[j] → RiseTo l (j + 1)) := fun h => HNX.out (fun _ => by rw [hkp]; exact h)
     have HNP3 : Hid (¬ ltSt l[k] l[j] → decide (RiseS l) = false) := fun h => HNP.out h0 (by rw [hkp]; exact h)
     clear HNF HNP HCM HNX hkp hk
     generalize l[k] = y at *
     generalize l[j] = x at *
     by_cases h3 : ltSt y x
     ·have HNX4 := Lib.hid (HNX3.out h3)
      have HCX : Hid (∀ W, Calls Tryz.prog 153 #[.agg #[.int .i64 y.f, .int .i64 y.t, .int .i64 y.n, .int .i64 y.s], .agg #[.int .i64 x.f, .int .i64 x.t, .int .i64 x.n, .int .i64 x.s]] W fun e w' => e = .returned (.bool true) ∧ Below W.heap.size W w') := fun W => by
       have := HCX0.out W
       rwa [decide_eq_true h3] at this
      clear HNX3 HNP3 h3 HCX0
      go_wp2_with fail
      refine wp_region_held_drew (S := (fun W => W.cell? ⟨b, off + j * 4, none⟩ = some (.int .i64 x.f) ∧ W.cell? ⟨b, off + j * 4 + 1, none⟩ = some (.int .i64 x.t) ∧ W.cell? ⟨b, off + j * 4 + 2, none⟩ = some (.int .i64 x.n) ∧ W.cell? ⟨b, off + j * 4 + 3, none⟩ = some (.int .i64 x.s) ∧ W.cell? ⟨b, off + k * 4, none⟩ = some (.int .i64 y.f) ∧ W.cell? ⟨b, off + k * 4 + 1, none⟩ = some (.int .i64 y.t) ∧ W.cell? ⟨b, off + k * 4 + 2, none⟩ = some (.int .i64 y.n) ∧ W.cell? ⟨b, off + k * 4 + 3, none⟩ = some (.int .i64 y.s))) (by kernel_rfl) ?_ (fun hHeld => ?_)
      ·have K1 := HK.out.below (Below.refl _ _).drew; obtain ⟨k1, k2, k3, k4⟩ := HQ0.out _ K1; exact ⟨k1, k2, k3, k4, HP0.out _ K1⟩
      refine tV 0 10 ?_
      refine tV 1 11 ?_
      refine tV 2 12 ?_
      refine tV 3 13 ?_
      refine tV 4 14 ?_
      refine tV 5 15 ?_
      refine tV 6 16 ?_
      refine tV 7 17 ?_
      refine tV 8 18 ?_
      refine tV 9 19 ?_
      refine tV 10 20 ?_
      refine tV 11 21 ?_
      refine tV 12 22 ?_
      refine tV 13 23 ?_
      refine tV 14 24 ?_
      refine tV 15 25 ?_
      refine tV 16 26 ?_
      refine tV 17 27 ?_
      refine tV 18 28 ?_
      refine tV 19 29 ?_
      refine tV 20 30 ?_
      refine tV 21 31 ?_
      refine tV 22 32 ?_
      refine tV 23 33 ?_
      refine wpAnyH_ready (rs := [24]) (by kernel_rfl) (by simp) ?_
      refine AllReadyH.cons (o := ⟨some 34, _, _, _, _, _⟩) rfl (fun K hK => ?_) AllReadyH.nil
      go_simp
      refine (HCX.out _).mono ?_
      rintro e w3 ⟨rfl, h3⟩
      have K3 := (HK.out.below (Below.refl _ _).drew).below h3
      go_wp2_with fail
      refine hK.out _ _ ?_ (fun hH24 => ?_)
      ·obtain ⟨k1, k2, k3, k4⟩ := HQ0.out _ K3; exact ⟨k1, k2, k3, k4, HP0.out _ K3⟩
      clear hK K
      (try simp only [Act.put, List.setIfInBounds_toArray, List.set_cons_zero, List.set_cons_succ])
      refine tV 25 35 ?_
      refine tV 26 36 ?_
      refine tV 27 37 ?_
      refine wpAnyH_done (by kernel_rfl) ?_ _
      all_goals
       go_wp2
       go_roundw
       case rel => exact ⟨j + 1, by omega, by go_num, HNX4, K3.frame⟩
       case measure => simp [intOf]; omega
     ·have HNF4 := Lib.hid (HNP3.out h3)
      have HCX : Hid (∀ W, Calls Tryz.prog 153 #[.agg #[.int .i64 y.f, .int .i64 y.t, .int .i64 y.n, .int .i64 y.s], .agg #[.int .i64 x.f, .int .i64 x.t, .int .i64 x.n, .int .i64 x.s]] W fun e w' => e = .returned (.bool false) ∧ Below W.heap.size W w') := fun W => by
       have := HCX0.out W
       rwa [decide_eq_false h3] at this
      clear HNX3 HNP3 h3 HCX0
      go_wp2_with fail
      refine wp_region_held_drew (S := (fun W => W.cell? ⟨b, off + j * 4, none⟩ = some (.int .i64 x.f) ∧ W.cell? ⟨b, off + j * 4 + 1, none⟩ = some (.int .i64 x.t) ∧ W.cell? ⟨b, off + j * 4 + 2, none⟩ = some (.int .i64 x.n) ∧ W.cell? ⟨b, off + j * 4 + 3, none⟩ = some (.int .i64 x.s) ∧ W.cell? ⟨b, off + k * 4, none⟩ = some (.int .i64 y.f) ∧ W.cell? ⟨b, off + k * 4 + 1, none⟩ = some (.int .i64 y.t) ∧ W.cell? ⟨b, off + k * 4 + 2, none⟩ = some (.int .i64 y.n) ∧ W.cell? ⟨b, off + k * 4 + 3, none⟩ = some (.int .i64 y.s))) (by kernel_rfl) ?_ (fun hHeld => ?_)
      ·have K1 := HK.out.below (Below.refl _ _).drew; obtain ⟨k1, k2, k3, k4⟩ := HQ0.out _ K1; exact ⟨k1, k2, k3, k4, HP0.out _ K1⟩
      refine tV 0 10 ?_
      refine tV 1 11 ?_
      refine tV 2 12 ?_
      refine tV 3 13 ?_
      refine tV 4 14 ?_
      refine tV 5 15 ?_
      refine tV 6 16 ?_
      refine tV 7 17 ?_
      refine tV 8 18 ?_
      refine tV 9 19 ?_
      refine tV 10 20 ?_
      refine tV 11 21 ?_
      refine tV 12 22 ?_
      refine tV 13 23 ?_
      refine tV 14 24 ?_
      refine tV 15 25 ?_
      refine tV 16 26 ?_
      refine tV 17 27 ?_
      refine tV 18 28 ?_
      refine tV 19 29 ?_
      refine tV 20 30 ?_
      refine tV 21 31 ?_
      refine tV 22 32 ?_
      refine tV 23 33 ?_
      refine wpAnyH_ready (rs := [24]) (by kernel_rfl) (by simp) ?_
      refine AllReadyH.cons (o := ⟨some 34, _, _, _, _, _⟩) rfl (fun K hK => ?_) AllReadyH.nil
      go_simp
      refine (HCX.out _).mono ?_
      rintro e w3 ⟨rfl, h3⟩
      have K3 := (HK.out.below (Below.refl _ _).drew).below h3
      go_wp2_with fail
      refine hK.out _ _ ?_ (fun hH24 => ?_)
      ·obtain ⟨k1, k2, k3, k4⟩ := HQ0.out _ K3; exact ⟨k1, k2, k3, k4, HP0.out _ K3⟩
      clear hK K
      (try simp only [Act.put, List.setIfInBounds_toArray, List.set_cons_zero, List.set_cons_succ])
      refine tV 25 35 ?_
      refine tV 26 36 ?_
      refine tV 27 37 ?_
      refine wpAnyH_done (by kernel_rfl) ?_ _
      all_goals
       go_wp2
       go_ret
       exact ⟨by rw [HNF4.out]; rfl, K3.frame⟩
    ·have HNX2 := Lib.hid (HNX.out (fun h => absurd h h0))
     have hgt : decide ((0 : Int) < (j : Int)) = false := decide_eq_false (by omega)
     clear HNF HNP HCM HNX
     generalize l[j] = x at *
     go_wp2_with fail
     refine wp_region_held_drew (S := (fun W => W.cell? ⟨b, off + j * 4, none⟩ = some (.int .i64 x.f) ∧ W.cell? ⟨b, off + j * 4 + 1, none⟩ = some (.int .i64 x.t) ∧ W.cell? ⟨b, off + j * 4 + 2, none⟩ = some (.int .i64 x.n) ∧ W.cell? ⟨b, off + j * 4 + 3, none⟩ = some (.int .i64 x.s))) (by kernel_rfl) ?_ (fun hHeld => ?_)
     ·exact HQ0.out _ (HK.out.below (Below.refl _ _).drew)
     refine tV 0 10 ?_
     refine tV 1 11 ?_
     refine tV 2 12 ?_
     refine tV 3 13 ?_
     refine tV 4 14 ?_
     refine tV 5 15 ?_
     refine tV 6 16 ?_
     refine tV 7 17 ?_
     refine tV 8 18 ?_
     refine tV 9 19 ?_
     refine tV 10 20 ?_
     refine tV 11 21 ?_
     refine tV 12 22 ?_
     refine tV 13 23 ?_
     refine tV 14 24 ?_
     refine tU 15 25 ?_
     refine tU 16 26 ?_
     refine tU 17 27 ?_
     refine tU 18 28 ?_
     refine tU 19 29 ?_
     refine tU 20 30 ?_
     refine tU 21 31 ?_
     refine tU 22 32 ?_
     refine tU 23 33 ?_
     refine tU 24 34 ?_
     refine tU 25 35 ?_
     refine tV 26 36 ?_
     refine tV 27 37 ?_
     refine wpAnyH_done (by kernel_rfl) ?_ _
     all_goals
      go_wp2
      go_roundw
      case rel => exact ⟨j + 1, by omega, by go_num, HNX2, (HK.out.below (Below.refl _ _).drew).frame⟩
      case measure => simp [intOf]; omega
  ·obtain rfl : j = l.length := by omega
   have HE := Lib.hid (decide_eq_true HO.out.all)
   go_wp2
   go_ret
   exact ⟨by rw [HE.out]; rfl, HB.out⟩
set_option maxHeartbeats 8000000 in
theorem rrising_any (a : Option Addr) (c : Nat) (l : List OpM) (w : World) (hr : OpSl w a l) (hsz : SzO l) (hl : l.length ≤ 1000000) :
  Calls Tryz.prog 35 #[.slice a l.length c] w fun e w' => e = .returned (.bool (decide (RiseO l))) ∧ Below w.heap.size w w' := by
 have HR := Lib.hid hr
 have HRT : Hid (∀ x (h : x ∈ l) W, Calls Tryz.prog 37 #[.string x.u] W fun e w' => e = .returned (.bool (nameO x.u)) ∧ W = w') := fun x h W => refRight_any x.u W (hsz x h)
 clear hr hsz
 by_cases h16 : 16 < l.length
 ·have d1 : decide ((16 : Int) < (l.length : Int)) = true := decide_eq_true (by omega)
  have d2 : decide ((l.length : Int) > (16 : Int)) = true := decide_eq_true (by omega)
  have HF := Lib.hid (rise_no3 h16)
  clear HRT HR
  go_enter Tryz.func35, Tryz.ntmps35
  go_wp2
  go_ret
  exact ⟨by rw [HF.out]; rfl, Below.refl _ _⟩
 ·have d1 : decide ((16 : Int) < (l.length : Int)) = false := decide_eq_false (by omega)
  have d2 : decide ((l.length : Int) > (16 : Int)) = false := decide_eq_false (by omega)
  have HY := Lib.hid (fun h => rise_yes (l := l) (by omega) h)
  go_enter Tryz.func35, Tryz.ntmps35
  go_wp2
  clear d1 d2
  go_loopw [3] (fun i wr => ∃ (j : Nat), j ≤ l.length ∧ i = .int .i64 j ∧ Hid (RiTo l j) ∧ Hid (Below w.heap.size w wr)) (fun i _ => l.length - (intOf i).toNat)
  case atStart => exact ⟨0, by omega, rfl, RiTo.zero _, Below.refl _ _⟩
  case round =>
   obtain ⟨j, hj, rfl, HO, HB⟩ := hrel
   by_cases hjl : j < l.length
   ·obtain ⟨b, off, rfl, hbl, hc0, hc1, hc2, hc3⟩ := (HR.out.below HB.out).at_ hjl
    have HK := Lib.hid (RsO.new (x := l[j]) (HR.out.below HB.out) HB.out 75)
    have HNX := Lib.hid (HO.out.next hjl)
    have HRX := Lib.hid (HRT.out l[j] (List.getElem_mem hjl))
    obtain ⟨e0, e1, e2, e3⟩ := HK.out.box
    clear HRT HY
    cases hn : nameO l[j].u with
    | false =>
     have HF := Lib.hid (rise_no1 hjl (fun h => by rw [h.1] at hn; cases hn))
     rw [hn] at HRX
     clear HNX hn
     generalize l[j] = x at *
     go_wp2_with fail
     refine (HRX.out _).mono ?_
     rintro e w3 ⟨rfl, rfl⟩
     go_wp2
     go_ret
     exact ⟨by rw [HF.out]; rfl, HK.out.frame⟩
    | true =>
     rw [hn] at HRX
     have HNO := Lib.hid (fun h => rise_no1 hjl h)
     have HYE : Hid (1 ≤ l[j].n → l[j].n ≤ 999 → 1 ≤ l[j].s → l[j].s ≤ 4 → 0 ≤ l[j].f → l[j].f ≤ 1099511627775 → OkO l[j]) := fun h1 h2 h3 h4 h5 h6 => ⟨hn, h1, h2, h3, h4, h5, h6⟩
     have HN2 := Lib.hid (fun h0 h => rise_no2 hjl h0 h)
     clear hn
     by_cases c0 : l[j].n < 1
     ·have HF := Lib.hid (HNO.out (fun h => by have := h.2.1; omega))
      have g0 := decide_eq_true c0
      clear HNX HNO HYE HN2 c0
      generalize l[j] = x at *
      go_wp2_with fail
      refine (HRX.out _).mono ?_
      rintro e w3 ⟨rfl, rfl⟩
      go_wp2
      go_ret
      exact ⟨by rw [HF.out]; rfl, HK.out.frame⟩
     ·have g0 := decide_eq_false c0
      by_cases c1 : 999 < l[j].n
      ·have HF := Lib.hid (HNO.out (fun h => by have := h.2.2.1; omega))
       have g1 := decide_eq_true c1
       clear HNX HNO HYE HN2 c1
       generalize l[j] = x at *
       go_wp2_with fail
       refine (HRX.out _).mono ?_
       rintro e w3 ⟨rfl, rfl⟩
       go_wp2
       go_ret
       exact ⟨by rw [HF.out]; rfl, HK.out.frame⟩
      ·have g1 := decide_eq_false c1
       by_cases c2 : l[j].s < 1
       ·have HF := Lib.hid (HNO.out (fun h => by have := h.2.2.2.1; omega))
        have g2 := decide_eq_true c2
        clear HNX HNO HYE HN2 c2
        generalize l[j] = x at *
        go_wp2_with fail
        refine (HRX.out _).mono ?_
        rintro e w3 ⟨rfl, rfl⟩
        go_wp2
        go_ret
        exact ⟨by rw [HF.out]; rfl, HK.out.frame⟩
       ·have g2 := decide_eq_false c2
        by_cases c3 : 4 < l[j].s
        ·have HF := Lib.hid (HNO.out (fun h => by have := h.2.2.2.2.1; omega))
         have g3 := decide_eq_true c3
         clear HNX HNO HYE HN2 c3
         generalize l[j] = x at *
         go_wp2_with fail
         refine (HRX.out _).mono ?_
         rintro e w3 ⟨rfl, rfl⟩
         go_wp2
         go_ret
         exact ⟨by rw [HF.out]; rfl, HK.out.frame⟩
        ·have g3 := decide_eq_false c3
         by_cases c4 : l[j].f < 0
         ·have HF := Lib.hid (HNO.out (fun h => by have := h.2.2.2.2.2.1; omega))
          have g4 := decide_eq_true c4
          clear HNX HNO HYE HN2 c4
          generalize l[j] = x at *
          go_wp2_with fail
          refine (HRX.out _).mono ?_
          rintro e w3 ⟨rfl, rfl⟩
          go_wp2
          go_ret
          exact ⟨by rw [HF.out]; rfl, HK.out.frame⟩
         ·have g4 := decide_eq_false c4
          by_cases c5 : 1099511627776 ≤ l[j].f
          ·have HF := Lib.hid (HNO.out (fun h => by have := h.2.2.2.2.2.2; omega))
           have g5 := decide_eq_true c5
           clear HNX HNO HYE HN2 c5
           generalize l[j] = x at *
           go_wp2_with fail
           refine (HRX.out _).mono ?_
           rintro e w3 ⟨rfl, rfl⟩
           go_wp2
           go_ret
           exact ⟨by rw [HF.out]; rfl, HK.out.frame⟩
          ·have g5 := decide_eq_false c5
           have HNX2 := Lib.hid (HNX.out (HYE.out (by omega) (by omega) (by omega) (by omega) (by omega) (by omega)))
           clear HNX HNO HYE c0 c1 c2 c3 c4 c5
           by_cases h0 : 0 < j
           ·obtain ⟨k, hk⟩ : ∃ k, j = k + 1 := ⟨j - 1, by omega⟩
            have hkl : k < l.length := by omega
            have hpw : IntKind.i64.wrap ((j : Int) - 1) = (k : Int) := by rw [IntWalk.i64_in] <;> omega
            have hgt : decide ((0 : Int) < (j : Int)) = true := decide_eq_true (by omega)
            obtain ⟨-, -, -, -, p4, -, -, -⟩ := HK.out.at_ hkl
            have hkp : ∀ h, l[j - 1]'h = l[k] := fun h => by congr 1; omega
            have HNX3 : Hid (l[k].n < l[j].n → RiTo l (j + 1)) := fun h => HNX2.out (fun _ => by rw [hkp]; exact h)
            have HNP3 : Hid (¬ l[k].n < l[j].n → decide (RiseO l) = false) := fun h => HN2.out h0 (by rw [hkp]; exact h)
            clear HNX2 HN2 hkp hk
            generalize l[k] = y at *
            generalize l[j] = x at *
            by_cases h3 : y.n < x.n
            ·have HN := Lib.hid (HNX3.out h3)
             have d3 : decide (x.n ≤ y.n) = false := decide_eq_false (by omega)
             clear HNX3 HNP3 h3
             go_wp2_with fail
             refine (HRX.out _).mono ?_
             rintro e w3 ⟨rfl, rfl⟩
             go_wp2
             go_quiet (fail)
             go_wp2
             go_roundw
             case rel => exact ⟨j + 1, by omega, by go_num, HN, HK.out.frame.trans (Drew.below ⟨_, rfl⟩ _)⟩
             case measure => simp [intOf]; omega
            ·have HF := Lib.hid (HNP3.out h3)
             have d3 : decide (x.n ≤ y.n) = true := decide_eq_true (by omega)
             clear HNX3 HNP3 h3
             go_wp2_with fail
             refine (HRX.out _).mono ?_
             rintro e w3 ⟨rfl, rfl⟩
             go_wp2
             go_quiet (fail)
             go_wp2
             go_ret
             exact ⟨by rw [HF.out]; rfl, HK.out.frame.trans (Drew.below ⟨_, rfl⟩ _)⟩
           ·have HN := Lib.hid (HNX2.out (fun h => absurd h h0))
            have hgt : decide ((0 : Int) < (j : Int)) = false := decide_eq_false (by omega)
            clear HNX2 HN2
            generalize l[j] = x at *
            go_wp2_with fail
            refine (HRX.out _).mono ?_
            rintro e w3 ⟨rfl, rfl⟩
            go_wp2
            go_quiet (fail)
            go_wp2
            go_roundw
            case rel => exact ⟨j + 1, by omega, by go_num, HN, HK.out.frame.trans (Drew.below ⟨_, rfl⟩ _)⟩
            case measure => simp [intOf]; omega
   ·obtain rfl : j = l.length := by omega
    have HE := Lib.hid (HY.out HO.out)
    go_wp2
    go_ret
    exact ⟨by rw [HE.out]; rfl, HB.out⟩
end Go.Proofs.YtjhdhfokhkcamaaGreat
namespace Go.Proofs.YtjhdhfokhkcamaaGreat
open Go.RowKit
set_option linter.unusedVariables false
set_option maxRecDepth 100000
set_option maxRecDepth 100000
theorem o_rrising (a : Option Addr) (c : Nat) (l : List OpM) (W : World) (h : OpSl W a l) (hs : SzO l) (hl : l.length ≤ 1000) : Calls Tryz.prog 35 #[.slice a l.length c] W fun e w' => e = .returned (.bool (decide (RiseO l))) ∧ Below W.heap.size W w' := rrising_any a c l W h hs (by omega)
set_option maxHeartbeats 2000000 in
theorem rafter_any (a : Option Addr) (c : Nat) (l : List EnM) (s : Int) (w : World) (hr : EnSl w a l) (hl : l.length ≤ 100000) :
  Calls Tryz.prog 80 #[.slice a l.length c, (.int .i64 s)] w fun e w' => ∃ v, e = .returned v ∧ w'.ownsRow w.heap.size 82 4 v (l.filter (afE s)).length (ens (l.filter (afE s))) ∧ Below w.heap.size w w' := by
 obtain ⟨i0, hi, hz0, hz1, hz2⟩ := info_parts infoEnR
 have HR := Lib.hid hr
 clear hr
 go_enter Tryz.func80, Tryz.ntmps80
 go_wp2
 go_loopw [5, 6] (fun v i wr => ∃ (j : Nat), j ≤ l.length ∧ i = .int .i64 j ∧ Hid (wr.ownsRow w.heap.size 82 4 v ((l.take j).filter (afE s)).length (ens ((l.take j).filter (afE s)))) ∧ Hid (Below w.heap.size w wr)) (fun _ i _ => l.length - (intOf i).toNat)
 case atStart => exact ⟨0, by omega, rfl, ⟨rfl, .inl ⟨rfl, rfl⟩⟩, Below.refl _ _⟩
 case round =>
  obtain ⟨j, hj, rfl, HO, HB⟩ := hrel
  by_cases hjl : j < l.length
  ·obtain ⟨b, off, rfl, hbl, hc0, hc1, hc2, hc3⟩ := (HR.out.below HB.out).at_ hjl
   have HT := Lib.hid (fil_take (afE s) l j hjl)
   have HLN := Lib.hid (fil_len (afE s) l j)
   generalize l[j] = x at *
   generalize (l.take j).filter (afE s) = m at *
   have HTT : Hid (afE s x = true → (l.take (j + 1)).filter (afE s) = m ++ [x]) := fun hq => by have := HT.out; rwa [if_pos hq] at this
   have HTF : Hid (afE s x = false → (l.take (j + 1)).filter (afE s) = m) := fun hq => by have := HT.out; rwa [if_neg (by rw [hq]; exact Bool.false_ne_true), List.append_nil] at this
   clear HT
   by_cases h1 : s < x.t
   ·have HC2 := Lib.hid (HTT.out (decide_eq_true h1))
    have e1 := decide_eq_true h1
    clear HTT HTF
    have HO2 := Lib.hid (own_below HO.out (ebelow_one wr (.cells #[.string x.w, .string x.u, .int .i64 x.f, .int .i64 x.t] 82)))
    have HB2 : Hid (Below w.heap.size w (wr.alloc (.cells #[.string x.w, .string x.u, .int .i64 x.f, .int .i64 x.t] 82))) := HB.out.trans ((ebelow_one wr _).mono HB.out.size)
    have HS2 := Lib.hid HB2.out.size
    have hlm := HLN.out
    go_wp2_with (at_builtin; refine wpList_append_own _ rfl (.tmp 20) (.tmp 25) 24 rfl w.heap.size 82 i0 _ 4 48 Tryz.underlying24 hi hz0 hz1 hz2 rfl (by decide) _ _ _ rfl HO2.out ⟨wr.heap.size, 0, none⟩ 1 1 [.string x.w, .string x.u, .int .i64 x.f, .int .i64 x.t] rfl rfl (news_at _ _ _ _ rfl) (four_e _ _ _ _) (by unfold maxLen; omega) (by omega) HS2.out ?_; intro v' w3 hown' hgrow hiff)
    have HB3 := Lib.hid (app_below HB2.out HS2.out HO2.out hgrow)
    have HO3 := Lib.hid hown'
    clear hown' hgrow hiff HB2 HS2 HO2
    go_wp2
    go_roundw
    case rel => exact ⟨j + 1, by omega, by go_num, (by unfold Hid; rw [HC2.out, List.length_append, ens_snoc]; exact HO3.out), HB3⟩
    case measure => simp [intOf]; omega
   ·have HC2 := Lib.hid (HTF.out (decide_eq_false h1))
    have e1 := decide_eq_false h1
    clear HTT HTF
    go_wp2
    go_roundw
    case rel => exact ⟨j + 1, by omega, by go_num, (by unfold Hid; rw [HC2.out]; exact HO.out), HB⟩
    case measure => simp [intOf]; omega
  ·obtain rfl : j = l.length := by omega
   rw [List.take_of_length_le (Nat.le_refl _)] at HO
   go_wp2
   go_ret
   exact ⟨_, rfl, HO.out, HB.out⟩
end Go.Proofs.YtjhdhfokhkcamaaGreat
namespace Go.Proofs.YtjhdhfokhkcamaaGreat
open Go.ChangeShapes Go.WideShapes Go.ChangeAt Go.RowKit
set_option linter.unusedVariables false
set_option maxRecDepth 100000
set_option maxRecDepth 100000
theorem wf64 {n : Int} (h : (Lit.int .i64 n).wf = true) : I64 n := by
 have e1 : IntKind.i64.min = -9223372036854775808 := by decide
 have e2 : IntKind.i64.max = 9223372036854775807 := by decide
 have h' : (decide (IntKind.i64.min ≤ n) && decide (n ≤ IntKind.i64.max)) = true := h
 rw [e1, e2, Bool.and_eq_true, decide_eq_true_eq, decide_eq_true_eq] at h'
 exact h'
def FitsE (l : List EnM) : Prop := ∀ e ∈ l, e.w.size ≤ maxLen ∧ e.u.size ≤ maxLen ∧ I64 e.f ∧ I64 e.t
section
variable {H : Type} {enc : TypeId × Value → H} {P : Program} {w : World} {base : Nat} {spare : Nat → Bool} {held : Bool}
theorem eopen_quads {t e : TypeId} {f0 f1 f2 f3 : Field} {fuel : Nat} {cs : List Value} {x : DataW H × List MemPlace} (ht : P.underlying t = some (.slice e)) (he : P.underlying e = some (.struct #[f0, f1, f2, f3]))
  (ce : P.cellsOf e = 4) (o0 : f0.offset = 0) (o1 : f1.offset = 1) (o2 : f2.offset = 2) (o3 : f3.offset = 3) (c0 : P.cellsOf f0.type = 1) (c1 : P.cellsOf f1.type = 1) (c2 : P.cellsOf f2.type = 1) (c3 : P.cellsOf f3.type = 1)
  (h : DataW.trod enc P w base spare held fuel t cs = some x) :
  (cs = [.slice none 0 0] ∧ x = (.nil, [])) ∨
  ∃ (a : Addr) (len cap : Nat), cs = [.slice (some a) len cap] ∧ len ≤ cap ∧ cap ≤ maxLen ∧
   ∀ i, i < len → ∃ (v0 v1 v2 v3 : Value) (y0 y1 y2 y3 : DataW H × List MemPlace) (n : Nat), w.cell? (a.add (i * 4)) = some v0 ∧ w.cell? (a.add (i * 4 + 1)) = some v1 ∧ w.cell? (a.add (i * 4 + 2)) = some v2 ∧ w.cell? (a.add (i * 4 + 3)) = some v3 ∧
    DataW.trod enc P w base spare held n f0.type [v0] = some y0 ∧ DataW.trod enc P w base spare held n f1.type [v1] = some y1 ∧ DataW.trod enc P w base spare held n f2.type [v2] = some y2 ∧ DataW.trod enc P w base spare held n f3.type [v3] = some y3 := by
 rcases Go.Deep.open_slice ht h with h0 | ⟨a, len, cap, m, n, D, Pl, rfl, hb, hl, hm, hmm, rfl, hx⟩
 ·exact Or.inl h0
 right
 have hlm : len ≤ m := by rw [hmm]; split <;> omega
 refine ⟨a, len, cap, rfl, hl, hm, fun i hi => ?_⟩
 obtain ⟨cs', h1, h2⟩ := hx i (by omega)
 rw [ce] at h1
 obtain ⟨_, hlen, hcell⟩ := World.cells?_some h1
 obtain ⟨xs, k, hk, hxy, _, hxl, hf⟩ := DataW.trod_struct he h2
 match xs, hxl, cs', hlen with
 | [y0, y1, y2, y3], _, [v0, v1, v2, v3], _ =>
  have g0 := hf 0 f0 rfl
  have g1 := hf 1 f1 rfl
  have g2 := hf 2 f2 rfl
  have g3 := hf 3 f3 rfl
  simp [o0, o1, o2, o3, c0, c1, c2, c3] at g0 g1 g2 g3
  have e0 := hcell 0 (by omega)
  have e1 := hcell 1 (by omega)
  have e2 := hcell 2 (by omega)
  have e3 := hcell 3 (by omega)
  rw [Go.Deep.add_add] at e0 e1 e2 e3
  exact ⟨v0, v1, v2, v3, y0, y1, y2, y3, k, by simpa using e0, by simpa using e1, by simpa using e2, by simpa using e3, g0, g1, g2, g3⟩
end
theorem enFields : ∃ f0 f1 f2 f3 : Field, Tryz.prog.underlying 82 = some (.struct #[f0, f1, f2, f3]) ∧ f0.offset = 0 ∧ f1.offset = 1 ∧ f2.offset = 2 ∧ f3.offset = 3 ∧ f0.type = 9 ∧ f1.type = 9 ∧ f2.type = 3 ∧ f3.type = 3 := ⟨_, _, _, _, Tryz.underlying82, rfl, rfl, rfl, rfl, rfl, rfl, rfl, rfl⟩
theorem read_entries {H : Type} {enc : TypeId × Value → H} {W : World} {n : Nat} {cs : List Value} {x : DataW H × List MemPlace}
  (h : DataW.trod enc Tryz.prog W 0 (fun _ => true) true n 24 cs = some x) :
  ∃ (a : Option Addr) (c : Nat) (l : List EnM), cs = [.slice a l.length c] ∧ EnSl W a l ∧ FitsE l ∧ l.length ≤ c ∧ c ≤ maxLen ∧ (a = none → c = 0) := by
 obtain ⟨f0, f1, f2, f3, he, o0, o1, o2, o3, t0, t1, t2, t3⟩ := enFields
 have ci : Tryz.prog.cellsOf 3 = 1 := by kernel_rfl
 have cs' : Tryz.prog.cellsOf 9 = 1 := by kernel_rfl
 rcases eopen_quads Tryz.underlying24 he (by kernel_rfl) o0 o1 o2 o3 (by rw [t0]; exact cs') (by rw [t1]; exact cs') (by rw [t2]; exact ci) (by rw [t3]; exact ci) h with ⟨rfl, _⟩ | ⟨a, len, cap, rfl, hl, hm, hx⟩
 ·exact ⟨none, 0, [], rfl, EnSl.nil _ _, (fun s hs => by cases hs), by simp, by decide, fun _ => rfl⟩
 ·have each : ∀ i, i < len → ∃ x : EnM, W.cell? (a.add (i * 4)) = some (.string x.w) ∧ W.cell? (a.add (i * 4 + 1)) = some (.string x.u) ∧ W.cell? (a.add (i * 4 + 2)) = some (.int .i64 x.f) ∧ W.cell? (a.add (i * 4 + 3)) = some (.int .i64 x.t) ∧ x.w.size ≤ maxLen ∧ x.u.size ≤ maxLen ∧ I64 x.f ∧ I64 x.t := fun i hi => by
   obtain ⟨v0, v1, v2, v3, y0, y1, y2, y3, n, k0, k1, k2, k3, g0, g1, g2, g3⟩ := hx i hi
   rw [t0] at g0
   rw [t1] at g1
   rw [t2] at g2
   rw [t3] at g3
   obtain ⟨z0, e0, _, w0⟩ := DataW.trod_string Tryz.underlying9 g0
   obtain ⟨z1, e1, _, w1⟩ := DataW.trod_string Tryz.underlying9 g1
   obtain ⟨z2, e2, _, w2⟩ := DataW.trod_int Tryz.underlying3 g2
   obtain ⟨z3, e3, _, w3⟩ := DataW.trod_int Tryz.underlying3 g3
   simp at e0 e1 e2 e3
   exact ⟨⟨z0, z1, z2, z3⟩, by rw [k0, e0], by rw [k1, e1], by rw [k2, e2], by rw [k3, e3], w0, w1, wf64 w2, wf64 w3⟩
  have some_x : ∃ f : Nat → EnM, ∀ i, i < len → W.cell? (a.add (i * 4)) = some (.string (f i).w) ∧ W.cell? (a.add (i * 4 + 1)) = some (.string (f i).u) ∧ W.cell? (a.add (i * 4 + 2)) = some (.int .i64 (f i).f) ∧ W.cell? (a.add (i * 4 + 3)) = some (.int .i64 (f i).t) ∧ (f i).w.size ≤ maxLen ∧ (f i).u.size ≤ maxLen ∧ I64 (f i).f ∧ I64 (f i).t := by
   refine ⟨fun i => if h : i < len then (each i h).choose else ⟨ByteArray.empty, ByteArray.empty, 0, 0⟩, fun i hi => ?_⟩
   simp only [hi, ↓reduceDIte]
   exact (each i hi).choose_spec
  obtain ⟨f, hf2⟩ := some_x
  have hlen : ((List.range len).map f).length = len := by simp
  refine ⟨some a, cap, (List.range len).map f, by rw [hlen], fun k hk => ?_, fun x hxm => ?_, by omega, hm, fun h => by cases h⟩
  ·rw [hlen] at hk
   obtain ⟨b, off, spot⟩ := a
   have h0 := (hf2 0 (by omega)).1
   have hspot : spot = none := by simpa [Addr.add] using World.cell?_spot h0
   subst hspot
   obtain ⟨g0, g1, g2, g3, _⟩ := hf2 k (by omega)
   rw [Go.WideShapes.add_plain] at g0 g1 g2 g3
   simp only [List.getElem_map, List.getElem_range]
   exact ⟨b, off, rfl, World.block_lt_of_cell? W ⟨b, off + k * 4, none⟩ g0, g0, g1, g2, g3⟩
  ·obtain ⟨i, hi, rfl⟩ := List.mem_map.1 hxm
   exact (hf2 i (by have := List.mem_range.1 hi; omega)).2.2.2.2
end Go.Proofs.YtjhdhfokhkcamaaGreat
namespace Go.Proofs.YtjhdhfokhkcamaaGreat
open Go.RowKit
set_option linter.unusedVariables false
set_option maxRecDepth 100000
set_option maxRecDepth 100000
theorem e_rafter (a : Option Addr) (c : Nat) (l : List EnM) (s : Int) (W : World) (h : EnSl W a l) (hl : l.length ≤ 1000) : Calls Tryz.prog 80 #[.slice a l.length c, .int .i64 s] W fun e w' => ∃ x q, e = .returned (.slice x (l.filter (afE s)).length q) ∧ (l.filter (afE s)).length ≤ q ∧ q ≤ maxLen ∧ (x = none → q = 0) ∧ EnSl w' x (l.filter (afE s)) ∧ Below W.heap.size W w' := by
 refine (rafter_any a c l s W h (by omega)).mono ?_
 rintro e w' ⟨v, rfl, ho, hb⟩
 obtain ⟨x, q, rfl, h1, h2, h3, h4⟩ := own_en ho
 exact ⟨x, q, rfl, h1, h2, h4, h3, hb⟩
theorem e_rrising (a : Option Addr) (c : Nat) (l : List EnM) (W : World) (h : EnSl W a l) (hs : SzE l) (hl : l.length ≤ 1000) : Calls Tryz.prog 36 #[.slice a l.length c] W fun e w' => e = .returned (.bool (decide (RiseE l))) ∧ Below W.heap.size W w' := refERising_any a c l W h hs (by omega)
set_option maxHeartbeats 2000000 in
theorem refAfter_any (a : Option Addr) (c : Nat) (l : List StM) (t : Int) (w : World) (hr : StSl w a l) (hl : l.length ≤ 1000000) :
  Calls Tryz.prog 79 #[.slice a l.length c, .int .i64 t] w fun e w' => ∃ (v : Value), e = .returned v ∧ w'.ownsRow w.heap.size 135 4 v (aftS l t).length (sts (aftS l t)) ∧ Below w.heap.size w w' := by
 obtain ⟨i0, hi, hz0, hz1, hz2⟩ := info_parts infoStayR
 have HR := Lib.hid hr
 clear hr
 go_enter Tryz.func79, Tryz.ntmps79
 go_wp2
 go_loopw [5, 6] (fun v i wr => ∃ (j : Nat), j ≤ l.length ∧ i = .int .i64 j ∧ Hid (wr.ownsRow w.heap.size 135 4 v (aftS (l.take j) t).length (sts (aftS (l.take j) t))) ∧ Hid (Below w.heap.size w wr)) (fun _ i _ => l.length - (intOf i).toNat)
 case atStart => exact ⟨0, by omega, rfl, ⟨rfl, .inl ⟨rfl, rfl⟩⟩, Below.refl _ _⟩
 case round =>
  obtain ⟨j, hj, rfl, HO, HB⟩ := hrel
  by_cases hjl : j < l.length
  ·obtain ⟨b, off, rfl, hbl, hc0, hc1, hc2, hc3⟩ := (HR.out.below HB.out).at_ hjl
   have HC := Lib.hid (aft_take l t j hjl)
   have HLN : Hid ((aftS (l.take j) t).length ≤ j) := aft_len l t j
   generalize l[j] = x at *
   generalize aftS (l.take j) t = m at *
   by_cases h : t < x.t
   ·have hd := decide_eq_true h
    have HC2 : Hid (aftS (l.take (j + 1)) t = m ++ [x]) := by have := HC.out; rwa [if_pos h] at this
    have HO2 := Lib.hid (own_below HO.out (below_one wr (.cells #[.int .i64 x.f, .int .i64 x.t, .int .i64 x.n, .int .i64 x.s] 135)))
    have HB2 : Hid (Below w.heap.size w (wr.alloc (.cells #[.int .i64 x.f, .int .i64 x.t, .int .i64 x.n, .int .i64 x.s] 135))) := HB.out.trans ((below_one wr (.cells #[.int .i64 x.f, .int .i64 x.t, .int .i64 x.n, .int .i64 x.s] 135)).mono HB.out.size)
    have HS2 := Lib.hid HB2.out.size
    have hlm := HLN.out
    go_wp2_with (at_builtin; refine wpList_append_own _ rfl (.tmp 20) (.tmp 25) 58 rfl w.heap.size 135 i0 _ 4 32 Tryz.underlying58 hi hz0 hz1 hz2 rfl (by decide) _ _ _ rfl HO2.out ⟨wr.heap.size, 0, none⟩ 1 1 [.int .i64 x.f, .int .i64 x.t, .int .i64 x.n, .int .i64 x.s] rfl rfl (news_at _ _ _ _ rfl) (four_one _ _ _ _) (by unfold maxLen; omega) (by omega) HS2.out ?_; intro v' w3 hown' hgrow hiff)
    have HB3 := Lib.hid (app_below HB2.out HS2.out HO2.out hgrow)
    have HO3 := Lib.hid hown'
    clear hown' hgrow hiff HB2 HS2 HO2
    go_wp2
    go_roundw
    case rel => exact ⟨j + 1, by omega, by go_num, (by unfold Hid; rw [HC2.out, List.length_append, sts_snoc]; exact HO3.out), HB3⟩
    case measure => simp [intOf]; omega
   ·have hd := decide_eq_false h
    have HC2 : Hid (aftS (l.take (j + 1)) t = m) := by have := HC.out; rwa [if_neg h, List.append_nil] at this
    go_wp2
    go_roundw
    case rel => exact ⟨j + 1, by omega, by go_num, (by unfold Hid; rw [HC2.out]; exact HO.out), HB.out⟩
    case measure => simp [intOf]; omega
  ·obtain rfl : j = l.length := by omega
   rw [List.take_of_length_le (Nat.le_refl _)] at HO
   go_wp2
   go_ret
   exact ⟨_, rfl, HO.out, HB.out⟩
end Go.Proofs.YtjhdhfokhkcamaaGreat
namespace Go.Proofs.YtjhdhfokhkcamaaGreat
open Go.RowKit Go.Proofs
set_option linter.unusedVariables false
set_option maxRecDepth 100000
set_option maxHeartbeats 2000000 in
theorem rcount_any (x : SaL) (w : World) (h : SaAt w x) (hs : stCnt x.m ≤ 10000000) (hu : x.us.length ≤ 10000000) :
  Calls Tryz.prog 34 #[saV x] w fun e w' => e = .returned (.int .i64 (stCnt x.m : Nat)) ∧ Below w.heap.size w w' := by
 have S0 := SB.new (Below.refl w.heap.size w) h 27
 obtain ⟨c0, c1, c2, c3, c4, c5⟩ := S0.cells
 have hs2 : x.op.length + x.su.length + x.tb.length + cntU (umS x.us) ≤ 10000000 := hs
 have HE : Hid (stCnt x.m = x.op.length + x.su.length + x.tb.length + cntU (umS x.us)) := rfl
 have hw1 : IntKind.i64.wrap ((x.op.length : Int) + (x.su.length : Int)) = (x.op.length : Int) + (x.su.length : Int) := by rw [IntWalk.i64_in] <;> omega
 have hw2 : IntKind.i64.wrap ((x.op.length : Int) + (x.su.length : Int) + (x.tb.length : Int)) = ((x.op.length + x.su.length + x.tb.length : Nat) : Int) := by rw [IntWalk.i64_in] <;> omega
 have HU := Lib.hid S0.at_.us
 have HFR := Lib.hid S0.frame
 have HT := Lib.hid (fun j (hj : j < (umS x.us).length) => cntU_take (umS x.us) j hj)
 have HL := Lib.hid (umS_len x.us)
 have HLE : Hid (∀ j, cntU ((umS x.us).take j) ≤ cntU (umS x.us)) := fun j => by
  have := cntU_append ((umS x.us).take j) ((umS x.us).drop j)
  rw [List.take_append_drop] at this
  omega
 have HM : Hid (∀ j (h1 : j < x.us.length) (h2 : j < (umS x.us).length), ((umS x.us)[j]).l.length = x.us[j].l.length) := fun j h1 h2 => by simp [umS, UsL.m]
 unfold saV saC at *
 clear h hs S0
 obtain ⟨n0, hn0⟩ : ∃ n0, n0 = x.op.length + x.su.length + x.tb.length := ⟨_, rfl⟩
 rw [← hn0] at hw2 hs2 HE
 generalize x.ua = ua at *
 go_enter Tryz.func34, Tryz.ntmps34
 go_wp2
 go_loopw [3, 4] (fun v i wr => ∃ (j s : Nat), j ≤ x.us.length ∧ i = .int .i64 j ∧ v = .int .i64 s ∧ s ≤ 10000000 ∧ Hid (s = n0 + cntU ((umS x.us).take j)) ∧ wr = w.alloc (.cells #[.int .i64 x.now, .int .i64 x.hor, .slice x.oa x.op.length x.oc, .slice ua x.us.length x.uc, .slice x.sa x.su.length x.sc, .slice x.ta x.tb.length x.tc] 27)) (fun _ i _ => x.us.length - (intOf i).toNat)
 case atStart => exact ⟨0, n0, by omega, rfl, congrArg (Value.int .i64) (by omega), by omega, by simp [Hid, cntU], rfl⟩
 case round =>
  obtain ⟨j, s, hj, rfl, rfl, hsm, HSS, rfl⟩ := hrel
  by_cases hjl : j < x.us.length
  ·obtain ⟨b, off, rfl, hbl, hc0, hc1, -⟩ := HU.out.get hjl
   have hnx : s + x.us[j].l.length ≤ 10000000 := by
    have h1 := HT.out j (by rw [HL.out]; exact hjl)
    have h2 := HLE.out (j + 1)
    have h3 := HSS.out
    have h4 := HM.out j hjl (by rw [HL.out]; exact hjl)
    omega
   have HN : Hid (s + x.us[j].l.length = n0 + cntU ((umS x.us).take (j + 1))) := by
    have h1 := HT.out j (by rw [HL.out]; exact hjl)
    have h3 := HSS.out
    have h4 := HM.out j hjl (by rw [HL.out]; exact hjl)
    unfold Hid
    omega
   clear HM HLE HT HSS
   generalize x.us[j] = y at *
   have hwr : IntKind.i64.wrap ((s : Int) + (y.l.length : Int)) = ((s + y.l.length : Nat) : Int) := by rw [IntWalk.i64_in] <;> omega
   go_wp2
   go_roundw
   case rel => exact ⟨j + 1, s + y.l.length, by omega, by go_num, by first | rfl | go_num, hnx, HN, by first | rfl | trivial⟩
   case measure => simp [intOf]; omega
  ·obtain rfl : j = x.us.length := by omega
   have hE2 : s = stCnt x.m := by
    have h3 := HSS.out
    rw [List.take_of_length_le (by rw [HL.out]; exact Nat.le_refl _)] at h3
    rw [HE.out]
    exact h3
   have HE2 := Lib.hid hE2
   clear hE2 HM HLE HT HSS
   go_wp2
   go_ret
   exact ⟨by rw [← HE2.out]; rfl, HFR.out⟩
set_option maxHeartbeats 2000000 in
theorem many_any (x : SaL) (w : World) (h : SaAt w x) (hs : stCnt x.m + x.us.length ≤ 1048576) :
  Calls Tryz.prog 12 #[saV x] w fun e w' => e = .returned (.int .i64 ((stCnt x.m : Int) + (x.us.length : Int))) ∧ Below w.heap.size w w' := by
 have S0 := SB.new (Below.refl w.heap.size w) h 27
 have HC := Lib.hid (fun V (h : SaAt V x) => rcount_any x V h (by omega) (by omega))
 have HSC : Hid (∀ V, SB w w.heap.size 27 x V → V.cell? ⟨w.heap.size, 0, none⟩ = some (.int .i64 x.now) ∧ V.cell? ⟨w.heap.size, 1, none⟩ = some (.int .i64 x.hor) ∧ V.cell? ⟨w.heap.size, 2, none⟩ = some (.slice x.oa x.op.length x.oc) ∧ V.cell? ⟨w.heap.size, 3, none⟩ = some (.slice x.ua x.us.length x.uc) ∧ V.cell? ⟨w.heap.size, 4, none⟩ = some (.slice x.sa x.su.length x.sc) ∧ V.cell? ⟨w.heap.size, 5, none⟩ = some (.slice x.ta x.tb.length x.tc)) := fun V h => h.cells
 have S1 := S0.drew
 have hN : stCnt x.m ≤ 1048576 := by omega
 have hU : x.us.length ≤ 1048576 := by omega
 generalize stCnt x.m = N at *
 obtain ⟨now, hor, oa, op, oc, ua, us, uc, sa, su, sc, ta, tb, tc⟩ := x
 unfold saV saC at *
 dsimp only at *
 clear h S0
 have hw : IntKind.i64.wrap ((N : Int) + (us.length : Int)) = (N : Int) + (us.length : Int) := IntWalk.i64_in _ (by omega)
 go_enter Tryz.func12, Tryz.ntmps12
 go_wp2_with fail
 go_region_held3 (fun V => V.cell? ⟨w.heap.size, 0, none⟩ = some (.int .i64 now) ∧ V.cell? ⟨w.heap.size, 1, none⟩ = some (.int .i64 hor) ∧ V.cell? ⟨w.heap.size, 2, none⟩ = some (.slice oa op.length oc) ∧ V.cell? ⟨w.heap.size, 3, none⟩ = some (.slice ua us.length uc) ∧ V.cell? ⟨w.heap.size, 4, none⟩ = some (.slice sa su.length sc) ∧ V.cell? ⟨w.heap.size, 5, none⟩ = some (.slice ta tb.length tc))
  (first | with_reducible exact HSC.out _ S2 | with_reducible exact HSC.out _ S1)
  (first | (go_at_call 34; refine (HC.out _ S1.at_).mono ?_; rintro e w2 ⟨rfl, h2⟩; have S2 := S1.below h2))
 all_goals
  have HF := Lib.hid S2.frame
  clear S1 S2 HC HSC h2
  go_wp2
  go_ret
  exact ⟨by rw [← hw]; rfl, HF.out⟩
end Go.Proofs.YtjhdhfokhkcamaaGreat
namespace Go.Proofs.YtjhdhfokhkcamaaGreat
open Go.ChangeShapes Go.WideShapes Go.ChangeAt Go.RowKit
set_option linter.unusedVariables false
set_option maxRecDepth 100000
theorem array6 {α : Type} {cs : Array α} (h : cs.size = 6) : ∃ c0 c1 c2 c3 c4 c5, cs = #[c0, c1, c2, c3, c4, c5] := by
 obtain ⟨l⟩ := cs
 match l, h with
 | [c0, c1, c2, c3, c4, c5], _ => exact ⟨c0, c1, c2, c3, c4, c5, rfl⟩
section
variable {H : Type} {enc : TypeId × Value → H} {P : Program} {w : World} {base : Nat} {spare : Nat → Bool} {held : Bool}
end
end Go.Proofs.YtjhdhfokhkcamaaGreat
namespace Go.Proofs.YtjhdhfokhkcamaaGreat
open Go.ChangeShapes Go.WideShapes Go.ChangeAt Go.RowKit
set_option linter.unusedVariables false
set_option maxRecDepth 100000
set_option maxRecDepth 100000
def FitsT (l : List StM) : Prop := ∀ s ∈ l, I64 s.f ∧ I64 s.t
section
variable {H : Type} {enc : TypeId × Value → H} {P : Program} {w : World} {base : Nat} {spare : Nat → Bool} {held : Bool}
theorem open_quads {t e : TypeId} {f0 f1 f2 f3 : Field} {fuel : Nat} {cs : List Value} {x : DataW H × List MemPlace} (ht : P.underlying t = some (.slice e)) (he : P.underlying e = some (.struct #[f0, f1, f2, f3]))
  (ce : P.cellsOf e = 4) (o0 : f0.offset = 0) (o1 : f1.offset = 1) (o2 : f2.offset = 2) (o3 : f3.offset = 3) (c0 : P.cellsOf f0.type = 1) (c1 : P.cellsOf f1.type = 1) (c2 : P.cellsOf f2.type = 1) (c3 : P.cellsOf f3.type = 1)
  (h : DataW.trod enc P w base spare held fuel t cs = some x) :
  (cs = [.slice none 0 0] ∧ x = (.nil, [])) ∨
  ∃ (a : Addr) (len cap : Nat), cs = [.slice (some a) len cap] ∧ len ≤ cap ∧ cap ≤ maxLen ∧
   ∀ i, i < len → ∃ (v0 v1 v2 v3 : Value) (y0 y1 y2 y3 : DataW H × List MemPlace) (n : Nat), w.cell? (a.add (i * 4)) = some v0 ∧ w.cell? (a.add (i * 4 + 1)) = some v1 ∧ w.cell? (a.add (i * 4 + 2)) = some v2 ∧ w.cell? (a.add (i * 4 + 3)) = some v3 ∧
    DataW.trod enc P w base spare held n f0.type [v0] = some y0 ∧ DataW.trod enc P w base spare held n f1.type [v1] = some y1 ∧ DataW.trod enc P w base spare held n f2.type [v2] = some y2 ∧ DataW.trod enc P w base spare held n f3.type [v3] = some y3 := by
 rcases Go.Deep.open_slice ht h with h0 | ⟨a, len, cap, m, n, D, Pl, rfl, hb, hl, hm, hmm, rfl, hx⟩
 ·exact Or.inl h0
 right
 have hlm : len ≤ m := by rw [hmm]; split <;> omega
 refine ⟨a, len, cap, rfl, hl, hm, fun i hi => ?_⟩
 obtain ⟨cs', h1, h2⟩ := hx i (by omega)
 rw [ce] at h1
 obtain ⟨_, hlen, hcell⟩ := World.cells?_some h1
 obtain ⟨xs, k, hk, hxy, _, hxl, hf⟩ := DataW.trod_struct he h2
 match xs, hxl, cs', hlen with
 | [y0, y1, y2, y3], _, [v0, v1, v2, v3], _ =>
  have g0 := hf 0 f0 rfl
  have g1 := hf 1 f1 rfl
  have g2 := hf 2 f2 rfl
  have g3 := hf 3 f3 rfl
  simp [o0, o1, o2, o3, c0, c1, c2, c3] at g0 g1 g2 g3
  have e0 := hcell 0 (by omega)
  have e1 := hcell 1 (by omega)
  have e2 := hcell 2 (by omega)
  have e3 := hcell 3 (by omega)
  rw [Go.Deep.add_add] at e0 e1 e2 e3
  exact ⟨v0, v1, v2, v3, y0, y1, y2, y3, k, by simpa using e0, by simpa using e1, by simpa using e2, by simpa using e3, g0, g1, g2, g3⟩
end
theorem stFields : ∃ f0 f1 f2 f3 : Field, Tryz.prog.underlying 135 = some (.struct #[f0, f1, f2, f3]) ∧ f0.offset = 0 ∧ f1.offset = 1 ∧ f2.offset = 2 ∧ f3.offset = 3 ∧ f0.type = 3 ∧ f1.type = 3 ∧ f2.type = 3 ∧ f3.type = 3 := ⟨_, _, _, _, Tryz.underlying135, rfl, rfl, rfl, rfl, rfl, rfl, rfl, rfl⟩
theorem read_stays {H : Type} {enc : TypeId × Value → H} {W : World} {n : Nat} {cs : List Value} {x : DataW H × List MemPlace}
  (h : DataW.trod enc Tryz.prog W 0 (fun _ => true) true n 58 cs = some x) :
  ∃ (a : Option Addr) (c : Nat) (l : List StM), cs = [.slice a l.length c] ∧ StSl W a l ∧ FitsT l ∧ l.length ≤ c ∧ c ≤ maxLen ∧ (a = none → c = 0) := by
 obtain ⟨f0, f1, f2, f3, he, o0, o1, o2, o3, t0, t1, t2, t3⟩ := stFields
 have ci : Tryz.prog.cellsOf 3 = 1 := by kernel_rfl
 rcases open_quads Tryz.underlying58 he (by kernel_rfl) o0 o1 o2 o3 (by rw [t0]; exact ci) (by rw [t1]; exact ci) (by rw [t2]; exact ci) (by rw [t3]; exact ci) h with ⟨rfl, _⟩ | ⟨a, len, cap, rfl, hl, hm, hx⟩
 ·exact ⟨none, 0, [], rfl, StSl.nil _ _, (fun s hs => by cases hs), by simp, by decide, fun _ => rfl⟩
 ·have each : ∀ i, i < len → ∃ x : StM, W.cell? (a.add (i * 4)) = some (.int .i64 x.f) ∧ W.cell? (a.add (i * 4 + 1)) = some (.int .i64 x.t) ∧ W.cell? (a.add (i * 4 + 2)) = some (.int .i64 x.n) ∧ W.cell? (a.add (i * 4 + 3)) = some (.int .i64 x.s) ∧ I64 x.f ∧ I64 x.t := fun i hi => by
   obtain ⟨v0, v1, v2, v3, y0, y1, y2, y3, n, k0, k1, k2, k3, g0, g1, g2, g3⟩ := hx i hi
   rw [t0] at g0
   rw [t1] at g1
   rw [t2] at g2
   rw [t3] at g3
   obtain ⟨z0, e0, _, w0⟩ := DataW.trod_int Tryz.underlying3 g0
   obtain ⟨z1, e1, _, w1⟩ := DataW.trod_int Tryz.underlying3 g1
   obtain ⟨z2, e2, _, w2⟩ := DataW.trod_int Tryz.underlying3 g2
   obtain ⟨z3, e3, _, w3⟩ := DataW.trod_int Tryz.underlying3 g3
   simp at e0 e1 e2 e3
   exact ⟨⟨z0, z1, z2, z3⟩, by rw [k0, e0], by rw [k1, e1], by rw [k2, e2], by rw [k3, e3], wf64 w0, wf64 w1⟩
  have some_x : ∃ f : Nat → StM, ∀ i, i < len → W.cell? (a.add (i * 4)) = some (.int .i64 (f i).f) ∧ W.cell? (a.add (i * 4 + 1)) = some (.int .i64 (f i).t) ∧ W.cell? (a.add (i * 4 + 2)) = some (.int .i64 (f i).n) ∧ W.cell? (a.add (i * 4 + 3)) = some (.int .i64 (f i).s) ∧ I64 (f i).f ∧ I64 (f i).t := by
   refine ⟨fun i => if h : i < len then (each i h).choose else ⟨0, 0, 0, 0⟩, fun i hi => ?_⟩
   simp only [hi, ↓reduceDIte]
   exact (each i hi).choose_spec
  obtain ⟨f, hf2⟩ := some_x
  have hlen : ((List.range len).map f).length = len := by simp
  refine ⟨some a, cap, (List.range len).map f, by rw [hlen], fun k hk => ?_, fun x hxm => ?_, by omega, hm, fun h => by cases h⟩
  ·rw [hlen] at hk
   obtain ⟨b, off, spot⟩ := a
   have h0 := (hf2 0 (by omega)).1
   have hspot : spot = none := by simpa [Addr.add] using World.cell?_spot h0
   subst hspot
   obtain ⟨g0, g1, g2, g3, _⟩ := hf2 k (by omega)
   rw [Go.WideShapes.add_plain] at g0 g1 g2 g3
   simp only [List.getElem_map, List.getElem_range]
   exact ⟨b, off, rfl, World.block_lt_of_cell? W ⟨b, off + k * 4, none⟩ g0, g0, g1, g2, g3⟩
  ·obtain ⟨i, hi, rfl⟩ := List.mem_map.1 hxm
   exact (hf2 i (by have := List.mem_range.1 hi; omega)).2.2.2.2
theorem opFields : ∃ f0 f1 f2 f3 : Field, Tryz.prog.underlying 75 = some (.struct #[f0, f1, f2, f3]) ∧ f0.offset = 0 ∧ f1.offset = 1 ∧ f2.offset = 2 ∧ f3.offset = 3 ∧ f0.type = 3 ∧ f1.type = 9 ∧ f2.type = 3 ∧ f3.type = 3 := ⟨_, _, _, _, Tryz.underlying75, rfl, rfl, rfl, rfl, rfl, rfl, rfl, rfl⟩
theorem read_sess {H : Type} {enc : TypeId × Value → H} {W : World} {n : Nat} {cs : List Value} {x : DataW H × List MemPlace}
  (h : DataW.trod enc Tryz.prog W 0 (fun _ => true) true n 22 cs = some x) :
  ∃ (a : Option Addr) (c : Nat) (l : List OpM), cs = [.slice a l.length c] ∧ OpSl W a l ∧ SzO l ∧ l.length ≤ c ∧ c ≤ maxLen ∧ (a = none → c = 0) := by
 obtain ⟨f0, f1, f2, f3, he, o0, o1, o2, o3, t0, t1, t2, t3⟩ := opFields
 have ci : Tryz.prog.cellsOf 3 = 1 := by kernel_rfl
 have cs' : Tryz.prog.cellsOf 9 = 1 := by kernel_rfl
 rcases open_quads Tryz.underlying22 he (by kernel_rfl) o0 o1 o2 o3 (by rw [t0]; exact ci) (by rw [t1]; exact cs') (by rw [t2]; exact ci) (by rw [t3]; exact ci) h with ⟨rfl, _⟩ | ⟨a, len, cap, rfl, hl, hm, hx⟩
 ·exact ⟨none, 0, [], rfl, OpSl.nil _ _, (fun s hs => by cases hs), by simp, by decide, fun _ => rfl⟩
 ·have each : ∀ i, i < len → ∃ x : OpM, W.cell? (a.add (i * 4)) = some (.int .i64 x.n) ∧ W.cell? (a.add (i * 4 + 1)) = some (.string x.u) ∧ W.cell? (a.add (i * 4 + 2)) = some (.int .i64 x.s) ∧ W.cell? (a.add (i * 4 + 3)) = some (.int .i64 x.f) ∧ x.u.size ≤ maxLen := fun i hi => by
   obtain ⟨v0, v1, v2, v3, y0, y1, y2, y3, n, k0, k1, k2, k3, g0, g1, g2, g3⟩ := hx i hi
   rw [t0] at g0
   rw [t1] at g1
   rw [t2] at g2
   rw [t3] at g3
   obtain ⟨z0, e0, _, w0⟩ := DataW.trod_int Tryz.underlying3 g0
   obtain ⟨z1, e1, _, w1⟩ := DataW.trod_string Tryz.underlying9 g1
   obtain ⟨z2, e2, _, w2⟩ := DataW.trod_int Tryz.underlying3 g2
   obtain ⟨z3, e3, _, w3⟩ := DataW.trod_int Tryz.underlying3 g3
   simp at e0 e1 e2 e3
   exact ⟨⟨z0, z1, z2, z3⟩, by rw [k0, e0], by rw [k1, e1], by rw [k2, e2], by rw [k3, e3], w1⟩
  have some_x : ∃ f : Nat → OpM, ∀ i, i < len → W.cell? (a.add (i * 4)) = some (.int .i64 (f i).n) ∧ W.cell? (a.add (i * 4 + 1)) = some (.string (f i).u) ∧ W.cell? (a.add (i * 4 + 2)) = some (.int .i64 (f i).s) ∧ W.cell? (a.add (i * 4 + 3)) = some (.int .i64 (f i).f) ∧ (f i).u.size ≤ maxLen := by
   refine ⟨fun i => if h : i < len then (each i h).choose else opZ, fun i hi => ?_⟩
   simp only [hi, ↓reduceDIte]
   exact (each i hi).choose_spec
  obtain ⟨f, hf2⟩ := some_x
  have hlen : ((List.range len).map f).length = len := by simp
  refine ⟨some a, cap, (List.range len).map f, by rw [hlen], fun k hk => ?_, fun x hxm => ?_, by omega, hm, fun h => by cases h⟩
  ·rw [hlen] at hk
   obtain ⟨b, off, spot⟩ := a
   have h0 := (hf2 0 (by omega)).1
   have hspot : spot = none := by simpa [Addr.add] using World.cell?_spot h0
   subst hspot
   obtain ⟨g0, g1, g2, g3, _⟩ := hf2 k (by omega)
   rw [Go.WideShapes.add_plain] at g0 g1 g2 g3
   simp only [List.getElem_map, List.getElem_range]
   exact ⟨b, off, rfl, World.block_lt_of_cell? W ⟨b, off + k * 4, none⟩ g0, g0, g1, g2, g3⟩
  ·obtain ⟨i, hi, rfl⟩ := List.mem_map.1 hxm
   exact (hf2 i (by have := List.mem_range.1 hi; omega)).2.2.2.2
end Go.Proofs.YtjhdhfokhkcamaaGreat
