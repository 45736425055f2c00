/- Texts of mine, one behind the other, of each what is wanted. -/
import Derived.Test.YtjhdhfokhkcamaaGreatQ00
import Derived.Test.YtjhdhfokhkcamaaGreatShelf
import Derived.Test.YtjhdhfokhkcamaaGreatRows
import Derived.Test.YtjhdhfokhkcamaaGreatQ01
import Derived.Test.YtjhdhfokhkcamaaGreatQ02
import Derived.Test.YtjhdhfokhkcamaaGreatQ03
import Derived.Test.YtjhdhfokhkcamaaGreatQ04
import Derived.Test.YtjhdhfokhkcamaaGreatQ05
import Derived.Test.YtjhdhfokhkcamaaGreatQ06
import Derived.Test.YtjhdhfokhkcamaaGreatQ09
import Derived.Test.YtjhdhfokhkcamaaGreatQ10
import Derived.Test.YtjhdhfokhkcamaaGreatQ11
import Derived.Test.YtjhdhfokhkcamaaGreatQ14
import Derived.Test.YtjhdhfokhkcamaaGreatQ19
import Derived.Test.YtjhdhfokhkcamaaGreatTQ
namespace Go.Proofs.YtjhdhfokhkcamaaGreat
open Go.RowKit Go.Sort Go.Proofs
set_option linter.unusedVariables false
set_option maxRecDepth 100000
set_option maxRecDepth 100000
structure RwK (w : World) (a : Option Addr) (l : List StM) (W : World) : Prop where
 row : StSl W a l
 frame : Below w.heap.size w W
theorem RwK.below {w W W' : World} {a : Option Addr} {l : List StM} (h : RwK w a l W) (q : Below W.heap.size W W') : RwK w a l W' :=
 ⟨h.row.below q, h.frame.trans (q.mono h.frame.size)⟩
theorem RwK.at_ {w W : World} {b off : Nat} {l : List StM} (h : RwK w (some ⟨b, off, none⟩) l W) {k : Nat} (hk : k < l.length) :
  W.cell? ⟨b, off + k * 4, none⟩ = some (.int .i64 l[k].f) ∧ W.cell? ⟨b, off + k * 4 + 1, none⟩ = some (.int .i64 l[k].t) ∧ W.cell? ⟨b, off + k * 4 + 2, none⟩ = some (.int .i64 l[k].n) ∧ W.cell? ⟨b, off + k * 4 + 3, none⟩ = some (.int .i64 l[k].s) := by
 obtain ⟨_, _, e, _, h0, h1, h2, h3⟩ := h.row.at_ hk
 cases e
 exact ⟨h0, h1, h2, h3⟩
set_option maxHeartbeats 4000000 in
theorem refRising_any (a : Option Addr) (c : Nat) (l : List StM) (w : World) (hr : StSl w a l) (hl : l.length ≤ 1000000) :
  Calls Tryz.prog 103 #[.slice a l.length c] w fun e w' => e = .returned (.bool (decide (RiseS l))) ∧ Below w.heap.size w w' := by
 have HR := Lib.hid hr
 have HCM := Lib.hid (fun x y W => (ahead_any x y W).mono fun e w' (h : _ ∧ Grew W w') => And.intro h.1 (h.2.below (Nat.le_refl _)))
 unfold stV at HCM
 clear hr
 go_enter Tryz.func103, Tryz.ntmps103
 go_wp2
 go_loopw [3] (fun i wr => ∃ (j : Nat), j ≤ l.length ∧ i = .int .i64 j ∧ Hid (RiseTo l j) ∧ Hid (Below w.heap.size w wr)) (fun i _ => l.length - (intOf i).toNat)
 case atStart => exact ⟨0, by omega, rfl, fun k _ h => absurd h (by omega), Below.refl _ _⟩
 case round =>
  obtain ⟨j, hj, rfl, HO, HB⟩ := hrel
  by_cases hjl : j < l.length
  ·obtain ⟨b, off, rfl, hbl, hc0, hc1, hc2, hc3⟩ := (HR.out.below HB.out).at_ hjl
   have HK : Hid (RwK w (some ⟨b, off, none⟩) l wr) := ⟨HR.out.below HB.out, HB.out⟩
   have HNX := Lib.hid (HO.out.next hjl)
   have HNF : Hid (¬ l[j].f < l[j].t → decide (RiseS l) = false) := fun h => decide_eq_false fun k => h (k j hjl).1
   have HNP : Hid (∀ (h0 : 0 < j), ¬ ltSt (l[j - 1]'(by omega)) l[j] → decide (RiseS l) = false) := fun h0 h => decide_eq_false fun k => h ((k j hjl).2 h0)
   have HQ0 : Hid (∀ W, RwK w (some ⟨b, off, none⟩) l W → W.cell? ⟨b, off + j * 4, none⟩ = some (.int .i64 l[j].f) ∧ W.cell? ⟨b, off + j * 4 + 1, none⟩ = some (.int .i64 l[j].t) ∧ W.cell? ⟨b, off + j * 4 + 2, none⟩ = some (.int .i64 l[j].n) ∧ W.cell? ⟨b, off + j * 4 + 3, none⟩ = some (.int .i64 l[j].s)) := fun W h => h.at_ hjl
   clear hc0 hc1 hc2 hc3
   by_cases h1 : l[j].t ≤ l[j].f
   ·have HF := Lib.hid (HNF.out (by omega))
    have hle := decide_eq_true h1
    clear HNX HNF HNP HCM h1
    generalize l[j] = x at *
    go_wp2_with fail
    refine wp_region_held_drew (S := (fun W => W.cell? ⟨b, off + j * 4, none⟩ = some (.int .i64 x.f) ∧ W.cell? ⟨b, off + j * 4 + 1, none⟩ = some (.int .i64 x.t) ∧ W.cell? ⟨b, off + j * 4 + 2, none⟩ = some (.int .i64 x.n) ∧ W.cell? ⟨b, off + j * 4 + 3, none⟩ = some (.int .i64 x.s))) (by kernel_rfl) ?_ (fun hHeld => ?_)
    ·exact HQ0.out _ (HK.out.below (Below.refl _ _).drew)
    refine tV 0 10 ?_
    refine tV 1 11 ?_
    refine tV 2 12 ?_
    refine tV 3 13 ?_
    refine tV 4 14 ?_
    refine tV 5 15 ?_
    refine tV 6 16 ?_
    refine tV 7 17 ?_
    refine tV 8 18 ?_
    refine tV 9 19 ?_
    refine tV 10 20 ?_
    refine tV 11 21 ?_
    refine tU 12 22 ?_
    refine tU 13 23 ?_
    refine tU 14 24 ?_
    refine tU 15 25 ?_
    refine tU 16 26 ?_
    refine tU 17 27 ?_
    refine tU 18 28 ?_
    refine tU 19 29 ?_
    refine tU 20 30 ?_
    refine tU 21 31 ?_
    refine tU 22 32 ?_
    refine tU 23 33 ?_
    refine tU 24 34 ?_
    refine tU 25 35 ?_
    refine tU 26 36 ?_
    refine tV 27 37 ?_
    refine wpAnyH_done (by kernel_rfl) ?_ _
    all_goals
     go_wp2
     go_ret
     exact ⟨by rw [HF.out]; rfl, (HK.out.below (Below.refl _ _).drew).frame⟩
   ·have hle := decide_eq_false h1
    have HNX := Lib.hid (HNX.out (by omega))
    clear h1
    by_cases h0 : 0 < j
    ·obtain ⟨k, hk⟩ : ∃ k, j = k + 1 := ⟨j - 1, by omega⟩
     have hkl : k < l.length := by omega
     have hpw : IntKind.i64.wrap ((j : Int) - 1) = (k : Int) := by rw [IntWalk.i64_in] <;> omega
     have hgt : decide ((0 : Int) < (j : Int)) = true := decide_eq_true (by omega)
     have HCX0 := Lib.hid (HCM.out l[k] l[j])
     have HP0 : Hid (∀ W, RwK w (some ⟨b, off, none⟩) l W → W.cell? ⟨b, off + k * 4, none⟩ = some (.int .i64 l[k].f) ∧ W.cell? ⟨b, off + k * 4 + 1, none⟩ = some (.int .i64 l[k].t) ∧ W.cell? ⟨b, off + k * 4 + 2, none⟩ = some (.int .i64 l[k].n) ∧ W.cell? ⟨b, off + k * 4 + 3, none⟩ = some (.int .i64 l[k].s)) := fun W h => h.at_ hkl
     have hkp : ∀ h, l[j - 1]'h = l[k] := fun h => by congr 1; omega
     have HNX3 : Hid (ltSt l[k] l[j] → RiseTo l (j + 1)) := fun h => HNX.out (fun _ => by rw [hkp]; exact h)
     have HNP3 : Hid (¬ ltSt l[k] l[j] → decide (RiseS l) = false) := fun h => HNP.out h0 (by rw [hkp]; exact h)
     clear HNF HNP HCM HNX hkp hk
     generalize l[k] = y at *
     generalize l[j] = x at *
     by_cases h3 : ltSt y x
     ·have HNX4 := Lib.hid (HNX3.out h3)
      have HCX : Hid (∀ W, Calls Tryz.prog 153 #[.agg #[.int .i64 y.f, .int .i64 y.t, .int .i64 y.n, .int .i64 y.s], .agg #[.int .i64 x.f, .int .i64 x.t, .int .i64 x.n, .int .i64 x.s]] W fun e w' => e = .returned (.bool true) ∧ Below W.heap.size W w') := fun W => by
       have := HCX0.out W
       rwa [decide_eq_true h3] at this
      clear HNX3 HNP3 h3 HCX0
      go_wp2_with fail
      refine wp_region_held_drew (S := (fun W => W.cell? ⟨b, off + j * 4, none⟩ = some (.int .i64 x.f) ∧ W.cell? ⟨b, off + j * 4 + 1, none⟩ = some (.int .i64 x.t) ∧ W.cell? ⟨b, off + j * 4 + 2, none⟩ = some (.int .i64 x.n) ∧ W.cell? ⟨b, off + j * 4 + 3, none⟩ = some (.int .i64 x.s) ∧ W.cell? ⟨b, off + k * 4, none⟩ = some (.int .i64 y.f) ∧ W.cell? ⟨b, off + k * 4 + 1, none⟩ = some (.int .i64 y.t) ∧ W.cell? ⟨b, off + k * 4 + 2, none⟩ = some (.int .i64 y.n) ∧ W.cell? ⟨b, off + k * 4 + 3, none⟩ = some (.int .i64 y.s))) (by kernel_rfl) ?_ (fun hHeld => ?_)
      ·have K1 := HK.out.below (Below.refl _ _).drew; obtain ⟨k1, k2, k3, k4⟩ := HQ0.out _ K1; exact ⟨k1, k2, k3, k4, HP0.out _ K1⟩
      refine tV 0 10 ?_
      refine tV 1 11 ?_
      refine tV 2 12 ?_
      refine tV 3 13 ?_
      refine tV 4 14 ?_
      refine tV 5 15 ?_
      refine tV 6 16 ?_
      refine tV 7 17 ?_
      refine tV 8 18 ?_
      refine tV 9 19 ?_
      refine tV 10 20 ?_
      refine tV 11 21 ?_
      refine tV 12 22 ?_
      refine tV 13 23 ?_
      refine tV 14 24 ?_
      refine tV 15 25 ?_
      refine tV 16 26 ?_
      refine tV 17 27 ?_
      refine tV 18 28 ?_
      refine tV 19 29 ?_
      refine tV 20 30 ?_
      refine tV 21 31 ?_
      refine tV 22 32 ?_
      refine tV 23 33 ?_
      refine wpAnyH_ready (rs := [24]) (by kernel_rfl) (by simp) ?_
      refine AllReadyH.cons (o := ⟨some 34, _, _, _, _, _⟩) rfl (fun K hK => ?_) AllReadyH.nil
      go_simp
      refine (HCX.out _).mono ?_
      rintro e w3 ⟨rfl, h3⟩
      have K3 := (HK.out.below (Below.refl _ _).drew).below h3
      go_wp2_with fail
      refine hK.out _ _ ?_ (fun hH24 => ?_)
      ·obtain ⟨k1, k2, k3, k4⟩ := HQ0.out _ K3; exact ⟨k1, k2, k3, k4, HP0.out _ K3⟩
      clear hK K
      (try simp only [Act.put, List.setIfInBounds_toArray, List.set_cons_zero, List.set_cons_succ])
      refine tV 25 35 ?_
      refine tV 26 36 ?_
      refine tV 27 37 ?_
      refine wpAnyH_done (by kernel_rfl) ?_ _
      all_goals
       go_wp2
       go_roundw
       case rel => exact ⟨j + 1, by omega, by go_num, HNX4, K3.frame⟩
       case measure => simp [intOf]; omega
     ·have HNF4 := Lib.hid (HNP3.out h3)
      have HCX : Hid (∀ W, Calls Tryz.prog 153 #[.agg #[.int .i64 y.f, .int .i64 y.t, .int .i64 y.n, .int .i64 y.s], .agg #[.int .i64 x.f, .int .i64 x.t, .int .i64 x.n, .int .i64 x.s]] W fun e w' => e = .returned (.bool false) ∧ Below W.heap.size W w') := fun W => by
       have := HCX0.out W
       rwa [decide_eq_false h3] at this
      clear HNX3 HNP3 h3 HCX0
      go_wp2_with fail
      refine wp_region_held_drew (S := (fun W => W.cell? ⟨b, off + j * 4, none⟩ = some (.int .i64 x.f) ∧ W.cell? ⟨b, off + j * 4 + 1, none⟩ = some (.int .i64 x.t) ∧ W.cell? ⟨b, off + j * 4 + 2, none⟩ = some (.int .i64 x.n) ∧ W.cell? ⟨b, off + j * 4 + 3, none⟩ = some (.int .i64 x.s) ∧ W.cell? ⟨b, off + k * 4, none⟩ = some (.int .i64 y.f) ∧ W.cell? ⟨b, off + k * 4 + 1, none⟩ = some (.int .i64 y.t) ∧ W.cell? ⟨b, off + k * 4 + 2, none⟩ = some (.int .i64 y.n) ∧ W.cell? ⟨b, off + k * 4 + 3, none⟩ = some (.int .i64 y.s))) (by kernel_rfl) ?_ (fun hHeld => ?_)
      ·have K1 := HK.out.below (Below.refl _ _).drew; obtain ⟨k1, k2, k3, k4⟩ := HQ0.out _ K1; exact ⟨k1, k2, k3, k4, HP0.out _ K1⟩
      refine tV 0 10 ?_
      refine tV 1 11 ?_
      refine tV 2 12 ?_
      refine tV 3 13 ?_
      refine tV 4 14 ?_
      refine tV 5 15 ?_
      refine tV 6 16 ?_
      refine tV 7 17 ?_
      refine tV 8 18 ?_
      refine tV 9 19 ?_
      refine tV 10 20 ?_
      refine tV 11 21 ?_
      refine tV 12 22 ?_
      refine tV 13 23 ?_
      refine tV 14 24 ?_
      refine tV 15 25 ?_
      refine tV 16 26 ?_
      refine tV 17 27 ?_
      refine tV 18 28 ?_
      refine tV 19 29 ?_
      refine tV 20 30 ?_
      refine tV 21 31 ?_
      refine tV 22 32 ?_
      refine tV 23 33 ?_
      refine wpAnyH_ready (rs := [24]) (by kernel_rfl) (by simp) ?_
      refine AllReadyH.cons (o := ⟨some 34, _, _, _, _, _⟩) rfl (fun K hK => ?_) AllReadyH.nil
      go_simp
      refine (HCX.out _).mono ?_
      rintro e w3 ⟨rfl, h3⟩
      have K3 := (HK.out.below (Below.refl _ _).drew).below h3
      go_wp2_with fail
      refine hK.out _ _ ?_ (fun hH24 => ?_)
      ·obtain ⟨k1, k2, k3, k4⟩ := HQ0.out _ K3; exact ⟨k1, k2, k3, k4, HP0.out _ K3⟩
      clear hK K
      (try simp only [Act.put, List.setIfInBounds_toArray, List.set_cons_zero, List.set_cons_succ])
      refine tV 25 35 ?_
      refine tV 26 36 ?_
      refine tV 27 37 ?_
      refine wpAnyH_done (by kernel_rfl) ?_ _
      all_goals
       go_wp2
       go_ret
       exact ⟨by rw [HNF4.out]; rfl, K3.frame⟩
    ·have HNX2 := Lib.hid (HNX.out (fun h => absurd h h0))
     have hgt : decide ((0 : Int) < (j : Int)) = false := decide_eq_false (by omega)
     clear HNF HNP HCM HNX
     generalize l[j] = x at *
     go_wp2_with fail
     refine wp_region_held_drew (S := (fun W => W.cell? ⟨b, off + j * 4, none⟩ = some (.int .i64 x.f) ∧ W.cell? ⟨b, off + j * 4 + 1, none⟩ = some (.int .i64 x.t) ∧ W.cell? ⟨b, off + j * 4 + 2, none⟩ = some (.int .i64 x.n) ∧ W.cell? ⟨b, off + j * 4 + 3, none⟩ = some (.int .i64 x.s))) (by kernel_rfl) ?_ (fun hHeld => ?_)
     ·exact HQ0.out _ (HK.out.below (Below.refl _ _).drew)
     refine tV 0 10 ?_
     refine tV 1 11 ?_
     refine tV 2 12 ?_
     refine tV 3 13 ?_
     refine tV 4 14 ?_
     refine tV 5 15 ?_
     refine tV 6 16 ?_
     refine tV 7 17 ?_
     refine tV 8 18 ?_
     refine tV 9 19 ?_
     refine tV 10 20 ?_
     refine tV 11 21 ?_
     refine tV 12 22 ?_
     refine tV 13 23 ?_
     refine tV 14 24 ?_
     refine tU 15 25 ?_
     refine tU 16 26 ?_
     refine tU 17 27 ?_
     refine tU 18 28 ?_
     refine tU 19 29 ?_
     refine tU 20 30 ?_
     refine tU 21 31 ?_
     refine tU 22 32 ?_
     refine tU 23 33 ?_
     refine tU 24 34 ?_
     refine tU 25 35 ?_
     refine tV 26 36 ?_
     refine tV 27 37 ?_
     refine wpAnyH_done (by kernel_rfl) ?_ _
     all_goals
      go_wp2
      go_roundw
      case rel => exact ⟨j + 1, by omega, by go_num, HNX2, (HK.out.below (Below.refl _ _).drew).frame⟩
      case measure => simp [intOf]; omega
  ·obtain rfl : j = l.length := by omega
   have HE := Lib.hid (decide_eq_true HO.out.all)
   go_wp2
   go_ret
   exact ⟨by rw [HE.out]; rfl, HB.out⟩
def UpTo (l : List StM) (s : StM) (p : Nat) : Prop := ∀ i (h : i < l.length), p ≤ i → ltSt s l[i]
theorem StSl.snil {w : World} {l : List StM} (h : StSl w none l) : l = [] := by
 cases l with
 | nil => rfl
 | cons y m => obtain ⟨_, _, e, _⟩ := h 0 (by simp); cases e
theorem sconcat3 (A B : StR) (s : StM) (W : World) (g1 g2 : Nat) (T : TypeId) (hA : StRAt W A) (hB : StRAt W B) (hg1 : g1 = W.heap.size) (hg2 : g2 = W.heap.size + 1) (hl : A.l.length + B.l.length ≤ 1000) :
  Calls Tryz.prog 151 #[.slice (some ⟨g2, 0, none⟩) 3 3] ((W.alloc (.cells #[.int .i64 s.f, .int .i64 s.t, .int .i64 s.n, .int .i64 s.s] 86)).alloc (.cells #[strV A, .slice (some ⟨g1, 0, none⟩) 1 1, strV B] T)).drew fun e w' => ∃ v, e = .returned v ∧ w'.ownsRow W.heap.size 86 4 v (A.l ++ s :: B.l).length (sts (A.l ++ s :: B.l)) ∧ Below W.heap.size W w' := by
 subst hg1
 have hcat : catS [A, ⟨some ⟨W.heap.size, 0, none⟩, [s], 1⟩, B] = A.l ++ s :: B.l := by simp [catS]
 have hb1 := below_one W (.cells #[.int .i64 s.f, .int .i64 s.t, .int .i64 s.n, .int .i64 s.s] 86)
 have hS := cells_st W [s] #[.int .i64 s.f, .int .i64 s.t, .int .i64 s.n, .int .i64 s.s] 86 _ rfl rfl
 generalize hW1 : W.alloc (.cells #[.int .i64 s.f, .int .i64 s.t, .int .i64 s.n, .int .i64 s.s] 86) = W1 at *
 have hz : W1.heap.size = W.heap.size + 1 := by rw [← hW1, size1]
 have hb2 := below_one W1 (.cells #[strV A, .slice (some ⟨W.heap.size, 0, none⟩) 1 1, strV B] T)
 have hb2 := hb2.drew
 have hb := hb1.trans (hb2.mono hb1.size)
 have hlen : (catS [A, ⟨some ⟨W.heap.size, 0, none⟩, [s], 1⟩, B]).length ≤ 100000 := by rw [hcat, List.length_append, List.length_cons]; omega
 rw [hg2, ← hz]
 refine (sconcat_any (some ⟨W1.heap.size, 0, none⟩) 3 [A, ⟨some ⟨W.heap.size, 0, none⟩, [s], 1⟩, B] _ (sl_lit_drew W1 #[strV A, .slice (some ⟨W.heap.size, 0, none⟩) 1 1, strV B] T) ?_ (by show 3 ≤ _; decide) hlen).mono ?_
 ·intro r hr
  simp only [List.mem_cons, List.mem_nil_iff, or_false] at hr
  rcases hr with rfl | rfl | rfl
  ·exact ⟨hA.1.below hb, hA.2⟩
  ·exact ⟨hS.below hb2, fun h => by cases h⟩
  ·exact ⟨hB.1.below hb, hB.2⟩
 ·rintro e w' ⟨v, rfl, ho, hbb⟩
  rw [hcat] at ho
  exact ⟨v, rfl, own_low ho hb.size, hb.trans (hbb.mono hb.size)⟩
set_option maxHeartbeats 4000000 in
theorem add8_any (a : Option Addr) (c : Nat) (l : List StM) (s : StM) (w : World) (hr : StSl w a l) (hn : a = none → c = 0) (hl : l.length ≤ 1000) (hc : l.length ≤ c) (hcm : c ≤ maxLen) :
  Calls Tryz.prog 91 #[.slice a l.length c, stV s] w fun e w' => ∃ v, e = .returned v ∧ w'.ownsRow w.heap.size 86 4 v (addS l s).length (sts (addS l s)) ∧ Below w.heap.size w w' := by
 have HNO := Lib.hid (none_any s.f s.t)
 have HCL := Lib.hid (fun W h => clone8_any a c l W h hn (by omega))
 have HCM := Lib.hid (fun x y W => (stcmp_any x y W).mono fun e w' (h : _ ∧ Grew W w') => And.intro h.1 (h.2.below (Nat.le_refl _)))
 have HK0 := Lib.hid (RsK.new (w := w) (x := s) hr (Below.refl _ _))
 have HNil := Lib.hid hn
 clear hr hn
 unfold maxLen at hcm
 unfold stV at *
 by_cases h0 : s.t ≤ s.f
 ·have hd0 := decide_eq_true h0
  have HA : Hid (addS l s = l) := by unfold Hid addS; rw [if_pos h0]
  rw [HA.out]
  generalize hdd : decide (s.t ≤ s.f) = dd at *
  subst hd0
  clear hdd h0
  go_enter Tryz.func91, Tryz.ntmps91
  go_wp2_with fail
  refine (HNO.out _).mono ?_
  rintro e w2 ⟨rfl, hb⟩
  have K2 := Lib.hid (HK0.out.below hb)
  go_wp2_with fail
  refine (HCL.out _ K2.out.row).mono ?_
  rintro e w3 ⟨v, rfl, ho, hb3⟩
  go_wp2
  go_ret
  exact ⟨_, rfl, own_low ho K2.out.frame.size, K2.out.frame.trans (hb3.mono K2.out.frame.size)⟩
 ·have hd0 := decide_eq_false h0
  have HA : Hid (∀ p, IsPos l s p → addS l s = l.take p ++ s :: l.drop p) := fun p hp => by unfold addS; rw [if_neg h0, putS_at hp]
  generalize hdd : decide (s.t ≤ s.f) = dd at *
  subst hd0
  clear hdd h0
  go_enter Tryz.func91, Tryz.ntmps91
  go_wp2_with fail
  refine (HNO.out _).mono ?_
  rintro e w2 ⟨rfl, hb⟩
  have K2 := Lib.hid (HK0.out.below hb)
  clear hb HK0
  generalize w.heap.size = g at *
  go_wp2
  go_loopw [5] (fun i wr => ∃ (p : Nat), p ≤ l.length ∧ i = .int .i64 p ∧ Hid (UpTo l s p) ∧ Hid (RsK w g s a l wr)) (fun i _ => (intOf i).toNat)
  case atStart => exact ⟨l.length, Nat.le_refl _, rfl, fun i h h1 => absurd h (by omega), K2.out⟩
  case round =>
   obtain ⟨p, hp, rfl, HU, HK⟩ := hrel
   by_cases h0 : 0 < p
   ·obtain ⟨k, hk⟩ : ∃ k, p = k + 1 := ⟨p - 1, by omega⟩
    have hkl : k < l.length := by omega
    have hpw : IntKind.i64.wrap ((p : Int) - 1) = (k : Int) := by rw [IntWalk.i64_in] <;> omega
    have hgt : decide ((0 : Int) < (p : Int)) = true := decide_eq_true (by omega)
    obtain ⟨b, off, rfl, -, -, -, -, -⟩ := HK.out.row.at_ hkl
    have HP0 : Hid (∀ W, RsK w g s (some ⟨b, off, none⟩) l W → W.cell? ⟨g, 0, none⟩ = some (.int .i64 s.f) ∧ W.cell? ⟨g, 1, none⟩ = some (.int .i64 s.t) ∧ W.cell? ⟨g, 2, none⟩ = some (.int .i64 s.n) ∧ W.cell? ⟨g, 3, none⟩ = some (.int .i64 s.s) ∧ W.cell? ⟨b, off + k * 4, none⟩ = some (.int .i64 l[k].f) ∧ W.cell? ⟨b, off + k * 4 + 1, none⟩ = some (.int .i64 l[k].t) ∧ W.cell? ⟨b, off + k * 4 + 2, none⟩ = some (.int .i64 l[k].n) ∧ W.cell? ⟨b, off + k * 4 + 3, none⟩ = some (.int .i64 l[k].s)) := fun W h => ⟨h.four.1, h.four.2.1, h.four.2.2.1, h.four.2.2.2, h.at_ hkl⟩
    have K1 := HK.out.below (Below.refl _ _).drew
    have HCX := Lib.hid (HCM.out l[k] s)
    have hcl := cmpSt_gt l[k] s
    have HUN : Hid (ltSt s l[k] → UpTo l s k) := fun h i hi hki => by
     rcases Nat.eq_or_lt_of_le hki with h1 | h1
     ·subst h1; exact h
     ·exact HU.out i hi (by omega)
    have HPO : Hid (¬ ltSt s l[k] → IsPos l s p) := fun h => ⟨hp, HU.out, fun _ h1 => by
     have : p - 1 = k := by omega
     simp only [this]
     exact h⟩
    have hpk := Lib.hid hk
    clear hk
    generalize l[k] = y at *
    generalize cmpSt y s = r at *
    by_cases h3 : ltSt s y
    ·have HU2 := Lib.hid (HUN.out h3)
     have hd : decide (0 < r) = true := decide_eq_true (hcl.2 h3)
     clear HPO HUN hcl h3
     go_wp2_with fail
     go_region_held3 (fun W => W.cell? ⟨g, 0, none⟩ = some (.int .i64 s.f) ∧ W.cell? ⟨g, 1, none⟩ = some (.int .i64 s.t) ∧ W.cell? ⟨g, 2, none⟩ = some (.int .i64 s.n) ∧ W.cell? ⟨g, 3, none⟩ = some (.int .i64 s.s) ∧ W.cell? ⟨b, off + k * 4, none⟩ = some (.int .i64 y.f) ∧ W.cell? ⟨b, off + k * 4 + 1, none⟩ = some (.int .i64 y.t) ∧ W.cell? ⟨b, off + k * 4 + 2, none⟩ = some (.int .i64 y.n) ∧ W.cell? ⟨b, off + k * 4 + 3, none⟩ = some (.int .i64 y.s))
      (first | exact HP0.out _ K1 | exact HP0.out _ K3)
      (first | (go_at_call 150; refine (HCX.out _).mono ?_; rintro e w3 ⟨rfl, h3⟩; have K3 := K1.below h3))
     go_wp2
     go_roundw
     case rel => exact ⟨k, by omega, by go_num, HU2, K3⟩
     case measure => have := hpk.out; simp [intOf]; omega
    ·have HP := Lib.hid (HPO.out h3)
     have hd : decide (0 < r) = false := decide_eq_false (fun h => h3 (hcl.1 h))
     clear HPO HUN hcl h3
     go_wp2_with fail
     go_region_held3 (fun W => W.cell? ⟨g, 0, none⟩ = some (.int .i64 s.f) ∧ W.cell? ⟨g, 1, none⟩ = some (.int .i64 s.t) ∧ W.cell? ⟨g, 2, none⟩ = some (.int .i64 s.n) ∧ W.cell? ⟨g, 3, none⟩ = some (.int .i64 s.s) ∧ W.cell? ⟨b, off + k * 4, none⟩ = some (.int .i64 y.f) ∧ W.cell? ⟨b, off + k * 4 + 1, none⟩ = some (.int .i64 y.t) ∧ W.cell? ⟨b, off + k * 4 + 2, none⟩ = some (.int .i64 y.n) ∧ W.cell? ⟨b, off + k * 4 + 3, none⟩ = some (.int .i64 y.s))
      (first | exact HP0.out _ K1 | exact HP0.out _ K3)
      (first | (go_at_call 150; refine (HCX.out _).mono ?_; rintro e w3 ⟨rfl, h3⟩; have K3 := K1.below h3))
     have KD := K3.below (Below.refl _ _).drew
     have hpc : p ≤ c := by omega
     have hz1 : (0 : Int) ≤ (p : Int) := by omega
     have hz2 : (p : Int) ≤ (l.length : Int) := by omega
     have hz3 : (p : Int) ≤ (c : Int) := by omega
     have hz4 : (l.length : Int) ≤ (c : Int) := by omega
     have HAC0 : Hid (∀ W g1 g2 T, StSl W (some ⟨b, off, none⟩) l → g1 = W.heap.size → g2 = W.heap.size + 1 → Calls Tryz.prog 151 #[.slice (some ⟨g2, 0, none⟩) 3 3] ((W.alloc (.cells #[.int .i64 s.f, .int .i64 s.t, .int .i64 s.n, .int .i64 s.s] 86)).alloc (.cells #[.slice (some ⟨b, off, none⟩) p c, .slice (some ⟨g1, 0, none⟩) 1 1, .slice (if c = p then some ⟨b, off, none⟩ else some ⟨b, off + p * 4, none⟩) (l.length - p) (c - p)] T)).drew fun e w' => ∃ v, e = .returned v ∧ w'.ownsRow W.heap.size 86 4 v (addS l s).length (sts (addS l s)) ∧ Below W.heap.size W w') := fun W g1 g2 T hs e1 e2 => by
      have h := sconcat3 ⟨some ⟨b, off, none⟩, l.take p, c⟩ ⟨if c = p then some ⟨b, off, none⟩ else some ⟨b, off + p * 4, none⟩, l.drop p, c - p⟩ s W g1 g2 T ⟨hs.take p, fun h => by cases h⟩ ⟨(by
       show StSl W (if c = p then some ⟨b, off, none⟩ else some ⟨b, off + p * 4, none⟩) (l.drop p)
       split
       ·rw [List.drop_eq_nil_of_le (by omega)]; exact StSl.nil _ _
       ·exact hs.drop p), (fun h => by dsimp only at h; split at h <;> cases h)⟩ e1 e2 (by simp; omega)
      rw [← HA.out p HP.out] at h
      unfold strV at h
      simp only [List.length_take, List.length_drop, Nat.min_eq_left hp] at h
      exact h
     clear HA HCL HCM HNil HU HP
     by_cases hcp : c = p
     ·obtain rfl : p = l.length := by omega
      subst hcp
      have HAC : Hid (∀ W g1 g2 T, StSl W (some ⟨b, off, none⟩) l → g1 = W.heap.size → g2 = W.heap.size + 1 → Calls Tryz.prog 151 #[.slice (some ⟨g2, 0, none⟩) 3 3] ((W.alloc (.cells #[.int .i64 s.f, .int .i64 s.t, .int .i64 s.n, .int .i64 s.s] 86)).alloc (.cells #[.slice (some ⟨b, off, none⟩) l.length l.length, .slice (some ⟨g1, 0, none⟩) 1 1, .slice (some ⟨b, off, none⟩) 0 0] T)).drew fun e w' => ∃ v, e = .returned v ∧ w'.ownsRow W.heap.size 86 4 v (addS l s).length (sts (addS l s)) ∧ Below W.heap.size W w') := fun W g1 g2 T hs e1 e2 => by
       have h := HAC0.out W g1 g2 T hs e1 e2
       rw [if_pos rfl, Nat.sub_self] at h
       exact h
      clear HAC0
      go_wp2_with fail
      go_region_held3 (fun W => W.cell? ⟨g, 0, none⟩ = some (.int .i64 s.f) ∧ W.cell? ⟨g, 1, none⟩ = some (.int .i64 s.t) ∧ W.cell? ⟨g, 2, none⟩ = some (.int .i64 s.n) ∧ W.cell? ⟨g, 3, none⟩ = some (.int .i64 s.s))
       (first | exact KD.four | exact (KD.below (below_one _ _)).four | exact ((KD.below (below_one _ _)).below (below_one _ _)).four | exact KE.four)
       (first | (go_at_call 151; refine (HAC.out _ _ _ _ K3.row rfl rfl).mono ?_; rintro e w5 ⟨v, rfl, ho5, hb5⟩; have KE := K3.below hb5; have HO5 := Lib.hid ho5; have HB5 := Lib.hid hb5; clear ho5 hb5))
      go_wp2
      go_ret
      exact ⟨_, rfl, own_low HO5.out K3.frame.size, KE.frame⟩
     ·have HAC : Hid (∀ W g1 g2 T, StSl W (some ⟨b, off, none⟩) l → g1 = W.heap.size → g2 = W.heap.size + 1 → Calls Tryz.prog 151 #[.slice (some ⟨g2, 0, none⟩) 3 3] ((W.alloc (.cells #[.int .i64 s.f, .int .i64 s.t, .int .i64 s.n, .int .i64 s.s] 86)).alloc (.cells #[.slice (some ⟨b, off, none⟩) p c, .slice (some ⟨g1, 0, none⟩) 1 1, .slice (some ⟨b, off + p * 4, none⟩) (l.length - p) (c - p)] T)).drew fun e w' => ∃ v, e = .returned v ∧ w'.ownsRow W.heap.size 86 4 v (addS l s).length (sts (addS l s)) ∧ Below W.heap.size W w') := fun W g1 g2 T hs e1 e2 => by
       have h := HAC0.out W g1 g2 T hs e1 e2
       rw [if_neg hcp] at h
       exact h
      clear HAC0
      go_wp2_with fail
      go_region_held3 (fun W => W.cell? ⟨g, 0, none⟩ = some (.int .i64 s.f) ∧ W.cell? ⟨g, 1, none⟩ = some (.int .i64 s.t) ∧ W.cell? ⟨g, 2, none⟩ = some (.int .i64 s.n) ∧ W.cell? ⟨g, 3, none⟩ = some (.int .i64 s.s))
       (first | exact KD.four | exact (KD.below (below_one _ _)).four | exact ((KD.below (below_one _ _)).below (below_one _ _)).four | exact KE.four)
       (first | (go_at_call 151; refine (HAC.out _ _ _ _ K3.row rfl rfl).mono ?_; rintro e w5 ⟨v, rfl, ho5, hb5⟩; have KE := K3.below hb5; have HO5 := Lib.hid ho5; have HB5 := Lib.hid hb5; clear ho5 hb5))
      go_wp2
      go_ret
      exact ⟨_, rfl, own_low HO5.out K3.frame.size, KE.frame⟩
   ·have hgt : decide ((0 : Int) < (p : Int)) = false := decide_eq_false (by omega)
    have HP : Hid (IsPos l s p) := ⟨hp, HU.out, fun h _ => absurd h h0⟩
    go_wp2_with fail
    refine wp_region_held_drew (S := (fun W => W.cell? ⟨g, 0, none⟩ = some (.int .i64 s.f) ∧ W.cell? ⟨g, 1, none⟩ = some (.int .i64 s.t) ∧ W.cell? ⟨g, 2, none⟩ = some (.int .i64 s.n) ∧ W.cell? ⟨g, 3, none⟩ = some (.int .i64 s.s))) (by kernel_rfl) ?_ (fun hHeld => ?_)
    ·exact (HK.out.below (Below.refl _ _).drew).four
    refine tV 0 13 ?_
    refine tV 1 14 ?_
    refine tV 2 15 ?_
    refine tU 3 16 ?_
    refine tU 4 17 ?_
    refine tU 5 18 ?_
    refine tU 6 19 ?_
    refine tU 7 20 ?_
    refine tU 8 21 ?_
    refine tU 9 22 ?_
    refine tU 10 23 ?_
    refine tV 11 24 ?_
    refine wpAnyH_done (by kernel_rfl) ?_ _
    have K3 := HK.out.below (Below.refl _ _).drew
    generalize wr.drew = w3 at *
    cases a with
    | none =>
     have hc0 := HNil.out rfl
     have hl0 := K3.row.snil
     subst hc0 hl0
     obtain rfl : p = 0 := by simpa using hp
     have KD := K3.below (Below.refl _ _).drew
     have HAC : Hid (∀ W g1 g2 T, g1 = W.heap.size → g2 = W.heap.size + 1 → Calls Tryz.prog 151 #[.slice (some ⟨g2, 0, none⟩) 3 3] ((W.alloc (.cells #[.int .i64 s.f, .int .i64 s.t, .int .i64 s.n, .int .i64 s.s] 86)).alloc (.cells #[.slice none 0 0, .slice (some ⟨g1, 0, none⟩) 1 1, .slice none 0 0] T)).drew fun e w' => ∃ v, e = .returned v ∧ w'.ownsRow W.heap.size 86 4 v (addS [] s).length (sts (addS [] s)) ∧ Below W.heap.size W w') := fun W g1 g2 T e1 e2 => by
      have h := sconcat3 ⟨none, [], 0⟩ ⟨none, [], 0⟩ s W g1 g2 T ⟨StSl.nil _ _, fun _ => rfl⟩ ⟨StSl.nil _ _, fun _ => rfl⟩ e1 e2 (by simp)
      rw [HA.out 0 HP.out]
      exact h
     clear HA HCL HCM HNil HU HP
     go_wp2_with fail
     go_region_held3 (fun W => W.cell? ⟨g, 0, none⟩ = some (.int .i64 s.f) ∧ W.cell? ⟨g, 1, none⟩ = some (.int .i64 s.t) ∧ W.cell? ⟨g, 2, none⟩ = some (.int .i64 s.n) ∧ W.cell? ⟨g, 3, none⟩ = some (.int .i64 s.s))
      (first | exact KD.four | exact (KD.below (below_one _ _)).four | exact ((KD.below (below_one _ _)).below (below_one _ _)).four | exact KE.four)
      (first | (go_at_call 151; refine (HAC.out _ _ _ _ rfl rfl).mono ?_; rintro e w5 ⟨v, rfl, ho5, hb5⟩; have KE := K3.below hb5; have HO5 := Lib.hid ho5; have HB5 := Lib.hid hb5; clear ho5 hb5))
     go_wp2
     go_ret
     exact ⟨_, rfl, own_low HO5.out K3.frame.size, KE.frame⟩
    | some ad =>
     have HAD := Lib.hid K3.row
     by_cases hlz : 0 < l.length
     ·obtain ⟨b, off, e, -, -, -, -, -⟩ := K3.row.at_ hlz
      cases e
      have KD := K3.below (Below.refl _ _).drew
      have hpc : p ≤ c := by omega
      have hz1 : (0 : Int) ≤ (p : Int) := by omega
      have hz2 : (p : Int) ≤ (l.length : Int) := by omega
      have hz3 : (p : Int) ≤ (c : Int) := by omega
      have hz4 : (l.length : Int) ≤ (c : Int) := by omega
      have HAC0 : Hid (∀ W g1 g2 T, StSl W (some ⟨b, off, none⟩) l → g1 = W.heap.size → g2 = W.heap.size + 1 → Calls Tryz.prog 151 #[.slice (some ⟨g2, 0, none⟩) 3 3] ((W.alloc (.cells #[.int .i64 s.f, .int .i64 s.t, .int .i64 s.n, .int .i64 s.s] 86)).alloc (.cells #[.slice (some ⟨b, off, none⟩) p c, .slice (some ⟨g1, 0, none⟩) 1 1, .slice (if c = p then some ⟨b, off, none⟩ else some ⟨b, off + p * 4, none⟩) (l.length - p) (c - p)] T)).drew fun e w' => ∃ v, e = .returned v ∧ w'.ownsRow W.heap.size 86 4 v (addS l s).length (sts (addS l s)) ∧ Below W.heap.size W w') := fun W g1 g2 T hs e1 e2 => by
       have h := sconcat3 ⟨some ⟨b, off, none⟩, l.take p, c⟩ ⟨if c = p then some ⟨b, off, none⟩ else some ⟨b, off + p * 4, none⟩, l.drop p, c - p⟩ s W g1 g2 T ⟨hs.take p, fun h => by cases h⟩ ⟨(by
        show StSl W (if c = p then some ⟨b, off, none⟩ else some ⟨b, off + p * 4, none⟩) (l.drop p)
        split
        ·rw [List.drop_eq_nil_of_le (by omega)]; exact StSl.nil _ _
        ·exact hs.drop p), (fun h => by dsimp only at h; split at h <;> cases h)⟩ e1 e2 (by simp; omega)
       rw [← HA.out p HP.out] at h
       unfold strV at h
       simp only [List.length_take, List.length_drop, Nat.min_eq_left hp] at h
       exact h
      clear HA HCL HCM HNil HU HP
      by_cases hcp : c = p
      ·obtain rfl : p = l.length := by omega
       subst hcp
       have HAC : Hid (∀ W g1 g2 T, StSl W (some ⟨b, off, none⟩) l → g1 = W.heap.size → g2 = W.heap.size + 1 → Calls Tryz.prog 151 #[.slice (some ⟨g2, 0, none⟩) 3 3] ((W.alloc (.cells #[.int .i64 s.f, .int .i64 s.t, .int .i64 s.n, .int .i64 s.s] 86)).alloc (.cells #[.slice (some ⟨b, off, none⟩) l.length l.length, .slice (some ⟨g1, 0, none⟩) 1 1, .slice (some ⟨b, off, none⟩) 0 0] T)).drew fun e w' => ∃ v, e = .returned v ∧ w'.ownsRow W.heap.size 86 4 v (addS l s).length (sts (addS l s)) ∧ Below W.heap.size W w') := fun W g1 g2 T hs e1 e2 => by
        have h := HAC0.out W g1 g2 T hs e1 e2
        rw [if_pos rfl, Nat.sub_self] at h
        exact h
       clear HAC0
       go_wp2_with fail
       go_region_held3 (fun W => W.cell? ⟨g, 0, none⟩ = some (.int .i64 s.f) ∧ W.cell? ⟨g, 1, none⟩ = some (.int .i64 s.t) ∧ W.cell? ⟨g, 2, none⟩ = some (.int .i64 s.n) ∧ W.cell? ⟨g, 3, none⟩ = some (.int .i64 s.s))
        (first | exact KD.four | exact (KD.below (below_one _ _)).four | exact ((KD.below (below_one _ _)).below (below_one _ _)).four | exact KE.four)
        (first | (go_at_call 151; refine (HAC.out _ _ _ _ K3.row rfl rfl).mono ?_; rintro e w5 ⟨v, rfl, ho5, hb5⟩; have KE := K3.below hb5; have HO5 := Lib.hid ho5; have HB5 := Lib.hid hb5; clear ho5 hb5))
       go_wp2
       go_ret
       exact ⟨_, rfl, own_low HO5.out K3.frame.size, KE.frame⟩
      ·have HAC : Hid (∀ W g1 g2 T, StSl W (some ⟨b, off, none⟩) l → g1 = W.heap.size → g2 = W.heap.size + 1 → Calls Tryz.prog 151 #[.slice (some ⟨g2, 0, none⟩) 3 3] ((W.alloc (.cells #[.int .i64 s.f, .int .i64 s.t, .int .i64 s.n, .int .i64 s.s] 86)).alloc (.cells #[.slice (some ⟨b, off, none⟩) p c, .slice (some ⟨g1, 0, none⟩) 1 1, .slice (some ⟨b, off + p * 4, none⟩) (l.length - p) (c - p)] T)).drew fun e w' => ∃ v, e = .returned v ∧ w'.ownsRow W.heap.size 86 4 v (addS l s).length (sts (addS l s)) ∧ Below W.heap.size W w') := fun W g1 g2 T hs e1 e2 => by
        have h := HAC0.out W g1 g2 T hs e1 e2
        rw [if_neg hcp] at h
        exact h
       clear HAC0
       go_wp2_with fail
       go_region_held3 (fun W => W.cell? ⟨g, 0, none⟩ = some (.int .i64 s.f) ∧ W.cell? ⟨g, 1, none⟩ = some (.int .i64 s.t) ∧ W.cell? ⟨g, 2, none⟩ = some (.int .i64 s.n) ∧ W.cell? ⟨g, 3, none⟩ = some (.int .i64 s.s))
        (first | exact KD.four | exact (KD.below (below_one _ _)).four | exact ((KD.below (below_one _ _)).below (below_one _ _)).four | exact KE.four)
        (first | (go_at_call 151; refine (HAC.out _ _ _ _ K3.row rfl rfl).mono ?_; rintro e w5 ⟨v, rfl, ho5, hb5⟩; have KE := K3.below hb5; have HO5 := Lib.hid ho5; have HB5 := Lib.hid hb5; clear ho5 hb5))
       go_wp2
       go_ret
       exact ⟨_, rfl, own_low HO5.out K3.frame.size, KE.frame⟩
     ·have hl0 : l = [] := List.eq_nil_of_length_eq_zero (by omega)
      subst hl0
      obtain rfl : p = 0 := by simpa using hp
      have KD := K3.below (Below.refl _ _).drew
      have hz : (0 : Int) ≤ (c : Int) := by omega
      obtain ⟨b, off, sp⟩ := ad
      have HAC0 : Hid (∀ W g1 g2 T (x y : Addr) (c1 c2 : Nat), g1 = W.heap.size → g2 = W.heap.size + 1 → Calls Tryz.prog 151 #[.slice (some ⟨g2, 0, none⟩) 3 3] ((W.alloc (.cells #[.int .i64 s.f, .int .i64 s.t, .int .i64 s.n, .int .i64 s.s] 86)).alloc (.cells #[.slice (some x) 0 c1, .slice (some ⟨g1, 0, none⟩) 1 1, .slice (some y) 0 c2] T)).drew fun e w' => ∃ v, e = .returned v ∧ w'.ownsRow W.heap.size 86 4 v (addS [] s).length (sts (addS [] s)) ∧ Below W.heap.size W w') := fun W g1 g2 T x y c1 c2 e1 e2 => by
       have h := sconcat3 ⟨some x, [], c1⟩ ⟨some y, [], c2⟩ s W g1 g2 T ⟨StSl.nil _ _, fun h => by cases h⟩ ⟨StSl.nil _ _, fun h => by cases h⟩ e1 e2 (by simp)
       rw [HA.out 0 HP.out]
       exact h
      clear HA HCL HCM HNil HU HP
      by_cases hcp : c = 0
      ·subst hcp
       go_wp2_with fail
       go_region_held3 (fun W => W.cell? ⟨g, 0, none⟩ = some (.int .i64 s.f) ∧ W.cell? ⟨g, 1, none⟩ = some (.int .i64 s.t) ∧ W.cell? ⟨g, 2, none⟩ = some (.int .i64 s.n) ∧ W.cell? ⟨g, 3, none⟩ = some (.int .i64 s.s))
        (first | exact KD.four | exact (KD.below (below_one _ _)).four | exact ((KD.below (below_one _ _)).below (below_one _ _)).four | exact KE.four)
        (first | (go_at_call 151; refine (HAC0.out _ _ _ _ _ _ _ _ rfl rfl).mono ?_; rintro e w5 ⟨v, rfl, ho5, hb5⟩; have KE := K3.below hb5; have HO5 := Lib.hid ho5; have HB5 := Lib.hid hb5; clear ho5 hb5))
       go_wp2
       go_ret
       exact ⟨_, rfl, own_low HO5.out K3.frame.size, KE.frame⟩
      ·go_wp2_with fail
       go_region_held3 (fun W => W.cell? ⟨g, 0, none⟩ = some (.int .i64 s.f) ∧ W.cell? ⟨g, 1, none⟩ = some (.int .i64 s.t) ∧ W.cell? ⟨g, 2, none⟩ = some (.int .i64 s.n) ∧ W.cell? ⟨g, 3, none⟩ = some (.int .i64 s.s))
        (first | exact KD.four | exact (KD.below (below_one _ _)).four | exact ((KD.below (below_one _ _)).below (below_one _ _)).four | exact KE.four)
        (first | (go_at_call 151; refine (HAC0.out _ _ _ _ _ _ _ _ rfl rfl).mono ?_; rintro e w5 ⟨v, rfl, ho5, hb5⟩; have KE := K3.below hb5; have HO5 := Lib.hid ho5; have HB5 := Lib.hid hb5; clear ho5 hb5))
       go_wp2
       go_ret
       exact ⟨_, rfl, own_low HO5.out K3.frame.size, KE.frame⟩
end Go.Proofs.YtjhdhfokhkcamaaGreat
namespace Go.Proofs.YtjhdhfokhkcamaaGreat
open Go.RowKit Go.Proofs
set_option linter.unusedVariables false
set_option maxRecDepth 100000
deriving instance DecidableEq for TbM
deriving instance DecidableEq for UsM
def sameS (s t : SaM) : Bool := decide (s.now = t.now) && decide (s.hor = t.hor) && decide (s.op = t.op) && decide (s.us = t.us) && decide (s.su = t.su) && decide (s.tb = t.tb)
theorem sameS_iff (s t : SaM) : sameS s t = true ↔ s = t := by
 unfold sameS
 obtain ⟨a, b, c, d, e, f⟩ := s
 obtain ⟨a', b', c', d', e', f'⟩ := t
 simp [and_assoc]
set_option maxHeartbeats 4000000 in
theorem teq_any (a b : Option Addr) (ca cb : Nat) (l m : List TbM) (w : World) (ha : TbSl w a l) (hb : TbSl w b m) (hla : l.length ≤ maxLen) (hlb : m.length ≤ maxLen) :
  Calls Tryz.prog 86 #[.slice a l.length ca, .slice b m.length cb] w fun e w' => e = .returned (.bool (decide (l = m))) ∧ Below w.heap.size w w' := by
 have HA := Lib.hid ha
 have HB := Lib.hid hb
 clear ha hb
 unfold maxLen at hla hlb
 by_cases hll : l.length = m.length
 ·obtain ⟨n, hn⟩ : ∃ n, n = m.length := ⟨_, rfl⟩
  have HL : Hid (l.length = n) := hll.trans hn.symm
  have HM : Hid (m.length = n) := hn.symm
  rw [HL.out, HM.out]
  rw [HM.out] at hlb
  clear hll hn hla
  go_enter Tryz.func86, Tryz.ntmps86
  go_wp2
  go_loopw [13] (fun i wr => ∃ (j : Nat), j ≤ n ∧ i = .int .i64 j ∧ Hid (l.take j = m.take j) ∧ Hid (Drew w wr)) (fun i _ => n - (intOf i).toNat)
  case atStart => exact ⟨0, by omega, rfl, (by unfold Hid; rfl), Drew.refl _⟩
  case round =>
   obtain ⟨j, hj, rfl, HT, HD⟩ := hrel
   by_cases hjn : j < n
   ·have hjl : j < l.length := by have := HL.out; omega
    have hjm : j < m.length := by have := HM.out; omega
    obtain ⟨b1, o1, rfl, hb1, hc0, hc1⟩ := (HA.out.below (HD.out.below _)).get hjl
    obtain ⟨b2, o2, rfl, hb2, hd0, hd1⟩ := (HB.out.below (HD.out.below _)).get hjm
    have HN := Lib.hid (take_same hjl hjm HT.out)
    have HNE : Hid (l[j] ≠ m[j] → l ≠ m) := fun h e => h (by subst e; rfl)
    generalize l[j] = x at *
    generalize m[j] = y at *
    clear hjl hjm
    obtain ⟨t1, f1⟩ := x
    obtain ⟨t2, f2⟩ := y
    dsimp only at *
    by_cases h1 : t1 = t2
    ·subst h1
     have he1 := txt_eq t1
     by_cases h0 : f1 = f2
     ·subst h0
      have he0 : (f1 == f1) = true := beq_self_eq_true _
      have HN2 := Lib.hid (HN.out rfl)
      clear HN HNE
      go_wp2
      go_quiet (fail)
      go_wp2
      go_roundw
      case rel => exact ⟨j + 1, by omega, by go_num, HN2, HD.out.trans ⟨_, rfl⟩⟩
      case measure => simp [intOf]; omega
     ·have HF : Hid (decide (l = m) = false) := decide_eq_false (HNE.out (fun e => h0 (congrArg TbM.a e)))
      have heq : (f1 == f2) = false := beq_eq_false_iff_ne.2 h0
      clear HN HNE
      go_wp2
      go_quiet (fail)
      go_wp2
      go_ret
      exact ⟨by rw [HF.out]; rfl, (HD.out.trans ⟨_, rfl⟩).below _⟩
    ·have HF : Hid (decide (l = m) = false) := decide_eq_false (HNE.out (fun e => h1 (congrArg TbM.u e)))
     have heq := txt_ne h1
     clear HN HNE
     go_wp2
     go_quiet (fail)
     go_wp2
     go_ret
     exact ⟨by rw [HF.out]; rfl, (HD.out.trans ⟨_, rfl⟩).below _⟩
   ·obtain rfl : j = n := by omega
    have HE : Hid (decide (l = m) = true) := decide_eq_true (by
     have := HT.out
     rwa [List.take_of_length_le (Nat.le_of_eq HL.out), List.take_of_length_le (Nat.le_of_eq HM.out)] at this)
    go_wp2
    go_ret
    exact ⟨by rw [HE.out]; rfl, HD.out.below _⟩
 ·have HE : Hid (decide (l = m) = false) := decide_eq_false (fun e => hll (by rw [e]))
  have hne : ((l.length : Int) == (m.length : Int)) = false := beq_eq_false_iff_ne.2 (by omega)
  go_enter Tryz.func86, Tryz.ntmps86
  go_wp2
  go_ret
  exact ⟨by rw [HE.out]; rfl, Below.refl _ _⟩
theorem c_same (x y : UsL) (W : World) (hx : UsAt W x) (hy : UsAt W y) (hl : x.l.length ≤ 1000) (hm : y.l.length ≤ 1000) :
  Calls Tryz.prog 83 #[.agg #[.string x.u, .slice x.a x.l.length x.c], .agg #[.string y.u, .slice y.a y.l.length y.c]] W fun r w' => r = .returned (.bool (decide (x.m = y.m))) ∧ Below W.heap.size W w' := by
 have hb := below_two W (.cells #[.string x.u, .slice x.a x.l.length x.c] 89) (.cells #[.string y.u, .slice y.a y.l.length y.c] 89)
 have HS := Lib.hid (ssame_any x.a y.a x.c y.c x.l y.l _ (hx.st.below hb) (hy.st.below hb) (by unfold maxLen; omega) (by unfold maxLen; omega))
 have HB := Lib.hid hb
 have hd : decide (x.m = y.m) = (decide (x.u = y.u) && decide (x.l = y.l)) := by
  unfold UsL.m
  rw [Bool.eq_iff_iff]
  simp
 rw [hd]
 by_cases h1 : x.u = y.u
 ·have he1 := txt_eq x.u
  have hd2 : decide (x.u = y.u) = true := decide_eq_true h1
  rw [hd2, Bool.true_and]
  rw [← h1] at HS HB ⊢
  clear hd hd2 hx hy hl hm hb h1
  generalize decide (x.l = y.l) = r at *
  go_enter Tryz.func83, Tryz.ntmps83
  go_wp2_with fail
  refine HS.out.mono ?_
  rintro e w1 ⟨rfl, h2⟩
  have HF := Lib.hid (HB.out.trans (h2.mono HB.out.size))
  go_wp2
  go_ret
  exact ⟨rfl, HF.out⟩
 ·have heq := txt_ne h1
  have hd2 : decide (x.u = y.u) = false := decide_eq_false h1
  rw [hd2, Bool.false_and]
  clear hd hd2 hx hy hl hm hb h1 HS
  go_enter Tryz.func83, Tryz.ntmps83
  go_wp2
  go_ret
  exact ⟨rfl, HB.out⟩
set_option maxHeartbeats 4000000 in
theorem ueq_any (a b : Option Addr) (ca cb : Nat) (l m : List UsL) (w : World) (ha : UsSl w a l) (hb : UsSl w b m) (hla : l.length ≤ 1000) (hlb : m.length ≤ 1000) (hsl : ∀ y ∈ l, y.l.length ≤ 1000) (hsm : ∀ y ∈ m, y.l.length ≤ 1000) :
  Calls Tryz.prog 82 #[.slice a l.length ca, .slice b m.length cb, .func (.func 83) #[] #[]] w fun e w' => e = .returned (.bool (decide (umS l = umS m))) ∧ Below w.heap.size w w' := by
 have HA := Lib.hid ha
 have HB := Lib.hid hb
 clear ha hb
 by_cases hll : l.length = m.length
 ·obtain ⟨n, hn⟩ : ∃ n, n = m.length := ⟨_, rfl⟩
  have HL : Hid (l.length = n) := hll.trans hn.symm
  have HM : Hid (m.length = n) := hn.symm
  rw [HL.out, HM.out]
  rw [HM.out] at hlb
  clear hll hn hla
  go_enter Tryz.func82, Tryz.ntmps82
  go_wp2
  go_loopw [17] (fun i wr => ∃ (j : Nat), j ≤ n ∧ i = .int .i64 j ∧ Hid ((umS l).take j = (umS m).take j) ∧ Hid (Below w.heap.size w wr)) (fun i _ => n - (intOf i).toNat)
  case atStart => exact ⟨0, by omega, rfl, (by unfold Hid; rfl), Below.refl _ _⟩
  case round =>
   obtain ⟨j, hj, rfl, HT, HD⟩ := hrel
   by_cases hjn : j < n
   ·have hjl : j < l.length := by have := HL.out; omega
    have hjm : j < m.length := by have := HM.out; omega
    obtain ⟨b1, o1, rfl, hb1, hc0, hc1, hu1⟩ := (HA.out.below HD.out).get hjl
    obtain ⟨b2, o2, rfl, hb2, hd0, hd1, hu2⟩ := (HB.out.below HD.out).get hjm
    have HN : Hid ((l[j]).m = (m[j]).m → (umS l).take (j + 1) = (umS m).take (j + 1)) := fun e => by
     have h1 : j < (umS l).length := by rw [umS_len]; exact hjl
     have h2 : j < (umS m).length := by rw [umS_len]; exact hjm
     exact take_same h1 h2 HT.out (by simpa [umS] using e)
    have HNE : Hid ((l[j]).m ≠ (m[j]).m → umS l ≠ umS m) := fun h e => h (by
     have h1 : j < (umS l).length := by rw [umS_len]; exact hjl
     have h2 : j < (umS m).length := by rw [umS_len]; exact hjm
     have h3 : (umS l)[j] = (umS m)[j] := by simp only [e]
     simpa [umS] using h3)
    have hbb := below_two wr (.cells #[.string (l[j]).u, .slice (l[j]).a (l[j]).l.length (l[j]).c] 89) (.cells #[.string (m[j]).u, .slice (m[j]).a (m[j]).l.length (m[j]).c] 89)
    have HC := Lib.hid (c_same l[j] m[j] _ (hu1.below hbb) (hu2.below hbb) (hsl _ (List.getElem_mem hjl)) (hsm _ (List.getElem_mem hjm)))
    have HD2 := Lib.hid (HD.out.trans (hbb.mono HD.out.size))
    clear hu1 hu2 hbb
    generalize l[j] = x at *
    generalize m[j] = y at *
    clear hjl hjm HD HA HB
    by_cases he : x.m = y.m
    ·rw [decide_eq_true he] at HC
     have HN2 := Lib.hid (HN.out he)
     clear HN HNE he
     go_wp2_with fail
     refine HC.out.mono ?_
     rintro e w1 ⟨rfl, h1⟩
     have HD3 := Lib.hid (HD2.out.trans (h1.mono HD2.out.size))
     clear h1 HD2 HC
     go_wp2
     go_roundw
     case rel => exact ⟨j + 1, by omega, by go_num, HN2, HD3⟩
     case measure => simp [intOf]; omega
    ·rw [decide_eq_false he] at HC
     have HF : Hid (decide (umS l = umS m) = false) := decide_eq_false (HNE.out he)
     clear HN HNE he
     go_wp2_with fail
     refine HC.out.mono ?_
     rintro e w1 ⟨rfl, h1⟩
     have HD3 := Lib.hid (HD2.out.trans (h1.mono HD2.out.size))
     clear h1 HD2 HC
     go_wp2
     go_ret
     exact ⟨by rw [HF.out]; rfl, HD3.out⟩
   ·obtain rfl : j = n := by omega
    have HE : Hid (decide (umS l = umS m) = true) := decide_eq_true (by
     have := HT.out
     rwa [List.take_of_length_le (by rw [umS_len]; exact Nat.le_of_eq HL.out), List.take_of_length_le (by rw [umS_len]; exact Nat.le_of_eq HM.out)] at this)
    go_wp2
    go_ret
    exact ⟨by rw [HE.out]; rfl, HD.out⟩
 ·have HE : Hid (decide (umS l = umS m) = false) := decide_eq_false (fun e => hll (by have := congrArg List.length e; rwa [umS_len, umS_len] at this))
  have hne : ((l.length : Int) == (m.length : Int)) = false := beq_eq_false_iff_ne.2 (by omega)
  go_enter Tryz.func82, Tryz.ntmps82
  go_wp2
  go_ret
  exact ⟨by rw [HE.out]; rfl, Below.refl _ _⟩
end Go.Proofs.YtjhdhfokhkcamaaGreat
