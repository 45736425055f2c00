/- Texts of mine, one behind the other, of each what is wanted. -/
import Derived.Test.YtapacckmgmdnoaaGreatR00
import Derived.Test.YtapacckmgmdnoaaGreatShelf
import Derived.Test.YtapacckmgmdnoaaGreatRows
import Derived.Test.YtapacckmgmdnoaaGreatR01
import Derived.Test.YtapacckmgmdnoaaGreatR03
import Derived.Test.YtapacckmgmdnoaaGreatR04
import Derived.Test.YtapacckmgmdnoaaGreatR09
import Derived.Test.YtapacckmgmdnoaaGreatR13
import Derived.Test.YtapacckmgmdnoaaGreatR14
import Derived.Test.YtapacckmgmdnoaaGreatR18
import Derived.Test.YtapacckmgmdnoaaGreatR20
import Derived.Test.YtapacckmgmdnoaaGreatR26
import Derived.Test.YtapacckmgmdnoaaGreatTQ
namespace Go.Proofs.YtapacckmgmdnoaaGreat
open Go.RowKit Go.Sort Go.Proofs
set_option linter.unusedVariables false
set_option maxRecDepth 100000
set_option maxRecDepth 100000
def UpTo (l : List StM) (s : StM) (p : Nat) : Prop := ∀ i (h : i < l.length), p ≤ i → ltSt s l[i]
theorem StSl.snil {w : World} {l : List StM} (h : StSl w none l) : l = [] := by
 cases l with
 | nil => rfl
 | cons y m => obtain ⟨_, _, e, _⟩ := h 0 (by simp); cases e
theorem sconcat3 (A B : StR) (s : StM) (W : World) (g1 g2 : Nat) (T : TypeId) (hA : StRAt W A) (hB : StRAt W B) (hg1 : g1 = W.heap.size) (hg2 : g2 = W.heap.size + 1) (hl : A.l.length + B.l.length ≤ 1000) :
  Calls Tryz.prog 110 #[.slice (some ⟨g2, 0, none⟩) 3 3] ((W.alloc (.cells #[.int .i64 s.f, .int .i64 s.t, .int .i64 s.n, .int .i64 s.s] 111)).alloc (.cells #[strV A, .slice (some ⟨g1, 0, none⟩) 1 1, strV B] T)).drew fun e w' => ∃ v, e = .returned v ∧ w'.ownsRow W.heap.size 111 4 v (A.l ++ s :: B.l).length (sts (A.l ++ s :: B.l)) ∧ Below W.heap.size W w' := by
 subst hg1
 have hcat : catS [A, ⟨some ⟨W.heap.size, 0, none⟩, [s], 1⟩, B] = A.l ++ s :: B.l := by simp [catS]
 have hb1 := below_one W (.cells #[.int .i64 s.f, .int .i64 s.t, .int .i64 s.n, .int .i64 s.s] 111)
 have hS := cells_st W [s] #[.int .i64 s.f, .int .i64 s.t, .int .i64 s.n, .int .i64 s.s] 111 _ rfl rfl
 generalize hW1 : W.alloc (.cells #[.int .i64 s.f, .int .i64 s.t, .int .i64 s.n, .int .i64 s.s] 111) = W1 at *
 have hz : W1.heap.size = W.heap.size + 1 := by rw [← hW1, size1]
 have hb2 := below_one W1 (.cells #[strV A, .slice (some ⟨W.heap.size, 0, none⟩) 1 1, strV B] T)
 have hb2 := hb2.drew
 have hb := hb1.trans (hb2.mono hb1.size)
 have hlen : (catS [A, ⟨some ⟨W.heap.size, 0, none⟩, [s], 1⟩, B]).length ≤ 100000 := by rw [hcat, List.length_append, List.length_cons]; omega
 rw [hg2, ← hz]
 refine (sconcat_any (some ⟨W1.heap.size, 0, none⟩) 3 [A, ⟨some ⟨W.heap.size, 0, none⟩, [s], 1⟩, B] _ (sl_lit_drew W1 #[strV A, .slice (some ⟨W.heap.size, 0, none⟩) 1 1, strV B] T) ?_ (by show 3 ≤ _; decide) hlen).mono ?_
 ·intro r hr
  simp only [List.mem_cons, List.mem_nil_iff, or_false] at hr
  rcases hr with rfl | rfl | rfl
  ·exact ⟨hA.1.below hb, hA.2⟩
  ·exact ⟨hS.below hb2, fun h => by cases h⟩
  ·exact ⟨hB.1.below hb, hB.2⟩
 ·rintro e w' ⟨v, rfl, ho, hbb⟩
  rw [hcat] at ho
  exact ⟨v, rfl, own_low ho hb.size, hb.trans (hbb.mono hb.size)⟩
set_option maxHeartbeats 4000000 in
theorem add8_any (a : Option Addr) (c : Nat) (l : List StM) (s : StM) (w : World) (hr : StSl w a l) (hn : a = none → c = 0) (hl : l.length ≤ 1000) (hc : l.length ≤ c) (hcm : c ≤ maxLen) :
  Calls Tryz.prog 56 #[.slice a l.length c, stV s] w fun e w' => ∃ v, e = .returned v ∧ w'.ownsRow w.heap.size 111 4 v (addS l s).length (sts (addS l s)) ∧ Below w.heap.size w w' := by
 have HNO := Lib.hid (none_any s.f s.t)
 have HCL := Lib.hid (fun W h => clone8_any a c l W h hn (by omega))
 have HCM := Lib.hid (fun x y W => (stcmp_any x y W).mono fun e w' (h : _ ∧ Grew W w') => And.intro h.1 (h.2.below (Nat.le_refl _)))
 have HK0 := Lib.hid (RsK.new (w := w) (x := s) hr (Below.refl _ _))
 have HNil := Lib.hid hn
 clear hr hn
 unfold maxLen at hcm
 unfold stV at *
 by_cases h0 : s.t ≤ s.f
 ·have hd0 := decide_eq_true h0
  have HA : Hid (addS l s = l) := by unfold Hid addS; rw [if_pos h0]
  rw [HA.out]
  generalize hdd : decide (s.t ≤ s.f) = dd at *
  subst hd0
  clear hdd h0
  go_enter Tryz.func56, Tryz.ntmps56
  go_wp2_with fail
  refine (HNO.out _).mono ?_
  rintro e w2 ⟨rfl, hb⟩
  have K2 := Lib.hid (HK0.out.below hb)
  go_wp2_with fail
  refine (HCL.out _ K2.out.row).mono ?_
  rintro e w3 ⟨v, rfl, ho, hb3⟩
  go_wp2
  go_ret
  exact ⟨_, rfl, own_low ho K2.out.frame.size, K2.out.frame.trans (hb3.mono K2.out.frame.size)⟩
 ·have hd0 := decide_eq_false h0
  have HA : Hid (∀ p, IsPos l s p → addS l s = l.take p ++ s :: l.drop p) := fun p hp => by unfold addS; rw [if_neg h0, putS_at hp]
  generalize hdd : decide (s.t ≤ s.f) = dd at *
  subst hd0
  clear hdd h0
  go_enter Tryz.func56, Tryz.ntmps56
  go_wp2_with fail
  refine (HNO.out _).mono ?_
  rintro e w2 ⟨rfl, hb⟩
  have K2 := Lib.hid (HK0.out.below hb)
  clear hb HK0
  generalize w.heap.size = g at *
  go_wp2
  go_loopw [5] (fun i wr => ∃ (p : Nat), p ≤ l.length ∧ i = .int .i64 p ∧ Hid (UpTo l s p) ∧ Hid (RsK w g s a l wr)) (fun i _ => (intOf i).toNat)
  case atStart => exact ⟨l.length, Nat.le_refl _, rfl, fun i h h1 => absurd h (by omega), K2.out⟩
  case round =>
   obtain ⟨p, hp, rfl, HU, HK⟩ := hrel
   by_cases h0 : 0 < p
   ·obtain ⟨k, hk⟩ : ∃ k, p = k + 1 := ⟨p - 1, by omega⟩
    have hkl : k < l.length := by omega
    have hpw : IntKind.i64.wrap ((p : Int) - 1) = (k : Int) := by rw [IntWalk.i64_in] <;> omega
    have hgt : decide ((0 : Int) < (p : Int)) = true := decide_eq_true (by omega)
    obtain ⟨b, off, rfl, -, -, -, -, -⟩ := HK.out.row.at_ hkl
    have HP0 : Hid (∀ W, RsK w g s (some ⟨b, off, none⟩) l W → W.cell? ⟨g, 0, none⟩ = some (.int .i64 s.f) ∧ W.cell? ⟨g, 1, none⟩ = some (.int .i64 s.t) ∧ W.cell? ⟨g, 2, none⟩ = some (.int .i64 s.n) ∧ W.cell? ⟨g, 3, none⟩ = some (.int .i64 s.s) ∧ W.cell? ⟨b, off + k * 4, none⟩ = some (.int .i64 l[k].f) ∧ W.cell? ⟨b, off + k * 4 + 1, none⟩ = some (.int .i64 l[k].t) ∧ W.cell? ⟨b, off + k * 4 + 2, none⟩ = some (.int .i64 l[k].n) ∧ W.cell? ⟨b, off + k * 4 + 3, none⟩ = some (.int .i64 l[k].s)) := fun W h => ⟨h.four.1, h.four.2.1, h.four.2.2.1, h.four.2.2.2, h.at_ hkl⟩
    have K1 := HK.out.below (Below.refl _ _).drew
    have HCX := Lib.hid (HCM.out l[k] s)
    have hcl := cmpSt_gt l[k] s
    have HUN : Hid (ltSt s l[k] → UpTo l s k) := fun h i hi hki => by
     rcases Nat.eq_or_lt_of_le hki with h1 | h1
     ·subst h1; exact h
     ·exact HU.out i hi (by omega)
    have HPO : Hid (¬ ltSt s l[k] → IsPos l s p) := fun h => ⟨hp, HU.out, fun _ h1 => by
     have : p - 1 = k := by omega
     simp only [this]
     exact h⟩
    have hpk := Lib.hid hk
    clear hk
    generalize l[k] = y at *
    generalize cmpSt y s = r at *
    by_cases h3 : ltSt s y
    ·have HU2 := Lib.hid (HUN.out h3)
     have hd : decide (0 < r) = true := decide_eq_true (hcl.2 h3)
     clear HPO HUN hcl h3
     go_wp2_with fail
     go_region_held3 (fun W => W.cell? ⟨g, 0, none⟩ = some (.int .i64 s.f) ∧ W.cell? ⟨g, 1, none⟩ = some (.int .i64 s.t) ∧ W.cell? ⟨g, 2, none⟩ = some (.int .i64 s.n) ∧ W.cell? ⟨g, 3, none⟩ = some (.int .i64 s.s) ∧ W.cell? ⟨b, off + k * 4, none⟩ = some (.int .i64 y.f) ∧ W.cell? ⟨b, off + k * 4 + 1, none⟩ = some (.int .i64 y.t) ∧ W.cell? ⟨b, off + k * 4 + 2, none⟩ = some (.int .i64 y.n) ∧ W.cell? ⟨b, off + k * 4 + 3, none⟩ = some (.int .i64 y.s))
      (first | exact HP0.out _ K1 | exact HP0.out _ K3)
      (first | (go_at_call 109; refine (HCX.out _).mono ?_; rintro e w3 ⟨rfl, h3⟩; have K3 := K1.below h3))
     go_wp2
     go_roundw
     case rel => exact ⟨k, by omega, by go_num, HU2, K3⟩
     case measure => have := hpk.out; simp [intOf]; omega
    ·have HP := Lib.hid (HPO.out h3)
     have hd : decide (0 < r) = false := decide_eq_false (fun h => h3 (hcl.1 h))
     clear HPO HUN hcl h3
     go_wp2_with fail
     go_region_held3 (fun W => W.cell? ⟨g, 0, none⟩ = some (.int .i64 s.f) ∧ W.cell? ⟨g, 1, none⟩ = some (.int .i64 s.t) ∧ W.cell? ⟨g, 2, none⟩ = some (.int .i64 s.n) ∧ W.cell? ⟨g, 3, none⟩ = some (.int .i64 s.s) ∧ W.cell? ⟨b, off + k * 4, none⟩ = some (.int .i64 y.f) ∧ W.cell? ⟨b, off + k * 4 + 1, none⟩ = some (.int .i64 y.t) ∧ W.cell? ⟨b, off + k * 4 + 2, none⟩ = some (.int .i64 y.n) ∧ W.cell? ⟨b, off + k * 4 + 3, none⟩ = some (.int .i64 y.s))
      (first | exact HP0.out _ K1 | exact HP0.out _ K3)
      (first | (go_at_call 109; refine (HCX.out _).mono ?_; rintro e w3 ⟨rfl, h3⟩; have K3 := K1.below h3))
     have KD := K3.below (Below.refl _ _).drew
     have hpc : p ≤ c := by omega
     have hz1 : (0 : Int) ≤ (p : Int) := by omega
     have hz2 : (p : Int) ≤ (l.length : Int) := by omega
     have hz3 : (p : Int) ≤ (c : Int) := by omega
     have hz4 : (l.length : Int) ≤ (c : Int) := by omega
     have HAC0 : Hid (∀ W g1 g2 T, StSl W (some ⟨b, off, none⟩) l → g1 = W.heap.size → g2 = W.heap.size + 1 → Calls Tryz.prog 110 #[.slice (some ⟨g2, 0, none⟩) 3 3] ((W.alloc (.cells #[.int .i64 s.f, .int .i64 s.t, .int .i64 s.n, .int .i64 s.s] 111)).alloc (.cells #[.slice (some ⟨b, off, none⟩) p c, .slice (some ⟨g1, 0, none⟩) 1 1, .slice (if c = p then some ⟨b, off, none⟩ else some ⟨b, off + p * 4, none⟩) (l.length - p) (c - p)] T)).drew fun e w' => ∃ v, e = .returned v ∧ w'.ownsRow W.heap.size 111 4 v (addS l s).length (sts (addS l s)) ∧ Below W.heap.size W w') := fun W g1 g2 T hs e1 e2 => by
      have h := sconcat3 ⟨some ⟨b, off, none⟩, l.take p, c⟩ ⟨if c = p then some ⟨b, off, none⟩ else some ⟨b, off + p * 4, none⟩, l.drop p, c - p⟩ s W g1 g2 T ⟨hs.take p, fun h => by cases h⟩ ⟨(by
       show StSl W (if c = p then some ⟨b, off, none⟩ else some ⟨b, off + p * 4, none⟩) (l.drop p)
       split
       ·rw [List.drop_eq_nil_of_le (by omega)]; exact StSl.nil _ _
       ·exact hs.drop p), (fun h => by dsimp only at h; split at h <;> cases h)⟩ e1 e2 (by simp; omega)
      rw [← HA.out p HP.out] at h
      unfold strV at h
      simp only [List.length_take, List.length_drop, Nat.min_eq_left hp] at h
      exact h
     clear HA HCL HCM HNil HU HP
     by_cases hcp : c = p
     ·obtain rfl : p = l.length := by omega
      subst hcp
      have HAC : Hid (∀ W g1 g2 T, StSl W (some ⟨b, off, none⟩) l → g1 = W.heap.size → g2 = W.heap.size + 1 → Calls Tryz.prog 110 #[.slice (some ⟨g2, 0, none⟩) 3 3] ((W.alloc (.cells #[.int .i64 s.f, .int .i64 s.t, .int .i64 s.n, .int .i64 s.s] 111)).alloc (.cells #[.slice (some ⟨b, off, none⟩) l.length l.length, .slice (some ⟨g1, 0, none⟩) 1 1, .slice (some ⟨b, off, none⟩) 0 0] T)).drew fun e w' => ∃ v, e = .returned v ∧ w'.ownsRow W.heap.size 111 4 v (addS l s).length (sts (addS l s)) ∧ Below W.heap.size W w') := fun W g1 g2 T hs e1 e2 => by
       have h := HAC0.out W g1 g2 T hs e1 e2
       rw [if_pos rfl, Nat.sub_self] at h
       exact h
      clear HAC0
      go_wp2_with fail
      go_region_held3 (fun W => W.cell? ⟨g, 0, none⟩ = some (.int .i64 s.f) ∧ W.cell? ⟨g, 1, none⟩ = some (.int .i64 s.t) ∧ W.cell? ⟨g, 2, none⟩ = some (.int .i64 s.n) ∧ W.cell? ⟨g, 3, none⟩ = some (.int .i64 s.s))
       (first | exact KD.four | exact (KD.below (below_one _ _)).four | exact ((KD.below (below_one _ _)).below (below_one _ _)).four | exact KE.four)
       (first | (go_at_call 110; refine (HAC.out _ _ _ _ K3.row rfl rfl).mono ?_; rintro e w5 ⟨v, rfl, ho5, hb5⟩; have KE := K3.below hb5; have HO5 := Lib.hid ho5; have HB5 := Lib.hid hb5; clear ho5 hb5))
      go_wp2
      go_ret
      exact ⟨_, rfl, own_low HO5.out K3.frame.size, KE.frame⟩
     ·have HAC : Hid (∀ W g1 g2 T, StSl W (some ⟨b, off, none⟩) l → g1 = W.heap.size → g2 = W.heap.size + 1 → Calls Tryz.prog 110 #[.slice (some ⟨g2, 0, none⟩) 3 3] ((W.alloc (.cells #[.int .i64 s.f, .int .i64 s.t, .int .i64 s.n, .int .i64 s.s] 111)).alloc (.cells #[.slice (some ⟨b, off, none⟩) p c, .slice (some ⟨g1, 0, none⟩) 1 1, .slice (some ⟨b, off + p * 4, none⟩) (l.length - p) (c - p)] T)).drew fun e w' => ∃ v, e = .returned v ∧ w'.ownsRow W.heap.size 111 4 v (addS l s).length (sts (addS l s)) ∧ Below W.heap.size W w') := fun W g1 g2 T hs e1 e2 => by
       have h := HAC0.out W g1 g2 T hs e1 e2
       rw [if_neg hcp] at h
       exact h
      clear HAC0
      go_wp2_with fail
      go_region_held3 (fun W => W.cell? ⟨g, 0, none⟩ = some (.int .i64 s.f) ∧ W.cell? ⟨g, 1, none⟩ = some (.int .i64 s.t) ∧ W.cell? ⟨g, 2, none⟩ = some (.int .i64 s.n) ∧ W.cell? ⟨g, 3, none⟩ = some (.int .i64 s.s))
       (first | exact KD.four | exact (KD.below (below_one _ _)).four | exact ((KD.below (below_one _ _)).below (below_one _ _)).four | exact KE.four)
       (first | (go_at_call 110; refine (HAC.out _ _ _ _ K3.row rfl rfl).mono ?_; rintro e w5 ⟨v, rfl, ho5, hb5⟩; have KE := K3.below hb5; have HO5 := Lib.hid ho5; have HB5 := Lib.hid hb5; clear ho5 hb5))
      go_wp2
      go_ret
      exact ⟨_, rfl, own_low HO5.out K3.frame.size, KE.frame⟩
   ·have hgt : decide ((0 : Int) < (p : Int)) = false := decide_eq_false (by omega)
    have HP : Hid (IsPos l s p) := ⟨hp, HU.out, fun h _ => absurd h h0⟩
    go_wp2_with fail
    refine wp_region_held_drew (S := (fun W => W.cell? ⟨g, 0, none⟩ = some (.int .i64 s.f) ∧ W.cell? ⟨g, 1, none⟩ = some (.int .i64 s.t) ∧ W.cell? ⟨g, 2, none⟩ = some (.int .i64 s.n) ∧ W.cell? ⟨g, 3, none⟩ = some (.int .i64 s.s))) (by kernel_rfl) ?_ (fun hHeld => ?_)
    ·exact (HK.out.below (Below.refl _ _).drew).four
    refine tV 0 13 ?_
    refine tV 1 14 ?_
    refine tV 2 15 ?_
    refine tU 3 16 ?_
    refine tU 4 17 ?_
    refine tU 5 18 ?_
    refine tU 6 19 ?_
    refine tU 7 20 ?_
    refine tU 8 21 ?_
    refine tU 9 22 ?_
    refine tU 10 23 ?_
    refine tV 11 24 ?_
    refine wpAnyH_done (by kernel_rfl) ?_ _
    have K3 := HK.out.below (Below.refl _ _).drew
    generalize wr.drew = w3 at *
    cases a with
    | none =>
     have hc0 := HNil.out rfl
     have hl0 := K3.row.snil
     subst hc0 hl0
     obtain rfl : p = 0 := by simpa using hp
     have KD := K3.below (Below.refl _ _).drew
     have HAC : Hid (∀ W g1 g2 T, g1 = W.heap.size → g2 = W.heap.size + 1 → Calls Tryz.prog 110 #[.slice (some ⟨g2, 0, none⟩) 3 3] ((W.alloc (.cells #[.int .i64 s.f, .int .i64 s.t, .int .i64 s.n, .int .i64 s.s] 111)).alloc (.cells #[.slice none 0 0, .slice (some ⟨g1, 0, none⟩) 1 1, .slice none 0 0] T)).drew fun e w' => ∃ v, e = .returned v ∧ w'.ownsRow W.heap.size 111 4 v (addS [] s).length (sts (addS [] s)) ∧ Below W.heap.size W w') := fun W g1 g2 T e1 e2 => by
      have h := sconcat3 ⟨none, [], 0⟩ ⟨none, [], 0⟩ s W g1 g2 T ⟨StSl.nil _ _, fun _ => rfl⟩ ⟨StSl.nil _ _, fun _ => rfl⟩ e1 e2 (by simp)
      rw [HA.out 0 HP.out]
      exact h
     clear HA HCL HCM HNil HU HP
     go_wp2_with fail
     go_region_held3 (fun W => W.cell? ⟨g, 0, none⟩ = some (.int .i64 s.f) ∧ W.cell? ⟨g, 1, none⟩ = some (.int .i64 s.t) ∧ W.cell? ⟨g, 2, none⟩ = some (.int .i64 s.n) ∧ W.cell? ⟨g, 3, none⟩ = some (.int .i64 s.s))
      (first | exact KD.four | exact (KD.below (below_one _ _)).four | exact ((KD.below (below_one _ _)).below (below_one _ _)).four | exact KE.four)
      (first | (go_at_call 110; refine (HAC.out _ _ _ _ rfl rfl).mono ?_; rintro e w5 ⟨v, rfl, ho5, hb5⟩; have KE := K3.below hb5; have HO5 := Lib.hid ho5; have HB5 := Lib.hid hb5; clear ho5 hb5))
     go_wp2
     go_ret
     exact ⟨_, rfl, own_low HO5.out K3.frame.size, KE.frame⟩
    | some ad =>
     have HAD := Lib.hid K3.row
     by_cases hlz : 0 < l.length
     ·obtain ⟨b, off, e, -, -, -, -, -⟩ := K3.row.at_ hlz
      cases e
      have KD := K3.below (Below.refl _ _).drew
      have hpc : p ≤ c := by omega
      have hz1 : (0 : Int) ≤ (p : Int) := by omega
      have hz2 : (p : Int) ≤ (l.length : Int) := by omega
      have hz3 : (p : Int) ≤ (c : Int) := by omega
      have hz4 : (l.length : Int) ≤ (c : Int) := by omega
      have HAC0 : Hid (∀ W g1 g2 T, StSl W (some ⟨b, off, none⟩) l → g1 = W.heap.size → g2 = W.heap.size + 1 → Calls Tryz.prog 110 #[.slice (some ⟨g2, 0, none⟩) 3 3] ((W.alloc (.cells #[.int .i64 s.f, .int .i64 s.t, .int .i64 s.n, .int .i64 s.s] 111)).alloc (.cells #[.slice (some ⟨b, off, none⟩) p c, .slice (some ⟨g1, 0, none⟩) 1 1, .slice (if c = p then some ⟨b, off, none⟩ else some ⟨b, off + p * 4, none⟩) (l.length - p) (c - p)] T)).drew fun e w' => ∃ v, e = .returned v ∧ w'.ownsRow W.heap.size 111 4 v (addS l s).length (sts (addS l s)) ∧ Below W.heap.size W w') := fun W g1 g2 T hs e1 e2 => by
       have h := sconcat3 ⟨some ⟨b, off, none⟩, l.take p, c⟩ ⟨if c = p then some ⟨b, off, none⟩ else some ⟨b, off + p * 4, none⟩, l.drop p, c - p⟩ s W g1 g2 T ⟨hs.take p, fun h => by cases h⟩ ⟨(by
        show StSl W (if c = p then some ⟨b, off, none⟩ else some ⟨b, off + p * 4, none⟩) (l.drop p)
        split
        ·rw [List.drop_eq_nil_of_le (by omega)]; exact StSl.nil _ _
        ·exact hs.drop p), (fun h => by dsimp only at h; split at h <;> cases h)⟩ e1 e2 (by simp; omega)
       rw [← HA.out p HP.out] at h
       unfold strV at h
       simp only [List.length_take, List.length_drop, Nat.min_eq_left hp] at h
       exact h
      clear HA HCL HCM HNil HU HP
      by_cases hcp : c = p
      ·obtain rfl : p = l.length := by omega
       subst hcp
       have HAC : Hid (∀ W g1 g2 T, StSl W (some ⟨b, off, none⟩) l → g1 = W.heap.size → g2 = W.heap.size + 1 → Calls Tryz.prog 110 #[.slice (some ⟨g2, 0, none⟩) 3 3] ((W.alloc (.cells #[.int .i64 s.f, .int .i64 s.t, .int .i64 s.n, .int .i64 s.s] 111)).alloc (.cells #[.slice (some ⟨b, off, none⟩) l.length l.length, .slice (some ⟨g1, 0, none⟩) 1 1, .slice (some ⟨b, off, none⟩) 0 0] T)).drew fun e w' => ∃ v, e = .returned v ∧ w'.ownsRow W.heap.size 111 4 v (addS l s).length (sts (addS l s)) ∧ Below W.heap.size W w') := fun W g1 g2 T hs e1 e2 => by
        have h := HAC0.out W g1 g2 T hs e1 e2
        rw [if_pos rfl, Nat.sub_self] at h
        exact h
       clear HAC0
       go_wp2_with fail
       go_region_held3 (fun W => W.cell? ⟨g, 0, none⟩ = some (.int .i64 s.f) ∧ W.cell? ⟨g, 1, none⟩ = some (.int .i64 s.t) ∧ W.cell? ⟨g, 2, none⟩ = some (.int .i64 s.n) ∧ W.cell? ⟨g, 3, none⟩ = some (.int .i64 s.s))
        (first | exact KD.four | exact (KD.below (below_one _ _)).four | exact ((KD.below (below_one _ _)).below (below_one _ _)).four | exact KE.four)
        (first | (go_at_call 110; refine (HAC.out _ _ _ _ K3.row rfl rfl).mono ?_; rintro e w5 ⟨v, rfl, ho5, hb5⟩; have KE := K3.below hb5; have HO5 := Lib.hid ho5; have HB5 := Lib.hid hb5; clear ho5 hb5))
       go_wp2
       go_ret
       exact ⟨_, rfl, own_low HO5.out K3.frame.size, KE.frame⟩
      ·have HAC : Hid (∀ W g1 g2 T, StSl W (some ⟨b, off, none⟩) l → g1 = W.heap.size → g2 = W.heap.size + 1 → Calls Tryz.prog 110 #[.slice (some ⟨g2, 0, none⟩) 3 3] ((W.alloc (.cells #[.int .i64 s.f, .int .i64 s.t, .int .i64 s.n, .int .i64 s.s] 111)).alloc (.cells #[.slice (some ⟨b, off, none⟩) p c, .slice (some ⟨g1, 0, none⟩) 1 1, .slice (some ⟨b, off + p * 4, none⟩) (l.length - p) (c - p)] T)).drew fun e w' => ∃ v, e = .returned v ∧ w'.ownsRow W.heap.size 111 4 v (addS l s).length (sts (addS l s)) ∧ Below W.heap.size W w') := fun W g1 g2 T hs e1 e2 => by
        have h := HAC0.out W g1 g2 T hs e1 e2
        rw [if_neg hcp] at h
        exact h
       clear HAC0
       go_wp2_with fail
       go_region_held3 (fun W => W.cell? ⟨g, 0, none⟩ = some (.int .i64 s.f) ∧ W.cell? ⟨g, 1, none⟩ = some (.int .i64 s.t) ∧ W.cell? ⟨g, 2, none⟩ = some (.int .i64 s.n) ∧ W.cell? ⟨g, 3, none⟩ = some (.int .i64 s.s))
        (first | exact KD.four | exact (KD.below (below_one _ _)).four | exact ((KD.below (below_one _ _)).below (below_one _ _)).four | exact KE.four)
        (first | (go_at_call 110; refine (HAC.out _ _ _ _ K3.row rfl rfl).mono ?_; rintro e w5 ⟨v, rfl, ho5, hb5⟩; have KE := K3.below hb5; have HO5 := Lib.hid ho5; have HB5 := Lib.hid hb5; clear ho5 hb5))
       go_wp2
       go_ret
       exact ⟨_, rfl, own_low HO5.out K3.frame.size, KE.frame⟩
     ·have hl0 : l = [] := List.eq_nil_of_length_eq_zero (by omega)
      subst hl0
      obtain rfl : p = 0 := by simpa using hp
      have KD := K3.below (Below.refl _ _).drew
      have hz : (0 : Int) ≤ (c : Int) := by omega
      obtain ⟨b, off, sp⟩ := ad
      have HAC0 : Hid (∀ W g1 g2 T (x y : Addr) (c1 c2 : Nat), g1 = W.heap.size → g2 = W.heap.size + 1 → Calls Tryz.prog 110 #[.slice (some ⟨g2, 0, none⟩) 3 3] ((W.alloc (.cells #[.int .i64 s.f, .int .i64 s.t, .int .i64 s.n, .int .i64 s.s] 111)).alloc (.cells #[.slice (some x) 0 c1, .slice (some ⟨g1, 0, none⟩) 1 1, .slice (some y) 0 c2] T)).drew fun e w' => ∃ v, e = .returned v ∧ w'.ownsRow W.heap.size 111 4 v (addS [] s).length (sts (addS [] s)) ∧ Below W.heap.size W w') := fun W g1 g2 T x y c1 c2 e1 e2 => by
       have h := sconcat3 ⟨some x, [], c1⟩ ⟨some y, [], c2⟩ s W g1 g2 T ⟨StSl.nil _ _, fun h => by cases h⟩ ⟨StSl.nil _ _, fun h => by cases h⟩ e1 e2 (by simp)
       rw [HA.out 0 HP.out]
       exact h
      clear HA HCL HCM HNil HU HP
      by_cases hcp : c = 0
      ·subst hcp
       go_wp2_with fail
       go_region_held3 (fun W => W.cell? ⟨g, 0, none⟩ = some (.int .i64 s.f) ∧ W.cell? ⟨g, 1, none⟩ = some (.int .i64 s.t) ∧ W.cell? ⟨g, 2, none⟩ = some (.int .i64 s.n) ∧ W.cell? ⟨g, 3, none⟩ = some (.int .i64 s.s))
        (first | exact KD.four | exact (KD.below (below_one _ _)).four | exact ((KD.below (below_one _ _)).below (below_one _ _)).four | exact KE.four)
        (first | (go_at_call 110; refine (HAC0.out _ _ _ _ _ _ _ _ rfl rfl).mono ?_; rintro e w5 ⟨v, rfl, ho5, hb5⟩; have KE := K3.below hb5; have HO5 := Lib.hid ho5; have HB5 := Lib.hid hb5; clear ho5 hb5))
       go_wp2
       go_ret
       exact ⟨_, rfl, own_low HO5.out K3.frame.size, KE.frame⟩
      ·go_wp2_with fail
       go_region_held3 (fun W => W.cell? ⟨g, 0, none⟩ = some (.int .i64 s.f) ∧ W.cell? ⟨g, 1, none⟩ = some (.int .i64 s.t) ∧ W.cell? ⟨g, 2, none⟩ = some (.int .i64 s.n) ∧ W.cell? ⟨g, 3, none⟩ = some (.int .i64 s.s))
        (first | exact KD.four | exact (KD.below (below_one _ _)).four | exact ((KD.below (below_one _ _)).below (below_one _ _)).four | exact KE.four)
        (first | (go_at_call 110; refine (HAC0.out _ _ _ _ _ _ _ _ rfl rfl).mono ?_; rintro e w5 ⟨v, rfl, ho5, hb5⟩; have KE := K3.below hb5; have HO5 := Lib.hid ho5; have HB5 := Lib.hid hb5; clear ho5 hb5))
       go_wp2
       go_ret
       exact ⟨_, rfl, own_low HO5.out K3.frame.size, KE.frame⟩
end Go.Proofs.YtapacckmgmdnoaaGreat
namespace Go.Proofs.YtapacckmgmdnoaaGreat
open Go.RowKit Go.Proofs
set_option linter.unusedVariables false
set_option maxRecDepth 100000
set_option maxHeartbeats 4000000 in
theorem those1_any (N g0 : Nat) (a : Option Addr) (c : Nat) (l : List EvM) (p : Nat → Bool) (R : Nat → List EvM) (Inv : World → Prop) (W : World) (hr : EvSl W a l) (hi : Inv W) (hl : l.length ≤ 1000) (h0 : R 0 = [])
  (hs : ∀ j (h : j < l.length), R (j + 1) = R j ++ (if p j = true then [l[j]] else [])) (hF : ∀ args V, Sem.run Tryz.prog (callFunc N args) V = .ok (.enter N args) V) (hv : ∀ V V', Inv V → Below V.heap.size V V' → Inv V')
  (hN : ∀ j V, j < l.length → Inv V → Calls Tryz.prog N #[.int .i64 (j : Nat), .pointer (some ⟨g0, 0, none⟩)] V fun r w' => r = .returned (.bool (p j)) ∧ Below V.heap.size V w') :
  Calls Tryz.prog 79 #[.func (.func N) #[] #[.pointer (some ⟨g0, 0, none⟩)], .slice a l.length c] W fun r w' => ∃ v, r = .returned v ∧ w'.ownsRow W.heap.size 64 6 v (R l.length).length (evs (R l.length)) ∧ Below W.heap.size W w' := by
 obtain ⟨i0, hi0, hz0, hz1, hz2⟩ := info_parts infoEvent
 have HLN : Hid (∀ j, j ≤ l.length → (R j).length ≤ j) := Lib.hid fun j => by
  induction j with
  | zero => intro _; rw [h0]; exact Nat.le_refl _
  | succ j ih =>
   intro hj
   have := ih (by omega)
   rw [hs j (by omega), List.length_append]
   split <;> simp <;> omega
 have HR := Lib.hid hr
 have HI := Lib.hid hi
 have HV := Lib.hid hv
 have HC := Lib.hid hN
 have HS := Lib.hid hs
 have H0 : Hid (W.ownsRow W.heap.size 64 6 (.slice none 0 0) (R 0).length (evs (R 0))) := Lib.hid (by rw [h0]; exact ⟨rfl, .inl ⟨rfl, rfl⟩⟩)
 clear hr hi hv hN hs h0
 go_enter Tryz.func79, Tryz.ntmps79
 go_wp2
 go_loopw [5, 10] (fun v iv wr => ∃ (j : Nat), j ≤ l.length ∧ iv = .int .i64 j ∧ Hid (wr.ownsRow W.heap.size 64 6 v (R j).length (evs (R j))) ∧ Hid (Below W.heap.size W wr)) (fun _ iv _ => l.length - (intOf iv).toNat)
 case atStart => exact ⟨0, by omega, rfl, H0, Lib.hid (Below.refl _ _)⟩
 case round =>
  clear H0
  obtain ⟨j, hj, rfl, HO, HB⟩ := hrel
  by_cases hjl : j < l.length
  ·have hw1 : IntKind.i64.wrap ((j : Int) + 1) = (j : Int) + 1 := IntWalk.i64_in _ (by omega)
   obtain ⟨b, off, rfl, hbl, r0, r1, r2, r3, r4, r5⟩ := (HR.out.below HB.out).at_ hjl
   have hb1 := below_one wr (.cells #[.int .i64 l[j].kind, .int .i64 l[j].at_, .string l[j].user, .string l[j].other, .int .i64 l[j].n, .int .i64 l[j].status] 64)
   have hn1 := heap_alloc_new wr (.cells #[.int .i64 l[j].kind, .int .i64 l[j].at_, .string l[j].user, .string l[j].other, .int .i64 l[j].n, .int .i64 l[j].status] 64)
   have HB1 := Lib.hid (HB.out.trans (hb1.mono HB.out.size))
   have HO1 := Lib.hid (own_below HO.out hb1)
   have HCC := Lib.hid (HC.out j _ hjl (HV.out _ _ HI.out HB1.out))
   have HNX := Lib.hid (HS.out j hjl)
   have hle := HLN.out j (by omega)
   clear hb1 HC HV HI HO HB
   generalize l[j] = x at *
   generalize hE : R j = E at *
   clear hE
   cases hb : p j with
   | false =>
    rw [hb, if_neg (by decide), List.append_nil] at HNX
    rw [hb] at HCC
    clear hb hn1
    go_wp2_with fail
    refine HCC.out.mono ?_
    rintro r w2 ⟨rfl, hB⟩
    have HO2 := Lib.hid (own_below HO1.out hB)
    have HB2 := Lib.hid (HB1.out.trans (hB.mono HB1.out.size))
    clear hB HO1 HB1 HCC
    go_wp2
    go_roundw
    case rel => exact ⟨j + 1, by omega, by go_num, Lib.hid (by rw [HNX.out]; exact HO2.out), HB2⟩
    case measure => simp [intOf]; omega
   | true =>
    rw [hb, if_pos rfl] at HNX
    rw [hb] at HCC
    clear hb
    go_wp2_with fail
    refine HCC.out.mono ?_
    rintro r w2 ⟨rfl, hB⟩
    have hn2 := (hB.block wr.heap.size (by rw [size1]; omega)).trans hn1
    obtain ⟨⟨e0, e1, e2, e3, e4, e5⟩, -⟩ := cells6 hn2
    have hb3 := below_one w2 (.cells #[.int .i64 x.kind, .int .i64 x.at_, .string x.user, .string x.other, .int .i64 x.n, .int .i64 x.status] 64)
    have HO2 := Lib.hid (own_below (own_below HO1.out hB) hb3)
    have HB2 := Lib.hid (HB1.out.trans (hB.mono HB1.out.size))
    have HB3 := Lib.hid (HB2.out.trans (hb3.mono HB2.out.size))
    have HS3 := Lib.hid HB3.out.size
    clear hB HO1 HB1 HCC hn1 hn2 hb3 r0 r1 r2 r3 r4 r5 HB2
    go_wp2_with (at_builtin; refine wpList_append_own _ rfl (.tmp 18) (.tmp 20) 32 rfl W.heap.size 64 i0 _ 6 64 Tryz.underlying32 hi0 hz0 hz1 hz2 rfl (by decide) _ _ _ rfl HO2.out ⟨w2.heap.size, 0, none⟩ 1 1 [.int .i64 x.kind, .int .i64 x.at_, .string x.user, .string x.other, .int .i64 x.n, .int .i64 x.status] rfl rfl (news_at _ _ _ _ rfl) (six_cells x) (by unfold maxLen; omega) (by omega) HS3.out ?_; intro v' w3 hown' hgrow hiff)
    have HB4 := Lib.hid (app_below HB3.out HS3.out HO2.out hgrow)
    have HO4 : Hid (w3.ownsRow W.heap.size 64 6 v' (E ++ [x]).length (evs (E ++ [x]))) := Lib.hid (by rw [evs_snoc, List.length_append]; exact hown')
    clear hown' hgrow hiff HB3 HS3 HO2
    go_wp2
    go_roundw
    case rel => exact ⟨j + 1, by omega, by go_num, Lib.hid (by rw [HNX.out]; exact HO4.out), HB4⟩
    case measure => simp [intOf]; omega
  ·obtain rfl : j = l.length := by omega
   clear HC HV HI
   go_wp2
   go_ret
   exact ⟨_, rfl, HO.out, HB.out⟩
set_option maxHeartbeats 4000000 in
theorem those2_any (N g0 g1 : Nat) (a : Option Addr) (c : Nat) (l : List EvM) (p : Nat → Bool) (R : Nat → List EvM) (Inv : World → Prop) (W : World) (hr : EvSl W a l) (hi : Inv W) (hl : l.length ≤ 1000) (h0 : R 0 = [])
  (hs : ∀ j (h : j < l.length), R (j + 1) = R j ++ (if p j = true then [l[j]] else [])) (hF : ∀ args V, Sem.run Tryz.prog (callFunc N args) V = .ok (.enter N args) V) (hv : ∀ V V', Inv V → Below V.heap.size V V' → Inv V')
  (hN : ∀ j V, j < l.length → Inv V → Calls Tryz.prog N #[.int .i64 (j : Nat), .pointer (some ⟨g0, 0, none⟩), .pointer (some ⟨g1, 0, none⟩)] V fun r w' => r = .returned (.bool (p j)) ∧ Below V.heap.size V w') :
  Calls Tryz.prog 79 #[.func (.func N) #[] #[.pointer (some ⟨g0, 0, none⟩), .pointer (some ⟨g1, 0, none⟩)], .slice a l.length c] W fun r w' => ∃ v, r = .returned v ∧ w'.ownsRow W.heap.size 64 6 v (R l.length).length (evs (R l.length)) ∧ Below W.heap.size W w' := by
 obtain ⟨i0, hi0, hz0, hz1, hz2⟩ := info_parts infoEvent
 have HLN : Hid (∀ j, j ≤ l.length → (R j).length ≤ j) := Lib.hid fun j => by
  induction j with
  | zero => intro _; rw [h0]; exact Nat.le_refl _
  | succ j ih =>
   intro hj
   have := ih (by omega)
   rw [hs j (by omega), List.length_append]
   split <;> simp <;> omega
 have HR := Lib.hid hr
 have HI := Lib.hid hi
 have HV := Lib.hid hv
 have HC := Lib.hid hN
 have HS := Lib.hid hs
 have H0 : Hid (W.ownsRow W.heap.size 64 6 (.slice none 0 0) (R 0).length (evs (R 0))) := Lib.hid (by rw [h0]; exact ⟨rfl, .inl ⟨rfl, rfl⟩⟩)
 clear hr hi hv hN hs h0
 go_enter Tryz.func79, Tryz.ntmps79
 go_wp2
 go_loopw [5, 10] (fun v iv wr => ∃ (j : Nat), j ≤ l.length ∧ iv = .int .i64 j ∧ Hid (wr.ownsRow W.heap.size 64 6 v (R j).length (evs (R j))) ∧ Hid (Below W.heap.size W wr)) (fun _ iv _ => l.length - (intOf iv).toNat)
 case atStart => exact ⟨0, by omega, rfl, H0, Lib.hid (Below.refl _ _)⟩
 case round =>
  clear H0
  obtain ⟨j, hj, rfl, HO, HB⟩ := hrel
  by_cases hjl : j < l.length
  ·have hw1 : IntKind.i64.wrap ((j : Int) + 1) = (j : Int) + 1 := IntWalk.i64_in _ (by omega)
   obtain ⟨b, off, rfl, hbl, r0, r1, r2, r3, r4, r5⟩ := (HR.out.below HB.out).at_ hjl
   have hb1 := below_one wr (.cells #[.int .i64 l[j].kind, .int .i64 l[j].at_, .string l[j].user, .string l[j].other, .int .i64 l[j].n, .int .i64 l[j].status] 64)
   have hn1 := heap_alloc_new wr (.cells #[.int .i64 l[j].kind, .int .i64 l[j].at_, .string l[j].user, .string l[j].other, .int .i64 l[j].n, .int .i64 l[j].status] 64)
   have HB1 := Lib.hid (HB.out.trans (hb1.mono HB.out.size))
   have HO1 := Lib.hid (own_below HO.out hb1)
   have HCC := Lib.hid (HC.out j _ hjl (HV.out _ _ HI.out HB1.out))
   have HNX := Lib.hid (HS.out j hjl)
   have hle := HLN.out j (by omega)
   clear hb1 HC HV HI HO HB
   generalize l[j] = x at *
   generalize hE : R j = E at *
   clear hE
   cases hb : p j with
   | false =>
    rw [hb, if_neg (by decide), List.append_nil] at HNX
    rw [hb] at HCC
    clear hb hn1
    go_wp2_with fail
    refine HCC.out.mono ?_
    rintro r w2 ⟨rfl, hB⟩
    have HO2 := Lib.hid (own_below HO1.out hB)
    have HB2 := Lib.hid (HB1.out.trans (hB.mono HB1.out.size))
    clear hB HO1 HB1 HCC
    go_wp2
    go_roundw
    case rel => exact ⟨j + 1, by omega, by go_num, Lib.hid (by rw [HNX.out]; exact HO2.out), HB2⟩
    case measure => simp [intOf]; omega
   | true =>
    rw [hb, if_pos rfl] at HNX
    rw [hb] at HCC
    clear hb
    go_wp2_with fail
    refine HCC.out.mono ?_
    rintro r w2 ⟨rfl, hB⟩
    have hn2 := (hB.block wr.heap.size (by rw [size1]; omega)).trans hn1
    obtain ⟨⟨e0, e1, e2, e3, e4, e5⟩, -⟩ := cells6 hn2
    have hb3 := below_one w2 (.cells #[.int .i64 x.kind, .int .i64 x.at_, .string x.user, .string x.other, .int .i64 x.n, .int .i64 x.status] 64)
    have HO2 := Lib.hid (own_below (own_below HO1.out hB) hb3)
    have HB2 := Lib.hid (HB1.out.trans (hB.mono HB1.out.size))
    have HB3 := Lib.hid (HB2.out.trans (hb3.mono HB2.out.size))
    have HS3 := Lib.hid HB3.out.size
    clear hB HO1 HB1 HCC hn1 hn2 hb3 r0 r1 r2 r3 r4 r5 HB2
    go_wp2_with (at_builtin; refine wpList_append_own _ rfl (.tmp 18) (.tmp 20) 32 rfl W.heap.size 64 i0 _ 6 64 Tryz.underlying32 hi0 hz0 hz1 hz2 rfl (by decide) _ _ _ rfl HO2.out ⟨w2.heap.size, 0, none⟩ 1 1 [.int .i64 x.kind, .int .i64 x.at_, .string x.user, .string x.other, .int .i64 x.n, .int .i64 x.status] rfl rfl (news_at _ _ _ _ rfl) (six_cells x) (by unfold maxLen; omega) (by omega) HS3.out ?_; intro v' w3 hown' hgrow hiff)
    have HB4 := Lib.hid (app_below HB3.out HS3.out HO2.out hgrow)
    have HO4 : Hid (w3.ownsRow W.heap.size 64 6 v' (E ++ [x]).length (evs (E ++ [x]))) := Lib.hid (by rw [evs_snoc, List.length_append]; exact hown')
    clear hown' hgrow hiff HB3 HS3 HO2
    go_wp2
    go_roundw
    case rel => exact ⟨j + 1, by omega, by go_num, Lib.hid (by rw [HNX.out]; exact HO4.out), HB4⟩
    case measure => simp [intOf]; omega
  ·obtain rfl : j = l.length := by omega
   clear HC HV HI
   go_wp2
   go_ret
   exact ⟨_, rfl, HO.out, HB.out⟩
theorem pbears_any (e : EvM) (u : ByteArray) (w : World) : Calls Tryz.prog 82 #[evV e, .string u] w fun r w' => r = .returned (.bool (bearB u e)) ∧ Below w.heap.size w w' := by
 have HBB := Lib.hid (fun o => (Below.refl w.heap.size w).alloc (Nat.le_refl _) o)
 have h1 : (u.toList == e.user.toList) = decide (e.user = u) := by rw [txt_dec]; exact decide_eq_decide.2 eq_comm
 have h2 : (u.toList == e.other.toList) = decide (e.other = u) := by rw [txt_dec]; exact decide_eq_decide.2 eq_comm
 unfold evV bearB
 rw [← h1, ← h2]
 clear h1 h2
 cases h : (u.toList == e.user.toList)
 ·go_enter Tryz.func82, Tryz.ntmps82
  go_wp2
  go_ret
  exact ⟨retB (by simp), HBB.out _⟩
 ·go_enter Tryz.func82, Tryz.ntmps82
  go_wp2
  go_ret
  exact ⟨retB (by simp), HBB.out _⟩
structure CapE (V : World) (g : Nat) (b : Option Addr) (E : List Int) (q : Nat) : Prop where
 cell : V.cell? ⟨g, 0, none⟩ = some (.slice b E.length q)
 lt : g < V.heap.size
 row : ErSl V b E
theorem CapE.below {V V' : World} {g : Nat} {b : Option Addr} {E : List Int} {q : Nat} (h : CapE V g b E q) (k : Below V.heap.size V V') : CapE V' g b E q := ⟨(k.cell (p := ⟨g, 0, none⟩) h.lt).trans h.cell, Nat.lt_of_lt_of_le h.lt k.size, h.row.below k⟩
set_option maxHeartbeats 2000000 in
theorem c_taken (j g : Nat) (b : Option Addr) (E : List Int) (q : Nat) (V : World) (h : CapE V g b E q) (hj : j < E.length) :
  Calls Tryz.prog 80 #[.int .i64 (j : Nat), .pointer (some ⟨g, 0, none⟩)] V fun r w' => r = .returned (.bool (decide (E[j] = 0))) ∧ Below V.heap.size V w' := by
 obtain ⟨c0, -, hr⟩ := h
 obtain ⟨bb, off, rfl, -, r0⟩ := hr.at_ hj
 have HE : Hid (decide (E[j] = 0) = (E[j] == 0)) := Lib.hid rfl
 generalize E[j] = er at *
 clear hr
 go_enter Tryz.func80, Tryz.ntmps80
 go_wp2
 go_ret
 exact ⟨retB HE.out.symm, Below.refl _ _⟩
structure CapW (V : World) (g0 g1 : Nat) (a : Option Addr) (l : List EvM) (c : Nat) (u : ByteArray) : Prop where
 cell : V.cell? ⟨g0, 0, none⟩ = some (.slice a l.length c)
 lt : g0 < V.heap.size
 text : V.cell? ⟨g1, 0, none⟩ = some (.string u)
 lt' : g1 < V.heap.size
 row : EvSl V a l
theorem CapW.below {V V' : World} {g0 g1 : Nat} {a : Option Addr} {l : List EvM} {c : Nat} {u : ByteArray} (h : CapW V g0 g1 a l c u) (k : Below V.heap.size V V') : CapW V' g0 g1 a l c u := ⟨(k.cell (p := ⟨g0, 0, none⟩) h.lt).trans h.cell, Nat.lt_of_lt_of_le h.lt k.size, (k.cell (p := ⟨g1, 0, none⟩) h.lt').trans h.text, Nat.lt_of_lt_of_le h.lt' k.size, h.row.below k⟩
theorem CapW.cells {V : World} {g0 g1 : Nat} {ba ao : Nat} {l : List EvM} {c : Nat} {u : ByteArray} (h : CapW V g0 g1 (some ⟨ba, ao, none⟩) l c u) {j : Nat} (hj : j < l.length) : V.cell? ⟨g0, 0, none⟩ = some (.slice (some ⟨ba, ao, none⟩) l.length c) ∧ V.cell? ⟨g1, 0, none⟩ = some (.string u) ∧ V.cell? ⟨ba, ao + j * 6, none⟩ = some (.int .i64 l[j].kind) ∧ V.cell? ⟨ba, ao + j * 6 + 1, none⟩ = some (.int .i64 l[j].at_) ∧ V.cell? ⟨ba, ao + j * 6 + 2, none⟩ = some (.string l[j].user) ∧ V.cell? ⟨ba, ao + j * 6 + 3, none⟩ = some (.string l[j].other) ∧ V.cell? ⟨ba, ao + j * 6 + 4, none⟩ = some (.int .i64 l[j].n) ∧ V.cell? ⟨ba, ao + j * 6 + 5, none⟩ = some (.int .i64 l[j].status) := by
 obtain ⟨b', o', e', -, h0⟩ := h.row.at_ hj
 cases e'
 exact ⟨h.cell, h.text, h0⟩
set_option maxHeartbeats 4000000 in
theorem c_without (j g0 g1 : Nat) (a : Option Addr) (l : List EvM) (c : Nat) (u : ByteArray) (V : World) (h : CapW V g0 g1 a l c u) (hj : j < l.length) :
  Calls Tryz.prog 81 #[.int .i64 (j : Nat), .pointer (some ⟨g0, 0, none⟩), .pointer (some ⟨g1, 0, none⟩)] V fun r w' => r = .returned (.bool (!bearB u l[j])) ∧ Below V.heap.size V w' := by
 obtain ⟨ba, ao, rfl, -⟩ := h.row.at_ hj
 have HSC := Lib.hid (fun V (h : CapW V g0 g1 (some ⟨ba, ao, none⟩) l c u) => h.cells hj)
 have HB := Lib.hid (fun W => pbears_any l[j] u W)
 generalize l[j] = x at *
 unfold evV at HB
 generalize bearB u x = bb at *
 obtain ⟨k0, k1, k2, k3, k4, k5, k6, k7⟩ := HSC.out _ h
 have K0 := h.below (Below.refl _ _).drew
 have HF := Lib.hid (Below.refl V.heap.size V).drew
 go_enter Tryz.func81, Tryz.ntmps81
 go_wp2_with fail
 go_region_held3 (fun V => V.cell? ⟨g0, 0, none⟩ = some (.slice (some ⟨ba, ao, none⟩) l.length c) ∧ V.cell? ⟨g1, 0, none⟩ = some (.string u) ∧ V.cell? ⟨ba, ao + j * 6, none⟩ = some (.int .i64 x.kind) ∧ V.cell? ⟨ba, ao + j * 6 + 1, none⟩ = some (.int .i64 x.at_) ∧ V.cell? ⟨ba, ao + j * 6 + 2, none⟩ = some (.string x.user) ∧ V.cell? ⟨ba, ao + j * 6 + 3, none⟩ = some (.string x.other) ∧ V.cell? ⟨ba, ao + j * 6 + 4, none⟩ = some (.int .i64 x.n) ∧ V.cell? ⟨ba, ao + j * 6 + 5, none⟩ = some (.int .i64 x.status))
  (first | with_reducible exact HSC.out _ K1 | with_reducible exact HSC.out _ K0)
  (first | (go_at_call 82; refine (HB.out _).mono ?_; rintro r v1 ⟨rfl, h1⟩; have K1 := K0.below h1))
 all_goals
  have HH := Lib.hid (HF.out.trans (h1.mono HF.out.size))
  clear K0 K1 HSC k0 k1 k2 k3 k4 k5 k6 k7 h1
  go_wp2
  go_ret
  exact ⟨rfl, HH.out⟩
end Go.Proofs.YtapacckmgmdnoaaGreat
