/- Layer 9: how two entries compare; in the program and in the document; who is in force, in the document: contracts. -/
import Derived.Test.YthaancmobpamhaaAB3
namespace Go.Proofs.Ythaancmobpamhaa
open Go.RowKit
set_option linter.unusedVariables false
set_option maxRecDepth 100000

theorem below_2 (w : World) (o p : Obj) : Below w.heap.size w ((w.alloc o).alloc p) := ((Below.refl _ _).alloc (Nat.le_refl _) _).alloc (by rw [size1]; omega) _
/-- two entries that lie one behind the other -/
structure TwE (w : World) (g h : Nat) (a b : EnM) (W : World) : Prop where
  a : W.cell? ⟨g, 0, none⟩ = some (.string a.w) ∧ W.cell? ⟨g, 1, none⟩ = some (.string a.u) ∧ W.cell? ⟨g, 2, none⟩ = some (.int .i64 a.f) ∧ W.cell? ⟨g, 3, none⟩ = some (.int .i64 a.t)
  b : W.cell? ⟨h, 0, none⟩ = some (.string b.w) ∧ W.cell? ⟨h, 1, none⟩ = some (.string b.u) ∧ W.cell? ⟨h, 2, none⟩ = some (.int .i64 b.f) ∧ W.cell? ⟨h, 3, none⟩ = some (.int .i64 b.t)
  lt : g < W.heap.size ∧ h < W.heap.size
  frame : Below w.heap.size w W
theorem TwE.below {w W W' : World} {g h : Nat} {a b : EnM} (k : TwE w g h a b W) (q : Below W.heap.size W W') : TwE w g h a b W' :=
  ⟨⟨(q.cell (p := ⟨g, 0, none⟩) k.lt.1).trans k.a.1, (q.cell (p := ⟨g, 1, none⟩) k.lt.1).trans k.a.2.1, (q.cell (p := ⟨g, 2, none⟩) k.lt.1).trans k.a.2.2.1, (q.cell (p := ⟨g, 3, none⟩) k.lt.1).trans k.a.2.2.2⟩,
   ⟨(q.cell (p := ⟨h, 0, none⟩) k.lt.2).trans k.b.1, (q.cell (p := ⟨h, 1, none⟩) k.lt.2).trans k.b.2.1, (q.cell (p := ⟨h, 2, none⟩) k.lt.2).trans k.b.2.2.1, (q.cell (p := ⟨h, 3, none⟩) k.lt.2).trans k.b.2.2.2⟩,
   ⟨Nat.lt_of_lt_of_le k.lt.1 q.size, Nat.lt_of_lt_of_le k.lt.2 q.size⟩, k.frame.trans (q.mono k.frame.size)⟩
theorem TwE.new (w : World) (a b : EnM) (t t' : TypeId) : TwE w w.heap.size (w.heap.size + 1) a b ((w.alloc (.cells #[.string a.w, .string a.u, .int .i64 a.f, .int .i64 a.t] t)).alloc (.cells #[.string b.w, .string b.u, .int .i64 b.f, .int .i64 b.t] t')) := by
  have hb := below_2 w (.cells #[.string a.w, .string a.u, .int .i64 a.f, .int .i64 a.t] t) (.cells #[.string b.w, .string b.u, .int .i64 b.f, .int .i64 b.t] t')
  have h1 := heap_alloc_new w (.cells #[.string a.w, .string a.u, .int .i64 a.f, .int .i64 a.t] t)
  have z1 := size1 w (.cells #[.string a.w, .string a.u, .int .i64 a.f, .int .i64 a.t] t)
  generalize w.alloc (.cells #[.string a.w, .string a.u, .int .i64 a.f, .int .i64 a.t] t) = w1 at *
  have h2 := heap_alloc_new w1 (.cells #[.string b.w, .string b.u, .int .i64 b.f, .int .i64 b.t] t')
  have b2 := below_one w1 (.cells #[.string b.w, .string b.u, .int .i64 b.f, .int .i64 b.t] t')
  have z2 := size1 w1 (.cells #[.string b.w, .string b.u, .int .i64 b.f, .int .i64 b.t] t')
  generalize w1.alloc (.cells #[.string b.w, .string b.u, .int .i64 b.f, .int .i64 b.t] t') = w2 at *
  rw [z1] at h2
  exact ⟨cells4 ((b2.block _ (heap_lt h1)).trans h1), cells4 h2, ⟨by omega, by omega⟩, hb⟩

theorem above_pc (a b : EnM) : (aheadE b a) ↔ (0 < pc a b ∨ (pc a b = 0 ∧ b.f < a.f)) := by
  have h := pc_neg a b
  unfold aheadE
  omega

set_option maxHeartbeats 2000000 in
theorem above_any (a b : EnM) (w : World) : Calls Try.prog 36 #[enV a, enV b] w fun e w' => e = .returned (.bool (decide (aheadE b a))) ∧ Below w.heap.size w w' := by
  have K0 := Lib.hid (TwE.new w a b 63 63)
  have HC := Lib.hid (fun W => pairCmp_any a.w a.u b.w b.u W)
  have HP := above_pc a b
  unfold enV
  unfold pr at HC
  have hpc : cmpP a.w a.u b.w b.u = pc a b := rfl
  rw [hpc] at HC
  generalize pc a b = c at *
  have HF : Hid (∀ x : Bool, (x = true ↔ aheadE b a) → x = decide (aheadE b a)) := fun x h => by
    cases x with
    | true => exact (decide_eq_true (h.1 rfl)).symm
    | false => exact (decide_eq_false (fun k => by cases h.2 k)).symm
  rcases Int.lt_trichotomy c 0 with h1 | h1 | h1
  · have d1 : decide (0 < c) = false := decide_eq_false (by omega)
    have d2 : (c == 0) = false := beq_eq_false_iff_ne.2 (by omega)
    have HE := Lib.hid (HF.out false ⟨fun h => (by cases h), fun h => (by have := HP.1 h; omega)⟩)
    clear HF HP h1
    go_enter Try.func36, Try.ntmps36
    go_wp2_with fail
    refine (HC.out _).mono ?_
    rintro e w2 ⟨rfl, hB⟩
    have K1 := K0.out.below hB
    obtain ⟨a0, a1, a2, a3⟩ := K1.a
    obtain ⟨b0, b1, b2, b3⟩ := K1.b
    clear K0 HC hB
    go_wp2
    go_ret
    exact ⟨by rw [← HE.out]; rfl, K1.frame⟩
  · subst h1
    have d1 : decide ((0 : Int) < 0) = false := rfl
    have HE := Lib.hid (HF.out (decide (b.f < a.f)) (by rw [HP, decide_eq_true_iff]; omega))
    clear HF HP
    go_enter Try.func36, Try.ntmps36
    go_wp2_with fail
    refine (HC.out _).mono ?_
    rintro e w2 ⟨rfl, hB⟩
    have K1 := K0.out.below hB
    obtain ⟨a0, a1, a2, a3⟩ := K1.a
    obtain ⟨b0, b1, b2, b3⟩ := K1.b
    clear K0 HC hB
    go_wp2
    go_ret
    exact ⟨by rw [← HE.out]; rfl, K1.frame⟩
  · have d1 : decide (0 < c) = true := decide_eq_true (by omega)
    have HE := Lib.hid (HF.out true ⟨fun _ => HP.2 (Or.inl h1), fun _ => rfl⟩)
    clear HF HP h1
    go_enter Try.func36, Try.ntmps36
    go_wp2_with fail
    refine (HC.out _).mono ?_
    rintro e w2 ⟨rfl, hB⟩
    have K1 := K0.out.below hB
    obtain ⟨a0, a1, a2, a3⟩ := K1.a
    obtain ⟨b0, b1, b2, b3⟩ := K1.b
    clear K0 HC hB
    go_wp2
    go_ret
    exact ⟨by rw [← HE.out]; rfl, K1.frame⟩

set_option maxHeartbeats 2000000 in
theorem eahead_any (a b : EnM) (w : World) (h1 : a.w.size ≤ maxLen) (h2 : a.u.size ≤ maxLen) (h3 : b.w.size ≤ maxLen) (h4 : b.u.size ≤ maxLen) :
    Calls Try.prog 38 #[enV a, enV b] w fun e w' => e = .returned (.bool (decide (aheadE a b))) ∧ Below w.heap.size w w' := by
  have K0 := Lib.hid (TwE.new w a b 53 53)
  have HC1 := Lib.hid (fun W => refCmp_any a.w b.w W h1 h3)
  have HC2 := Lib.hid (fun W => refCmp_any a.u b.u W h2 h4)
  have HP : aheadE a b ↔ (pc a b < 0 ∨ (pc a b = 0 ∧ a.f < b.f)) := Iff.rfl
  have hpc : pc a b = if cmpS a.w b.w = 0 then cmpS a.u b.u else cmpS a.w b.w := rfl
  rw [hpc] at HP
  have e1 : Lib.compareBytes a.w.data.toList b.w.data.toList = cmpS a.w b.w := rfl
  have e2 : Lib.compareBytes a.u.data.toList b.u.data.toList = cmpS a.u b.u := rfl
  rw [e1] at HC1
  rw [e2] at HC2
  clear hpc e1 e2 h1 h2 h3 h4
  unfold enV
  generalize cmpS a.w b.w = c at *
  generalize cmpS a.u b.u = d at *
  have HF : Hid (∀ x : Bool, (x = true ↔ aheadE a b) → x = decide (aheadE a b)) := fun x h => by
    cases x with
    | true => exact (decide_eq_true (h.1 rfl)).symm
    | false => exact (decide_eq_false (fun k => by cases h.2 k)).symm
  by_cases h1 : c = 0
  · subst h1
    rw [if_pos rfl] at HP
    have k1 : ((0 : Int) != 0) = false := rfl
    by_cases h2 : d = 0
    · subst h2
      have HE := Lib.hid (HF.out (decide (a.f < b.f)) (by rw [HP, decide_eq_true_iff]; omega))
      clear HF HP
      go_enter Try.func38, Try.ntmps38
      go_wp2_with fail
      refine (HC1.out _).mono ?_
      rintro e w2 ⟨rfl, hB⟩
      have K1 := Lib.hid (K0.out.below (Drew.below hB _))
      obtain ⟨a0, a1, a2, a3⟩ := K1.out.a
      obtain ⟨b0, b1, b2, b3⟩ := K1.out.b
      clear K0 HC1 hB
      go_wp2_with fail
      refine (HC2.out _).mono ?_
      rintro e w3 ⟨rfl, hB⟩
      have K2 := Lib.hid (K1.out.below (Drew.below hB _))
      clear a0 a1 a2 a3 b0 b1 b2 b3 K1
      obtain ⟨a0, a1, a2, a3⟩ := K2.out.a
      obtain ⟨b0, b1, b2, b3⟩ := K2.out.b
      clear HC2 hB
      go_wp2
      go_ret
      exact ⟨by rw [← HE.out]; rfl, K2.out.frame⟩
    · have HE := Lib.hid (HF.out (decide (d < 0)) (by rw [HP, decide_eq_true_iff]; omega))
      have k2 : (d != 0) = true := bne_iff_ne.2 h2
      clear HF HP
      go_enter Try.func38, Try.ntmps38
      go_wp2_with fail
      refine (HC1.out _).mono ?_
      rintro e w2 ⟨rfl, hB⟩
      have K1 := Lib.hid (K0.out.below (Drew.below hB _))
      obtain ⟨a0, a1, a2, a3⟩ := K1.out.a
      obtain ⟨b0, b1, b2, b3⟩ := K1.out.b
      clear K0 HC1 hB
      go_wp2_with fail
      refine (HC2.out _).mono ?_
      rintro e w3 ⟨rfl, hB⟩
      have K2 := Lib.hid (K1.out.below (Drew.below hB _))
      clear a0 a1 a2 a3 b0 b1 b2 b3 K1 HC2 hB
      go_wp2
      go_ret
      exact ⟨by rw [← HE.out]; rfl, K2.out.frame⟩
  · rw [if_neg h1] at HP
    have HE := Lib.hid (HF.out (decide (c < 0)) (by rw [HP, decide_eq_true_iff]; omega))
    have k1 : (c != 0) = true := bne_iff_ne.2 h1
    clear HF HP
    go_enter Try.func38, Try.ntmps38
    go_wp2_with fail
    refine (HC1.out _).mono ?_
    rintro e w2 ⟨rfl, hB⟩
    have K1 := Lib.hid (K0.out.below (Drew.below hB _))
    clear K0 HC1 hB
    go_wp2
    go_ret
    exact ⟨by rw [← HE.out]; rfl, K1.out.frame⟩

set_option maxHeartbeats 1000000 in
theorem of_any (e : EnM) (w u : ByteArray) (W : World) :
    Calls Try.prog 41 #[enV e, pr w u] W fun r w' => r = .returned (.bool (ofE w u e)) ∧ Below W.heap.size W w' := by
  have HB := Lib.hid (below_2 W)
  unfold enV pr
  obtain ⟨ew, eu, ef, et⟩ := e
  have HF : Hid (∀ b : Bool, (b = true ↔ ew = w ∧ eu = u) → b = ofE w u ⟨ew, eu, ef, et⟩) := fun b hb => by
    have h1 := ofE_iff (w := w) (u := u) (e := ⟨ew, eu, ef, et⟩)
    cases hc : ofE w u ⟨ew, eu, ef, et⟩ with
    | true => rw [hc] at h1; exact hb.2 (h1.1 rfl)
    | false =>
      rw [hc] at h1
      cases b with
      | false => rfl
      | true => exact absurd (h1.2 (hb.1 rfl)) Bool.false_ne_true
  dsimp only
  by_cases h0 : ew = w
  · subst h0
    have e0 := str_eq ew
    by_cases h1 : eu = u
    · subst h1
      have e1 := str_eq eu
      have HE := Lib.hid (HF.out true ⟨fun _ => ⟨rfl, rfl⟩, fun _ => rfl⟩)
      clear HF
      go_enter Try.func41, Try.ntmps41
      go_wp2
      go_ret
      exact ⟨retB HE.out, HB.out _ _⟩
    · have e1 := str_ne h1
      have HE := Lib.hid (HF.out false ⟨fun h => (by cases h), fun h => absurd h.2 h1⟩)
      clear HF h1
      go_enter Try.func41, Try.ntmps41
      go_wp2
      go_ret
      exact ⟨retB HE.out, HB.out _ _⟩
  · have e0 := str_ne h0
    have HE := Lib.hid (HF.out false ⟨fun h => (by cases h), fun h => absurd h.1 h0⟩)
    clear HF h0
    go_enter Try.func41, Try.ntmps41
    go_wp2
    go_ret
    exact ⟨retB HE.out, HB.out _ _⟩
end Go.Proofs.Ythaancmobpamhaa
