/- Contracts of pairs: both names, how two compare, whom they have, and the document's own order of pairs. -/
import Derived.Test.YthcjkobopobokaaA5
namespace Go.Proofs.Ythcjkobopobokaa
open Go.RowKit
set_option linter.unusedVariables false

def pr (a b : ByteArray) : Value := .agg #[.string a, .string b]
def cmpS (a b : ByteArray) : Int := Lib.compareBytes a.data.toList b.data.toList
def cmpP (a b c d : ByteArray) : Int := if cmpS a c = 0 then cmpS b d else cmpS a c

theorem sl_two (w : World) (x y : Value) (t : TypeId) : Sl (w.alloc (.cells #[x, y] t)) (some ⟨w.heap.size, 0, none⟩) [x, y] := fun k hk => by
  refine ⟨_, _, rfl, by simp, ?_⟩
  match k, hk with
  | 0, _ => simp
  | 1, _ => simp

set_option maxHeartbeats 400000 in
theorem pairRight_any (a b : ByteArray) (w : World) (ha : a.size ≤ maxLen) (hb : b.size ≤ maxLen) :
    Calls Try.prog 19 #[pr a b] w fun e w' => e = .returned (.bool (nameB a && nameB b)) ∧ Below w.heap.size w w' := by
  have hall : ∀ t (W : World) (g : Nat), g = W.heap.size → Calls Try.prog 12 #[.slice (some ⟨g, 0, none⟩) 2 2] (W.alloc (.cells #[.string a, .string b] t)) fun e w' => e = .returned (.bool (nameB a && nameB b)) ∧ (W.alloc (.cells #[.string a, .string b] t)) = w' := fun t W g hg => by
    subst hg
    have h := all_any (some ⟨W.heap.size, 0, none⟩) 2 [a, b] _ (sl_two W (.string a) (.string b) t) ⟨by simp [maxLen], by simp [ha, hb]⟩
    simpa using h
  have HA := Lib.hid hall
  clear hall
  unfold pr
  go_enter Try.func19, Try.ntmps19
  go_wp2_with (go_at_call 12; refine (HA.out _ _ _ (by simp)).mono ?_; rintro e w' ⟨rfl, rfl⟩)
  go_ret
  exact ⟨rfl, ((Below.refl _ _).alloc (Nat.le_refl _) _).alloc (by simp) _⟩

set_option maxHeartbeats 400000 in
theorem pairCmp_any (a b c d : ByteArray) (w : World) :
    Calls Try.prog 20 #[pr a b, pr c d] w fun e w' => e = .returned (.int .i64 (cmpP a b c d)) ∧ Below w.heap.size w w' := by
  unfold pr
  have HB : Hid (∀ o o', Below w.heap.size w ((w.alloc o).alloc o')) := fun o o' => ((Below.refl _ _).alloc (Nat.le_refl _) _).alloc (by simp) _
  have hcm : ∀ x y W, Calls Try.prog 13 #[.string x, .string y] W fun e w' => e = .returned (.int .i64 (cmpS x y)) ∧ W = w' := fun x y W => cmp_any x y W
  have HC := Lib.hid hcm
  clear hcm
  cases h : (cmpS a c != 0)
  · have HE : Hid (cmpP a b c d = cmpS b d) := if_pos (by simpa using h)
    go_enter Try.func20, Try.ntmps20
    go_wp2_with (go_at_call 13; refine (HC.out _ _ _).mono ?_; rintro e w' ⟨rfl, rfl⟩)
    go_ret
    exact ⟨retI HE.out.symm, HB.out _ _⟩
  · have HE : Hid (cmpP a b c d = cmpS a c) := if_neg (by simpa using h)
    go_enter Try.func20, Try.ntmps20
    go_wp2_with (go_at_call 13; refine (HC.out _ _ _).mono ?_; rintro e w' ⟨rfl, rfl⟩)
    go_ret
    exact ⟨retI HE.out.symm, HB.out _ _⟩

/-- two texts are the same, as the model asks it -/
def eqS (a b : ByteArray) : Bool := a.toList == b.toList
theorem eqS_iff (a b : ByteArray) : eqS a b = true ↔ a = b := by
  unfold eqS
  rw [beq_iff_eq, ByteArray.toList_eq, ByteArray.toList_eq]
  constructor
  · intro h
    cases a; cases b
    simp at h
    rw [h]
  · intro h; rw [h]

set_option maxHeartbeats 400000 in
theorem pairHas_any (a b s : ByteArray) (w : World) :
    Calls Try.prog 21 #[pr a b, .string s] w fun e w' => e = .returned (.bool (eqS s a || eqS s b)) ∧ Below w.heap.size w w' := by
  unfold pr
  have HB : Hid (∀ o, Below w.heap.size w (w.alloc o)) := fun o => (Below.refl _ _).alloc (Nat.le_refl _) _
  cases h : (s.toList == a.toList)
  · have HE : Hid ((s.toList == b.toList) = (eqS s a || eqS s b)) := by unfold Hid eqS; rw [h]; rfl
    go_enter Try.func21, Try.ntmps21
    go_wp2
    go_ret
    exact ⟨retB HE.out, HB.out _⟩
  · have HE : Hid (true = (eqS s a || eqS s b)) := by unfold Hid eqS; rw [h]; rfl
    go_enter Try.func21, Try.ntmps21
    go_wp2
    go_ret
    exact ⟨retB HE.out, HB.out _⟩

set_option maxHeartbeats 400000 in
theorem ahead_any (a b c d : ByteArray) (w : World) (ha : a.size ≤ maxLen) (hb : b.size ≤ maxLen) (hc : c.size ≤ maxLen) (hd : d.size ≤ maxLen) :
    Calls Try.prog 18 #[pr a b, pr c d] w fun e w' => e = .returned (.bool (decide (cmpP a b c d < 0))) ∧ Below w.heap.size w w' := by
  unfold pr
  have HB : Hid (∀ o o' n, Below w.heap.size w (((w.alloc o).alloc o').drewN n)) := fun o o' n => (((Below.refl _ _).alloc (Nat.le_refl _) _).alloc (by simp) _).trans (Drew.below ⟨n, rfl⟩ _)
  have hcm : ∀ x y W, x.size ≤ maxLen → y.size ≤ maxLen → Calls Try.prog 14 #[.string x, .string y] W fun e w' => e = .returned (.int .i64 (cmpS x y)) ∧ ∃ n, w' = W.drewN n := fun x y W hx hy => refCmp_any x y W hx hy
  have HC := Lib.hid hcm
  clear hcm
  have hcase : (cmpS a c < 0 ∧ (cmpS a c == 0) = false) ∨ ((cmpS a c == 0) = true ∧ ¬ cmpS a c < 0) ∨ (0 < cmpS a c ∧ (cmpS a c == 0) = false ∧ ¬ cmpS a c < 0) := by
    simp only [beq_iff_eq, beq_eq_false_iff_ne]; omega
  rcases hcase with ⟨h1, h2⟩ | ⟨h1, h2⟩ | ⟨h1, h2, h3⟩
  · have HE : Hid (true = decide (cmpP a b c d < 0)) := by unfold Hid cmpP; rw [if_neg (by simpa using h2)]; simpa using h1
    go_enter Try.func18, Try.ntmps18
    go_wp2_with (go_at_call 14; refine (HC.out _ _ _ (by assumption) (by assumption)).mono ?_; rintro e w' ⟨rfl, n, rfl⟩)
    go_ret
    exact ⟨retB HE.out, HB.out _ _ _⟩
  · have HE : Hid ((decide (cmpS a c < 0) || decide (cmpS b d < 0)) = decide (cmpP a b c d < 0)) := by unfold Hid cmpP; rw [if_pos (by simpa using h1), decide_eq_false h2]; rfl
    go_enter Try.func18, Try.ntmps18
    go_wp2_with (go_at_call 14; refine (HC.out _ _ _ (by assumption) (by assumption)).mono ?_; rintro e w' ⟨rfl, n, rfl⟩)
    go_ret
    exact ⟨retB HE.out, HB.out _ _ _⟩
  · have HE : Hid (decide (cmpS a c < 0) = decide (cmpP a b c d < 0)) := by unfold Hid cmpP; rw [if_neg (by simpa using h2)]
    go_enter Try.func18, Try.ntmps18
    go_wp2_with (go_at_call 14; refine (HC.out _ _ _ (by assumption) (by assumption)).mono ?_; rintro e w' ⟨rfl, n, rfl⟩)
    go_ret
    exact ⟨retB HE.out, HB.out _ _ _⟩
end Go.Proofs.Ythcjkobopobokaa
