/- The small example that every statement of layer 1 asks first, walked: it answers true. -/
import Derived.Test.YthcjkobopobokaaA7
namespace Go.Proofs.Ythcjkobopobokaa
open Go.RowKit
set_option linter.unusedVariables false

theorem sl_lit (w : World) (xs : Array Value) (t : TypeId) : Sl (w.alloc (.cells xs t)) (some ⟨w.heap.size, 0, none⟩) xs.toList := fun k hk => by
  refine ⟨_, _, rfl, by simp, ?_⟩
  rw [cell_of_row _ _ _ xs t (0, 0) (heap_alloc_new w _), Nat.zero_add]
  have : k < xs.size := by simpa using hk
  simp [Array.getElem?_eq_getElem this]

theorem cell_mid (W : World) (xs : Array Value) (t : TypeId) (o : Obj) (i g : Nat) (v : Value) (hg : g = W.heap.size) (h : xs[i]? = some v) : ((W.alloc (.cells xs t)).alloc o).cell? ⟨g, i, none⟩ = some v := by
  subst hg
  rw [World.cell?_alloc_lt _ _ _ (by simp), cell_of_row _ _ _ xs t (0, 0) (heap_alloc_new W _), h]

def tb : ByteArray := ⟨#[98]⟩
def ta : ByteArray := ⟨#[97]⟩
def ta1 : ByteArray := ⟨#[97, 49]⟩

theorem al_sorted (t : TypeId) (W : World) (g : Nat) (hg : g = W.heap.size) :
    Calls Try.prog 15 #[.slice (some ⟨g, 0, none⟩) 3 3] (W.alloc (.cells #[.string ⟨#[98]⟩, .string ⟨#[97]⟩, .string ⟨#[98]⟩] t)) fun e w' => ∃ b c, e = .returned (.slice (some ⟨b, 0, none⟩) 2 c) ∧ w'.cell? ⟨b, 0, none⟩ = some (.string ⟨#[97]⟩) ∧ b < w'.heap.size ∧ Below (W.heap.size + 1) (W.alloc (.cells #[.string ⟨#[98]⟩, .string ⟨#[97]⟩, .string ⟨#[98]⟩] t)) w' := by
  subst hg
  have h := sorted_any (some ⟨W.heap.size, 0, none⟩) 3 [tb, ta, tb] _ (sl_lit W #[.string ⟨#[98]⟩, .string ⟨#[97]⟩, .string ⟨#[98]⟩] t) (by decide)
  refine Calls.mono h ?_
  rintro e w' ⟨v, rfl, ho, hb⟩
  have e2 : sv [tb, ta, tb] = [[97], [98]] := by decide +kernel
  rw [e2] at ho
  rcases ho.2 with ⟨_, h0⟩ | ⟨b, cap, cur, rfl, hg, hh, hn, hc, hs, ht⟩
  · simp at h0
  · have hsl := own_slice ho
    obtain ⟨a, c, e1, _, _, hs2, _⟩ := hsl
    cases e1
    obtain ⟨b', o', e3, hlt, hcell⟩ := hs2 0 (by simp)
    cases e3
    exact ⟨b, cap, rfl, by simpa [encStr] using hcell, hlt, by simpa using hb⟩

theorem al_least (t : TypeId) (W : World) (g : Nat) (hg : g = W.heap.size) :
    Calls Try.prog 17 #[.slice (some ⟨g, 0, none⟩) 2 2] (W.alloc (.cells #[.string ⟨#[98]⟩, .string ⟨#[97, 49]⟩] t)) fun e w' => e = .returned (.tuple #[.string ⟨#[97, 49]⟩, .bool true]) ∧ (W.alloc (.cells #[.string ⟨#[98]⟩, .string ⟨#[97, 49]⟩] t)) = w' := by
  subst hg
  exact least_some (some ⟨W.heap.size, 0, none⟩) 2 tb [ta1] _ (sl_lit W #[.string ⟨#[98]⟩, .string ⟨#[97, 49]⟩] t) (by decide) (by decide) (by decide)

theorem al_all0 (W : World) : Calls Try.prog 12 #[.slice none 0 0] W fun e w' => e = .returned (.bool true) ∧ W = w' :=
  all_any none 0 [] W (Sl.nil _ _) ⟨by decide, by simp⟩
theorem al_all2 (t : TypeId) (W : World) (g : Nat) (hg : g = W.heap.size) :
    Calls Try.prog 12 #[.slice (some ⟨g, 0, none⟩) 2 2] (W.alloc (.cells #[.string ⟨#[97]⟩, .string ⟨#[45]⟩] t)) fun e w' => e = .returned (.bool false) ∧ (W.alloc (.cells #[.string ⟨#[97]⟩, .string ⟨#[45]⟩] t)) = w' := by
  subst hg
  exact all_any (some ⟨W.heap.size, 0, none⟩) 2 [ta, ⟨#[45]⟩] _ (sl_lit W #[.string ⟨#[97]⟩, .string ⟨#[45]⟩] t) ⟨by decide, by decide⟩

set_option maxHeartbeats 2000000 in
set_option maxRecDepth 100000 in
theorem alive_any (w : World) : Calls Try.prog 10 #[] w fun e w' => e = .returned (.bool true) ∧ Below w.heap.size w w' := by
  have r1 : ∀ W, Calls Try.prog 11 #[.string ⟨#[97, 48, 122]⟩] W fun e w' => e = .returned (.bool true) ∧ W = w' := fun W => right_any ⟨#[97, 48, 122]⟩ W (by decide)
  have r2 : ∀ W, Calls Try.prog 11 #[.string ⟨#[]⟩] W fun e w' => e = .returned (.bool false) ∧ W = w' := fun W => right_any ⟨#[]⟩ W (by decide)
  have r3 : ∀ W, Calls Try.prog 11 #[.string ⟨#[65]⟩] W fun e w' => e = .returned (.bool false) ∧ W = w' := fun W => right_any ⟨#[65]⟩ W (by decide)
  have c1 : ∀ W, Calls Try.prog 13 #[.string ⟨#[97]⟩, .string ⟨#[97, 98]⟩] W fun e w' => e = .returned (.int .i64 (-1)) ∧ W = w' := fun W => cmp_any ⟨#[97]⟩ ⟨#[97, 98]⟩ W
  have p1 : ∀ W, Calls Try.prog 19 #[.agg #[.string ⟨#[97]⟩, .string ⟨#[98]⟩]] W fun e w' => e = .returned (.bool true) ∧ Below W.heap.size W w' := fun W => pairRight_any ⟨#[97]⟩ ⟨#[98]⟩ W (by decide) (by decide)
  have p2 : ∀ W, Calls Try.prog 21 #[.agg #[.string ⟨#[97]⟩, .string ⟨#[98]⟩], .string ⟨#[98]⟩] W fun e w' => e = .returned (.bool true) ∧ Below W.heap.size W w' := fun W => by
    have h := pairHas_any ⟨#[97]⟩ ⟨#[98]⟩ ⟨#[98]⟩ W
    rw [(eqS_iff ⟨#[98]⟩ ⟨#[98]⟩).2 rfl, Bool.or_true] at h
    exact h
  have p3 : ∀ W, Calls Try.prog 20 #[.agg #[.string ⟨#[97]⟩, .string ⟨#[98]⟩], .agg #[.string ⟨#[97]⟩, .string ⟨#[97]⟩]] W fun e w' => e = .returned (.int .i64 1) ∧ Below W.heap.size W w' := fun W => pairCmp_any ⟨#[97]⟩ ⟨#[98]⟩ ⟨#[97]⟩ ⟨#[97]⟩ W
  have R1 := Lib.hid r1
  have R2 := Lib.hid r2
  have R3 := Lib.hid r3
  have C1 := Lib.hid c1
  have P1 := Lib.hid p1
  have P2 := Lib.hid p2
  have P3 := Lib.hid p3
  clear r1 r2 r3 c1 p1 p2 p3
  go_enter Try.func10, Try.ntmps10
  go_wp2_with fail
  refine (al_sorted _ w _ rfl).mono ?_
  rintro e w1 ⟨b, c, rfl, hcell, hbl, hB1⟩
  have hs1 := hB1.size
  simp at hs1
  go_wp2_with fail
  refine (al_least _ w1 _ rfl).mono ?_
  rintro e w2 ⟨rfl, rfl⟩
  go_wp2_with fail
  refine (least_none none 0 _).mono ?_
  rintro e w2 ⟨rfl, rfl⟩
  go_wp2_with fail
  refine (R1.out _).mono ?_
  rintro e w2 ⟨rfl, rfl⟩
  go_wp2_with fail
  refine (R2.out _).mono ?_
  rintro e w2 ⟨rfl, rfl⟩
  go_wp2_with fail
  refine (R3.out _).mono ?_
  rintro e w2 ⟨rfl, rfl⟩
  go_wp2_with fail
  refine (al_all0 _).mono ?_
  rintro e w2 ⟨rfl, rfl⟩
  go_wp2_with fail
  refine (al_all2 _ _ _ (by simp)).mono ?_
  rintro e w2 ⟨rfl, rfl⟩
  go_wp2_with fail
  refine (C1.out _).mono ?_
  rintro e w2 ⟨rfl, rfl⟩
  go_wp2_with fail
  refine (P1.out _).mono ?_
  rintro e w3 ⟨rfl, hB3⟩
  have q0 : w3.cell? ⟨w1.heap.size + 1, 0, none⟩ = some (.string ⟨#[97]⟩) := (hB3.cell (p := ⟨w1.heap.size + 1, 0, none⟩) (by simp)).trans (cell_mid _ _ _ _ _ _ _ (by simp) rfl)
  have q1 : w3.cell? ⟨w1.heap.size + 1, 1, none⟩ = some (.string ⟨#[98]⟩) := (hB3.cell (p := ⟨w1.heap.size + 1, 1, none⟩) (by simp)).trans (cell_mid _ _ _ _ _ _ _ (by simp) rfl)
  have hz3 : w1.heap.size + 1 < w3.heap.size := by have := hB3.size; simp at this; omega
  have HB3 : Hid (Below w.heap.size w w3) := by
    have b1 : Below w.heap.size w w1 := ((Below.refl _ _).alloc (Nat.le_refl _) _).trans (hB1.mono (by omega))
    exact (((b1.alloc (by omega) _).alloc (by simp; omega) _).alloc (by simp; omega) _).trans (hB3.mono (by simp; omega))
  clear hB3
  go_wp2_with fail
  refine (P2.out _).mono ?_
  rintro e w4 ⟨rfl, hB4⟩
  have s0 : w4.cell? ⟨w1.heap.size + 1, 0, none⟩ = some (.string ⟨#[97]⟩) := (hB4.cell (p := ⟨w1.heap.size + 1, 0, none⟩) hz3).trans q0
  have s1 : w4.cell? ⟨w1.heap.size + 1, 1, none⟩ = some (.string ⟨#[98]⟩) := (hB4.cell (p := ⟨w1.heap.size + 1, 1, none⟩) hz3).trans q1
  have HB4 : Hid (Below w.heap.size w w4 ∧ w.heap.size ≤ w4.heap.size) := ⟨HB3.out.trans (hB4.mono HB3.out.size), Nat.le_trans HB3.out.size hB4.size⟩
  clear hB4 q0 q1
  go_wp2_with fail
  refine (P3.out _).mono ?_
  rintro e w5 ⟨rfl, hB5⟩
  go_wp2
  go_ret
  exact ⟨rfl, HB4.out.1.trans (hB5.mono HB4.out.2)⟩
end Go.Proofs.Ythcjkobopobokaa
