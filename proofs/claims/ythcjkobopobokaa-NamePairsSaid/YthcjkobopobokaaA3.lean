/- A slice that reads as a row of values; contracts of All and Least over such rows. -/
import Derived.Test.YthcjkobopobokaaA2
import Derived.Below
import Derived.WalkSmall
namespace Go.Proofs.Ythcjkobopobokaa
open Go.RowKit
set_option linter.unusedVariables false

/-- the slice that begins at a (if it has any element) holds the values xs, one cell each -/
def Sl (w : World) (a : Option Addr) (xs : List Value) : Prop :=
  ∀ k (h : k < xs.length), ∃ b off, a = some ⟨b, off, none⟩ ∧ b < w.heap.size ∧ w.cell? ⟨b, off + k, none⟩ = some xs[k]
theorem Sl.below {w w' : World} {a : Option Addr} {xs : List Value} (h : Sl w a xs) (hb : Below w.heap.size w w') : Sl w' a xs := fun k hk => by
  obtain ⟨b, off, e, hlt, hc⟩ := h k hk
  exact ⟨b, off, e, Nat.lt_of_lt_of_le hlt hb.size, (hb.cell (p := ⟨b, off + k, none⟩) hlt).trans hc⟩
theorem Sl.drewN {w : World} {a : Option Addr} {xs : List Value} (h : Sl w a xs) (n : Nat) : Sl (w.drewN n) a xs := h
theorem Sl.nil (w : World) (a : Option Addr) : Sl w a [] := fun k hk => absurd hk (by simp)

/-- the values of texts -/
def strs (l : List ByteArray) : List Value := l.map .string
theorem strs_length (l : List ByteArray) : (strs l).length = l.length := by simp [strs]
theorem Sl.str {w : World} {a : Option Addr} {l : List ByteArray} (h : Sl w a (strs l)) {k : Nat} (hk : k < l.length) :
    ∃ b off, a = some ⟨b, off, none⟩ ∧ b < w.heap.size ∧ w.cell? ⟨b, off + k, none⟩ = some (.string l[k]) := by
  obtain ⟨b, off, e, hlt, hc⟩ := h k (by rw [strs_length]; exact hk)
  exact ⟨b, off, e, hlt, by rw [hc]; simp [strs]⟩

def nameB (s : ByteArray) : Bool := isName s.data.toList
/-- texts that a machine can hold -/
def Fits (l : List ByteArray) : Prop := l.length ≤ maxLen ∧ ∀ s ∈ l, s.size ≤ maxLen

theorem all_take_next (p : ByteArray → Bool) (l : List ByteArray) (k : Nat) (h : k < l.length) (h1 : (l.take k).all p = true) (h2 : p l[k] = true) : (l.take (k + 1)).all p = true := by
  rw [List.take_succ_eq_append_getElem h, List.all_append, h1]
  simp only [List.all_cons, List.all_nil, Bool.and_true, Bool.true_and]
  exact h2
theorem all_not_at (p : ByteArray → Bool) (l : List ByteArray) (k : Nat) (h : k < l.length) (h2 : p l[k] = false) : l.all p = false := by
  rw [List.all_eq_false]
  exact ⟨l[k], List.getElem_mem h, by simp [h2]⟩
theorem all_take_end (p : ByteArray → Bool) (l : List ByteArray) (k : Nat) (h : l.length ≤ k) (h1 : (l.take k).all p = true) : l.all p = true := by
  rwa [List.take_of_length_le h] at h1

set_option maxHeartbeats 400000 in
theorem all_any (a : Option Addr) (c : Nat) (l : List ByteArray) (w : World) (hr : Sl w a (strs l)) (hf : Fits l) :
    Calls Try.prog 12 #[.slice a l.length c] w fun e w' => e = .returned (.bool (l.all nameB)) ∧ w = w' := by
  have hm := hf.1
  unfold maxLen at hm
  have HR := Lib.hid hr
  have HF := Lib.hid hf
  clear hr hf
  go_enter Try.func12, Try.ntmps12
  go_wp2
  go_loop [7] (fun i => ∃ k : Nat, k ≤ l.length ∧ i = .int .i64 k ∧ Hid ((l.take k).all nameB = true)) (fun i => l.length - (intOf i).toNat)
  case atStart => exact ⟨0, by omega, rfl, by simp [Hid]⟩
  case round =>
    obtain ⟨k, hk, rfl, H⟩ := hrel
    by_cases hlt : k < l.length
    · obtain ⟨b, off, rfl, hbl, hcell⟩ := HR.out.str hlt
      have hsz : l[k].size ≤ maxLen := HF.out.2 _ (List.getElem_mem hlt)
      cases hB : isName l[k].data.toList
      · have HB := Lib.hid (all_not_at nameB l k hlt hB)
        go_wp2_with (go_at_call 11; refine (right_any _ _ hsz).mono ?_; rintro e w' ⟨rfl, rfl⟩)
        go_ret
        exact ⟨retB HB.out.symm, rfl⟩
      · have HB := Lib.hid (all_take_next nameB l k hlt H.out hB)
        go_wp2_with (go_at_call 11; refine (right_any _ _ hsz).mono ?_; rintro e w' ⟨rfl, rfl⟩)
        go_round
        case rel => exact ⟨k + 1, by omega, by go_num, HB⟩
        case measure => simp [intOf]; omega
    · have HB := Lib.hid (all_take_end nameB l k (by omega) H.out)
      go_wp2
      go_ret
      exact ⟨retB HB.out.symm, rfl⟩

/-- the lesser one of two texts, the first one where they are the same -/
def lesser (m s : ByteArray) : ByteArray := if Lib.compareBytes s.data.toList m.data.toList < 0 then s else m
/-- the least of a row that is not empty -/
def leastOf (l : List ByteArray) : ByteArray := l.tail.foldl lesser (l.headD ByteArray.empty)
theorem fold_take_next (l : List ByteArray) (m : ByteArray) (k : Nat) (h : k < l.length) : (l.take (k + 1)).foldl lesser m = lesser ((l.take k).foldl lesser m) l[k] := by
  rw [List.take_succ_eq_append_getElem h, List.foldl_append]; rfl
theorem fold_take_end (l : List ByteArray) (m : ByteArray) (k : Nat) (h : l.length ≤ k) : (l.take k).foldl lesser m = l.foldl lesser m := by rw [List.take_of_length_le h]

theorem least_none (a : Option Addr) (c : Nat) (w : World) :
    Calls Try.prog 17 #[.slice a 0 c] w fun e w' => e = .returned (.tuple #[.string ByteArray.empty, .bool false]) ∧ w = w' := by
  go_enter Try.func17, Try.ntmps17
  go_wp2
  go_ret2
  exact ⟨rfl, rfl⟩

set_option maxHeartbeats 1000000 in
theorem least_some (a : Option Addr) (c : Nat) (x : ByteArray) (l : List ByteArray) (w : World) (hr : Sl w a (strs (x :: l))) (hm : l.length + 1 ≤ maxLen) (hc : l.length + 1 ≤ c) (hc2 : c ≤ maxLen) :
    Calls Try.prog 17 #[.slice a (l.length + 1) c] w fun e w' => e = .returned (.tuple #[.string (leastOf (x :: l)), .bool true]) ∧ w = w' := by
  unfold maxLen at hm hc2
  obtain ⟨b, off, rfl, hbl, hcell⟩ := hr.str (k := 0) (by simp)
  have hr1 : ∀ k (h : k < l.length), w.cell? ⟨b, off + 1 + k, none⟩ = some (.string l[k]) := fun k h => by
    obtain ⟨b', off', e, _, hc'⟩ := hr.str (k := k + 1) (by simpa using h)
    cases e
    rw [show off + 1 + k = off + (k + 1) by omega]
    simpa using hc'
  have HR := Lib.hid hr1
  clear hr hr1
  simp only [List.getElem_cons_zero, Nat.add_zero] at hcell
  by_cases hcap : c = 1
  · subst hcap
    have : l = [] := List.eq_nil_of_length_eq_zero (by omega)
    subst this
    simp only [List.length_nil, Nat.zero_add]
    go_enter Try.func17, Try.ntmps17
    go_wp2
    refine wp_loop_rounds 1 ?_
    rw [rounds_succ]
    go_wp2
    go_ret2
    exact ⟨rfl, rfl⟩
  · have h9 : ((l.length : Int) + 1 == 0) = false := beq_eq_false_iff_ne.2 (by omega)
    go_enter Try.func17, Try.ntmps17
    go_wp2
    go_loop [4, 16] (fun m i => ∃ k : Nat, k ≤ l.length ∧ i = .int .i64 k ∧ m = .string ((l.take k).foldl lesser x)) (fun _ i => l.length - (intOf i).toNat)
    case atStart => exact ⟨0, by omega, rfl, rfl⟩
    case round =>
      obtain ⟨k, hk, rfl, rfl⟩ := hrel
      by_cases hlt : k < l.length
      · have hcell1 := HR.out k hlt
        have HN := Lib.hid (fold_take_next l x k hlt)
        generalize hM : (l.take k).foldl lesser x = m at *
        clear hM
        by_cases hB : Lib.compareBytes l[k].data.toList m.data.toList < 0
        · have HB := Lib.hid (HN.out.trans (if_pos hB))
          go_wp2_with (go_at_call 13; refine (cmp_any _ _ _).mono ?_; rintro e w' ⟨rfl, rfl⟩)
          go_round
          case rel => exact ⟨k + 1, by omega, by go_num, by rw [HB.out]⟩
          case measure => simp [intOf]; omega
        · have HB := Lib.hid (HN.out.trans (if_neg hB))
          go_wp2_with (go_at_call 13; refine (cmp_any _ _ _).mono ?_; rintro e w' ⟨rfl, rfl⟩)
          go_round
          case rel => exact ⟨k + 1, by omega, by go_num, by rw [HB.out]⟩
          case measure => simp [intOf]; omega
      · have HB := Lib.hid (fold_take_end l x k (by omega))
        go_wp2
        go_ret2
        exact ⟨by rw [HB.out]; rfl, rfl⟩
end Go.Proofs.Ythcjkobopobokaa
