/- Contracts of layer 3: a turn, an entry, a step; the document's own bits, entries, steps, sums. -/
import Derived.Test.YtollhemkjnkalaaDoorC1
namespace Go.Proofs.YtollhemkjnkalaaDoor
open Go.RowKit
set_option linter.unusedVariables false
set_option maxRecDepth 100000

set_option maxHeartbeats 400000 in
theorem turn_any (n : Nat) (h : n < 4294967296) (w : World) :
    Calls Tryd.prog 94 #[.int .u32 n] w fun e w' => e = .returned (.int .u32 (turnN n : Int)) ∧ w = w' := by
  have e1 := b_and1 n h
  have e2 : (n : Int) / 2 = ((n / 2 : Nat) : Int) := by omega
  have e3 := b_poly (n / 2) (by omega)
  rcases Nat.mod_two_eq_zero_or_one n with hm | hm
  · have HE : Hid (turnN n = n / 2) := by
      unfold Hid turnN
      rw [if_neg (by omega)]
    rw [hm] at e1
    generalize n / 2 = q at *
    go_enter Tryd.func94, Tryd.ntmps94
    go_wp2
    go_ret
    exact ⟨retI (by rw [HE.out]), rfl⟩
  · have HE : Hid (turnN n = n / 2 ^^^ 2197175160) := by
      unfold Hid turnN
      rw [if_pos hm]
    rw [hm] at e1
    generalize n / 2 = q at *
    go_enter Tryd.func94, Tryd.ntmps94
    go_wp2
    go_ret
    exact ⟨retI (by rw [HE.out]), rfl⟩

set_option maxHeartbeats 400000 in
theorem entry_any (c : Nat) (h : c < 256) (w : World) :
    Calls Tryd.prog 85 #[.int .u8 c] w fun e w' => e = .returned (.int .u32 (entryN c : Int)) ∧ w = w' := by
  have HT := Lib.hid turn_any
  go_enter Tryd.func85, Tryd.ntmps85
  go_wp2
  go_loopw [3, 6] (fun v i wr => ∃ j : Nat, j ≤ 8 ∧ i = .int .i64 j ∧ v = .int .u32 (turnsN j c : Int) ∧ w = wr) (fun _ i _ => 8 - (intOf i).toNat)
  case atStart => exact ⟨0, by omega, rfl, rfl, rfl⟩
  case round =>
    obtain ⟨j, hj, rfl, rfl, rfl⟩ := hrel
    have hlt : turnsN j c < 4294967296 := turnsN_lt (by omega) j
    have HN : Hid (turnN (turnsN j c) = turnsN (j + 1) c) := rfl
    by_cases hj8 : j < 8
    · generalize turnsN j c = m at *
      go_wp2_with (go_at_call 94; refine (HT.out m hlt _).mono ?_; rintro e w' ⟨rfl, rfl⟩)
      go_roundw
      case rel => exact ⟨j + 1, by omega, by go_num, by rw [← HN.out], by trivial⟩
      case measure => simp [intOf]; omega
    · obtain rfl : j = 8 := by omega
      go_wp2
      go_ret
      exact ⟨rfl, rfl⟩
end Go.Proofs.YtollhemkjnkalaaDoor
