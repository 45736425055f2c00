/- Contracts of layer 3: the document's own entries, steps, sums. -/
import Derived.Test.YtkfddmbhokeofaaC3
namespace Go.Proofs.Ytkfddmbhokeofaa
open Go.RowKit
set_option linter.unusedVariables false

set_option maxHeartbeats 1000000 in
theorem refEntry_any (c : Nat) (h : c < 256) (w : World) :
    Calls Try.prog 46 #[.int .i64 c] w fun e w' => e = .returned (.int .i64 (entryN c : Int)) ∧ w = w' := by
  have HD := Lib.hid differ_any
  go_enter Try.func46, Try.ntmps46
  go_wp2
  go_loopw [3, 4, 5] (fun v i l wr => ∃ j : Nat, j ≤ 8 ∧ i = .int .i64 j ∧ v = .int .i64 (turnsN j c : Int) ∧ w = wr) (fun _ i _ _ => 8 - (intOf i).toNat)
  case atStart => exact ⟨0, by omega, rfl, rfl, rfl⟩
  case round =>
    obtain ⟨j, hj, rfl, rfl, rfl⟩ := hrel
    by_cases hj8 : j < 8
    · have hlt : turnsN j c < 4294967296 := turnsN_lt (by omega) j
      have HN : Hid (turnN (turnsN j c) = turnsN (j + 1) c) := rfl
      generalize turnsN j c = m at *
      have e1 := tm2 m
      have e2 := td2 m
      have hq : m / 2 < 4294967296 := by omega
      have H1 := Lib.hid (HD.out (m / 2) 2197175160 hq (by decide))
      rcases Nat.mod_two_eq_zero_or_one m with hm | hm
      · have HE : Hid (turnN m = m / 2) := by
          unfold Hid turnN
          rw [if_neg (by omega)]
        rw [hm] at e1
        clear hm
        generalize m / 2 = q at *
        go_wp2
        go_roundw
        case rel => exact ⟨j + 1, by omega, by go_num, by rw [← HN.out, HE.out], by trivial⟩
        case measure => simp [intOf]; omega
      · have HE : Hid (turnN m = m / 2 ^^^ 2197175160) := by
          unfold Hid turnN
          rw [if_pos hm]
        rw [hm] at e1
        clear hm
        generalize m / 2 = q at *
        go_wp2_with fail
        refine (H1.out _).mono ?_
        rintro e w' ⟨rfl, rfl⟩
        go_wp2
        go_roundw
        case rel => exact ⟨j + 1, by omega, by go_num, by rw [← HN.out, HE.out], by trivial⟩
        case measure => simp [intOf]; omega
    · obtain rfl : j = 8 := by omega
      go_wp2
      go_ret
      exact ⟨rfl, rfl⟩

set_option maxHeartbeats 1000000 in
theorem refStep_any (s c : Nat) (hs : s < 4294967296) (hc : c < 256) (w : World) :
    Calls Try.prog 39 #[.int .i64 s, .int .i64 c] w fun e w' => e = .returned (.int .i64 (stepN s c : Int)) ∧ w = w' := by
  have HE : Hid (stepN s c = (s / 256) ^^^ entryN ((s % 256) ^^^ c)) := rfl
  have hx := xor8 (show s % 256 < 256 by omega) hc
  have H1 := Lib.hid (differ_any (s % 256) c (by omega) (by omega))
  have H2 := Lib.hid (refEntry_any ((s % 256) ^^^ c) hx)
  have H3 := Lib.hid (differ_any (s / 256) (entryN ((s % 256) ^^^ c)) (by omega) (entryN_lt hx))
  have e1 := td256 s
  have e2 := tm256 s
  have hq : s / 256 < 4294967296 := by omega
  have hr : s % 256 < 256 := by omega
  generalize s / 256 = q at *
  generalize s % 256 = r at *
  generalize r ^^^ c = x at *
  generalize entryN x = y at *
  clear hx
  go_enter Try.func39, Try.ntmps39
  go_wp2_with fail
  refine (H1.out _).mono ?_
  rintro e w' ⟨rfl, rfl⟩
  go_wp2_with fail
  refine (H2.out _).mono ?_
  rintro e w' ⟨rfl, rfl⟩
  go_wp2_with fail
  refine (H3.out _).mono ?_
  rintro e w' ⟨rfl, rfl⟩
  go_wp2
  go_ret
  exact ⟨retI (by rw [HE.out]), rfl⟩

theorem goN_take (s : ByteArray) (j : Nat) (hj : j < s.size) (n : Nat) : stepN (goN n ((toL s).take j)) (s[j]'hj).toNat = goN n ((toL s).take (j + 1)) := by
  have e : (toL s).take (j + 1) = (toL s).take j ++ [s[j]'hj] := by
    rw [List.take_add_one]
    have h' : j < s.data.size := hj
    have : (toL s)[j]? = some (s[j]'hj) := by
      unfold toL
      rw [Array.getElem?_toList, Array.getElem?_eq_getElem h']
      rfl
    rw [this]; rfl
  rw [e, goN_snoc]

set_option maxHeartbeats 1000000 in
theorem refSum_any (s : ByteArray) (hs : s.size ≤ 100000) (w : World) :
    Calls Try.prog 31 #[.string s] w fun e w' => e = .returned (.int .i64 (sumN (toL s) : Int)) ∧ w = w' := by
  have HS := Lib.hid refStep_any
  have HF : Hid ((toL s).take s.size = toL s) := List.take_of_length_le (by rw [toL_length]; exact Nat.le_refl _)
  go_enter Try.func31, Try.ntmps31
  go_wp2
  go_loopw [3, 4] (fun v i wr => ∃ j : Nat, j ≤ s.size ∧ i = .int .i64 j ∧ v = .int .i64 (goN 4294967295 ((toL s).take j) : Int) ∧ w = wr) (fun _ i _ => s.size - (intOf i).toNat)
  case atStart => exact ⟨0, by omega, rfl, rfl, rfl⟩
  case round =>
    obtain ⟨j, hj, rfl, rfl, rfl⟩ := hrel
    have hlt : goN 4294967295 ((toL s).take j) < 4294967296 := goN_lt _ (by decide)
    by_cases hjs : j < s.size
    · have HN := Lib.hid (goN_take s j hjs 4294967295)
      generalize goN 4294967295 ((toL s).take j) = m at *
      have hc : (s[j]'hjs).toNat < 256 := (s[j]'hjs).toNat_lt
      have H1 := Lib.hid (HS.out m _ hlt hc)
      go_wp2_with fail
      refine (H1.out _).mono ?_
      rintro e w' ⟨rfl, rfl⟩
      go_wp2
      go_roundw
      case rel => exact ⟨j + 1, by omega, by go_num, by rw [← HN.out], by trivial⟩
      case measure => simp [intOf]; omega
    · obtain rfl : j = s.size := by omega
      have HE : Hid (sumN (toL s) = 4294967295 - goN 4294967295 ((toL s).take s.size)) := by
        unfold Hid
        rw [ones_sub _ hlt, HF.out]; rfl
      generalize goN 4294967295 ((toL s).take s.size) = m at *
      go_wp2
      go_ret
      exact ⟨retI (by rw [HE.out]; omega), rfl⟩
end Go.Proofs.Ytkfddmbhokeofaa
