/- Contracts of layer 3: the document's own bits, entries, steps, sums. -/
import Derived.Test.YtkfddmbhokeofaaC2
namespace Go.Proofs.Ytkfddmbhokeofaa
open Go.RowKit
set_option linter.unusedVariables false

theorem tm2 (m : Nat) : (m : Int).tmod 2 = ((m % 2 : Nat) : Int) := by
  rw [Int.tmod_eq_emod_of_nonneg (by omega)]; omega
theorem td2 (m : Nat) : (m : Int).tdiv 2 = ((m / 2 : Nat) : Int) := by
  rw [Int.tdiv_eq_ediv_of_nonneg (by omega)]; omega
theorem tm256 (m : Nat) : (m : Int).tmod 256 = ((m % 256 : Nat) : Int) := by
  rw [Int.tmod_eq_emod_of_nonneg (by omega)]; omega
theorem td256 (m : Nat) : (m : Int).tdiv 256 = ((m / 256 : Nat) : Int) := by
  rw [Int.tdiv_eq_ediv_of_nonneg (by omega)]; omega
theorem div2_next (n k : Nat) : n / 2 ^ k / 2 = n / 2 ^ (k + 1) := by rw [Nat.div_div_eq_div_mul, Nat.pow_succ]

set_option maxHeartbeats 400000 in
theorem bit_any (n k : Nat) (hn : n < 4294967296) (hk : k ≤ 32) (w : World) :
    Calls Try.prog 49 #[.int .i64 n, .int .i64 k] w fun e w' => e = .returned (.int .i64 ((n / 2 ^ k % 2 : Nat) : Int)) ∧ w = w' := by
  go_enter Try.func49, Try.ntmps49
  go_wp2
  go_loopw [0, 5] (fun v i wr => ∃ j : Nat, j ≤ k ∧ i = .int .i64 j ∧ v = .int .i64 ((n / 2 ^ j : Nat) : Int) ∧ w = wr) (fun _ i _ => k - (intOf i).toNat)
  case atStart => exact ⟨0, by omega, rfl, by simp, rfl⟩
  case round =>
    obtain ⟨j, hj, rfl, rfl, rfl⟩ := hrel
    have hm : n / 2 ^ j < 4294967296 := Nat.lt_of_le_of_lt (Nat.div_le_self _ _) hn
    by_cases hlt : j < k
    · have HN := Lib.hid (div2_next n j)
      generalize n / 2 ^ j = m at *
      have e2 := td2 m
      have hq : m / 2 < 4294967296 := by omega
      generalize m / 2 = q at *
      go_wp2
      go_roundw
      case rel => exact ⟨j + 1, by omega, by go_num, by rw [← HN.out], by trivial⟩
      case measure => simp [intOf]; omega
    · obtain rfl : j = k := by omega
      have e2 := tm2 (n / 2 ^ j)
      obtain ⟨q, hq⟩ : ∃ q, n / 2 ^ j % 2 = q := ⟨_, rfl⟩
      have HQ := Lib.hid hq
      rw [hq] at e2
      clear hq
      generalize hm' : n / 2 ^ j = m at e2 hm ⊢
      have HM := Lib.hid hm'
      clear hm'
      go_wp2
      go_ret
      exact ⟨retI (by rw [← HQ.out]), rfl⟩

theorem pow_le32 (j : Nat) (h : j ≤ 32) : 2 ^ j ≤ 4294967296 := Nat.pow_le_pow_right (n := 2) (j := 32) (by decide) h
set_option maxHeartbeats 1000000 in
theorem differ_any (a b : Nat) (ha : a < 4294967296) (hb : b < 4294967296) (w : World) :
    Calls Try.prog 45 #[.int .i64 a, .int .i64 b] w fun e w' => e = .returned (.int .i64 ((a ^^^ b : Nat) : Int)) ∧ w = w' := by
  have HF : Hid ((a ^^^ b) % 2 ^ 32 = a ^^^ b) := Nat.mod_eq_of_lt (xor32 ha hb)
  have HA := Lib.hid (fun j h => bit_any a j ha h)
  have HB := Lib.hid (fun j h => bit_any b j hb h)
  go_enter Try.func45, Try.ntmps45
  go_wp2
  go_loopw [5, 6, 7] (fun o p i wr => ∃ j : Nat, j ≤ 32 ∧ i = .int .i64 j ∧ p = .int .i64 ((2 ^ j : Nat) : Int) ∧ o = .int .i64 (((a ^^^ b) % 2 ^ j : Nat) : Int) ∧ w = wr) (fun _ _ i _ => 32 - (intOf i).toNat)
  case atStart => exact ⟨0, by omega, rfl, rfl, by simp [Nat.mod_one], rfl⟩
  case round =>
    obtain ⟨j, hj, rfl, rfl, rfl, rfl⟩ := hrel
    by_cases hlt : j < 32
    · have HN := Lib.hid (bits_next (a ^^^ b) j)
      have HD := Lib.hid (bit_differ a b j)
      have HP : Hid (2 ^ j * 2 = 2 ^ (j + 1)) := (Nat.pow_succ 2 j).symm
      have hp := pow_le32 j (by omega)
      have hq : (a ^^^ b) % 2 ^ j < 2 ^ j := Nat.mod_lt _ (Nat.pow_pos (by decide))
      have H1 := Lib.hid (HA.out j (by omega))
      have H2 := Lib.hid (HB.out j (by omega))
      clear HA HB
      generalize (a ^^^ b) / 2 ^ j % 2 = z at *
      generalize (a ^^^ b) % 2 ^ j = o at *
      by_cases hne : a / 2 ^ j % 2 = b / 2 ^ j % 2
      · have HE : Hid ((a ^^^ b) % 2 ^ (j + 1) = o) := by
          unfold Hid
          rw [HN.out, if_neg (fun h => HD.out.1 h hne)]; simp
        generalize a / 2 ^ j % 2 = x at *
        generalize b / 2 ^ j % 2 = y at *
        subst hne
        clear HN HD
        generalize 2 ^ j = p at *
        go_wp2_with fail
        refine (H1.out _).mono ?_
        rintro e w' ⟨rfl, rfl⟩
        go_wp2_with fail
        refine (H2.out _).mono ?_
        rintro e w' ⟨rfl, rfl⟩
        go_wp2
        go_roundw
        case rel => exact ⟨j + 1, by omega, by go_num, by rw [← HP.out]; congr 1; omega, by rw [HE.out], by trivial⟩
        case measure => simp [intOf]; omega
      · have HE : Hid ((a ^^^ b) % 2 ^ (j + 1) = o + 2 ^ j) := by
          unfold Hid
          rw [HN.out, if_pos (HD.out.2 hne)]
        generalize a / 2 ^ j % 2 = x at *
        generalize b / 2 ^ j % 2 = y at *
        have hxy : ((x : Int) == (y : Int)) = false := beq_eq_false_iff_ne.2 (by omega)
        clear HN HD
        generalize 2 ^ j = p at *
        go_wp2_with fail
        refine (H1.out _).mono ?_
        rintro e w' ⟨rfl, rfl⟩
        go_wp2_with fail
        refine (H2.out _).mono ?_
        rintro e w' ⟨rfl, rfl⟩
        go_wp2
        go_roundw
        case rel => exact ⟨j + 1, by omega, by go_num, by rw [← HP.out]; congr 1; omega, by rw [HE.out]; congr 1, by trivial⟩
        case measure => simp [intOf]; omega
    · obtain rfl : j = 32 := by omega
      go_wp2
      go_ret
      exact ⟨retI (by rw [HF.out]), rfl⟩
end Go.Proofs.Ytkfddmbhokeofaa
