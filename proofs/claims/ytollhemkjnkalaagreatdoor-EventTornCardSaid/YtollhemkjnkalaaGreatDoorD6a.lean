/- Contracts: texts read as hexadecimal numbers, in the program and in the document's own way. -/
import Derived.Test.YtollhemkjnkalaaGreatDoorD5
namespace Go.Proofs.YtollhemkjnkalaaGreatDoor
open Go.RowKit Go.Shelf
set_option linter.unusedVariables false
set_option maxRecDepth 100000

set_option maxHeartbeats 400000 in
theorem value_any (c : UInt8) (w : World) :
    Calls Tryz.prog 86 #[.int .u8 (c.toNat : Int)] w fun e w' => e = .returned (.int .i64 (hexV c)) ∧ w = w' := by
  have hb : 0 ≤ (c.toNat : Int) ∧ (c.toNat : Int) ≤ 255 := ⟨by omega, by have := c.toNat_lt; omega⟩
  have HE : Hid (hexV c = if 48 ≤ (c.toNat : Int) ∧ (c.toNat : Int) ≤ 57 then (c.toNat : Int) - 48 else if 97 ≤ (c.toNat : Int) ∧ (c.toNat : Int) ≤ 102 then (c.toNat : Int) - 87 else -1) := by
    unfold Hid hexV
    (repeat' split) <;> omega
  generalize (c.toNat : Int) = n at *
  go_enter Tryz.func86, Tryz.ntmps86
  go_wp2
  all_goals go_ret
  all_goals refine ⟨retI ?_, rfl⟩
  all_goals rw [HE.out]
  all_goals (repeat' split) <;> omega

theorem optV_none : optV none = .tuple #[.int .i64 0, .bool false] := rfl
theorem unhex_short (s : ByteArray) (h : s.size < 1 ∨ 12 < s.size) : unhexL s.data.toList = none := by
  unfold unhexL
  have : s.data.toList.length = s.size := by simp
  rw [this, if_neg (by omega)]
theorem unhex_long (s : ByteArray) (h1 : 1 ≤ s.size) (h2 : s.size ≤ 12) : unhexL s.data.toList = numF hexV 16 281474976710655 s.data.toList 0 := by
  unfold unhexL
  have : s.data.toList.length = s.size := by simp
  rw [this, if_pos ⟨h1, h2⟩]; rfl

set_option maxHeartbeats 400000 in
theorem unhex_any (s : ByteArray) (w : World) (hs : s.size ≤ maxLen) :
    Calls Tryz.prog 70 #[.string s] w fun e w' => e = .returned (optV (unhexL s.data.toList)) ∧ Drew w w' := by
  have HC := Lib.hid (numberHex s 281474976710655 (by decide) (by decide) w hs)
  unfold maxLen at hs
  by_cases h1 : s.size < 1 ∨ 12 < s.size
  · have HE := Lib.hid (unhex_short s h1)
    by_cases h0 : s.size < 1
    all_goals
      go_enter Tryz.func70, Tryz.ntmps70
      go_wp2
      all_goals first | omega | (go_ret2; exact ⟨by rw [HE.out]; rfl, Drew.refl _⟩)
  · have h2 : 1 ≤ s.size := by omega
    have h3 : s.size ≤ 12 := by omega
    clear h1
    have HE := Lib.hid (unhex_long s h2 h3)
    rw [← HE.out] at HC
    unfold optV at HC
    generalize ho : unhexL s.data.toList = o at *
    clear ho
    go_enter Tryz.func70, Tryz.ntmps70
    go_wp2_with (go_at_call 84; refine HC.out.mono ?_; rintro e w' ⟨rfl, HD⟩)
    go_ret2
    exact ⟨rfl, HD⟩

theorem pow_next16 (n v : Int) (k : Nat) (h : n < ((16 ^ k : Nat) : Int)) (hv : v < 16) : 16 * n + v < ((16 ^ (k + 1) : Nat) : Int) := by
  rw [pow16]; omega

set_option maxHeartbeats 1000000 in
theorem refUnhex_any (s : ByteArray) (w : World) (hs : s.size ≤ maxLen) :
    Calls Tryz.prog 72 #[.string s] w fun e w' => e = .returned (optV (unhexL s.data.toList)) ∧ w = w' := by
  unfold maxLen at hs
  by_cases h1 : s.size < 1 ∨ 12 < s.size
  · have HE := Lib.hid (unhex_short s h1)
    by_cases h0 : s.size < 1
    all_goals
      go_enter Tryz.func72, Tryz.ntmps72
      go_wp2
      all_goals first | omega | (go_ret2; exact ⟨by rw [HE.out]; rfl, rfl⟩)
  · have h2 : 1 ≤ s.size := by omega
    have h3 : s.size ≤ 12 := by omega
    clear h1
    have HE := Lib.hid (unhex_long s h2 h3)
    go_enter Tryz.func72, Tryz.ntmps72
    go_wp2
    go_loop [4, 5] (fun v i => ∃ (k : Nat) (n : Int), k ≤ s.size ∧ i = .int .i64 k ∧ v = .int .i64 n ∧ 0 ≤ n ∧ Hid (n < ((16 ^ k : Nat) : Int)) ∧ Hid (unhexL s.data.toList = numF hexV 16 281474976710655 (s.data.toList.drop k) n)) (fun _ i => s.size - (intOf i).toNat)
    case atStart => exact ⟨0, 0, by omega, rfl, rfl, by omega, by unfold Hid; decide, HE.out⟩
    case round =>
      obtain ⟨k, n, hk, rfl, rfl, hn0, HP, H⟩ := hrel
      by_cases hlt : k < s.size
      · have HB := Lib.hid (H.out.trans (congrArg (fun l => numF hexV 16 281474976710655 l n) (drop_at s k hlt)))
        have hlo := hexV_ge s[k]
        have hhi := hexV_lt s[k]
        have HP2 := Lib.hid (pow_next16 n (hexV s[k]) k HP.out hhi)
        have hp := pow12 (k + 1) (by omega)
        have hmost : 16 * n + hexV s[k] ≤ 281474976710655 := by have := HP2.out; omega
        clear hp
        have HC := Lib.hid (fun W => value_any s[k] W)
        by_cases hneg : hexV s[k] < 0
        · have HF := Lib.hid (HB.out.trans (numF_bad hexV 16 281474976710655 s[k] _ n hneg))
          generalize hexV s[k] = v at *
          go_wp2_with (go_at_call 86; refine (HC.out _).mono ?_; rintro e w' ⟨rfl, rfl⟩)
          go_ret2
          exact ⟨by rw [HF.out]; rfl, rfl⟩
        · have HF := Lib.hid (HB.out.trans (numF_next hexV 16 281474976710655 s[k] _ n hneg (by omega)))
          generalize hexV s[k] = v at *
          go_wp2_with (go_at_call 86; refine (HC.out _).mono ?_; rintro e w' ⟨rfl, rfl⟩)
          go_round
          case rel => exact ⟨k + 1, 16 * n + v, by omega, by go_num, rfl, by omega, HP2, HF⟩
          case measure => simp [intOf]; omega
      · have HB : Hid (unhexL s.data.toList = some n) := by unfold Hid; rw [H.out, drop_all s k (by omega)]; rfl
        go_wp2
        go_ret2
        exact ⟨by rw [HB.out]; rfl, rfl⟩
end Go.Proofs.YtollhemkjnkalaaGreatDoor
