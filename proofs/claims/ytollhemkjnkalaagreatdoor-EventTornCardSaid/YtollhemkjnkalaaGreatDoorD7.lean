/- Contracts: decimal texts read, in the program and in the document's own way. -/
import Derived.Test.YtollhemkjnkalaaGreatDoorD6
namespace Go.Proofs.YtollhemkjnkalaaGreatDoor
open Go.RowKit Go.Shelf
set_option linter.unusedVariables false
set_option maxRecDepth 100000

theorem toList_data (s : ByteArray) : s.toList = s.data.toList := ByteArray.toList_eq s
theorem head_at (s : ByteArray) (h : 0 < s.size) : s.data.toList.head? = some s[0] := by
  have := drop_at s 0 h
  rw [List.drop_zero] at this
  rw [this]; rfl
theorem undec_empty (s : ByteArray) (h : s.size = 0) : undecL s.data.toList = none := by
  have : s.data.toList = [] := List.eq_nil_of_length_eq_zero (by simpa using h)
  rw [this]; exact undec_nil
theorem undec_nought (s : ByteArray) (h : 0 < s.size) (h0 : ((s[0].toNat : Int) == 48) = true) (h1 : (s.toList == [48]) = false) : undecL s.data.toList = none := by
  unfold undecL
  rw [if_pos]
  refine .inr ⟨?_, ?_⟩
  · rw [head_at s h]
    have := eq_of_beq h0
    congr 1
    exact UInt8.toNat_inj.1 (by show s[0].toNat = 48; omega)
  · rw [toList_data] at h1
    simpa using h1
theorem undec_num (s : ByteArray) (h : 0 < s.size) (h0 : ((s[0].toNat : Int) == 48) = false ∨ (s.toList == [48]) = true) : undecL s.data.toList = numF decV 10 1099511627776 s.data.toList 0 := by
  unfold undecL
  rw [if_neg]
  · rfl
  · rintro (e | ⟨e1, e2⟩)
    · have hl : s.data.toList.length = s.size := by simp
      rw [e] at hl
      have : (0 : Nat) = s.size := hl
      omega
    · rw [head_at s h] at e1
      have e3 : s[0] = 48 := Option.some.inj e1
      rcases h0 with h0 | h0
      · rw [e3] at h0; exact absurd h0 (by decide)
      · rw [toList_data] at h0
        exact e2 (eq_of_beq h0)

set_option maxHeartbeats 1000000 in
theorem undec_any (s : ByteArray) (w : World) (hs : s.size ≤ maxLen) :
    Calls Tryz.prog 77 #[.string s] w fun e w' => e = .returned (optV (undecL s.data.toList)) ∧ Drew w w' := by
  have HC := Lib.hid (numberDec s 1099511627776 (by decide) (by decide) w hs)
  unfold maxLen at hs
  by_cases hz : s.size = 0
  · have HE := Lib.hid (undec_empty s hz)
    have hem : s.toList.isEmpty = true := by
      rw [toList_data, List.eq_nil_of_length_eq_zero (show s.data.toList.length = 0 by simpa using hz)]; rfl
    clear hz
    go_enter Tryz.func77, Tryz.ntmps77
    go_wp2
    go_ret2
    exact ⟨by rw [HE.out]; rfl, Drew.refl _⟩
  · have hpos : 0 < s.size := by omega
    have hem : s.toList.isEmpty = false := by
      rw [toList_data]
      have : s.data.toList.length = s.size := by simp
      cases h : s.data.toList with
      | nil => rw [h] at this; simp at this; omega
      | cons a r => rfl
    have HN := Lib.hid (undec_nought s hpos)
    have HM := Lib.hid (undec_num s hpos)
    clear hz
    cases q0 : ((s[0].toNat : Int) == 48) <;> cases q1 : (s.toList == [48])
    · have HE := Lib.hid (HM.out (.inl q0))
      rw [← HE.out] at HC
      unfold optV at HC
      clear HM HN
      generalize undecL s.data.toList = o at *
      go_enter Tryz.func77, Tryz.ntmps77
      go_wp2_with (go_at_call 84; refine HC.out.mono ?_; rintro e w' ⟨rfl, HD⟩)
      go_ret2
      exact ⟨rfl, HD⟩
    · have HE := Lib.hid (HM.out (.inl q0))
      rw [← HE.out] at HC
      unfold optV at HC
      clear HM HN
      generalize undecL s.data.toList = o at *
      go_enter Tryz.func77, Tryz.ntmps77
      go_wp2_with (go_at_call 84; refine HC.out.mono ?_; rintro e w' ⟨rfl, HD⟩)
      go_ret2
      exact ⟨rfl, HD⟩
    · have HE := Lib.hid (HN.out q0 q1)
      go_enter Tryz.func77, Tryz.ntmps77
      go_wp2
      go_ret2
      exact ⟨by rw [HE.out]; rfl, Drew.refl _⟩
    · have HE := Lib.hid (HM.out (.inr q1))
      rw [← HE.out] at HC
      unfold optV at HC
      clear HM HN
      generalize undecL s.data.toList = o at *
      go_enter Tryz.func77, Tryz.ntmps77
      go_wp2_with (go_at_call 84; refine HC.out.mono ?_; rintro e w' ⟨rfl, HD⟩)
      go_ret2
      exact ⟨rfl, HD⟩

theorem refUndec_short (s : ByteArray) (h : s.size < 1 ∨ 13 < s.size) : refUndec s.data.toList = none := by
  unfold refUndec
  have : s.data.toList.length = s.size := by simp
  rw [this, if_neg (by omega)]
theorem refUndec_long (s : ByteArray) (h1 : 1 ≤ s.size) (h2 : s.size ≤ 13) : refUndec s.data.toList = (numF decV 10 9999999999999 s.data.toList 0).bind fun n => if decOf n = s.data.toList then some n else none := by
  unfold refUndec
  have : s.data.toList.length = s.size := by simp
  rw [this, if_pos ⟨h1, h2⟩]
theorem pow10s (k : Nat) : 10 ^ (k + 1) = 10 * 10 ^ k := by rw [Nat.pow_succ]; omega
theorem pow_next10 (n v : Int) (k : Nat) (h : n < ((10 ^ k : Nat) : Int)) (hv : v < 10) : 10 * n + v < ((10 ^ (k + 1) : Nat) : Int) := by
  rw [pow10s]; omega
theorem pow13 (k : Nat) (h : k ≤ 13) : 10 ^ k ≤ 10000000000000 := by
  have : 10 ^ k ≤ 10 ^ 13 := Nat.pow_le_pow_right (by decide) h
  simpa using this
theorem decV_of (c : UInt8) : ((c.toNat : Int) < 48 ∨ 57 < (c.toNat : Int)) ∧ decV c < 0 ∨ (¬ (c.toNat : Int) < 48 ∧ ¬ 57 < (c.toNat : Int) ∧ ¬ decV c < 0 ∧ decV c = (c.toNat : Int) - 48) := by
  unfold decV
  by_cases h : 48 ≤ c.toNat ∧ c.toNat ≤ 57
  · right
    rw [if_pos h]
    omega
  · left
    rw [if_neg h]
    omega

set_option maxHeartbeats 1000000 in
theorem refUndec_any (s : ByteArray) (w : World) (hs : s.size ≤ maxLen) :
    Calls Tryz.prog 73 #[.string s] w fun e w' => e = .returned (optV (undecL s.data.toList)) ∧ Below w.heap.size w w' := by
  rw [← refUndec_eq]
  unfold maxLen at hs
  by_cases h1 : s.size < 1 ∨ 13 < s.size
  · have HE := Lib.hid (refUndec_short s h1)
    by_cases h0 : s.size < 1
    all_goals
      go_enter Tryz.func73, Tryz.ntmps73
      go_wp2
      all_goals first | omega | (go_ret2; exact ⟨by rw [HE.out]; rfl, Below.refl _ _⟩)
  · have h2 : 1 ≤ s.size := by omega
    have h3 : s.size ≤ 13 := by omega
    clear h1
    have HE := Lib.hid (refUndec_long s h2 h3)
    have HDEC := Lib.hid refDec_any
    go_enter Tryz.func73, Tryz.ntmps73
    go_wp2
    go_loop [4, 5] (fun v i => ∃ (k : Nat) (n : Int), k ≤ s.size ∧ i = .int .i64 k ∧ v = .int .i64 n ∧ 0 ≤ n ∧ Hid (n < ((10 ^ k : Nat) : Int)) ∧ Hid (numF decV 10 9999999999999 s.data.toList 0 = numF decV 10 9999999999999 (s.data.toList.drop k) n)) (fun _ i => s.size - (intOf i).toNat)
    case atStart => exact ⟨0, 0, by omega, rfl, rfl, by omega, by unfold Hid; decide, rfl⟩
    case round =>
      obtain ⟨k, n, hk, rfl, rfl, hn0, HP, H⟩ := hrel
      by_cases hlt : k < s.size
      · have HB := Lib.hid (H.out.trans (congrArg (fun l => numF decV 10 9999999999999 l n) (drop_at s k hlt)))
        have hhi := decV_lt s[k]
        have HP2 := Lib.hid (pow_next10 n (decV s[k]) k HP.out hhi)
        have hp := pow13 (k + 1) (by omega)
        have hmost : 10 * n + decV s[k] ≤ 9999999999999 := by have := HP2.out; omega
        clear hp
        have hbyte : 0 ≤ (s[k].toNat : Int) ∧ (s[k].toNat : Int) ≤ 255 := ⟨by omega, by have := s[k].toNat_lt; omega⟩
        rcases decV_of s[k] with ⟨hbad, hneg⟩ | ⟨g1, g2, hneg, hval⟩
        · have HF : Hid (refUndec s.data.toList = none) := by
            unfold Hid; rw [HE.out, HB.out, numF_bad decV 10 9999999999999 s[k] _ n hneg]; rfl
          have hc : (s[k].toNat : Int) < 48 ∨ (¬ (s[k].toNat : Int) < 48 ∧ 57 < (s[k].toNat : Int)) := by omega
          clear hbad hneg hhi hmost HP2 HB
          rcases hc with a1 | ⟨a1, a2⟩
          all_goals
            go_wp2
            go_ret2
            exact ⟨by rw [HF.out]; rfl, Below.refl _ _⟩
        · have HF := Lib.hid (HB.out.trans (numF_next decV 10 9999999999999 s[k] _ n hneg (by omega)))
          have HV := Lib.hid hval
          have hm2 : 10 * n + (s[k].toNat : Int) - 48 ≤ 9999999999999 := by omega
          clear hneg hmost hval hhi
          go_wp2
          go_round
          case rel => exact ⟨k + 1, 10 * n + decV s[k], by omega, by go_num, by rw [HV.out]; congr 1; omega, by rw [HV.out]; omega, HP2, HF⟩
          case measure => simp [intOf]; omega
      · have HB : Hid (numF decV 10 9999999999999 s.data.toList 0 = some n) := by unfold Hid; rw [H.out, drop_all s k (by omega)]; rfl
        have hks : k = s.size := by omega
        have hmax : n < 10000000000000 := by
          have := pow13 k (by omega)
          have := HP.out
          omega
        have HR : Hid (refUndec s.data.toList = if decOf n = s.data.toList then some n else none) := by unfold Hid; rw [HE.out, HB.out]; rfl
        have HQ := Lib.hid (fun W => HDEC.out n (by omega) (by omega) W)
        clear hks
        by_cases hd : decOf n = s.data.toList
        · have HF : Hid (refUndec s.data.toList = some n) := by unfold Hid; rw [HR.out, if_pos hd]
          have heq : ((tx (decOf n)).toList == s.toList) = true := by rw [toList_tx, toList_data, hd]; simp
          clear hd HR
          go_wp2_with (go_at_call 44; refine (HQ.out _).mono ?_; rintro e w' ⟨rfl, hB⟩)
          go_ret2
          exact ⟨by rw [HF.out]; rfl, hB⟩
        · have HF : Hid (refUndec s.data.toList = none) := by unfold Hid; rw [HR.out, if_neg hd]
          have heq : ((tx (decOf n)).toList == s.toList) = false := by rw [toList_tx, toList_data]; simpa using hd
          clear hd HR
          go_wp2_with (go_at_call 44; refine (HQ.out _).mono ?_; rintro e w' ⟨rfl, hB⟩)
          go_ret2
          exact ⟨by rw [HF.out]; rfl, hB⟩
end Go.Proofs.YtollhemkjnkalaaGreatDoor
