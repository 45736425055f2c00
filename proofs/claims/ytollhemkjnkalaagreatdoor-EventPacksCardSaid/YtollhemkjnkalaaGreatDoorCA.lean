/- Texts of mine, one behind the other: C1 C2 C3 C4 C5 C6 C7. -/
import Derived.Test.YtollhemkjnkalaaGreatDoorG0
import Derived.Laws.BitsAllLaws
import Derived.Deep.WholeRow
import Derived.Deep.MidRow
import Derived.Laws.ResultCell
import Derived.Test.YtollhemkjnkalaaGreatDoorDA
import Derived.Deep.RegionHeld3
/- The mathematics of layer 3, without the program: turns, the table's entries, steps, sums; where two numbers' bits differ, bit by bit. -/
namespace Go.Proofs.YtollhemkjnkalaaGreatDoor
set_option linter.unusedVariables false
set_option maxRecDepth 100000

/-- one turn -/
def turnN (n : Nat) : Nat := if n % 2 = 1 then (n / 2) ^^^ 2197175160 else n / 2
def turnsN : Nat → Nat → Nat
  | 0, n => n
  | k + 1, n => turnN (turnsN k n)
/-- the table's entry -/
def entryN (c : Nat) : Nat := turnsN 8 c
/-- a sum with one byte more -/
def stepN (s c : Nat) : Nat := (s / 256) ^^^ entryN ((s % 256) ^^^ c)
/-- gone on with all bytes -/
def goN (s : Nat) (l : List UInt8) : Nat := l.foldl (fun s c => stepN s c.toNat) s
def sumN (l : List UInt8) : Nat := 4294967295 ^^^ goN 4294967295 l

theorem xor32 {a b : Nat} (ha : a < 4294967296) (hb : b < 4294967296) : a ^^^ b < 4294967296 := Nat.xor_lt_two_pow (n := 32) ha hb
theorem xor8 {a b : Nat} (ha : a < 256) (hb : b < 256) : a ^^^ b < 256 := Nat.xor_lt_two_pow (n := 8) ha hb
theorem turnN_lt {n : Nat} (h : n < 4294967296) : turnN n < 4294967296 := by
  unfold turnN
  split
  · exact xor32 (by omega) (by omega)
  · omega
theorem turnsN_lt {n : Nat} (h : n < 4294967296) : ∀ k, turnsN k n < 4294967296
  | 0 => h
  | k + 1 => turnN_lt (turnsN_lt h k)
theorem entryN_lt {c : Nat} (h : c < 256) : entryN c < 4294967296 := turnsN_lt (by omega) 8
theorem stepN_lt {s c : Nat} (hs : s < 4294967296) (hc : c < 256) : stepN s c < 4294967296 := xor32 (by omega) (entryN_lt (xor8 (by omega) hc))
theorem goN_lt : ∀ (l : List UInt8) {s : Nat}, s < 4294967296 → goN s l < 4294967296
  | [], _, h => h
  | c :: r, s, h => goN_lt r (stepN_lt h c.toNat_lt)
theorem sumN_lt (l : List UInt8) : sumN l < 4294967296 := xor32 (by decide) (goN_lt l (by decide))
theorem goN_append (s : Nat) (a b : List UInt8) : goN s (a ++ b) = goN (goN s a) b := List.foldl_append ..
theorem goN_snoc (s : Nat) (a : List UInt8) (c : UInt8) : goN s (a ++ [c]) = stepN (goN s a) c.toNat := by rw [goN_append]; rfl

/-! ### a turn spreads over bits -/
theorem turnN_eq (n : Nat) : turnN n = (n / 2) ^^^ (if n % 2 = 1 then 2197175160 else 0) := by
  unfold turnN
  split <;> simp
theorem xor_swap (a b c d : Nat) : (a ^^^ b) ^^^ (c ^^^ d) = (a ^^^ c) ^^^ (b ^^^ d) := by
  rw [Nat.xor_assoc, Nat.xor_assoc, ← Nat.xor_assoc b, ← Nat.xor_assoc c, Nat.xor_comm b c]
theorem turnN_xor (a b : Nat) : turnN (a ^^^ b) = turnN a ^^^ turnN b := by
  rw [turnN_eq, turnN_eq a, turnN_eq b, xor_swap, Nat.xor_div_two]
  congr 1
  rcases Nat.mod_two_eq_zero_or_one a with ha | ha <;> rcases Nat.mod_two_eq_zero_or_one b with hb | hb <;> simp [Nat.xor_mod_two_eq_one, ha, hb]
theorem turnsN_xor (a b : Nat) : ∀ k, turnsN k (a ^^^ b) = turnsN k a ^^^ turnsN k b
  | 0 => rfl
  | k + 1 => by
    show turnN (turnsN k (a ^^^ b)) = _
    rw [turnsN_xor a b k, turnN_xor]
    rfl
theorem entryN_xor (a b : Nat) : entryN (a ^^^ b) = entryN a ^^^ entryN b := turnsN_xor a b 8
theorem entryN_zero : entryN 0 = 0 := by decide +kernel
theorem pow_add_xor (k c : Nat) (h : c < 2 ^ k) : 2 ^ k + c = c ^^^ 2 ^ k := by
  apply Nat.eq_of_testBit_eq
  intro i
  rw [Nat.testBit_xor, Nat.testBit_two_pow]
  rcases Nat.lt_trichotomy i k with hi | hi | hi
  · rw [Nat.testBit_two_pow_add_gt hi, decide_eq_false (by omega)]; simp
  · subst hi
    rw [Nat.testBit_two_pow_add_eq, Nat.testBit_lt_two_pow h]
    simp
  · have h1 : 2 ^ k + c < 2 ^ i := by
      have : 2 ^ (k + 1) ≤ 2 ^ i := Nat.pow_le_pow_right (by decide) hi
      rw [Nat.pow_succ] at this
      omega
    rw [Nat.testBit_lt_two_pow h1, Nat.testBit_lt_two_pow (by omega), decide_eq_false (by omega)]
    rfl
theorem entryN_next (k c : Nat) (h : c < 2 ^ k) : entryN c ^^^ entryN (2 ^ k) = entryN (2 ^ k + c) := by rw [pow_add_xor k c h, entryN_xor]

/-! ### the model's words for bits -/
theorem ones_sub (x : Nat) (h : x < 4294967296) : 4294967295 - x = 4294967295 ^^^ x := by
  apply Nat.eq_of_testBit_eq
  intro i
  have e : 4294967295 - x = 2 ^ 32 - (x + 1) := by omega
  rw [e, Nat.testBit_two_pow_sub_succ (by simpa using h), Nat.testBit_xor, show (4294967295 : Nat) = 2 ^ 32 - 1 by decide, Nat.testBit_two_pow_sub_one]
  by_cases hi : i < 32
  · simp [hi]
  · have : x.testBit i = false := Nat.testBit_lt_two_pow (Nat.lt_of_lt_of_le h (by
      have : 2 ^ 32 ≤ 2 ^ i := Nat.pow_le_pow_right (by decide) (by omega)
      exact this))
    simp [hi, this]
theorem b_xor32 (a b : Nat) (ha : a < 4294967296) (hb : b < 4294967296) : bits .xor .u32 (a : Int) (b : Int) = ((a ^^^ b : Nat) : Int) := u32_xor_nat a b ha hb
theorem b_ones (a : Nat) (ha : a < 4294967296) : bits .xor .u32 IntKind.u32.max (a : Int) = ((4294967295 ^^^ a : Nat) : Int) := by
  rw [show IntKind.u32.max = 4294967295 by decide]
  exact u32_xor_nat 4294967295 a (by decide) ha
theorem b_poly (a : Nat) (ha : a < 4294967296) : bits .xor .u32 (a : Int) 2197175160 = ((a ^^^ 2197175160 : Nat) : Int) := u32_xor_nat a 2197175160 ha (by decide)
theorem b_xor8 (a b : Nat) (ha : a < 256) (hb : b < 256) : bits .xor .u8 (a : Int) (b : Int) = ((a ^^^ b : Nat) : Int) := u8_xor_nat a b ha hb
theorem b_and1 (a : Nat) (ha : a < 4294967296) : bits .and .u32 (a : Int) 1 = ((a % 2 : Nat) : Int) := by
  have := u32_and_nat a 1 ha (by decide)
  rw [Nat.and_one_is_mod] at this
  exact this

/-! ### bit by bit -/
theorem bits_next (x k : Nat) : x % 2 ^ (k + 1) = x % 2 ^ k + (if x / 2 ^ k % 2 = 1 then 2 ^ k else 0) := by
  rw [Nat.pow_succ, Nat.mod_mul]
  rcases Nat.mod_two_eq_zero_or_one (x / 2 ^ k) with h | h <;> simp [h]
theorem bit_differ (a b k : Nat) : ((a ^^^ b) / 2 ^ k % 2 = 1) ↔ a / 2 ^ k % 2 ≠ b / 2 ^ k % 2 := by
  rw [Nat.xor_div_two_pow, Nat.xor_mod_two_eq_one]
  omega

/-! ### whom the table holds -/
def entV (c : Nat) : Value := .int .u32 (entryN c : Int)
/-- the table, filled up to m -/
def tabUp (m : Nat) : Array Value := ((List.range 256).map fun c => if c < m then entV c else .int .u32 0).toArray
def tab : Array Value := ((List.range 256).map entV).toArray
theorem tabUp_size (m : Nat) : (tabUp m).size = 256 := by simp [tabUp]
theorem tab_size : tab.size = 256 := by simp [tab]
theorem tabUp_all : tabUp 256 = tab := by
  have h : ((List.range 256).map fun c => if c < 256 then entV c else .int .u32 0) = (List.range 256).map entV := List.map_congr_left fun c hc => if_pos (List.mem_range.1 hc)
  unfold tabUp tab
  rw [h]
theorem tabUp_one : tabUp 1 = Array.replicate 256 (.int .u32 0) := by
  apply Array.ext (by simp [tabUp])
  intro i h1 h2
  simp only [tabUp, List.getElem_toArray, List.getElem_map, List.getElem_range, Array.getElem_replicate]
  split
  · have : i = 0 := by omega
    subst this
    show Value.int .u32 (entryN 0 : Int) = _
    rw [entryN_zero]; rfl
  · rfl
theorem tabUp_at (m c : Nat) (h : c < m) (hc : c < 256) : (tabUp m)[c]? = some (.int .u32 (entryN c : Int)) := by
  rw [Array.getElem?_eq_getElem (by rw [tabUp_size]; exact hc)]
  simp only [tabUp, List.getElem_toArray, List.getElem_map, List.getElem_range]
  rw [if_pos h]; rfl
theorem tabUp_in (m c : Nat) (hc : c < 256) : ∃ v, (tabUp m)[c]? = some v := ⟨_, Array.getElem?_eq_getElem (by rw [tabUp_size]; exact hc)⟩
theorem tab_at (c : Nat) (hc : c < 256) : tab[c]? = some (.int .u32 (entryN c : Int)) := by rw [← tabUp_all]; exact tabUp_at 256 c hc hc
theorem tabUp_next (m : Nat) (h : m < 256) : (tabUp m).setIfInBounds m (.int .u32 (entryN m : Int)) = tabUp (m + 1) := by
  apply Array.ext (by simp [tabUp])
  intro i h1 h2
  have hi : i < 256 := by simpa [tabUp] using h2
  rw [Array.getElem_setIfInBounds (by simpa [tabUp] using hi)]
  simp only [tabUp, List.getElem_toArray, List.getElem_map, List.getElem_range]
  by_cases e : m = i
  · subst e
    rw [if_pos rfl, if_pos (by omega)]; rfl
  · rw [if_neg e]
    by_cases h3 : i < m
    · rw [if_pos h3, if_pos (by omega)]
    · rw [if_neg h3, if_neg (by omega)]
theorem tab_one : tab.all (·.oneCell') = true := by
  rw [Array.all_eq_true_iff_forall_mem]
  intro v hv
  simp only [tab, List.mem_toArray, List.mem_map] at hv
  obtain ⟨c, _, rfl⟩ := hv
  rfl
end Go.Proofs.YtollhemkjnkalaaGreatDoor

/- Contracts of layer 3: a turn, an entry, a step; the document's own bits, entries, steps, sums. -/
namespace Go.Proofs.YtollhemkjnkalaaGreatDoor
open Go.RowKit
set_option linter.unusedVariables false
set_option maxRecDepth 100000

set_option maxHeartbeats 400000 in
theorem turn_any (n : Nat) (h : n < 4294967296) (w : World) :
    Calls Tryz.prog 100 #[.int .u32 n] w fun e w' => e = .returned (.int .u32 (turnN n : Int)) ∧ w = w' := by
  have e1 := b_and1 n h
  have e2 : (n : Int) / 2 = ((n / 2 : Nat) : Int) := by omega
  have e3 := b_poly (n / 2) (by omega)
  rcases Nat.mod_two_eq_zero_or_one n with hm | hm
  · have HE : Hid (turnN n = n / 2) := by
      unfold Hid turnN
      rw [if_neg (by omega)]
    rw [hm] at e1
    generalize n / 2 = q at *
    go_enter Tryz.func100, Tryz.ntmps100
    go_wp2
    go_ret
    exact ⟨retI (by rw [HE.out]), rfl⟩
  · have HE : Hid (turnN n = n / 2 ^^^ 2197175160) := by
      unfold Hid turnN
      rw [if_pos hm]
    rw [hm] at e1
    generalize n / 2 = q at *
    go_enter Tryz.func100, Tryz.ntmps100
    go_wp2
    go_ret
    exact ⟨retI (by rw [HE.out]), rfl⟩

set_option maxHeartbeats 400000 in
theorem entry_any (c : Nat) (h : c < 256) (w : World) :
    Calls Tryz.prog 92 #[.int .u8 c] w fun e w' => e = .returned (.int .u32 (entryN c : Int)) ∧ w = w' := by
  have HT := Lib.hid turn_any
  go_enter Tryz.func92, Tryz.ntmps92
  go_wp2
  go_loopw [3, 6] (fun v i wr => ∃ j : Nat, j ≤ 8 ∧ i = .int .i64 j ∧ v = .int .u32 (turnsN j c : Int) ∧ w = wr) (fun _ i _ => 8 - (intOf i).toNat)
  case atStart => exact ⟨0, by omega, rfl, rfl, rfl⟩
  case round =>
    obtain ⟨j, hj, rfl, rfl, rfl⟩ := hrel
    have hlt : turnsN j c < 4294967296 := turnsN_lt (by omega) j
    have HN : Hid (turnN (turnsN j c) = turnsN (j + 1) c) := rfl
    by_cases hj8 : j < 8
    · generalize turnsN j c = m at *
      go_wp2_with (go_at_call 100; refine (HT.out m hlt _).mono ?_; rintro e w' ⟨rfl, rfl⟩)
      go_roundw
      case rel => exact ⟨j + 1, by omega, by go_num, by rw [← HN.out], by trivial⟩
      case measure => simp [intOf]; omega
    · obtain rfl : j = 8 := by omega
      go_wp2
      go_ret
      exact ⟨rfl, rfl⟩
end Go.Proofs.YtollhemkjnkalaaGreatDoor

/- Contracts of layer 3: the document's own bits, entries, steps, sums. -/
namespace Go.Proofs.YtollhemkjnkalaaGreatDoor
open Go.RowKit
set_option linter.unusedVariables false
set_option maxRecDepth 100000

theorem tm2 (m : Nat) : (m : Int).tmod 2 = ((m % 2 : Nat) : Int) := by
  rw [Int.tmod_eq_emod_of_nonneg (by omega)]; omega
theorem td2 (m : Nat) : (m : Int).tdiv 2 = ((m / 2 : Nat) : Int) := by
  rw [Int.tdiv_eq_ediv_of_nonneg (by omega)]; omega
theorem tm256 (m : Nat) : (m : Int).tmod 256 = ((m % 256 : Nat) : Int) := by
  rw [Int.tmod_eq_emod_of_nonneg (by omega)]; omega
theorem td256 (m : Nat) : (m : Int).tdiv 256 = ((m / 256 : Nat) : Int) := by
  rw [Int.tdiv_eq_ediv_of_nonneg (by omega)]; omega
theorem div2_next (n k : Nat) : n / 2 ^ k / 2 = n / 2 ^ (k + 1) := by rw [Nat.div_div_eq_div_mul, Nat.pow_succ]

set_option maxHeartbeats 400000 in
theorem bit_any (n k : Nat) (hn : n < 4294967296) (hk : k ≤ 32) (w : World) :
    Calls Tryz.prog 93 #[.int .i64 n, .int .i64 k] w fun e w' => e = .returned (.int .i64 ((n / 2 ^ k % 2 : Nat) : Int)) ∧ w = w' := by
  go_enter Tryz.func93, Tryz.ntmps93
  go_wp2
  go_loopw [0, 5] (fun v i wr => ∃ j : Nat, j ≤ k ∧ i = .int .i64 j ∧ v = .int .i64 ((n / 2 ^ j : Nat) : Int) ∧ w = wr) (fun _ i _ => k - (intOf i).toNat)
  case atStart => exact ⟨0, by omega, rfl, by simp, rfl⟩
  case round =>
    obtain ⟨j, hj, rfl, rfl, rfl⟩ := hrel
    have hm : n / 2 ^ j < 4294967296 := Nat.lt_of_le_of_lt (Nat.div_le_self _ _) hn
    by_cases hlt : j < k
    · have HN := Lib.hid (div2_next n j)
      generalize n / 2 ^ j = m at *
      have e2 := td2 m
      have hq : m / 2 < 4294967296 := by omega
      generalize m / 2 = q at *
      go_wp2
      go_roundw
      case rel => exact ⟨j + 1, by omega, by go_num, by rw [← HN.out], by trivial⟩
      case measure => simp [intOf]; omega
    · obtain rfl : j = k := by omega
      have e2 := tm2 (n / 2 ^ j)
      obtain ⟨q, hq⟩ : ∃ q, n / 2 ^ j % 2 = q := ⟨_, rfl⟩
      have HQ := Lib.hid hq
      rw [hq] at e2
      clear hq
      generalize hm' : n / 2 ^ j = m at e2 hm ⊢
      have HM := Lib.hid hm'
      clear hm'
      go_wp2
      go_ret
      exact ⟨retI (by rw [← HQ.out]), rfl⟩

theorem pow_le32 (j : Nat) (h : j ≤ 32) : 2 ^ j ≤ 4294967296 := Nat.pow_le_pow_right (n := 2) (j := 32) (by decide) h
set_option maxHeartbeats 1000000 in
theorem differ_any (a b : Nat) (ha : a < 4294967296) (hb : b < 4294967296) (w : World) :
    Calls Tryz.prog 82 #[.int .i64 a, .int .i64 b] w fun e w' => e = .returned (.int .i64 ((a ^^^ b : Nat) : Int)) ∧ w = w' := by
  have HF : Hid ((a ^^^ b) % 2 ^ 32 = a ^^^ b) := Nat.mod_eq_of_lt (xor32 ha hb)
  have HA := Lib.hid (fun j h => bit_any a j ha h)
  have HB := Lib.hid (fun j h => bit_any b j hb h)
  go_enter Tryz.func82, Tryz.ntmps82
  go_wp2
  go_loopw [5, 6, 7] (fun o p i wr => ∃ j : Nat, j ≤ 32 ∧ i = .int .i64 j ∧ p = .int .i64 ((2 ^ j : Nat) : Int) ∧ o = .int .i64 (((a ^^^ b) % 2 ^ j : Nat) : Int) ∧ w = wr) (fun _ _ i _ => 32 - (intOf i).toNat)
  case atStart => exact ⟨0, by omega, rfl, rfl, by simp [Nat.mod_one], rfl⟩
  case round =>
    obtain ⟨j, hj, rfl, rfl, rfl, rfl⟩ := hrel
    by_cases hlt : j < 32
    · have HN := Lib.hid (bits_next (a ^^^ b) j)
      have HD := Lib.hid (bit_differ a b j)
      have HP : Hid (2 ^ j * 2 = 2 ^ (j + 1)) := (Nat.pow_succ 2 j).symm
      have hp := pow_le32 j (by omega)
      have hq : (a ^^^ b) % 2 ^ j < 2 ^ j := Nat.mod_lt _ (Nat.pow_pos (by decide))
      have H1 := Lib.hid (HA.out j (by omega))
      have H2 := Lib.hid (HB.out j (by omega))
      clear HA HB
      generalize (a ^^^ b) / 2 ^ j % 2 = z at *
      generalize (a ^^^ b) % 2 ^ j = o at *
      by_cases hne : a / 2 ^ j % 2 = b / 2 ^ j % 2
      · have HE : Hid ((a ^^^ b) % 2 ^ (j + 1) = o) := by
          unfold Hid
          rw [HN.out, if_neg (fun h => HD.out.1 h hne)]; simp
        generalize a / 2 ^ j % 2 = x at *
        generalize b / 2 ^ j % 2 = y at *
        subst hne
        clear HN HD
        generalize 2 ^ j = p at *
        go_wp2_with fail
        refine (H1.out _).mono ?_
        rintro e w' ⟨rfl, rfl⟩
        go_wp2_with fail
        refine (H2.out _).mono ?_
        rintro e w' ⟨rfl, rfl⟩
        go_wp2
        go_roundw
        case rel => exact ⟨j + 1, by omega, by go_num, by rw [← HP.out]; congr 1; omega, by rw [HE.out], by trivial⟩
        case measure => simp [intOf]; omega
      · have HE : Hid ((a ^^^ b) % 2 ^ (j + 1) = o + 2 ^ j) := by
          unfold Hid
          rw [HN.out, if_pos (HD.out.2 hne)]
        generalize a / 2 ^ j % 2 = x at *
        generalize b / 2 ^ j % 2 = y at *
        have hxy : ((x : Int) == (y : Int)) = false := beq_eq_false_iff_ne.2 (by omega)
        clear HN HD
        generalize 2 ^ j = p at *
        go_wp2_with fail
        refine (H1.out _).mono ?_
        rintro e w' ⟨rfl, rfl⟩
        go_wp2_with fail
        refine (H2.out _).mono ?_
        rintro e w' ⟨rfl, rfl⟩
        go_wp2
        go_roundw
        case rel => exact ⟨j + 1, by omega, by go_num, by rw [← HP.out]; congr 1; omega, by rw [HE.out]; congr 1, by trivial⟩
        case measure => simp [intOf]; omega
    · obtain rfl : j = 32 := by omega
      go_wp2
      go_ret
      exact ⟨retI (by rw [HF.out]), rfl⟩
end Go.Proofs.YtollhemkjnkalaaGreatDoor

/- Contracts of layer 3: the document's own entries, steps, sums. -/
namespace Go.Proofs.YtollhemkjnkalaaGreatDoor
open Go.RowKit
set_option linter.unusedVariables false
set_option maxRecDepth 100000

set_option maxHeartbeats 1000000 in
theorem refEntry_any (c : Nat) (h : c < 256) (w : World) :
    Calls Tryz.prog 83 #[.int .i64 c] w fun e w' => e = .returned (.int .i64 (entryN c : Int)) ∧ w = w' := by
  have HD := Lib.hid differ_any
  go_enter Tryz.func83, Tryz.ntmps83
  go_wp2
  go_loopw [3, 4, 5] (fun v i l wr => ∃ j : Nat, j ≤ 8 ∧ i = .int .i64 j ∧ v = .int .i64 (turnsN j c : Int) ∧ w = wr) (fun _ i _ _ => 8 - (intOf i).toNat)
  case atStart => exact ⟨0, by omega, rfl, rfl, rfl⟩
  case round =>
    obtain ⟨j, hj, rfl, rfl, rfl⟩ := hrel
    by_cases hj8 : j < 8
    · have hlt : turnsN j c < 4294967296 := turnsN_lt (by omega) j
      have HN : Hid (turnN (turnsN j c) = turnsN (j + 1) c) := rfl
      generalize turnsN j c = m at *
      have e1 := tm2 m
      have e2 := td2 m
      have hq : m / 2 < 4294967296 := by omega
      have H1 := Lib.hid (HD.out (m / 2) 2197175160 hq (by decide))
      rcases Nat.mod_two_eq_zero_or_one m with hm | hm
      · have HE : Hid (turnN m = m / 2) := by
          unfold Hid turnN
          rw [if_neg (by omega)]
        rw [hm] at e1
        clear hm
        generalize m / 2 = q at *
        go_wp2
        go_roundw
        case rel => exact ⟨j + 1, by omega, by go_num, by rw [← HN.out, HE.out], by trivial⟩
        case measure => simp [intOf]; omega
      · have HE : Hid (turnN m = m / 2 ^^^ 2197175160) := by
          unfold Hid turnN
          rw [if_pos hm]
        rw [hm] at e1
        clear hm
        generalize m / 2 = q at *
        go_wp2_with fail
        refine (H1.out _).mono ?_
        rintro e w' ⟨rfl, rfl⟩
        go_wp2
        go_roundw
        case rel => exact ⟨j + 1, by omega, by go_num, by rw [← HN.out, HE.out], by trivial⟩
        case measure => simp [intOf]; omega
    · obtain rfl : j = 8 := by omega
      go_wp2
      go_ret
      exact ⟨rfl, rfl⟩

set_option maxHeartbeats 1000000 in
theorem refStep_any (s c : Nat) (hs : s < 4294967296) (hc : c < 256) (w : World) :
    Calls Tryz.prog 68 #[.int .i64 s, .int .i64 c] w fun e w' => e = .returned (.int .i64 (stepN s c : Int)) ∧ w = w' := by
  have HE : Hid (stepN s c = (s / 256) ^^^ entryN ((s % 256) ^^^ c)) := rfl
  have hx := xor8 (show s % 256 < 256 by omega) hc
  have H1 := Lib.hid (differ_any (s % 256) c (by omega) (by omega))
  have H2 := Lib.hid (refEntry_any ((s % 256) ^^^ c) hx)
  have H3 := Lib.hid (differ_any (s / 256) (entryN ((s % 256) ^^^ c)) (by omega) (entryN_lt hx))
  have e1 := td256 s
  have e2 := tm256 s
  have hq : s / 256 < 4294967296 := by omega
  have hr : s % 256 < 256 := by omega
  generalize s / 256 = q at *
  generalize s % 256 = r at *
  generalize r ^^^ c = x at *
  generalize entryN x = y at *
  clear hx
  go_enter Tryz.func68, Tryz.ntmps68
  go_wp2_with fail
  refine (H1.out _).mono ?_
  rintro e w' ⟨rfl, rfl⟩
  go_wp2_with fail
  refine (H2.out _).mono ?_
  rintro e w' ⟨rfl, rfl⟩
  go_wp2_with fail
  refine (H3.out _).mono ?_
  rintro e w' ⟨rfl, rfl⟩
  go_wp2
  go_ret
  exact ⟨retI (by rw [HE.out]), rfl⟩

theorem goN_take (s : ByteArray) (j : Nat) (hj : j < s.size) (n : Nat) : stepN (goN n ((toL s).take j)) (s[j]'hj).toNat = goN n ((toL s).take (j + 1)) := by
  have e : (toL s).take (j + 1) = (toL s).take j ++ [s[j]'hj] := by
    rw [List.take_add_one]
    have h' : j < s.data.size := hj
    have : (toL s)[j]? = some (s[j]'hj) := by
      unfold toL
      rw [Array.getElem?_toList, Array.getElem?_eq_getElem h']
      rfl
    rw [this]; rfl
  rw [e, goN_snoc]

set_option maxHeartbeats 1000000 in
theorem refSum_any (s : ByteArray) (hs : s.size ≤ 100000) (w : World) :
    Calls Tryz.prog 48 #[.string s] w fun e w' => e = .returned (.int .i64 (sumN (toL s) : Int)) ∧ w = w' := by
  have HS := Lib.hid refStep_any
  have HF : Hid ((toL s).take s.size = toL s) := List.take_of_length_le (by rw [toL_length]; exact Nat.le_refl _)
  go_enter Tryz.func48, Tryz.ntmps48
  go_wp2
  go_loopw [3, 4] (fun v i wr => ∃ j : Nat, j ≤ s.size ∧ i = .int .i64 j ∧ v = .int .i64 (goN 4294967295 ((toL s).take j) : Int) ∧ w = wr) (fun _ i _ => s.size - (intOf i).toNat)
  case atStart => exact ⟨0, by omega, rfl, rfl, rfl⟩
  case round =>
    obtain ⟨j, hj, rfl, rfl, rfl⟩ := hrel
    have hlt : goN 4294967295 ((toL s).take j) < 4294967296 := goN_lt _ (by decide)
    by_cases hjs : j < s.size
    · have HN := Lib.hid (goN_take s j hjs 4294967295)
      generalize goN 4294967295 ((toL s).take j) = m at *
      have hc : (s[j]'hjs).toNat < 256 := (s[j]'hjs).toNat_lt
      have H1 := Lib.hid (HS.out m _ hlt hc)
      go_wp2_with fail
      refine (H1.out _).mono ?_
      rintro e w' ⟨rfl, rfl⟩
      go_wp2
      go_roundw
      case rel => exact ⟨j + 1, by omega, by go_num, by rw [← HN.out], by trivial⟩
      case measure => simp [intOf]; omega
    · obtain rfl : j = s.size := by omega
      have HE : Hid (sumN (toL s) = 4294967295 - goN 4294967295 ((toL s).take s.size)) := by
        unfold Hid
        rw [ones_sub _ hlt, HF.out]; rfl
      generalize goN 4294967295 ((toL s).take s.size) = m at *
      go_wp2
      go_ret
      exact ⟨retI (by rw [HE.out]; omega), rfl⟩
end Go.Proofs.YtollhemkjnkalaaGreatDoor

/- Contract of layer 3: the whole table, an array of 256 numbers, handed back by value. -/
namespace Go.Proofs.YtollhemkjnkalaaGreatDoor
open Go.RowKit
set_option linter.unusedVariables false
set_option maxRecDepth 100000

theorem infoTab : (Tryz.prog.info? 123).map (fun i => (i.zero, i.size)) = some (some (.agg (Array.replicate 256 (.int .u32 0))), 256) := by kernel_rfl
theorem zeroTab (w : World) : (zeroValue 123).run Tryz.prog w = .ok (.agg (tabUp 1)) w := by rw [tabUp_one]; exact (zero_of_info infoTab).1 w
theorem sizeTab : (Tryz.prog.info? 123).map (·.size) = some 256 := (zero_of_info infoTab).2
/-- the world in which the result's block lies still as it was made, and the table is filled up to m -/
def tabW (w : World) (m : Nat) : World := (w.alloc (.cells (tabUp 1) 123)).alloc (.cells (tabUp m) 123)
theorem size1 (w : World) (o : Obj) : (w.alloc o).heap.size = w.heap.size + 1 := by simp
theorem tabW_heap (w : World) (m : Nat) : (tabW w m).heap[w.heap.size + 1]? = some (.cells (tabUp m) 123) := by
  have := heap_alloc_last (w.alloc (.cells (tabUp 1) 123)) (.cells (tabUp m) 123)
  rw [size1] at this
  exact this
theorem tabW_heap0 (w : World) (m : Nat) : (tabW w m).heap[w.heap.size]? = some (.cells (tabUp 1) 123) := by
  unfold tabW
  rw [Below.heap_alloc _ _ _ (by rw [size1]; omega)]
  exact heap_alloc_last w _
theorem tabW_cell (w : World) (m i : Nat) : (tabW w m).cell? ⟨w.heap.size + 1, i, none⟩ = (tabUp m)[i]? := cell_of_row _ _ _ _ _ (0, 0) (tabW_heap w m)
theorem tabW_frozen (w : World) (m i : Nat) : (tabW w m).frozen? ⟨w.heap.size + 1, i, none⟩ = false := frozen_of_row _ _ _ _ _ (tabW_heap w m)
theorem tabW_set (w : World) (m : Nat) (h : m < 256) : (tabW w m).setCell ⟨w.heap.size + 1, m, none⟩ (.int .u32 (entryN m : Int)) = tabW w (m + 1) := by
  unfold tabW
  rw [World.setCell_alloc_at _ _ _ _ _ (size1 w _).symm, tabUp_next m h]
theorem tabW_range (w : World) : (tabW w 256).rangeAt (w.heap.size + 1) 0 tab.toList := fun j v hv => by
  rw [Nat.zero_add, tabW_cell, tabUp_all]
  simpa using hv
theorem tabW_there (w : World) (m : Nat) : (tabW w m).there w.heap.size 0 256 := fun j hj => by
  rw [Nat.zero_add]
  refine ⟨?_, frozen_of_row _ _ _ _ _ (tabW_heap0 w m)⟩
  rw [cell_of_row _ _ _ _ _ (0, 0) (tabW_heap0 w m), Array.getElem?_eq_getElem (by rw [tabUp_size]; exact hj)]
  rfl
theorem below_setCells {B b : Nat} {a : World} (hb : B ≤ b) : ∀ (vs : List Value) (o : Nat) {w : World}, Below B a w → Below B a (w.setCells b o vs)
  | [], _, _, h => h
  | v :: r, o, w, h => by
    rw [World.setCells]
    exact below_setCells hb r (o + 1) (h.setCell (p := ⟨b, o, none⟩) hb v)
theorem tabW_below (w : World) (m : Nat) : Below w.heap.size w (tabW w m) := ((Below.refl _ _).alloc (Nat.le_refl _) _).alloc (by rw [size1]; omega) _
/-- the world behind the call: the table is laid into the result's block -/
def tabV (w : World) : World := (tabW w 256).setCells w.heap.size 0 tab.toList
theorem tabV_below (w : World) : Below w.heap.size w (tabV w) := below_setCells (Nat.le_refl _) _ _ (tabW_below w 256)
theorem tab_len : tab.toList.length = 256 := by rw [Array.length_toList, tab_size]
theorem tabV_store (w : World) : (storeCells ⟨w.heap.size, 0, none⟩ tab.toList 0).run Tryz.prog (tabW w 256) = .ok () (tabV w) := by
  have ht := tabW_there w 256
  have := run_storeCells_cells (P := Tryz.prog) w.heap.size 0 tab.toList 0 (tabW w 256) (fun j hj => by simpa using (ht j (by rw [tab_len] at hj; exact hj)).1) (fun j hj => by simpa using (ht j (by rw [tab_len] at hj; exact hj)).2)
    (fun v hv => (Array.all_eq_true_iff_forall_mem.1 tab_one) v (by simpa using hv))
  rw [Nat.add_zero] at this
  exact this
theorem tabV_load (w : World) : (loadVar 123 ⟨w.heap.size, 0, none⟩).run Tryz.prog (tabV w) = .ok (.agg tab) (tabV w) := by
  have := run_loadVar_mid (P := Tryz.prog) (tabV w) w.heap.size 0 123 tab.toList (.array 256 110) (World.rangeAt_setCells_same _ _ _ _ (by rw [tab_len]; exact tabW_there w 256)) Tryz.underlying123 rfl (by rw [tab_len]; exact sizeTab)
  rwa [Array.toArray_toList] at this
theorem results_cell_one {fn : Func} {p : Tmp} {ty : TypeId} (h : fn.results = #[.cell p ty]) (tmps : Array Value) (P : Program) (w : World) :
    (results fn tmps).run P w = ((asAddr (tmps.getD p undef)).run P w).andThen fun a w₁ => (loadVar ty a).run P w₁ := by
  simp only [results, h]
  simp [Sem.run_bind, Result.andThen]
  try (split <;> simp)
theorem pow_lt256 {k : Nat} (h : 2 ^ k < 256) : k < 8 := by
  rcases Nat.lt_or_ge k 8 with h1 | h1
  · exact h1
  · have : 2 ^ 8 ≤ 2 ^ k := Nat.pow_le_pow_right (by decide) h1
    omega

set_option maxHeartbeats 1000000 in
set_option maxRecDepth 100000 in
theorem table_any (w : World) :
    Calls Tryz.prog 81 #[] w fun e w' => e = .returned (.agg tab) ∧ Below w.heap.size w w' := by
  have HE := Lib.hid entry_any
  have hz := zeroTab
  have HW : Hid ((w.alloc (.cells (tabUp 1) 123)).alloc (.cells (tabUp 1) 123) = tabW w 1) := rfl
  go_enter Tryz.func81, Tryz.ntmps81
  go_wp2
  rw [HW.out]
  clear hz
  go_loopw [2] (fun b wr => ∃ k : Nat, k ≤ 8 ∧ b = .int .i64 ((2 ^ k : Nat) : Int) ∧ wr = tabW w (2 ^ k)) (fun b _ => 256 - (intOf b).toNat)
  case atStart => exact ⟨0, by omega, rfl, rfl⟩
  case round =>
    obtain ⟨k, hk, rfl, rfl⟩ := hrel
    by_cases hk8 : k < 8
    · have hb : 2 ^ k ≤ 128 := Nat.pow_le_pow_right (n := 2) (j := 7) (by decide) (by omega)
      have hb1 : 1 ≤ 2 ^ k := Nat.pow_pos (by decide)
      have HP : Hid (2 ^ k * 2 = 2 ^ (k + 1)) := (Nat.pow_succ 2 k).symm
      have HN := Lib.hid (entryN_next k)
      generalize 2 ^ k = b at *
      have H1 := Lib.hid (HE.out b (by omega))
      have hlt := entryN_lt (show b < 256 by omega)
      have hd : decide ((b : Int) < 256) = true := decide_eq_true (by omega)
      go_wp2_with fail
      refine (H1.out _).mono ?_
      rintro e w' ⟨rfl, rfl⟩
      clear HE H1
      go_wp2_with fail
      go_loopw [13] (fun i wr => ∃ c : Nat, c ≤ b ∧ i = .int .i64 c ∧ wr = tabW w (b + c)) (fun i _ => b - (intOf i).toNat)
      case atStart => exact ⟨0, by omega, rfl, rfl⟩
      case round =>
        obtain ⟨c, hc, rfl, rfl⟩ := hrel
        by_cases hcb : c < b
        · have HX := Lib.hid (HN.out c hcb)
          have HS := Lib.hid (tabW_set w (b + c) (by omega))
          have hl1 := (tabW_cell w (b + c) c).trans (tabUp_at _ c (by omega) (by omega))
          obtain ⟨v0, hv0⟩ := tabUp_in (b + c) (b + c) (by omega)
          have hl2 := (tabW_cell w (b + c) (b + c)).trans hv0
          have hf := tabW_frozen w (b + c) (b + c)
          have hx := b_xor32 (entryN c) (entryN b) (entryN_lt (by omega)) hlt
          have hi1 : (c : Int) < 256 := by omega
          have hi2 : (b : Int) + (c : Int) < 256 := by omega
          clear hv0
          rw [HX.out] at hx
          go_wp2
          go_roundw
          case rel => exact ⟨c + 1, by omega, by go_num, by rw [HS.out, Nat.add_assoc]⟩
          case measure => simp [intOf]; omega
        · obtain rfl : c = b := by omega
          go_wp2
          go_roundw
          case rel => exact ⟨k + 1, by omega, by rw [← HP.out]; congr 1, by rw [← HP.out, Nat.mul_two]⟩
          case measure => simp [intOf]; omega
    · obtain rfl : k = 8 := by omega
      clear HE
      have hsz : (Tryz.prog.info? 123).map (·.size) = some tab.toList.length := by rw [Array.length_toList, tab_size]; exact sizeTab
      have HS := Lib.hid hsz
      clear hsz
      go_wp2
      refine wp_load_mid 123 (.tmp 1) rfl (w.heap.size + 1) 0 rfl tab.toList (.array 256 110) (tabW_range w) Tryz.underlying123 rfl HS.out ?_
      rw [Array.toArray_toList]
      have hts := tab_size
      have hsc := tabV_store w
      go_wp2
      have hld := tabV_load w
      refine bodyPost_ret (v := .agg tab) ?_ rfl ⟨rfl, tabV_below w⟩
      rw [results_cell_one rfl]
      simp [asAddr, Result.andThen, hld]
end Go.Proofs.YtollhemkjnkalaaGreatDoor

/- Contract of layer 3: the sum of all texts. -/
namespace Go.Proofs.YtollhemkjnkalaaGreatDoor
open Go.RowKit
set_option linter.unusedVariables false
set_option maxRecDepth 100000

/-- the bytes of all texts, one behind the other -/
def flat (l : List ByteArray) : List UInt8 := (l.map toL).flatten
theorem flat_take (l : List ByteArray) (j : Nat) (h : j < l.length) : flat (l.take (j + 1)) = flat (l.take j) ++ toL l[j] := by
  unfold flat
  rw [List.take_add_one, List.getElem?_eq_getElem h, List.map_append, List.flatten_append]
  simp only [Option.toList, List.map_cons, List.map_nil, List.flatten_cons, List.flatten_nil, List.append_nil]
theorem flat_one (s : ByteArray) : flat [s] = toL s := by simp [flat]
theorem flat_two (s t : ByteArray) : flat [s, t] = toL s ++ toL t := by simp [flat]
theorem flat_snoc (l : List ByteArray) (s : ByteArray) : flat (l ++ [s]) = flat l ++ toL s := by simp [flat]
/-- the table, laid into a new block -/
theorem store_tab (W : World) : (storeCells ⟨W.heap.size, 0, none⟩ tab.toList 0).run Tryz.prog (W.alloc (.cells (tabUp 1) 123)) = .ok () (W.alloc (.cells tab 123)) :=
  run_storeCells_new W 123 (tabUp 1) tab (by rw [tab_size]; exact sizeTab) (by rw [tab_size, tabUp_size]) tab_one
/-- the table lies in block b -/
def TabAt (W : World) (b : Nat) : Prop := b < W.heap.size ∧ ∀ c, c < 256 → W.cell? ⟨b, c, none⟩ = some (.int .u32 (entryN c : Int))
theorem TabAt.new (W : World) : TabAt (W.alloc (.cells tab 123)) W.heap.size := ⟨by rw [size1]; omega, fun c hc => by
  rw [cell_of_row _ _ _ _ _ (0, 0) (heap_alloc_last W _)]
  exact tab_at c hc⟩
theorem TabAt.below {W W' : World} {b : Nat} (h : TabAt W b) (hb : Below W.heap.size W W') : TabAt W' b := ⟨Nat.lt_of_lt_of_le h.1 hb.size, fun c hc => (hb.cell (p := ⟨b, c, none⟩) h.1).trans (h.2 c hc)⟩

set_option maxHeartbeats 1000000 in
set_option maxRecDepth 100000 in
theorem sum_any (a : Option Addr) (c : Nat) (l : List ByteArray) (w : World) (hs : Sl w a (strs l)) (hf : Fits l) :
    Calls Tryz.prog 64 #[.slice a l.length c] w fun e w' => e = .returned (.int .u32 (sumN (flat l) : Int)) ∧ Below w.heap.size w w' := by
  have HT := Lib.hid table_any
  have HFL := Lib.hid hf.2
  have hll := hf.1
  have hz := zeroTab
  have hts := tab_size
  have hst := store_tab
  clear hf
  unfold maxLen at hll
  go_enter Tryz.func64, Tryz.ntmps64
  go_wp2_with fail
  refine (HT.out _).mono ?_
  rintro e w1 ⟨rfl, hB1⟩
  have HS1 := Lib.hid (hs.below hB1)
  clear HT hs
  go_wp2
  clear hz hts hst
  have HTB := Lib.hid (TabAt.new w1)
  have hB2 : Below w.heap.size w (w1.alloc (.cells tab 123)) := hB1.alloc hB1.size _
  have HS2 := Lib.hid (HS1.out.below ((Below.refl w1.heap.size w1).alloc (Nat.le_refl _) (.cells tab 123)))
  clear hB1 HS1
  generalize w1.alloc (.cells tab 123) = W at *
  generalize w1.heap.size = tb at *
  have HB2 := Lib.hid hB2
  clear hB2
  go_loopw [4, 11] (fun v i wr => ∃ j : Nat, j ≤ l.length ∧ i = .int .i64 j ∧ v = .int .u32 (goN 4294967295 (flat (l.take j)) : Int) ∧ W = wr) (fun _ i _ => l.length - (intOf i).toNat)
  case atStart => exact ⟨0, by omega, rfl, rfl, rfl⟩
  case round =>
    obtain ⟨j, hj, rfl, rfl, rfl⟩ := hrel
    have hlt : goN 4294967295 (flat (l.take j)) < 4294967296 := goN_lt _ (by decide)
    by_cases hjl : j < l.length
    · have HN : Hid (goN (goN 4294967295 (flat (l.take j))) (toL l[j]) = goN 4294967295 (flat (l.take (j + 1)))) := by
        unfold Hid
        rw [flat_take l j hjl, goN_append]
      obtain ⟨b, off, rfl, hbl, hcell⟩ := HS2.out.str hjl
      have hsz := HFL.out l[j] (List.getElem_mem hjl)
      unfold maxLen at hsz
      generalize l[j] = s at *
      generalize goN 4294967295 (flat (l.take j)) = m at *
      have HF : Hid ((toL s).take s.size = toL s) := List.take_of_length_le (by rw [toL_length]; exact Nat.le_refl _)
      clear HFL hbl
      go_wp2_with fail
      go_loopw [4, 17] (fun v i wr => ∃ k : Nat, k ≤ s.size ∧ i = .int .i64 k ∧ v = .int .u32 (goN m ((toL s).take k) : Int) ∧ W = wr) (fun _ i _ => s.size - (intOf i).toNat)
      case atStart => exact ⟨0, by omega, rfl, rfl, rfl⟩
      case round =>
        obtain ⟨k, hk, rfl, rfl, rfl⟩ := hrel
        have hnt : goN m ((toL s).take k) < 4294967296 := goN_lt _ hlt
        by_cases hks : k < s.size
        · have HM := Lib.hid (goN_take s k hks m)
          generalize goN m ((toL s).take k) = n at *
          obtain ⟨x, hx⟩ : ∃ x, s[k]'hks = x := ⟨_, rfl⟩
          rw [hx] at HM
          have hc : x.toNat < 256 := x.toNat_lt
          have e1 : (n : Int) / 256 = ((n / 256 : Nat) : Int) := by omega
          have e2 : IntKind.u8.wrap (n : Int) = ((n % 256 : Nat) : Int) := by rw [IntKind.wrap_u8']; omega
          have e3 := b_xor8 (n % 256) x.toNat (by omega) hc
          have hxx := xor8 (show n % 256 < 256 by omega) hc
          have e4 := b_xor32 (n / 256) (entryN ((n % 256) ^^^ x.toNat)) (by omega) (entryN_lt hxx)
          have hct := HTB.out.2 _ hxx
          have HE : Hid (stepN n x.toNat = (n / 256) ^^^ entryN ((n % 256) ^^^ x.toNat)) := rfl
          have hi : ((n % 256 ^^^ x.toNat : Nat) : Int) < 256 := by omega
          generalize n / 256 = q at *
          generalize n % 256 = r at *
          generalize r ^^^ x.toNat = y at *
          generalize entryN y = z at *
          go_wp2
          go_roundw
          case rel => exact ⟨k + 1, by omega, by go_num, by rw [← HM.out, HE.out], by trivial⟩
          case measure => simp [intOf]; omega
        · obtain rfl : k = s.size := by omega
          go_wp2
          go_roundw
          case rel => exact ⟨j + 1, by omega, by go_num, by rw [← HN.out, HF.out], by trivial⟩
          case measure => simp [intOf]; omega
    · obtain rfl : j = l.length := by omega
      have HE : Hid (sumN (flat l) = 4294967295 ^^^ goN 4294967295 (flat (l.take l.length))) := by
        unfold Hid
        rw [List.take_of_length_le (Nat.le_refl _)]; rfl
      have e1 := b_ones _ hlt
      generalize goN 4294967295 (flat (l.take l.length)) = m at *
      go_wp2
      go_ret
      exact ⟨retI (by rw [HE.out]), HB2.out⟩
end Go.Proofs.YtollhemkjnkalaaGreatDoor

/- Contract of layer 3: the sum in eight hexadecimal digits; and that a well-known text has its well-known sum. -/
namespace Go.Proofs.YtollhemkjnkalaaGreatDoor
open Go.RowKit
set_option linter.unusedVariables false
set_option maxRecDepth 100000

/-- a sum as a text -/
def textN (n : Nat) : ByteArray := tx (hexOf (n : Int) 8)
set_option maxHeartbeats 1000000 in
theorem text_any (a : Option Addr) (c : Nat) (l : List ByteArray) (w : World) (hs : Sl w a (strs l)) (hf : Fits l) :
    Calls Tryz.prog 42 #[.slice a l.length c] w fun e w' => e = .returned (.string (textN (sumN (flat l)))) ∧ Below w.heap.size w w' := by
  have H1 := Lib.hid (sum_any a c l w hs hf)
  have hlt := sumN_lt (flat l)
  have H2 := Lib.hid (fun W => hex_any (sumN (flat l) : Int) 8 (by omega) (by omega) W)
  clear hs hf
  generalize sumN (flat l) = n at *
  go_enter Tryz.func42, Tryz.ntmps42
  go_wp2_with fail
  refine H1.out.mono ?_
  rintro e w1 ⟨rfl, hB1⟩
  go_wp2_with fail
  refine (H2.out _).mono ?_
  rintro e w2 ⟨rfl, hB2⟩
  go_wp2
  go_ret
  exact ⟨rfl, hB1.trans (hB2.mono hB1.size)⟩

def sl9 : ByteArray := ⟨#[49, 50, 51, 52, 53, 54, 55, 56, 57]⟩
theorem known_sum : sumN (flat [sl9]) = 3808858755 := by decide +kernel
theorem known_two : sumN (flat [⟨#[49, 50, 51, 52]⟩, ⟨#[53, 54, 55, 56, 57]⟩]) = 3808858755 := by decide +kernel
theorem known_text : textN 3808858755 = ⟨#[101, 51, 48, 54, 57, 50, 56, 51]⟩ := by decide +kernel
theorem known_one : entryN 1 = 4067132163 := by decide +kernel
theorem known_step : stepN 0 1 = 4067132163 := by decide +kernel
theorem fits_small (l : List ByteArray) (h : l.length ≤ 1000) (h2 : ∀ s ∈ l, s.size ≤ 1000000) : Fits l := ⟨by unfold maxLen; omega, fun s hs => by have := h2 s hs; unfold maxLen; omega⟩
end Go.Proofs.YtollhemkjnkalaaGreatDoor
