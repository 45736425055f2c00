/- The mathematics of layer 3, without the program: turns, the table's entries, steps, sums; where two numbers' bits differ, bit by bit. -/
import Derived.Test.YtollhemkjnkalaaDoorG0
import Derived.Laws.BitsAllLaws
namespace Go.Proofs.YtollhemkjnkalaaDoor
set_option linter.unusedVariables false
set_option maxRecDepth 100000

/-- one turn -/
def turnN (n : Nat) : Nat := if n % 2 = 1 then (n / 2) ^^^ 2197175160 else n / 2
def turnsN : Nat → Nat → Nat
  | 0, n => n
  | k + 1, n => turnN (turnsN k n)
/-- the table's entry -/
def entryN (c : Nat) : Nat := turnsN 8 c
/-- a sum with one byte more -/
def stepN (s c : Nat) : Nat := (s / 256) ^^^ entryN ((s % 256) ^^^ c)
/-- gone on with all bytes -/
def goN (s : Nat) (l : List UInt8) : Nat := l.foldl (fun s c => stepN s c.toNat) s
def sumN (l : List UInt8) : Nat := 4294967295 ^^^ goN 4294967295 l

theorem xor32 {a b : Nat} (ha : a < 4294967296) (hb : b < 4294967296) : a ^^^ b < 4294967296 := Nat.xor_lt_two_pow (n := 32) ha hb
theorem xor8 {a b : Nat} (ha : a < 256) (hb : b < 256) : a ^^^ b < 256 := Nat.xor_lt_two_pow (n := 8) ha hb
theorem turnN_lt {n : Nat} (h : n < 4294967296) : turnN n < 4294967296 := by
  unfold turnN
  split
  · exact xor32 (by omega) (by omega)
  · omega
theorem turnsN_lt {n : Nat} (h : n < 4294967296) : ∀ k, turnsN k n < 4294967296
  | 0 => h
  | k + 1 => turnN_lt (turnsN_lt h k)
theorem entryN_lt {c : Nat} (h : c < 256) : entryN c < 4294967296 := turnsN_lt (by omega) 8
theorem stepN_lt {s c : Nat} (hs : s < 4294967296) (hc : c < 256) : stepN s c < 4294967296 := xor32 (by omega) (entryN_lt (xor8 (by omega) hc))
theorem goN_lt : ∀ (l : List UInt8) {s : Nat}, s < 4294967296 → goN s l < 4294967296
  | [], _, h => h
  | c :: r, s, h => goN_lt r (stepN_lt h c.toNat_lt)
theorem sumN_lt (l : List UInt8) : sumN l < 4294967296 := xor32 (by decide) (goN_lt l (by decide))
theorem goN_append (s : Nat) (a b : List UInt8) : goN s (a ++ b) = goN (goN s a) b := List.foldl_append ..
theorem goN_snoc (s : Nat) (a : List UInt8) (c : UInt8) : goN s (a ++ [c]) = stepN (goN s a) c.toNat := by rw [goN_append]; rfl

/-! ### a turn spreads over bits -/
theorem turnN_eq (n : Nat) : turnN n = (n / 2) ^^^ (if n % 2 = 1 then 2197175160 else 0) := by
  unfold turnN
  split <;> simp
theorem xor_swap (a b c d : Nat) : (a ^^^ b) ^^^ (c ^^^ d) = (a ^^^ c) ^^^ (b ^^^ d) := by
  rw [Nat.xor_assoc, Nat.xor_assoc, ← Nat.xor_assoc b, ← Nat.xor_assoc c, Nat.xor_comm b c]
theorem turnN_xor (a b : Nat) : turnN (a ^^^ b) = turnN a ^^^ turnN b := by
  rw [turnN_eq, turnN_eq a, turnN_eq b, xor_swap, Nat.xor_div_two]
  congr 1
  rcases Nat.mod_two_eq_zero_or_one a with ha | ha <;> rcases Nat.mod_two_eq_zero_or_one b with hb | hb <;> simp [Nat.xor_mod_two_eq_one, ha, hb]
theorem turnsN_xor (a b : Nat) : ∀ k, turnsN k (a ^^^ b) = turnsN k a ^^^ turnsN k b
  | 0 => rfl
  | k + 1 => by
    show turnN (turnsN k (a ^^^ b)) = _
    rw [turnsN_xor a b k, turnN_xor]
    rfl
theorem entryN_xor (a b : Nat) : entryN (a ^^^ b) = entryN a ^^^ entryN b := turnsN_xor a b 8
theorem entryN_zero : entryN 0 = 0 := by decide +kernel
theorem pow_add_xor (k c : Nat) (h : c < 2 ^ k) : 2 ^ k + c = c ^^^ 2 ^ k := by
  apply Nat.eq_of_testBit_eq
  intro i
  rw [Nat.testBit_xor, Nat.testBit_two_pow]
  rcases Nat.lt_trichotomy i k with hi | hi | hi
  · rw [Nat.testBit_two_pow_add_gt hi, decide_eq_false (by omega)]; simp
  · subst hi
    rw [Nat.testBit_two_pow_add_eq, Nat.testBit_lt_two_pow h]
    simp
  · have h1 : 2 ^ k + c < 2 ^ i := by
      have : 2 ^ (k + 1) ≤ 2 ^ i := Nat.pow_le_pow_right (by decide) hi
      rw [Nat.pow_succ] at this
      omega
    rw [Nat.testBit_lt_two_pow h1, Nat.testBit_lt_two_pow (by omega), decide_eq_false (by omega)]
    rfl
theorem entryN_next (k c : Nat) (h : c < 2 ^ k) : entryN c ^^^ entryN (2 ^ k) = entryN (2 ^ k + c) := by rw [pow_add_xor k c h, entryN_xor]

/-! ### the model's words for bits -/
theorem ones_sub (x : Nat) (h : x < 4294967296) : 4294967295 - x = 4294967295 ^^^ x := by
  apply Nat.eq_of_testBit_eq
  intro i
  have e : 4294967295 - x = 2 ^ 32 - (x + 1) := by omega
  rw [e, Nat.testBit_two_pow_sub_succ (by simpa using h), Nat.testBit_xor, show (4294967295 : Nat) = 2 ^ 32 - 1 by decide, Nat.testBit_two_pow_sub_one]
  by_cases hi : i < 32
  · simp [hi]
  · have : x.testBit i = false := Nat.testBit_lt_two_pow (Nat.lt_of_lt_of_le h (by
      have : 2 ^ 32 ≤ 2 ^ i := Nat.pow_le_pow_right (by decide) (by omega)
      exact this))
    simp [hi, this]
theorem b_xor32 (a b : Nat) (ha : a < 4294967296) (hb : b < 4294967296) : bits .xor .u32 (a : Int) (b : Int) = ((a ^^^ b : Nat) : Int) := u32_xor_nat a b ha hb
theorem b_ones (a : Nat) (ha : a < 4294967296) : bits .xor .u32 IntKind.u32.max (a : Int) = ((4294967295 ^^^ a : Nat) : Int) := by
  rw [show IntKind.u32.max = 4294967295 by decide]
  exact u32_xor_nat 4294967295 a (by decide) ha
theorem b_poly (a : Nat) (ha : a < 4294967296) : bits .xor .u32 (a : Int) 2197175160 = ((a ^^^ 2197175160 : Nat) : Int) := u32_xor_nat a 2197175160 ha (by decide)
theorem b_xor8 (a b : Nat) (ha : a < 256) (hb : b < 256) : bits .xor .u8 (a : Int) (b : Int) = ((a ^^^ b : Nat) : Int) := u8_xor_nat a b ha hb
theorem b_and1 (a : Nat) (ha : a < 4294967296) : bits .and .u32 (a : Int) 1 = ((a % 2 : Nat) : Int) := by
  have := u32_and_nat a 1 ha (by decide)
  rw [Nat.and_one_is_mod] at this
  exact this

/-! ### bit by bit -/
theorem bits_next (x k : Nat) : x % 2 ^ (k + 1) = x % 2 ^ k + (if x / 2 ^ k % 2 = 1 then 2 ^ k else 0) := by
  rw [Nat.pow_succ, Nat.mod_mul]
  rcases Nat.mod_two_eq_zero_or_one (x / 2 ^ k) with h | h <;> simp [h]
theorem bit_differ (a b k : Nat) : ((a ^^^ b) / 2 ^ k % 2 = 1) ↔ a / 2 ^ k % 2 ≠ b / 2 ^ k % 2 := by
  rw [Nat.xor_div_two_pow, Nat.xor_mod_two_eq_one]
  omega

/-! ### whom the table holds -/
def entV (c : Nat) : Value := .int .u32 (entryN c : Int)
/-- the table, filled up to m -/
def tabUp (m : Nat) : Array Value := ((List.range 256).map fun c => if c < m then entV c else .int .u32 0).toArray
def tab : Array Value := ((List.range 256).map entV).toArray
theorem tabUp_size (m : Nat) : (tabUp m).size = 256 := by simp [tabUp]
theorem tab_size : tab.size = 256 := by simp [tab]
theorem tabUp_all : tabUp 256 = tab := by
  have h : ((List.range 256).map fun c => if c < 256 then entV c else .int .u32 0) = (List.range 256).map entV := List.map_congr_left fun c hc => if_pos (List.mem_range.1 hc)
  unfold tabUp tab
  rw [h]
theorem tabUp_one : tabUp 1 = Array.replicate 256 (.int .u32 0) := by
  apply Array.ext (by simp [tabUp])
  intro i h1 h2
  simp only [tabUp, List.getElem_toArray, List.getElem_map, List.getElem_range, Array.getElem_replicate]
  split
  · have : i = 0 := by omega
    subst this
    show Value.int .u32 (entryN 0 : Int) = _
    rw [entryN_zero]; rfl
  · rfl
theorem tabUp_at (m c : Nat) (h : c < m) (hc : c < 256) : (tabUp m)[c]? = some (.int .u32 (entryN c : Int)) := by
  rw [Array.getElem?_eq_getElem (by rw [tabUp_size]; exact hc)]
  simp only [tabUp, List.getElem_toArray, List.getElem_map, List.getElem_range]
  rw [if_pos h]; rfl
theorem tabUp_in (m c : Nat) (hc : c < 256) : ∃ v, (tabUp m)[c]? = some v := ⟨_, Array.getElem?_eq_getElem (by rw [tabUp_size]; exact hc)⟩
theorem tab_at (c : Nat) (hc : c < 256) : tab[c]? = some (.int .u32 (entryN c : Int)) := by rw [← tabUp_all]; exact tabUp_at 256 c hc hc
theorem tabUp_next (m : Nat) (h : m < 256) : (tabUp m).setIfInBounds m (.int .u32 (entryN m : Int)) = tabUp (m + 1) := by
  apply Array.ext (by simp [tabUp])
  intro i h1 h2
  have hi : i < 256 := by simpa [tabUp] using h2
  rw [Array.getElem_setIfInBounds (by simpa [tabUp] using hi)]
  simp only [tabUp, List.getElem_toArray, List.getElem_map, List.getElem_range]
  by_cases e : m = i
  · subst e
    rw [if_pos rfl, if_pos (by omega)]; rfl
  · rw [if_neg e]
    by_cases h3 : i < m
    · rw [if_pos h3, if_pos (by omega)]
    · rw [if_neg h3, if_neg (by omega)]
theorem tab_one : tab.all (·.oneCell') = true := by
  rw [Array.all_eq_true_iff_forall_mem]
  intro v hv
  simp only [tab, List.mem_toArray, List.mem_map] at hv
  obtain ⟨c, _, rfl⟩ := hv
  rfl
end Go.Proofs.YtollhemkjnkalaaDoor
