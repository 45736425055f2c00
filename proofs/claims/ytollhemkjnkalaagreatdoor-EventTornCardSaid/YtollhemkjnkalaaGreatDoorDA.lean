/- Texts of mine, one behind the other: D1 D2 D3 D4. -/
import Derived.Lib.Bytealg
import Derived.Lib.ItoaNum
import Derived.Lib.ItoaMem
import Derived.Lib.Join
import Derived.Lib.Split
import Derived.Lib.SplitLaws
import Derived.Lib.IndexBytes
import Derived.Test.YtollhemkjnkalaaGreatDoorG0
import Derived.Lib.SlBytesRow
/- Plain mathematics of digits: hexadecimal and decimal digits of numbers, and the numbers of texts. -/
namespace Go.Proofs.YtollhemkjnkalaaGreatDoor
set_option linter.unusedVariables false
set_option maxRecDepth 100000

/-- the digit of a value below 16 -/
def dgB (d : Nat) : UInt8 := UInt8.ofNat (if d < 10 then 48 + d else 87 + d)
/-- the lowest k hexadecimal digits of n, the highest first -/
def hexL (n : Nat) : Nat → List UInt8
  | 0 => []
  | k + 1 => dgB (n / 16 ^ k % 16) :: hexL n k
theorem hexL_length (n : Nat) : ∀ k, (hexL n k).length = k
  | 0 => rfl
  | k + 1 => by simp [hexL, hexL_length n k]
def hexOf (n wide : Int) : List UInt8 := if 1 ≤ wide ∧ wide ≤ 12 ∧ 0 ≤ n ∧ n < 16 ^ wide.toNat then hexL n.toNat wide.toNat else []

/-- the value of a hexadecimal digit, or -1 -/
def hexV (c : UInt8) : Int := if 48 ≤ c.toNat ∧ c.toNat ≤ 57 then (c.toNat : Int) - 48 else if 97 ≤ c.toNat ∧ c.toNat ≤ 102 then (c.toNat : Int) - 87 else -1
/-- the value of a decimal digit, or -1 -/
def decV (c : UInt8) : Int := if 48 ≤ c.toNat ∧ c.toNat ≤ 57 then (c.toNat : Int) - 48 else -1
theorem byte_all (p : UInt8 → Prop) (h : ∀ n < 256, p (UInt8.ofNat n)) (c : UInt8) : p c := by
  have := h c.toNat c.toNat_lt
  simpa using this
theorem hexV_index (c : UInt8) : Lib.indexByte [48, 49, 50, 51, 52, 53, 54, 55, 56, 57, 97, 98, 99, 100, 101, 102] c = hexV c :=
  byte_all (fun c => Lib.indexByte [48, 49, 50, 51, 52, 53, 54, 55, 56, 57, 97, 98, 99, 100, 101, 102] c = hexV c) (by decide +kernel) c
theorem decV_index (c : UInt8) : Lib.indexByte [48, 49, 50, 51, 52, 53, 54, 55, 56, 57] c = decV c :=
  byte_all (fun c => Lib.indexByte [48, 49, 50, 51, 52, 53, 54, 55, 56, 57] c = decV c) (by decide +kernel) c
theorem hexV_dgB : ∀ d, d < 16 → hexV (dgB d) = d := by decide +kernel
theorem decV_dgB : ∀ d, d < 10 → decV (UInt8.ofNat (48 + d)) = d := by decide +kernel
theorem hexV_lt (c : UInt8) : hexV c < 16 := by unfold hexV; split <;> (try split) <;> omega
theorem decV_lt (c : UInt8) : decV c < 10 := by unfold decV; split <;> omega
theorem hexV_ge (c : UInt8) : -1 ≤ hexV c := by unfold hexV; split <;> (try split) <;> omega
theorem decV_ge (c : UInt8) : -1 ≤ decV c := by unfold decV; split <;> omega
theorem dgB_hexV (c : UInt8) (h : 0 ≤ hexV c) : dgB (hexV c).toNat = c := by
  have := byte_all (fun c => 0 ≤ hexV c → dgB (hexV c).toNat = c) (by decide +kernel) c
  exact this h
theorem ofNat_decV (c : UInt8) (h : 0 ≤ decV c) : UInt8.ofNat (48 + (decV c).toNat) = c := by
  have := byte_all (fun c => 0 ≤ decV c → UInt8.ofNat (48 + (decV c).toNat) = c) (by decide +kernel) c
  exact this h

/-- the number that the digits count to, if none is amiss and none of the sums passes most -/
def numF (V : UInt8 → Int) (b most : Int) : List UInt8 → Int → Option Int
  | [], n => some n
  | c :: r, n => if V c < 0 then none else if b * n + V c > most then none else numF V b most r (b * n + V c)
theorem numF_bad (V : UInt8 → Int) (b most : Int) (c : UInt8) (r : List UInt8) (n : Int) (h : V c < 0) : numF V b most (c :: r) n = none := by unfold numF; rw [if_pos h]
theorem numF_past (V : UInt8 → Int) (b most : Int) (c : UInt8) (r : List UInt8) (n : Int) (h : ¬ V c < 0) (h2 : b * n + V c > most) : numF V b most (c :: r) n = none := by
  unfold numF; rw [if_neg h, if_pos h2]
theorem numF_next (V : UInt8 → Int) (b most : Int) (c : UInt8) (r : List UInt8) (n : Int) (h : ¬ V c < 0) (h2 : ¬ b * n + V c > most) : numF V b most (c :: r) n = numF V b most r (b * n + V c) := by
  conv => lhs; unfold numF
  rw [if_neg h, if_neg h2]
theorem numF_mono (V : UInt8 → Int) (b most most' : Int) (hm : most ≤ most') : ∀ (l : List UInt8) (n m : Int), numF V b most l n = some m → numF V b most' l n = some m
  | [], n, m, h => h
  | c :: r, n, m, h => by
    by_cases h1 : V c < 0
    · rw [numF_bad V b most c r n h1] at h; cases h
    · by_cases h2 : b * n + V c > most
      · rw [numF_past V b most c r n h1 h2] at h; cases h
      · rw [numF_next V b most c r n h1 h2] at h
        rw [numF_next V b most' c r n h1 (by omega)]
        exact numF_mono V b most most' hm r _ m h
theorem numF_append (V : UInt8 → Int) (b most : Int) : ∀ (l k : List UInt8) (n : Int), numF V b most (l ++ k) n = (numF V b most l n).bind (numF V b most k)
  | [], k, n => rfl
  | c :: r, k, n => by
    rw [List.cons_append]
    by_cases h1 : V c < 0
    · rw [numF_bad V b most c _ n h1, numF_bad V b most c r n h1]; rfl
    · by_cases h2 : b * n + V c > most
      · rw [numF_past V b most c _ n h1 h2, numF_past V b most c r n h1 h2]; rfl
      · rw [numF_next V b most c _ n h1 h2, numF_next V b most c r n h1 h2, numF_append V b most r k]
theorem numF_range (V : UInt8 → Int) (b most : Int) (hb : 0 ≤ b) : ∀ (l : List UInt8) (n m : Int), 0 ≤ n → n ≤ most → numF V b most l n = some m → 0 ≤ m ∧ m ≤ most
  | [], n, m, h0, h1, h => by cases h; exact ⟨h0, h1⟩
  | c :: r, n, m, h0, h1, h => by
    by_cases h2 : V c < 0
    · rw [numF_bad V b most c r n h2] at h; cases h
    · by_cases h3 : b * n + V c > most
      · rw [numF_past V b most c r n h2 h3] at h; cases h
      · rw [numF_next V b most c r n h2 h3] at h
        have := Int.mul_nonneg hb h0
        exact numF_range V b most hb r _ m (by omega) (by omega) h

/-! ### hexadecimal -/
theorem pow16 (k : Nat) : 16 ^ (k + 1) = 16 * 16 ^ k := by rw [Nat.pow_succ]; omega
theorem mod_pow (n k : Nat) : n % 16 ^ (k + 1) = (n / 16 ^ k % 16) * 16 ^ k + n % 16 ^ k := by
  rw [Nat.pow_succ, Nat.mod_mul, Nat.mul_comm (16 ^ k) _, Nat.add_comm]
theorem numF_hexL (most : Nat) (n : Nat) : ∀ (k a : Nat), a * 16 ^ k + n % 16 ^ k ≤ most → numF hexV 16 most (hexL n k) a = some ((a * 16 ^ k + n % 16 ^ k : Nat) : Int)
  | 0, a, h => by simp [hexL, numF, Nat.mod_one]
  | k + 1, a, h => by
    have hd : n / 16 ^ k % 16 < 16 := Nat.mod_lt _ (by decide)
    have hv := hexV_dgB _ hd
    have e : (16 * a + n / 16 ^ k % 16) * 16 ^ k + n % 16 ^ k = a * 16 ^ (k + 1) + n % 16 ^ (k + 1) := by
      rw [mod_pow, pow16, Nat.add_mul, Nat.mul_assoc, Nat.mul_left_comm, Nat.add_assoc]
    have hp : 1 ≤ 16 ^ k := Nat.one_le_pow _ _ (by decide)
    have hle : 16 * a + n / 16 ^ k % 16 ≤ most := by
      have h1 : (16 * a + n / 16 ^ k % 16) * 1 ≤ (16 * a + n / 16 ^ k % 16) * 16 ^ k := Nat.mul_le_mul_left _ hp
      omega
    have step : (16 : Int) * (a : Int) + ((n / 16 ^ k % 16 : Nat) : Int) = ((16 * a + n / 16 ^ k % 16 : Nat) : Int) := by omega
    show numF hexV 16 most (dgB (n / 16 ^ k % 16) :: hexL n k) a = _
    rw [numF_next _ _ _ _ _ _ (by rw [hv]; omega) (by rw [hv, step]; omega), hv, step, numF_hexL most n k _ (by omega), e]

theorem hexL_low (v : Nat) : ∀ (k j d : Nat), k ≤ j → hexL (d * 16 ^ j + v) k = hexL v k
  | 0, _, _, _ => rfl
  | k + 1, j, d, h => by
    have hp : 0 < 16 ^ k := Nat.pow_pos (by decide)
    have e : (d * 16 ^ j + v) / 16 ^ k % 16 = v / 16 ^ k % 16 := by
      obtain ⟨t, rfl⟩ : ∃ t, j = k + 1 + t := ⟨j - (k + 1), by omega⟩
      have : d * 16 ^ (k + 1 + t) + v = v + 16 ^ k * (16 * (d * 16 ^ t)) := by
        rw [Nat.pow_add, Nat.pow_succ]
        have : d * (16 ^ k * 16 * 16 ^ t) = 16 ^ k * (16 * (d * 16 ^ t)) := by
          rw [Nat.mul_assoc (16 ^ k), Nat.mul_left_comm d, Nat.mul_left_comm d]
        omega
      rw [this, Nat.add_mul_div_left _ _ hp]
      omega
    show dgB _ :: hexL _ k = dgB _ :: hexL v k
    rw [e, hexL_low v k j d (by omega)]

theorem numF_hex_inv (most : Int) : ∀ (l : List UInt8) (a : Nat) (m : Int), numF hexV 16 most l a = some m →
    ∃ v : Nat, m = ((a * 16 ^ l.length + v : Nat) : Int) ∧ v < 16 ^ l.length ∧ hexL v l.length = l
  | [], a, m, h => ⟨0, by cases h; simp, by simp, rfl⟩
  | c :: r, a, m, h => by
    by_cases h2 : hexV c < 0
    · rw [numF_bad hexV 16 most c r a h2] at h; cases h
    · by_cases h3 : 16 * (a : Int) + hexV c > most
      · rw [numF_past hexV 16 most c r a h2 h3] at h; cases h
      · rw [numF_next hexV 16 most c r a h2 h3] at h
        have hlt := hexV_lt c
        obtain ⟨d, hd⟩ : ∃ d : Nat, hexV c = d := ⟨(hexV c).toNat, by omega⟩
        have hdc : dgB d = c := by have := dgB_hexV c (by omega); rwa [hd, Int.toNat_natCast] at this
        have e : 16 * (a : Int) + hexV c = ((16 * a + d : Nat) : Int) := by omega
        rw [e] at h
        obtain ⟨v, hm, hv, hl⟩ := numF_hex_inv most r (16 * a + d) m h
        have hp : 0 < 16 ^ r.length := Nat.pow_pos (by decide)
        refine ⟨d * 16 ^ r.length + v, ?_, ?_, ?_⟩
        · rw [hm, List.length_cons, pow16, Nat.add_mul, Nat.mul_assoc, Nat.mul_left_comm, Nat.add_assoc]
        · rw [List.length_cons, pow16]
          have : d * 16 ^ r.length ≤ 15 * 16 ^ r.length := Nat.mul_le_mul_right _ (by omega)
          omega
        · show dgB ((d * 16 ^ r.length + v) / 16 ^ r.length % 16) :: hexL (d * 16 ^ r.length + v) r.length = c :: r
          rw [hexL_low v r.length r.length d (Nat.le_refl _), hl]
          have : (d * 16 ^ r.length + v) / 16 ^ r.length % 16 = d := by
            rw [Nat.add_comm, Nat.mul_comm, Nat.add_mul_div_left _ _ hp, Nat.div_eq_of_lt hv]
            omega
          rw [this, hdc]

def most48 : Int := 281474976710655
def unhexL (l : List UInt8) : Option Int := if 1 ≤ l.length ∧ l.length ≤ 12 then numF hexV 16 most48 l 0 else none
theorem pow12 (k : Nat) (h : k ≤ 12) : 16 ^ k ≤ 281474976710656 := by
  have : 16 ^ k ≤ 16 ^ 12 := Nat.pow_le_pow_right (by decide) h
  simpa using this
theorem unhex_hexL (n k : Nat) (h1 : 1 ≤ k) (h2 : k ≤ 12) (hn : n < 16 ^ k) : unhexL (hexL n k) = some (n : Int) := by
  unfold unhexL
  have hp := pow12 k h2
  rw [hexL_length, if_pos ⟨h1, h2⟩]
  have := numF_hexL 281474976710655 n k 0 (by rw [Nat.mod_eq_of_lt hn]; omega)
  rw [Nat.mod_eq_of_lt hn] at this
  simpa [most48] using this
theorem hexOf_in {n wide : Int} (h1 : 1 ≤ wide) (h2 : wide ≤ 12) (h3 : 0 ≤ n) (h4 : n < 16 ^ wide.toNat) : hexOf n wide = hexL n.toNat wide.toNat := by unfold hexOf; rw [if_pos ⟨h1, h2, h3, h4⟩]
theorem hexOf_cases (n wide : Int) : hexOf n wide = [] ∨ (1 ≤ wide ∧ wide ≤ 12 ∧ 0 ≤ n ∧ n < 16 ^ wide.toNat ∧ hexOf n wide = hexL n.toNat wide.toNat) := by
  unfold hexOf
  split
  · rename_i h; exact .inr ⟨h.1, h.2.1, h.2.2.1, h.2.2.2, rfl⟩
  · exact .inl rfl
/-- WHAT WAS WRITTEN IS READ AS IT WAS -/
theorem unhex_hexOf (n wide : Int) : (hexOf n wide = [] ∧ unhexL (hexOf n wide) = none) ∨ (hexOf n wide ≠ [] ∧ unhexL (hexOf n wide) = some n ∧ ((hexOf n wide).length : Int) = wide) := by
  rcases hexOf_cases n wide with h | ⟨h1, h2, h3, h4, h⟩
  · left; rw [h]; exact ⟨rfl, rfl⟩
  · right
    rw [h]
    have hl := hexL_length n.toNat wide.toNat
    refine ⟨fun e => by rw [e] at hl; simp at hl; omega, ?_, by rw [hl]; omega⟩
    rw [unhex_hexL _ _ (by omega) (by omega) (by have : ((16 ^ wide.toNat : Nat) : Int) = 16 ^ wide.toNat := by simp
                                                 omega)]
    congr 1; omega
theorem hexOf_unhex (l : List UInt8) (m : Int) (h : unhexL l = some m) : hexOf m l.length = l ∧ 0 ≤ m ∧ 1 ≤ l.length ∧ l.length ≤ 12 := by
  unfold unhexL at h
  split at h
  · rename_i hl
    obtain ⟨v, hm, hv, he⟩ := numF_hex_inv most48 l 0 m (by simpa using h)
    simp only [Nat.zero_mul, Nat.zero_add] at hm
    have hc : ((16 ^ l.length : Nat) : Int) = 16 ^ l.length := by simp
    rw [hexOf_in (by omega) (by omega) (by omega) (by rw [Int.toNat_natCast, hm]; omega), Int.toNat_natCast, hm, Int.toNat_natCast]
    exact ⟨he, by omega, hl.1, hl.2⟩
  · cases h

/-! ### order, and one digit more -/
theorem bytesLess_hexL (a b : Nat) : ∀ k, a < 16 ^ k → b < 16 ^ k → Op.bytesLess (hexL a k) (hexL b k) = decide (a < b)
  | 0, ha, hb => by
    have : a = 0 := by simpa using ha
    have : b = 0 := by simpa using hb
    subst a b; rfl
  | k + 1, ha, hb => by
    have hp : 0 < 16 ^ k := Nat.pow_pos (by decide)
    rw [pow16] at ha hb
    have da : a / 16 ^ k < 16 := Nat.div_lt_of_lt_mul (by rw [Nat.mul_comm]; exact ha)
    have db : b / 16 ^ k < 16 := Nat.div_lt_of_lt_mul (by rw [Nat.mul_comm]; exact hb)
    have ea := Nat.div_add_mod a (16 ^ k)
    have eb := Nat.div_add_mod b (16 ^ k)
    have ra : a % 16 ^ k < 16 ^ k := Nat.mod_lt _ hp
    have rb : b % 16 ^ k < 16 ^ k := Nat.mod_lt _ hp
    have la : hexL a k = hexL (a % 16 ^ k) k := by
      conv => lhs; rw [← ea, Nat.mul_comm]
      exact hexL_low _ k k _ (Nat.le_refl _)
    have lb : hexL b k = hexL (b % 16 ^ k) k := by
      conv => lhs; rw [← eb, Nat.mul_comm]
      exact hexL_low _ k k _ (Nat.le_refl _)
    have ih := bytesLess_hexL (a % 16 ^ k) (b % 16 ^ k) k ra rb
    show (dgB (a / 16 ^ k % 16) < dgB (b / 16 ^ k % 16) || (dgB (a / 16 ^ k % 16) == dgB (b / 16 ^ k % 16) && Op.bytesLess (hexL a k) (hexL b k))) = _
    rw [Nat.mod_eq_of_lt da, Nat.mod_eq_of_lt db, la, lb, ih]
    have dl : ∀ x, x < 16 → ∀ y, y < 16 → (decide (dgB x < dgB y) = decide (x < y) ∧ (dgB x == dgB y) = decide (x = y)) := by decide +kernel
    rw [(dl _ da _ db).1, (dl _ da _ db).2]
    generalize a / 16 ^ k = x at *
    generalize b / 16 ^ k = y at *
    generalize a % 16 ^ k = u at *
    generalize b % 16 ^ k = v at *
    rcases Nat.lt_trichotomy x y with h | h | h
    · have : 16 ^ k * x + 16 ^ k ≤ 16 ^ k * y := by
        have := Nat.mul_le_mul_left (16 ^ k) (show x + 1 ≤ y by omega)
        rwa [Nat.mul_succ] at this
      rw [decide_eq_true h, Bool.true_or, decide_eq_true (show a < b by omega)]
    · subst h
      rw [decide_eq_false (by omega : ¬ x < x), decide_eq_true rfl, Bool.false_or, Bool.true_and]
      congr 1
      exact propext ⟨fun h => by omega, fun h => by omega⟩
    · have : 16 ^ k * y + 16 ^ k ≤ 16 ^ k * x := by
        have := Nat.mul_le_mul_left (16 ^ k) (show y + 1 ≤ x by omega)
        rwa [Nat.mul_succ] at this
      rw [decide_eq_false (by omega : ¬ x < y), decide_eq_false (by omega : ¬ x = y), Bool.false_and, Bool.or_false, decide_eq_false (show ¬ a < b by omega)]
theorem hexL_inj (a b k : Nat) (ha : a < 16 ^ k) (hb : b < 16 ^ k) (h : hexL a k = hexL b k) : a = b := by
  have h1 := bytesLess_hexL a b k ha hb
  have h2 := bytesLess_hexL b a k hb ha
  have h3 := bytesLess_hexL a a k ha ha
  rw [h] at h1
  rw [← h] at h2
  rw [← h, h3] at h1
  rw [h3] at h2
  have e1 : ¬ a < b := by simpa using h1.symm
  have e2 : ¬ b < a := by simpa using h2.symm
  omega
theorem hexL_more (n k : Nat) (h : n < 16 ^ k) : hexL n (k + 1) = 48 :: hexL n k := by
  show dgB (n / 16 ^ k % 16) :: hexL n k = _
  rw [Nat.div_eq_of_lt h]
  rfl
end Go.Proofs.YtollhemkjnkalaaGreatDoor

/- Plain mathematics of decimal digits, and of words in a line. -/
namespace Go.Proofs.YtollhemkjnkalaaGreatDoor
open Go.Lib
set_option linter.unusedVariables false
set_option maxRecDepth 100000

def forever : Int := 1099511627776
def decOf (n : Int) : List UInt8 := if 0 ≤ n ∧ n ≤ forever then decDigits n.toNat else []
def undecL (l : List UInt8) : Option Int := if l = [] ∨ (l.head? = some 48 ∧ l ≠ [48]) then none else numF decV 10 forever l 0

theorem head_app {l k : List UInt8} (h : l ≠ []) : (l ++ k).head? = l.head? := by
  cases l with
  | nil => exact absurd rfl h
  | cons a r => rfl
theorem decDigits_small {u : Nat} (h : u < 10) : decDigits u = [UInt8.ofNat (48 + u)] := by rw [decDigits, dif_pos h]
theorem decDigits_big {u : Nat} (h : ¬ u < 10) : decDigits u = decDigits (u / 10) ++ [UInt8.ofNat (48 + u % 10)] := by rw [decDigits, dif_neg h]
theorem decDigits_ne (u : Nat) : decDigits u ≠ [] := by
  by_cases h : u < 10
  · rw [decDigits_small h]; simp
  · rw [decDigits_big h]; simp
theorem numF_one (most : Int) (d n : Nat) (hd : d < 10) (h : ((10 * n + d : Nat) : Int) ≤ most) : numF decV 10 most [UInt8.ofNat (48 + d)] n = some ((10 * n + d : Nat) : Int) := by
  have hv := decV_dgB d hd
  have e : 10 * (n : Int) + (d : Int) = ((10 * n + d : Nat) : Int) := by omega
  rw [numF_next _ _ _ _ _ _ (by rw [hv]; omega) (by rw [hv, e]; omega), hv, e]
  rfl
theorem numF_decDigits (most : Nat) (u : Nat) (h : u ≤ most) : numF decV 10 most (decDigits u) 0 = some (u : Int) := by
  induction u using Nat.strongRecOn with
  | _ u ih =>
    by_cases h10 : u < 10
    · rw [decDigits_small h10]
      have := numF_one most u 0 h10 (by omega)
      simpa using this
    · rw [decDigits_big h10, numF_append, ih (u / 10) (by omega) (by omega), Option.bind_some, numF_one most (u % 10) (u / 10) (by omega) (by omega)]
      congr 1; omega
theorem decDigits_head (u : Nat) : (decDigits u).head? = some 48 → decDigits u = [48] := by
  induction u using Nat.strongRecOn with
  | _ u ih =>
    by_cases h10 : u < 10
    · rw [decDigits_small h10]
      intro h; simpa using h
    · rw [decDigits_big h10]
      intro h
      have hne := decDigits_ne (u / 10)
      rw [head_app hne] at h
      have := ih (u / 10) (by omega) h
      have hp := numF_decDigits (u / 10) (u / 10) (Nat.le_refl _)
      rw [this] at hp
      have e : numF decV 10 (u / 10 : Nat) [48] 0 = some 0 := by
        have := numF_one (u / 10 : Nat) 0 0 (by decide) (by omega)
        simpa using this
      rw [e] at hp
      have : (0 : Int) = ((u / 10 : Nat) : Int) := Option.some.inj hp
      omega
theorem decDigits_of_num (most : Int) : ∀ (k : Nat) (l : List UInt8), l.length = k → ∀ m, l ≠ [] → (l.head? = some 48 → l = [48]) → numF decV 10 most l 0 = some m → ∃ u : Nat, m = u ∧ decDigits u = l
  | 0, l, hk, m, hne, _, _ => absurd (List.eq_nil_of_length_eq_zero hk) hne
  | k + 1, l, hk, m, hne, hh, h => by
    obtain ⟨l', c, rfl⟩ : ∃ l' c, l = l' ++ [c] := ⟨l.dropLast, l.getLast hne, (List.dropLast_concat_getLast hne).symm⟩
    rw [numF_append] at h
    rw [List.length_append] at hk
    simp only [List.length_cons, List.length_nil] at hk
    cases hn : numF decV 10 most l' 0 with
    | none => rw [hn] at h; cases h
    | some n =>
      rw [hn, Option.bind_some] at h
      by_cases h1 : decV c < 0
      · rw [numF_bad _ _ _ _ _ _ h1] at h; cases h
      by_cases h2 : 10 * n + decV c > most
      · rw [numF_past _ _ _ _ _ _ h1 h2] at h; cases h
      rw [numF_next _ _ _ _ _ _ h1 h2] at h
      have hm : 10 * n + decV c = m := Option.some.inj h
      have hlt := decV_lt c
      have hc := ofNat_decV c (by omega)
      by_cases he : l' = []
      · subst he
        have : (0 : Int) = n := Option.some.inj hn
        subst this
        refine ⟨(decV c).toNat, by omega, ?_⟩
        rw [decDigits_small (by omega), hc]; rfl
      · have hh' : l'.head? = some 48 → l' = [48] := fun h48 => by
          have := hh (by rw [head_app he]; exact h48)
          have hl := congrArg List.length this
          simp at hl
          exact absurd hl he
        obtain ⟨u, rfl, hu⟩ := decDigits_of_num most k l' (by omega) n he hh' hn
        have hu0 : u ≠ 0 := fun e => by
          subst e
          rw [decDigits_small (by decide)] at hu
          have h48 : (l' ++ [c]).head? = some 48 := by rw [← hu]; rfl
          have := hh h48
          rw [← hu] at this
          simp at this
        refine ⟨10 * u + (decV c).toNat, by omega, ?_⟩
        rw [decDigits_big (by omega), show (10 * u + (decV c).toNat) / 10 = u by omega, show (10 * u + (decV c).toNat) % 10 = (decV c).toNat by omega, hu, hc]

theorem undec_decOf (n : Int) (h : 0 ≤ n) (h2 : n ≤ forever) : undecL (decOf n) = some n ∧ decOf n ≠ [] := by
  have hd : decOf n = decDigits n.toNat := by unfold decOf; rw [if_pos ⟨h, h2⟩]
  rw [hd]
  refine ⟨?_, decDigits_ne _⟩
  unfold undecL
  rw [if_neg (by rintro (e | ⟨e, e2⟩); exact decDigits_ne _ e; exact e2 (decDigits_head _ e))]
  have := numF_decDigits 1099511627776 n.toNat (by unfold forever at h2; omega)
  rw [show forever = ((1099511627776 : Nat) : Int) from rfl, this]
  congr 1; omega
theorem decOf_undec (l : List UInt8) (m : Int) (h : undecL l = some m) : decOf m = l ∧ 0 ≤ m ∧ m ≤ forever := by
  unfold undecL at h
  split at h
  · cases h
  · rename_i hn
    have hr := numF_range decV 10 forever (by decide) l 0 m (by decide) (by decide) h
    obtain ⟨u, rfl, hu⟩ := decDigits_of_num forever l.length l rfl m (fun e => hn (.inl e)) (fun e => Classical.byContradiction fun e2 => hn (.inr ⟨e, e2⟩)) h
    refine ⟨?_, hr.1, hr.2⟩
    unfold decOf
    rw [if_pos ⟨hr.1, hr.2⟩, Int.toNat_natCast, hu]
theorem undec_nil : undecL [] = none := by unfold undecL; rw [if_pos (.inl rfl)]

/-- the document's own way: all digits read, and held against what is written of the number -/
def refUndec (l : List UInt8) : Option Int :=
  if 1 ≤ l.length ∧ l.length ≤ 13 then (numF decV 10 9999999999999 l 0).bind fun n => if decOf n = l then some n else none else none
theorem nDigits_le : ∀ (k u : Nat), 1 ≤ k → u < 10 ^ k → nDigits u ≤ k
  | 0, _, h, _ => absurd h (by decide)
  | 1, u, _, h => by rw [nDigits_small (by simpa using h)]; exact Nat.le_refl _
  | k + 2, u, _, h => by
    by_cases h10 : u < 10
    · rw [nDigits_small h10]; omega
    · rw [nDigits_big h10]
      have := nDigits_le (k + 1) (u / 10) (by omega) (by rw [Nat.pow_succ] at h; omega)
      omega
theorem refUndec_eq (l : List UInt8) : refUndec l = undecL l := by
  cases hu : undecL l with
  | some m =>
    obtain ⟨hd, h0, h1⟩ := decOf_undec l m hu
    unfold forever at h1
    have hl : l = decDigits m.toNat := by rw [← hd]; unfold decOf forever; rw [if_pos ⟨h0, h1⟩]
    have hlen : l.length ≤ 13 := by
      rw [hl, decDigits_length]
      exact nDigits_le 13 _ (by decide) (by omega)
    have hne : 1 ≤ l.length := by
      rcases Nat.eq_zero_or_pos l.length with h | h
      · have := List.eq_nil_of_length_eq_zero h
        subst this
        rw [undec_nil] at hu; cases hu
      · exact h
    have hn : numF decV 10 forever l 0 = some m := by
      unfold undecL at hu
      split at hu
      · cases hu
      · exact hu
    unfold refUndec
    rw [if_pos ⟨hne, hlen⟩, numF_mono decV 10 forever 9999999999999 (by decide) l 0 m hn, Option.bind_some, if_pos hd]
  | none =>
    unfold refUndec
    split
    · rename_i hl
      cases hn : numF decV 10 9999999999999 l 0 with
      | none => rfl
      | some n =>
        rw [Option.bind_some]
        by_cases hd : decOf n = l
        · exfalso
          have hb : 0 ≤ n ∧ n ≤ forever := by
            by_cases hb : 0 ≤ n ∧ n ≤ forever
            · exact hb
            · unfold decOf at hd
              rw [if_neg hb] at hd
              subst hd
              simp at hl
          have := (undec_decOf n hb.1 hb.2).1
          rw [hd, hu] at this
          cases this
        · rw [if_neg hd]
    · rfl

/-! ### words -/
def isW (c : UInt8) : Bool := 33 ≤ c && c ≤ 126
def isWord (l : List UInt8) : Bool := !l.isEmpty && l.all isW
def lineOf (ls : List (List UInt8)) : List UInt8 := if ls.all isWord then Lib.join ls [32] else []
/-- cut at the blanks, with what is read of the first word so far -/
def cut : List UInt8 → List UInt8 → List (List UInt8)
  | w, [] => [w]
  | w, c :: r => if c = 32 then w :: cut [] r else cut (w ++ [c]) r
theorem cut_ne (w s : List UInt8) : cut w s ≠ [] := by
  induction s generalizing w with
  | nil => simp [cut]
  | cons c r ih =>
    unfold cut
    split
    · simp
    · exact ih _
theorem joinTail_cons (sep x : List UInt8) (r : List (List UInt8)) : Lib.joinTail sep (x :: r) = sep ++ x ++ Lib.joinTail sep r := by simp [Lib.joinTail]
theorem join_cut (w s : List UInt8) : Lib.join (cut w s) [32] = w ++ s := by
  induction s generalizing w with
  | nil => simp [cut, Lib.join_one]
  | cons c r ih =>
    unfold cut
    split
    · rename_i h
      subst h
      have := ih []
      match hc : cut [] r with
      | [] => exact absurd hc (cut_ne [] r)
      | x :: t =>
        rw [hc, Lib.join_cons] at this
        rw [Lib.join_cons, joinTail_cons]
        simp only [List.nil_append] at this
        rw [← this]; simp
    · rw [ih]; simp
theorem cut_word (w x s : List UInt8) (h : x.all isW = true) : cut w (x ++ s) = cut (w ++ x) s := by
  induction x generalizing w with
  | nil => simp
  | cons c r ih =>
    rw [List.all_cons, Bool.and_eq_true] at h
    have hc : c ≠ 32 := fun e => by subst e; exact absurd h.1 (by decide)
    rw [List.cons_append]
    conv => lhs; unfold cut
    rw [if_neg hc, ih _ h.2, List.append_assoc]; rfl
theorem cut_join (ls : List (List UInt8)) (hne : ls ≠ []) (h : ls.all isWord = true) : cut [] (Lib.join ls [32]) = ls := by
  have key : ∀ (r : List (List UInt8)) (x w : List UInt8), r.all isWord = true → x.all isW = true → cut w (x ++ Lib.joinTail [32] r) = (w ++ x) :: r := by
    intro r
    induction r with
    | nil =>
      intro x w _ hx
      rw [cut_word w x _ hx]; simp [Lib.joinTail, cut]
    | cons y r ih =>
      intro x w hr hx
      rw [List.all_cons, Bool.and_eq_true] at hr
      have hy : y.all isW = true := by have := hr.1; unfold isWord at this; rw [Bool.and_eq_true] at this; exact this.2
      rw [cut_word w x _ hx, joinTail_cons, List.append_assoc, List.singleton_append]
      conv => lhs; unfold cut
      rw [if_pos rfl, ih y [] hr.2 hy]; rfl
  match ls with
  | [] => exact absurd rfl hne
  | x :: r =>
    rw [List.all_cons, Bool.and_eq_true] at h
    have hx : x.all isW = true := by have := h.1; unfold isWord at this; rw [Bool.and_eq_true] at this; exact this.2
    rw [Lib.join_cons, key r x [] h.2 hx]; rfl
def splitOf (s : List UInt8) : List (List UInt8) := if (cut [] s).all isWord then cut [] s else []
theorem split_nil : splitOf [] = [] := by decide
theorem line_split (s : List UInt8) : (splitOf s = [] ∧ ((cut [] s).all isWord = false)) ∨ ((cut [] s).all isWord = true ∧ splitOf s = cut [] s ∧ lineOf (cut [] s) = s) := by
  unfold splitOf
  cases h : (cut [] s).all isWord
  · exact .inl ⟨rfl, rfl⟩
  · refine .inr ⟨rfl, rfl, ?_⟩
    unfold lineOf
    rw [if_pos h, join_cut]; rfl
/-- the document's own way: the words, if their line is the text -/
theorem refSplit_eq (s : List UInt8) (hs : s ≠ []) : (if lineOf (cut [] s) = s then cut [] s else []) = splitOf s := by
  rcases line_split s with ⟨h1, h2⟩ | ⟨h1, h2, h3⟩
  · rw [h1, if_neg]
    unfold lineOf
    rw [if_neg (by simp [h2])]
    exact fun e => hs e.symm
  · rw [h2, if_pos h3]

theorem cut_miss (w s : List UInt8) (h : Lib.indexByte s 32 = -1) : cut w s = [w ++ s] := by
  induction s generalizing w with
  | nil => simp [cut]
  | cons c r ih =>
    unfold Lib.indexByte at h
    have hge := Lib.indexByte_ge r 32
    by_cases hc : c == 32
    · rw [if_pos hc] at h; omega
    · rw [if_neg hc] at h
      have hr : Lib.indexByte r 32 = -1 := by
        by_cases hr : Lib.indexByte r 32 == -1
        · exact eq_of_beq hr
        · rw [if_neg hr] at h
          omega
      unfold cut
      rw [if_neg (by simpa using hc), ih _ hr, List.append_assoc]; rfl
theorem cut_hit (w s : List UInt8) (i : Nat) (h : Lib.indexByte s 32 = i) : cut w s = (w ++ s.take i) :: cut [] (s.drop (i + 1)) := by
  induction s generalizing w i with
  | nil => unfold Lib.indexByte at h; omega
  | cons c r ih =>
    unfold Lib.indexByte at h
    by_cases hc : c == 32
    · rw [if_pos hc] at h
      have : i = 0 := by omega
      subst this
      have e := eq_of_beq hc
      conv => lhs; unfold cut
      rw [if_pos e]; simp
    · rw [if_neg hc] at h
      by_cases hr : Lib.indexByte r 32 == -1
      · rw [if_pos hr] at h; omega
      · rw [if_neg hr] at h
        have hge := Lib.indexByte_ge r 32
        have hne : Lib.indexByte r 32 ≠ -1 := fun e => hr (by rw [e]; rfl)
        obtain ⟨j, rfl⟩ : ∃ j, i = j + 1 := ⟨i - 1, by omega⟩
        conv => lhs; unfold cut
        rw [if_neg (by simpa using hc), ih (w ++ [c]) j (by omega)]
        simp
def blank : ByteArray := ⟨#[32]⟩
theorem splitB_cut : ∀ (k : Nat) (s : ByteArray), Lib.countB s blank = k → (Lib.splitB blank 0 k s).map (fun b => b.data.toList) = cut [] s.data.toList
  | 0, s, hk => by
    rcases Lib.indexB_cases s blank with hix | ⟨i, hix, _⟩
    · have h : Lib.indexByte s.data.toList 32 = -1 := by rw [← Lib.index_one]; exact hix
      rw [Lib.splitB_zero, cut_miss [] _ h]; rfl
    · rw [Lib.countB_hit s blank i (by decide) hix] at hk; omega
  | k + 1, s, hk => by
    rcases Lib.indexB_cases s blank with hix | ⟨i, hix, _⟩
    · rw [Lib.countB_miss s blank hix] at hk; omega
    · have h : Lib.indexByte s.data.toList 32 = i := by rw [← Lib.index_one]; exact hix
      rw [Lib.splitB_hit blank 0 k s i hix, List.map_cons, splitB_cut k _ (by rw [Lib.countB_hit s blank i (by decide) hix] at hk; omega), cut_hit [] _ i h, Lib.extract_from_zero, Lib.extract_to_end]
      rfl
end Go.Proofs.YtollhemkjnkalaaGreatDoor

/- Contracts: one digit, its value, and the document's own hexadecimal digits. -/
namespace Go.Proofs.YtollhemkjnkalaaGreatDoor
open Go.RowKit
set_option linter.unusedVariables false
set_option maxRecDepth 100000

theorem bytes_one (w : World) (x : Int) (c : UInt8) (hx : x = (c.toNat : Int)) (t : TypeId) : Lib.Bytes (w.alloc (.cells #[.int .u8 x] t)) w.heap.size 0 ⟨#[c]⟩ := fun i hi => by
  have : i = 0 := by simp [ByteArray.size] at hi; exact hi
  subst this
  subst hx
  simp
  rfl
theorem conv_one (w : World) (x : Int) (c : UInt8) (hx : x = (c.toNat : Int)) : (convert 50 9 (.slice (some ⟨w.heap.size, 0, none⟩) 1 1)).run Tryz.prog (w.alloc (.cells #[.int .u8 x] 5)) = .ok (.string ⟨#[c]⟩) (w.alloc (.cells #[.int .u8 x] 5)) :=
  Lib.run_convert_whole _ 50 5 9 Tryz.underlying50 Tryz.underlying5 Tryz.underlying9 w.heap.size 0 ⟨#[c]⟩ (bytes_one w x c hx _) 1

theorem dgB_low (d : Nat) (h : d < 10) : ((dgB d).toNat : Int) = 48 + d := by
  have := (by decide +kernel : ∀ d, d < 10 → (dgB d).toNat = 48 + d) d h
  omega
theorem dgB_high (d : Nat) (h : d < 16) (h2 : ¬ d < 10) : ((dgB d).toNat : Int) = 87 + d := by
  have := (by decide +kernel : ∀ d, d < 16 → ¬ d < 10 → (dgB d).toNat = 87 + d) d h h2
  omega

set_option maxHeartbeats 400000 in
theorem digit_any (d : Nat) (hd : d < 16) (w : World) :
    Calls Tryz.prog 66 #[.int .i64 d] w fun e w' => e = .returned (.string (tx [dgB d])) ∧ Below w.heap.size w w' := by
  have HB : Hid (∀ o, Below w.heap.size w (w.alloc o)) := fun o => (Below.refl _ _).alloc (Nat.le_refl _) _
  by_cases h : d < 10
  · have hcv := conv_one w (48 + (d : Int)) (dgB d) (dgB_low d h).symm
    go_enter Tryz.func66, Tryz.ntmps66
    go_wp2
    go_ret
    exact ⟨rfl, HB.out _⟩
  · have hcv := conv_one w (87 + (d : Int)) (dgB d) (dgB_high d hd h).symm
    go_enter Tryz.func66, Tryz.ntmps66
    go_wp2
    go_ret
    exact ⟨rfl, HB.out _⟩
end Go.Proofs.YtollhemkjnkalaaGreatDoor

/- Contracts: the document's own hexadecimal digits, and the program's. -/
namespace Go.Proofs.YtollhemkjnkalaaGreatDoor
open Go.RowKit
set_option linter.unusedVariables false
set_option maxRecDepth 100000

theorem tm16 (m : Nat) : (m : Int).tmod 16 = ((m % 16 : Nat) : Int) := by
  rw [Int.tmod_eq_emod_of_nonneg (by omega)]; omega
theorem td16 (m : Nat) : (m : Int).tdiv 16 = ((m / 16 : Nat) : Int) := by
  rw [Int.tdiv_eq_ediv_of_nonneg (by omega)]; omega
theorem div_pow_next (n k : Nat) : n / 16 ^ k / 16 = n / 16 ^ (k + 1) := by rw [Nat.div_div_eq_div_mul, Nat.pow_succ]
theorem hexL_next (n k : Nat) : tx [dgB (n / 16 ^ k % 16)] ++ tx (hexL n k) = tx (hexL n (k + 1)) := by rw [tx_append]; rfl
theorem hexOf_out (n wide : Int) (h : wide < 1 ∨ 12 < wide ∨ n < 0) : tx (hexOf n wide) = ⟨#[]⟩ := by
  unfold hexOf
  rw [if_neg (by omega)]; rfl
theorem hexOf_big (n k : Nat) (h : ¬ n < 16 ^ k) : hexOf (n : Int) (k : Int) = [] := by
  unfold hexOf
  have hc : ((16 ^ k : Nat) : Int) = 16 ^ k := by simp
  rw [if_neg (by rw [Int.toNat_natCast]; omega)]
theorem hexOf_nat (n k : Nat) (h1 : 1 ≤ k) (h2 : k ≤ 12) (h : n < 16 ^ k) : hexOf (n : Int) (k : Int) = hexL n k := by
  have hc : ((16 ^ k : Nat) : Int) = 16 ^ k := by simp
  rw [hexOf_in (by omega) (by omega) (by omega) (by rw [Int.toNat_natCast]; omega)]; simp
theorem div_pos_iff (n k : Nat) : n / 16 ^ k = 0 ↔ n < 16 ^ k := by
  have hp : 0 < 16 ^ k := Nat.pow_pos (by decide)
  rw [Nat.div_eq_zero_iff]
  constructor
  · rintro (h | h)
    · omega
    · exact h
  · exact .inr

set_option maxHeartbeats 1000000 in
theorem refHex_in (n k : Nat) (h1 : 1 ≤ k) (h2 : k ≤ 12) (hn : n ≤ 9223372036854775807) (w : World) :
    Calls Tryz.prog 47 #[.int .i64 n, .int .i64 k] w fun e w' => e = .returned (.string (tx (hexOf n k))) ∧ Below w.heap.size w w' := by
  have HD := Lib.hid digit_any
  go_enter Tryz.func47, Tryz.ntmps47
  go_wp2
  go_loopw [0, 5, 6] (fun v o i wr => ∃ j : Nat, j ≤ k ∧ i = .int .i64 j ∧ v = .int .i64 ((n / 16 ^ j : Nat) : Int) ∧ o = .string (tx (hexL n j)) ∧ Below w.heap.size w wr) (fun _ _ i _ => k - (intOf i).toNat)
  case atStart => exact ⟨0, by omega, rfl, by simp, rfl, Below.refl _ _⟩
  case round =>
    obtain ⟨j, hj, rfl, rfl, rfl, hB⟩ := hrel
    by_cases hlt : j < k
    · have hm : n / 16 ^ j ≤ 9223372036854775807 := Nat.le_trans (Nat.div_le_self _ _) hn
      have HN := Lib.hid (div_pow_next n j)
      have HX := Lib.hid (hexL_next n j)
      have hsz : (tx (hexL n j)).size = j := by rw [tx_size, hexL_length]
      generalize n / 16 ^ j = m at *
      have hmod : m % 16 < 16 := Nat.mod_lt _ (by decide)
      have e1 := tm16 m
      have e2 := td16 m
      have hdl : m / 16 ≤ 9223372036854775807 := by omega
      generalize m % 16 = d at *
      generalize m / 16 = q at *
      have hds : (tx [dgB d]).size = 1 := rfl
      generalize tx (hexL n j) = out at *
      go_wp2_with (go_at_call 66; refine (HD.out d hmod _).mono ?_; rintro e w' ⟨rfl, hB2⟩)
      go_roundw
      case rel => exact ⟨j + 1, by omega, by go_num, by rw [← HN.out], by rw [← HX.out], hB.trans (hB2.mono hB.size)⟩
      case measure => simp [intOf]; omega
    · have hjk : j = k := by omega
      subst hjk
      by_cases hz : n / 16 ^ j = 0
      · have HE := Lib.hid (hexOf_nat n j h1 h2 ((div_pos_iff n j).1 hz))
        go_wp2
        go_ret
        exact ⟨retS (by rw [HE.out]), hB⟩
      · have HE := Lib.hid (hexOf_big n j (fun h => hz ((div_pos_iff n j).2 h)))
        generalize n / 16 ^ j = m at *
        have hm : 0 < m := by omega
        go_wp2
        go_ret
        exact ⟨retS (by rw [HE.out]; rfl), hB⟩

set_option maxHeartbeats 1000000 in
theorem refHex_any (n wide : Int) (h0 : -9223372036854775808 ≤ n) (h1 : n ≤ 9223372036854775807) (w : World) :
    Calls Tryz.prog 47 #[.int .i64 n, .int .i64 wide] w fun e w' => e = .returned (.string (tx (hexOf n wide))) ∧ Below w.heap.size w w' := by
  by_cases h : wide < 1 ∨ 12 < wide ∨ n < 0
  · have HE := Lib.hid (hexOf_out n wide h)
    have hc : wide < 1 ∨ (¬ wide < 1 ∧ 12 < wide) ∨ (¬ wide < 1 ∧ ¬ 12 < wide ∧ n < 0) := by omega
    clear h
    rcases hc with a1 | ⟨a1, a2⟩ | ⟨a1, a2, a3⟩
    all_goals
      go_enter Tryz.func47, Tryz.ntmps47
      go_wp2
      go_ret
      exact ⟨retS HE.out.symm, Below.refl _ _⟩
  · obtain ⟨m, rfl⟩ : ∃ m : Nat, n = m := ⟨n.toNat, by omega⟩
    obtain ⟨k, rfl⟩ : ∃ k : Nat, wide = k := ⟨wide.toNat, by omega⟩
    exact refHex_in m k (by omega) (by omega) (by omega) w

/-! ### the program's -/
theorem shr_hex (n k : Nat) : (n : Int) / 2 ^ (4 * (k : Int)).toNat = ((n / 16 ^ k : Nat) : Int) := by
  have e : (4 * (k : Int)).toNat = 4 * k := by omega
  have e2 : (2 : Nat) ^ (4 * k) = 16 ^ k := by rw [Nat.pow_mul]
  have e3 : ((2 ^ (4 * k) : Nat) : Int) = (2 : Int) ^ (4 * k) := by simp
  rw [e, ← e3, e2]
  simp
theorem and15 (n : Nat) (hn : n ≤ 9223372036854775807) : bits .and .i64 (n : Int) 15 = ((n % 16 : Nat) : Int) := by
  have h15 : (BitVec.ofInt 64 15).toNat = 2 ^ 4 - 1 := by decide
  have key : (BitVec.ofInt 64 (n : Int) &&& BitVec.ofInt 64 15).toNat = ((n : Int) % ((2 ^ 64 : Nat) : Int)).toNat % 2 ^ 4 := by
    rw [BitVec.toNat_and, BitVec.toNat_ofInt, h15, Nat.and_two_pow_sub_one_eq_mod]
  show IntKind.i64.wrap ((BitVec.ofInt 64 (n : Int) &&& BitVec.ofInt 64 15).toNat : Nat) = ((n % 16 : Nat) : Int)
  rw [key, IntKind.wrap_i64]
  omega
/-- the row of bytes while it is filled from its end -/
def hexRow (n k j : Nat) : List Value := List.replicate (k - j) (.int .u8 0) ++ (hexL n j).map fun c => Value.int .u8 (c.toNat : Int)
theorem hexRow_zero (n k : Nat) : hexRow n k 0 = List.replicate k (.int .u8 0) := by simp [hexRow, hexL]
theorem hexRow_len (n k j : Nat) (h : j ≤ k) : (hexRow n k j).length = k := by simp [hexRow, hexL_length]; omega
theorem hexRow_next (n k j : Nat) (h : j < k) : (hexRow n k j).set (k - 1 - j) (.int .u8 ((dgB (n / 16 ^ j % 16)).toNat : Int)) = hexRow n k (j + 1) := by
  unfold hexRow
  obtain ⟨t, rfl⟩ : ∃ t, k = j + 1 + t := ⟨k - (j + 1), by omega⟩
  rw [show j + 1 + t - j = t + 1 by omega, show j + 1 + t - 1 - j = t by omega, show j + 1 + t - (j + 1) = t by omega, List.replicate_succ', List.append_assoc]
  rw [List.set_append_right _ _ (by simp), List.length_replicate, Nat.sub_self]
  rfl
theorem hexRow_at (n k j : Nat) (h : j < k) : (hexRow n k j)[k - 1 - j]? = some (.int .u8 0) := by
  unfold hexRow
  rw [List.getElem?_append_left (by simp; omega), List.getElem?_replicate, if_pos (by omega)]
def numerals : ByteArray := ⟨#[48, 49, 50, 51, 52, 53, 54, 55, 56, 57, 97, 98, 99, 100, 101, 102]⟩
theorem numeral_at (d : Nat) (h : d < 16) : numerals[d]'h = dgB d := by
  have e := (by decide +kernel : ∀ d, d < 16 → numerals.data[d]? = some (dgB d)) d h
  have h' : d < numerals.data.size := h
  rw [Array.getElem?_eq_getElem h'] at e
  exact Option.some.inj e
theorem index_num (d : Nat) (h : d < 16) (W : World) : (Instr.index 9 (.string ⟨#[48, 49, 50, 51, 52, 53, 54, 55, 56, 57, 97, 98, 99, 100, 101, 102]⟩) (.int .i64 (d : Int))).run Tryz.prog W = .ok (.int .u8 ((dgB d).toNat : Int)) W := by
  have e := run_index_string (P := Tryz.prog) W 9 numerals .i64 (d : Int) Tryz.underlying9
  have hs : numerals.size = 16 := rfl
  rw [dif_pos (by rw [hs]; omega)] at e
  have e3 : (numerals[d]'(show d < numerals.size from h)) = dgB d := numeral_at d h
  exact e.trans (congrArg (fun c : UInt8 => Result.ok (Value.int .u8 (c.toNat : Int)) W) e3)
theorem conv_row (w : World) (b : Nat) (l : List UInt8) (B : Nat) (c : Nat) (ho : w.ownsRow B 5 1 (.slice (some ⟨b, 0, none⟩) l.length c) l.length (l.map fun c => Value.int .u8 (c.toNat : Int))) :
    (convert 50 9 (.slice (some ⟨b, 0, none⟩) l.length c)).run Tryz.prog w = .ok (.string (tx l)) w := by
  have h := Lib.run_convert_whole (P := Tryz.prog) w 50 5 9 Tryz.underlying50 Tryz.underlying5 Tryz.underlying9 b 0 (tx l) (fun i hi => by
    rw [tx_size] at hi
    rw [Nat.zero_add, ho.cellAt i (by omega), List.getElem?_map, List.getElem?_eq_getElem hi]
    rfl) c
  rw [tx_size] at h
  exact h

set_option maxHeartbeats 1000000 in
theorem hex_in (n k : Nat) (h1 : 1 ≤ k) (h2 : k ≤ 12) (hn : n < 16 ^ k) (w : World) :
    Calls Tryz.prog 41 #[.int .i64 n, .int .i64 k] w fun e w' => e = .returned (.string (tx (hexOf n k))) ∧ Below w.heap.size w w' := by
  obtain ⟨i0, hi, hz0, hz1, hz2⟩ := info_parts Tryz.infoByte
  have hn63 : n ≤ 9223372036854775807 := by have := pow12 k h2; omega
  have hsh := shr_hex n k
  have hz := (div_pos_iff n k).2 hn
  rw [hz] at hsh
  have HE := Lib.hid (hexOf_nat n k h1 h2 hn)
  clear hz
  go_enter Tryz.func41, Tryz.ntmps41
  go_wp2_with (at_make; refine wpList_make_full _ rfl (.tmp 24) (.tmp 24) 50 rfl w.heap.size 5 i0 (.int .u8 0) 1 Tryz.underlying50 hi hz0 hz1 .i64 .i64 _ _ k rfl rfl rfl rfl (by rw [hz2]; omega) (by unfold maxLen; omega) (Nat.le_refl _) ?_; intro w1 hown1 hg1)
  have hB1 : Below w.heap.size w w1 := (Below.refl _ _).grown hg1 (Nat.le_refl _) (fun j hj => by cases hj)
  rw [Nat.mul_one, show Value.cells (.int .u8 0) = #[.int .u8 0] from rfl, toList_madeCells_one, ← hexRow_zero n k] at hown1
  go_wp2
  go_loopw [0, 27] (fun v i wr => ∃ j : Nat, j ≤ k ∧ i = .int .i64 j ∧ v = .int .i64 ((n / 16 ^ j : Nat) : Int) ∧ wr.ownsRow w.heap.size 5 1 (.slice (some ⟨w.heap.size, 0, none⟩) k k) k (hexRow n k j) ∧ Below w.heap.size w wr) (fun _ i _ => k - (intOf i).toNat)
  case atStart => exact ⟨0, by omega, rfl, by simp, hown1, hB1⟩
  case round =>
    clear hown1 hg1
    obtain ⟨j, hj, rfl, rfl, hown, hB⟩ := hrel
    by_cases hlt : j < k
    · have hm : n / 16 ^ j ≤ 9223372036854775807 := Nat.le_trans (Nat.div_le_self _ _) hn63
      have HN := Lib.hid (div_pow_next n j)
      have HX := Lib.hid (hexRow_next n k j hlt)
      have hcell := (hown.cellAt (k - 1 - j) (by omega)).trans (hexRow_at n k j hlt)
      have hfz := hown.frozenAt (k - 1 - j)
      have HST := Lib.hid (fun u => hown.stored (k - 1 - j) u)
      generalize n / 16 ^ j = m at *
      have e1 := and15 m hm
      have hmod : m % 16 < 16 := Nat.mod_lt _ (by decide)
      have e2 : (m : Int) / 16 = ((m / 16 : Nat) : Int) := by omega
      have hix := index_num (m % 16) hmod
      generalize m % 16 = d at *
      generalize m / 16 = q at *
      go_wp2
      go_roundw
      case rel => exact ⟨j + 1, by omega, by go_num, by rw [← HN.out], by rw [← HX.out]; exact (HST.out _).1, hB.grown (HST.out _).2 hB.size (fun x hx => by cases hx; exact Nat.le_refl _)⟩
      case measure => simp [intOf]; omega
    · have hjk : j = k := by omega
      subst hjk
      have hl : (hexL n j).length = j := hexL_length n j
      have hrow : hexRow n j j = (hexL n j).map fun c => Value.int .u8 (c.toNat : Int) := by unfold hexRow; rw [Nat.sub_self]; rfl
      have hcv : (convert 50 9 (.slice (some ⟨w.heap.size, 0, none⟩) j j)).run Tryz.prog wr = .ok (.string (tx (hexL n j))) wr := by
        have := conv_row wr w.heap.size (hexL n j) w.heap.size j (by rw [hl, ← hrow]; exact hown)
        rwa [hl] at this
      clear hrow hl hown
      go_wp2
      go_ret
      exact ⟨retS (by rw [HE.out]), hB⟩

set_option maxHeartbeats 1000000 in
theorem hex_out (n wide : Int) (h0 : -9223372036854775808 ≤ n) (h1 : n ≤ 9223372036854775807) (w : World) (h : wide < 1 ∨ 12 < wide ∨ n < 0 ∨ ¬ n < 16 ^ wide.toNat) :
    Calls Tryz.prog 41 #[.int .i64 n, .int .i64 wide] w fun e w' => e = .returned (.string (tx [])) ∧ Below w.heap.size w w' := by
  have hc : wide < 1 ∨ (¬ wide < 1 ∧ 12 < wide) ∨ (¬ wide < 1 ∧ ¬ 12 < wide ∧ n < 0) ∨ (¬ wide < 1 ∧ ¬ 12 < wide ∧ ¬ n < 0 ∧ ¬ n < 16 ^ wide.toNat) := by omega
  clear h
  rcases hc with a1 | ⟨a1, a2⟩ | ⟨a1, a2, a3⟩ | ⟨a1, a2, a3, a4⟩
  · go_enter Tryz.func41, Tryz.ntmps41
    go_wp2
    go_ret
    exact ⟨rfl, Below.refl _ _⟩
  · go_enter Tryz.func41, Tryz.ntmps41
    go_wp2
    go_ret
    exact ⟨rfl, Below.refl _ _⟩
  · go_enter Tryz.func41, Tryz.ntmps41
    go_wp2
    go_ret
    exact ⟨rfl, Below.refl _ _⟩
  · obtain ⟨m, rfl⟩ : ∃ m : Nat, n = m := ⟨n.toNat, by omega⟩
    obtain ⟨k, rfl⟩ : ∃ k : Nat, wide = k := ⟨wide.toNat, by omega⟩
    have hsh := shr_hex m k
    have hne : m / 16 ^ k ≠ 0 := fun e => by
      have := (div_pos_iff m k).1 e
      have hc : ((16 ^ k : Nat) : Int) = 16 ^ k := by simp
      rw [Int.toNat_natCast] at a4
      omega
    have hpos : 0 < m / 16 ^ k := Nat.pos_of_ne_zero hne
    clear hne a4
    generalize m / 16 ^ k = q at *
    go_enter Tryz.func41, Tryz.ntmps41
    go_wp2
    go_ret
    exact ⟨rfl, Below.refl _ _⟩

theorem hex_any (n wide : Int) (h0 : -9223372036854775808 ≤ n) (h1 : n ≤ 9223372036854775807) (w : World) :
    Calls Tryz.prog 41 #[.int .i64 n, .int .i64 wide] w fun e w' => e = .returned (.string (tx (hexOf n wide))) ∧ Below w.heap.size w w' := by
  by_cases h : wide < 1 ∨ 12 < wide ∨ n < 0 ∨ ¬ n < 16 ^ wide.toNat
  · have e : hexOf n wide = [] := by unfold hexOf; rw [if_neg (by omega)]
    rw [e]
    exact hex_out n wide h0 h1 w h
  · obtain ⟨m, rfl⟩ : ∃ m : Nat, n = m := ⟨n.toNat, by omega⟩
    obtain ⟨k, rfl⟩ : ∃ k : Nat, wide = k := ⟨wide.toNat, by omega⟩
    have hc : ((16 ^ k : Nat) : Int) = 16 ^ k := by simp
    rw [Int.toNat_natCast] at h
    exact hex_in m k (by omega) (by omega) (by omega) w
end Go.Proofs.YtollhemkjnkalaaGreatDoor
