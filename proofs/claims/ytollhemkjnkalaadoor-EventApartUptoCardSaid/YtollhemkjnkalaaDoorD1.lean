/- Plain mathematics of digits: hexadecimal and decimal digits of numbers, and the numbers of texts. -/
import Derived.Lib.Bytealg
import Derived.Lib.ItoaNum
namespace Go.Proofs.YtollhemkjnkalaaDoor
set_option linter.unusedVariables false
set_option maxRecDepth 100000

/-- the digit of a value below 16 -/
def dgB (d : Nat) : UInt8 := UInt8.ofNat (if d < 10 then 48 + d else 87 + d)
/-- the lowest k hexadecimal digits of n, the highest first -/
def hexL (n : Nat) : Nat → List UInt8
  | 0 => []
  | k + 1 => dgB (n / 16 ^ k % 16) :: hexL n k
theorem hexL_length (n : Nat) : ∀ k, (hexL n k).length = k
  | 0 => rfl
  | k + 1 => by simp [hexL, hexL_length n k]
def hexOf (n wide : Int) : List UInt8 := if 1 ≤ wide ∧ wide ≤ 12 ∧ 0 ≤ n ∧ n < 16 ^ wide.toNat then hexL n.toNat wide.toNat else []

/-- the value of a hexadecimal digit, or -1 -/
def hexV (c : UInt8) : Int := if 48 ≤ c.toNat ∧ c.toNat ≤ 57 then (c.toNat : Int) - 48 else if 97 ≤ c.toNat ∧ c.toNat ≤ 102 then (c.toNat : Int) - 87 else -1
/-- the value of a decimal digit, or -1 -/
def decV (c : UInt8) : Int := if 48 ≤ c.toNat ∧ c.toNat ≤ 57 then (c.toNat : Int) - 48 else -1
theorem byte_all (p : UInt8 → Prop) (h : ∀ n < 256, p (UInt8.ofNat n)) (c : UInt8) : p c := by
  have := h c.toNat c.toNat_lt
  simpa using this
theorem hexV_index (c : UInt8) : Lib.indexByte [48, 49, 50, 51, 52, 53, 54, 55, 56, 57, 97, 98, 99, 100, 101, 102] c = hexV c :=
  byte_all (fun c => Lib.indexByte [48, 49, 50, 51, 52, 53, 54, 55, 56, 57, 97, 98, 99, 100, 101, 102] c = hexV c) (by decide +kernel) c
theorem decV_index (c : UInt8) : Lib.indexByte [48, 49, 50, 51, 52, 53, 54, 55, 56, 57] c = decV c :=
  byte_all (fun c => Lib.indexByte [48, 49, 50, 51, 52, 53, 54, 55, 56, 57] c = decV c) (by decide +kernel) c
theorem hexV_dgB : ∀ d, d < 16 → hexV (dgB d) = d := by decide +kernel
theorem decV_dgB : ∀ d, d < 10 → decV (UInt8.ofNat (48 + d)) = d := by decide +kernel
theorem hexV_lt (c : UInt8) : hexV c < 16 := by unfold hexV; split <;> (try split) <;> omega
theorem decV_lt (c : UInt8) : decV c < 10 := by unfold decV; split <;> omega
theorem hexV_ge (c : UInt8) : -1 ≤ hexV c := by unfold hexV; split <;> (try split) <;> omega
theorem decV_ge (c : UInt8) : -1 ≤ decV c := by unfold decV; split <;> omega
theorem dgB_hexV (c : UInt8) (h : 0 ≤ hexV c) : dgB (hexV c).toNat = c := by
  have := byte_all (fun c => 0 ≤ hexV c → dgB (hexV c).toNat = c) (by decide +kernel) c
  exact this h
theorem ofNat_decV (c : UInt8) (h : 0 ≤ decV c) : UInt8.ofNat (48 + (decV c).toNat) = c := by
  have := byte_all (fun c => 0 ≤ decV c → UInt8.ofNat (48 + (decV c).toNat) = c) (by decide +kernel) c
  exact this h

/-- the number that the digits count to, if none is amiss and none of the sums passes most -/
def numF (V : UInt8 → Int) (b most : Int) : List UInt8 → Int → Option Int
  | [], n => some n
  | c :: r, n => if V c < 0 then none else if b * n + V c > most then none else numF V b most r (b * n + V c)
theorem numF_bad (V : UInt8 → Int) (b most : Int) (c : UInt8) (r : List UInt8) (n : Int) (h : V c < 0) : numF V b most (c :: r) n = none := by unfold numF; rw [if_pos h]
theorem numF_past (V : UInt8 → Int) (b most : Int) (c : UInt8) (r : List UInt8) (n : Int) (h : ¬ V c < 0) (h2 : b * n + V c > most) : numF V b most (c :: r) n = none := by
  unfold numF; rw [if_neg h, if_pos h2]
theorem numF_next (V : UInt8 → Int) (b most : Int) (c : UInt8) (r : List UInt8) (n : Int) (h : ¬ V c < 0) (h2 : ¬ b * n + V c > most) : numF V b most (c :: r) n = numF V b most r (b * n + V c) := by
  conv => lhs; unfold numF
  rw [if_neg h, if_neg h2]
theorem numF_mono (V : UInt8 → Int) (b most most' : Int) (hm : most ≤ most') : ∀ (l : List UInt8) (n m : Int), numF V b most l n = some m → numF V b most' l n = some m
  | [], n, m, h => h
  | c :: r, n, m, h => by
    by_cases h1 : V c < 0
    · rw [numF_bad V b most c r n h1] at h; cases h
    · by_cases h2 : b * n + V c > most
      · rw [numF_past V b most c r n h1 h2] at h; cases h
      · rw [numF_next V b most c r n h1 h2] at h
        rw [numF_next V b most' c r n h1 (by omega)]
        exact numF_mono V b most most' hm r _ m h
theorem numF_append (V : UInt8 → Int) (b most : Int) : ∀ (l k : List UInt8) (n : Int), numF V b most (l ++ k) n = (numF V b most l n).bind (numF V b most k)
  | [], k, n => rfl
  | c :: r, k, n => by
    rw [List.cons_append]
    by_cases h1 : V c < 0
    · rw [numF_bad V b most c _ n h1, numF_bad V b most c r n h1]; rfl
    · by_cases h2 : b * n + V c > most
      · rw [numF_past V b most c _ n h1 h2, numF_past V b most c r n h1 h2]; rfl
      · rw [numF_next V b most c _ n h1 h2, numF_next V b most c r n h1 h2, numF_append V b most r k]
theorem numF_range (V : UInt8 → Int) (b most : Int) (hb : 0 ≤ b) : ∀ (l : List UInt8) (n m : Int), 0 ≤ n → n ≤ most → numF V b most l n = some m → 0 ≤ m ∧ m ≤ most
  | [], n, m, h0, h1, h => by cases h; exact ⟨h0, h1⟩
  | c :: r, n, m, h0, h1, h => by
    by_cases h2 : V c < 0
    · rw [numF_bad V b most c r n h2] at h; cases h
    · by_cases h3 : b * n + V c > most
      · rw [numF_past V b most c r n h2 h3] at h; cases h
      · rw [numF_next V b most c r n h2 h3] at h
        have := Int.mul_nonneg hb h0
        exact numF_range V b most hb r _ m (by omega) (by omega) h

/-! ### hexadecimal -/
theorem pow16 (k : Nat) : 16 ^ (k + 1) = 16 * 16 ^ k := by rw [Nat.pow_succ]; omega
theorem mod_pow (n k : Nat) : n % 16 ^ (k + 1) = (n / 16 ^ k % 16) * 16 ^ k + n % 16 ^ k := by
  rw [Nat.pow_succ, Nat.mod_mul, Nat.mul_comm (16 ^ k) _, Nat.add_comm]
theorem numF_hexL (most : Nat) (n : Nat) : ∀ (k a : Nat), a * 16 ^ k + n % 16 ^ k ≤ most → numF hexV 16 most (hexL n k) a = some ((a * 16 ^ k + n % 16 ^ k : Nat) : Int)
  | 0, a, h => by simp [hexL, numF, Nat.mod_one]
  | k + 1, a, h => by
    have hd : n / 16 ^ k % 16 < 16 := Nat.mod_lt _ (by decide)
    have hv := hexV_dgB _ hd
    have e : (16 * a + n / 16 ^ k % 16) * 16 ^ k + n % 16 ^ k = a * 16 ^ (k + 1) + n % 16 ^ (k + 1) := by
      rw [mod_pow, pow16, Nat.add_mul, Nat.mul_assoc, Nat.mul_left_comm, Nat.add_assoc]
    have hp : 1 ≤ 16 ^ k := Nat.one_le_pow _ _ (by decide)
    have hle : 16 * a + n / 16 ^ k % 16 ≤ most := by
      have h1 : (16 * a + n / 16 ^ k % 16) * 1 ≤ (16 * a + n / 16 ^ k % 16) * 16 ^ k := Nat.mul_le_mul_left _ hp
      omega
    have step : (16 : Int) * (a : Int) + ((n / 16 ^ k % 16 : Nat) : Int) = ((16 * a + n / 16 ^ k % 16 : Nat) : Int) := by omega
    show numF hexV 16 most (dgB (n / 16 ^ k % 16) :: hexL n k) a = _
    rw [numF_next _ _ _ _ _ _ (by rw [hv]; omega) (by rw [hv, step]; omega), hv, step, numF_hexL most n k _ (by omega), e]

theorem hexL_low (v : Nat) : ∀ (k j d : Nat), k ≤ j → hexL (d * 16 ^ j + v) k = hexL v k
  | 0, _, _, _ => rfl
  | k + 1, j, d, h => by
    have hp : 0 < 16 ^ k := Nat.pow_pos (by decide)
    have e : (d * 16 ^ j + v) / 16 ^ k % 16 = v / 16 ^ k % 16 := by
      obtain ⟨t, rfl⟩ : ∃ t, j = k + 1 + t := ⟨j - (k + 1), by omega⟩
      have : d * 16 ^ (k + 1 + t) + v = v + 16 ^ k * (16 * (d * 16 ^ t)) := by
        rw [Nat.pow_add, Nat.pow_succ]
        have : d * (16 ^ k * 16 * 16 ^ t) = 16 ^ k * (16 * (d * 16 ^ t)) := by
          rw [Nat.mul_assoc (16 ^ k), Nat.mul_left_comm d, Nat.mul_left_comm d]
        omega
      rw [this, Nat.add_mul_div_left _ _ hp]
      omega
    show dgB _ :: hexL _ k = dgB _ :: hexL v k
    rw [e, hexL_low v k j d (by omega)]

theorem numF_hex_inv (most : Int) : ∀ (l : List UInt8) (a : Nat) (m : Int), numF hexV 16 most l a = some m →
    ∃ v : Nat, m = ((a * 16 ^ l.length + v : Nat) : Int) ∧ v < 16 ^ l.length ∧ hexL v l.length = l
  | [], a, m, h => ⟨0, by cases h; simp, by simp, rfl⟩
  | c :: r, a, m, h => by
    by_cases h2 : hexV c < 0
    · rw [numF_bad hexV 16 most c r a h2] at h; cases h
    · by_cases h3 : 16 * (a : Int) + hexV c > most
      · rw [numF_past hexV 16 most c r a h2 h3] at h; cases h
      · rw [numF_next hexV 16 most c r a h2 h3] at h
        have hlt := hexV_lt c
        obtain ⟨d, hd⟩ : ∃ d : Nat, hexV c = d := ⟨(hexV c).toNat, by omega⟩
        have hdc : dgB d = c := by have := dgB_hexV c (by omega); rwa [hd, Int.toNat_natCast] at this
        have e : 16 * (a : Int) + hexV c = ((16 * a + d : Nat) : Int) := by omega
        rw [e] at h
        obtain ⟨v, hm, hv, hl⟩ := numF_hex_inv most r (16 * a + d) m h
        have hp : 0 < 16 ^ r.length := Nat.pow_pos (by decide)
        refine ⟨d * 16 ^ r.length + v, ?_, ?_, ?_⟩
        · rw [hm, List.length_cons, pow16, Nat.add_mul, Nat.mul_assoc, Nat.mul_left_comm, Nat.add_assoc]
        · rw [List.length_cons, pow16]
          have : d * 16 ^ r.length ≤ 15 * 16 ^ r.length := Nat.mul_le_mul_right _ (by omega)
          omega
        · show dgB ((d * 16 ^ r.length + v) / 16 ^ r.length % 16) :: hexL (d * 16 ^ r.length + v) r.length = c :: r
          rw [hexL_low v r.length r.length d (Nat.le_refl _), hl]
          have : (d * 16 ^ r.length + v) / 16 ^ r.length % 16 = d := by
            rw [Nat.add_comm, Nat.mul_comm, Nat.add_mul_div_left _ _ hp, Nat.div_eq_of_lt hv]
            omega
          rw [this, hdc]

def most48 : Int := 281474976710655
def unhexL (l : List UInt8) : Option Int := if 1 ≤ l.length ∧ l.length ≤ 12 then numF hexV 16 most48 l 0 else none
theorem pow12 (k : Nat) (h : k ≤ 12) : 16 ^ k ≤ 281474976710656 := by
  have : 16 ^ k ≤ 16 ^ 12 := Nat.pow_le_pow_right (by decide) h
  simpa using this
theorem unhex_hexL (n k : Nat) (h1 : 1 ≤ k) (h2 : k ≤ 12) (hn : n < 16 ^ k) : unhexL (hexL n k) = some (n : Int) := by
  unfold unhexL
  have hp := pow12 k h2
  rw [hexL_length, if_pos ⟨h1, h2⟩]
  have := numF_hexL 281474976710655 n k 0 (by rw [Nat.mod_eq_of_lt hn]; omega)
  rw [Nat.mod_eq_of_lt hn] at this
  simpa [most48] using this
theorem hexOf_in {n wide : Int} (h1 : 1 ≤ wide) (h2 : wide ≤ 12) (h3 : 0 ≤ n) (h4 : n < 16 ^ wide.toNat) : hexOf n wide = hexL n.toNat wide.toNat := by unfold hexOf; rw [if_pos ⟨h1, h2, h3, h4⟩]
theorem hexOf_cases (n wide : Int) : hexOf n wide = [] ∨ (1 ≤ wide ∧ wide ≤ 12 ∧ 0 ≤ n ∧ n < 16 ^ wide.toNat ∧ hexOf n wide = hexL n.toNat wide.toNat) := by
  unfold hexOf
  split
  · rename_i h; exact .inr ⟨h.1, h.2.1, h.2.2.1, h.2.2.2, rfl⟩
  · exact .inl rfl
/-- WHAT WAS WRITTEN IS READ AS IT WAS -/
theorem unhex_hexOf (n wide : Int) : (hexOf n wide = [] ∧ unhexL (hexOf n wide) = none) ∨ (hexOf n wide ≠ [] ∧ unhexL (hexOf n wide) = some n ∧ ((hexOf n wide).length : Int) = wide) := by
  rcases hexOf_cases n wide with h | ⟨h1, h2, h3, h4, h⟩
  · left; rw [h]; exact ⟨rfl, rfl⟩
  · right
    rw [h]
    have hl := hexL_length n.toNat wide.toNat
    refine ⟨fun e => by rw [e] at hl; simp at hl; omega, ?_, by rw [hl]; omega⟩
    rw [unhex_hexL _ _ (by omega) (by omega) (by have : ((16 ^ wide.toNat : Nat) : Int) = 16 ^ wide.toNat := by simp
                                                 omega)]
    congr 1; omega
theorem hexOf_unhex (l : List UInt8) (m : Int) (h : unhexL l = some m) : hexOf m l.length = l ∧ 0 ≤ m ∧ 1 ≤ l.length ∧ l.length ≤ 12 := by
  unfold unhexL at h
  split at h
  · rename_i hl
    obtain ⟨v, hm, hv, he⟩ := numF_hex_inv most48 l 0 m (by simpa using h)
    simp only [Nat.zero_mul, Nat.zero_add] at hm
    have hc : ((16 ^ l.length : Nat) : Int) = 16 ^ l.length := by simp
    rw [hexOf_in (by omega) (by omega) (by omega) (by rw [Int.toNat_natCast, hm]; omega), Int.toNat_natCast, hm, Int.toNat_natCast]
    exact ⟨he, by omega, hl.1, hl.2⟩
  · cases h

/-! ### order, and one digit more -/
theorem bytesLess_hexL (a b : Nat) : ∀ k, a < 16 ^ k → b < 16 ^ k → Op.bytesLess (hexL a k) (hexL b k) = decide (a < b)
  | 0, ha, hb => by
    have : a = 0 := by simpa using ha
    have : b = 0 := by simpa using hb
    subst a b; rfl
  | k + 1, ha, hb => by
    have hp : 0 < 16 ^ k := Nat.pow_pos (by decide)
    rw [pow16] at ha hb
    have da : a / 16 ^ k < 16 := Nat.div_lt_of_lt_mul (by rw [Nat.mul_comm]; exact ha)
    have db : b / 16 ^ k < 16 := Nat.div_lt_of_lt_mul (by rw [Nat.mul_comm]; exact hb)
    have ea := Nat.div_add_mod a (16 ^ k)
    have eb := Nat.div_add_mod b (16 ^ k)
    have ra : a % 16 ^ k < 16 ^ k := Nat.mod_lt _ hp
    have rb : b % 16 ^ k < 16 ^ k := Nat.mod_lt _ hp
    have la : hexL a k = hexL (a % 16 ^ k) k := by
      conv => lhs; rw [← ea, Nat.mul_comm]
      exact hexL_low _ k k _ (Nat.le_refl _)
    have lb : hexL b k = hexL (b % 16 ^ k) k := by
      conv => lhs; rw [← eb, Nat.mul_comm]
      exact hexL_low _ k k _ (Nat.le_refl _)
    have ih := bytesLess_hexL (a % 16 ^ k) (b % 16 ^ k) k ra rb
    show (dgB (a / 16 ^ k % 16) < dgB (b / 16 ^ k % 16) || (dgB (a / 16 ^ k % 16) == dgB (b / 16 ^ k % 16) && Op.bytesLess (hexL a k) (hexL b k))) = _
    rw [Nat.mod_eq_of_lt da, Nat.mod_eq_of_lt db, la, lb, ih]
    have dl : ∀ x, x < 16 → ∀ y, y < 16 → (decide (dgB x < dgB y) = decide (x < y) ∧ (dgB x == dgB y) = decide (x = y)) := by decide +kernel
    rw [(dl _ da _ db).1, (dl _ da _ db).2]
    generalize a / 16 ^ k = x at *
    generalize b / 16 ^ k = y at *
    generalize a % 16 ^ k = u at *
    generalize b % 16 ^ k = v at *
    rcases Nat.lt_trichotomy x y with h | h | h
    · have : 16 ^ k * x + 16 ^ k ≤ 16 ^ k * y := by
        have := Nat.mul_le_mul_left (16 ^ k) (show x + 1 ≤ y by omega)
        rwa [Nat.mul_succ] at this
      rw [decide_eq_true h, Bool.true_or, decide_eq_true (show a < b by omega)]
    · subst h
      rw [decide_eq_false (by omega : ¬ x < x), decide_eq_true rfl, Bool.false_or, Bool.true_and]
      congr 1
      exact propext ⟨fun h => by omega, fun h => by omega⟩
    · have : 16 ^ k * y + 16 ^ k ≤ 16 ^ k * x := by
        have := Nat.mul_le_mul_left (16 ^ k) (show y + 1 ≤ x by omega)
        rwa [Nat.mul_succ] at this
      rw [decide_eq_false (by omega : ¬ x < y), decide_eq_false (by omega : ¬ x = y), Bool.false_and, Bool.or_false, decide_eq_false (show ¬ a < b by omega)]
theorem hexL_inj (a b k : Nat) (ha : a < 16 ^ k) (hb : b < 16 ^ k) (h : hexL a k = hexL b k) : a = b := by
  have h1 := bytesLess_hexL a b k ha hb
  have h2 := bytesLess_hexL b a k hb ha
  have h3 := bytesLess_hexL a a k ha ha
  rw [h] at h1
  rw [← h] at h2
  rw [← h, h3] at h1
  rw [h3] at h2
  have e1 : ¬ a < b := by simpa using h1.symm
  have e2 : ¬ b < a := by simpa using h2.symm
  omega
theorem hexL_more (n k : Nat) (h : n < 16 ^ k) : hexL n (k + 1) = 48 :: hexL n k := by
  show dgB (n / 16 ^ k % 16) :: hexL n k = _
  rw [Nat.div_eq_of_lt h]
  rfl
end Go.Proofs.YtollhemkjnkalaaDoor
