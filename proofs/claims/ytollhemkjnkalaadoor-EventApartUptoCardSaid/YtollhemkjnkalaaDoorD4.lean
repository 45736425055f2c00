/- Contracts: the document's own hexadecimal digits, and the program's. -/
import Derived.Test.YtollhemkjnkalaaDoorD3
namespace Go.Proofs.YtollhemkjnkalaaDoor
open Go.RowKit
set_option linter.unusedVariables false
set_option maxRecDepth 100000

theorem tm16 (m : Nat) : (m : Int).tmod 16 = ((m % 16 : Nat) : Int) := by
  rw [Int.tmod_eq_emod_of_nonneg (by omega)]; omega
theorem td16 (m : Nat) : (m : Int).tdiv 16 = ((m / 16 : Nat) : Int) := by
  rw [Int.tdiv_eq_ediv_of_nonneg (by omega)]; omega
theorem div_pow_next (n k : Nat) : n / 16 ^ k / 16 = n / 16 ^ (k + 1) := by rw [Nat.div_div_eq_div_mul, Nat.pow_succ]
theorem hexL_next (n k : Nat) : tx [dgB (n / 16 ^ k % 16)] ++ tx (hexL n k) = tx (hexL n (k + 1)) := by rw [tx_append]; rfl
theorem hexOf_out (n wide : Int) (h : wide < 1 ∨ 12 < wide ∨ n < 0) : tx (hexOf n wide) = ⟨#[]⟩ := by
  unfold hexOf
  rw [if_neg (by omega)]; rfl
theorem hexOf_big (n k : Nat) (h : ¬ n < 16 ^ k) : hexOf (n : Int) (k : Int) = [] := by
  unfold hexOf
  have hc : ((16 ^ k : Nat) : Int) = 16 ^ k := by simp
  rw [if_neg (by rw [Int.toNat_natCast]; omega)]
theorem hexOf_nat (n k : Nat) (h1 : 1 ≤ k) (h2 : k ≤ 12) (h : n < 16 ^ k) : hexOf (n : Int) (k : Int) = hexL n k := by
  have hc : ((16 ^ k : Nat) : Int) = 16 ^ k := by simp
  rw [hexOf_in (by omega) (by omega) (by omega) (by rw [Int.toNat_natCast]; omega)]; simp
theorem div_pos_iff (n k : Nat) : n / 16 ^ k = 0 ↔ n < 16 ^ k := by
  have hp : 0 < 16 ^ k := Nat.pow_pos (by decide)
  rw [Nat.div_eq_zero_iff]
  constructor
  · rintro (h | h)
    · omega
    · exact h
  · exact .inr

/-! ### the program's -/
theorem shr_hex (n k : Nat) : (n : Int) / 2 ^ (4 * (k : Int)).toNat = ((n / 16 ^ k : Nat) : Int) := by
  have e : (4 * (k : Int)).toNat = 4 * k := by omega
  have e2 : (2 : Nat) ^ (4 * k) = 16 ^ k := by rw [Nat.pow_mul]
  have e3 : ((2 ^ (4 * k) : Nat) : Int) = (2 : Int) ^ (4 * k) := by simp
  rw [e, ← e3, e2]
  simp
theorem and15 (n : Nat) (hn : n ≤ 9223372036854775807) : bits .and .i64 (n : Int) 15 = ((n % 16 : Nat) : Int) := by
  have h15 : (BitVec.ofInt 64 15).toNat = 2 ^ 4 - 1 := by decide
  have key : (BitVec.ofInt 64 (n : Int) &&& BitVec.ofInt 64 15).toNat = ((n : Int) % ((2 ^ 64 : Nat) : Int)).toNat % 2 ^ 4 := by
    rw [BitVec.toNat_and, BitVec.toNat_ofInt, h15, Nat.and_two_pow_sub_one_eq_mod]
  show IntKind.i64.wrap ((BitVec.ofInt 64 (n : Int) &&& BitVec.ofInt 64 15).toNat : Nat) = ((n % 16 : Nat) : Int)
  rw [key, IntKind.wrap_i64]
  omega
/-- the row of bytes while it is filled from its end -/
def hexRow (n k j : Nat) : List Value := List.replicate (k - j) (.int .u8 0) ++ (hexL n j).map fun c => Value.int .u8 (c.toNat : Int)
theorem hexRow_zero (n k : Nat) : hexRow n k 0 = List.replicate k (.int .u8 0) := by simp [hexRow, hexL]
theorem hexRow_len (n k j : Nat) (h : j ≤ k) : (hexRow n k j).length = k := by simp [hexRow, hexL_length]; omega
theorem hexRow_next (n k j : Nat) (h : j < k) : (hexRow n k j).set (k - 1 - j) (.int .u8 ((dgB (n / 16 ^ j % 16)).toNat : Int)) = hexRow n k (j + 1) := by
  unfold hexRow
  obtain ⟨t, rfl⟩ : ∃ t, k = j + 1 + t := ⟨k - (j + 1), by omega⟩
  rw [show j + 1 + t - j = t + 1 by omega, show j + 1 + t - 1 - j = t by omega, show j + 1 + t - (j + 1) = t by omega, List.replicate_succ', List.append_assoc]
  rw [List.set_append_right _ _ (by simp), List.length_replicate, Nat.sub_self]
  rfl
theorem hexRow_at (n k j : Nat) (h : j < k) : (hexRow n k j)[k - 1 - j]? = some (.int .u8 0) := by
  unfold hexRow
  rw [List.getElem?_append_left (by simp; omega), List.getElem?_replicate, if_pos (by omega)]
def numerals : ByteArray := ⟨#[48, 49, 50, 51, 52, 53, 54, 55, 56, 57, 97, 98, 99, 100, 101, 102]⟩
theorem numeral_at (d : Nat) (h : d < 16) : numerals[d]'h = dgB d := by
  have e := (by decide +kernel : ∀ d, d < 16 → numerals.data[d]? = some (dgB d)) d h
  have h' : d < numerals.data.size := h
  rw [Array.getElem?_eq_getElem h'] at e
  exact Option.some.inj e
theorem index_num (d : Nat) (h : d < 16) (W : World) : (Instr.index 9 (.string ⟨#[48, 49, 50, 51, 52, 53, 54, 55, 56, 57, 97, 98, 99, 100, 101, 102]⟩) (.int .i64 (d : Int))).run Tryd.prog W = .ok (.int .u8 ((dgB d).toNat : Int)) W := by
  have e := run_index_string (P := Tryd.prog) W 9 numerals .i64 (d : Int) Tryd.underlying9
  have hs : numerals.size = 16 := rfl
  rw [dif_pos (by rw [hs]; omega)] at e
  have e3 : (numerals[d]'(show d < numerals.size from h)) = dgB d := numeral_at d h
  exact e.trans (congrArg (fun c : UInt8 => Result.ok (Value.int .u8 (c.toNat : Int)) W) e3)
theorem conv_row (w : World) (b : Nat) (l : List UInt8) (B : Nat) (c : Nat) (ho : w.ownsRow B 5 1 (.slice (some ⟨b, 0, none⟩) l.length c) l.length (l.map fun c => Value.int .u8 (c.toNat : Int))) :
    (convert 72 9 (.slice (some ⟨b, 0, none⟩) l.length c)).run Tryd.prog w = .ok (.string (tx l)) w := by
  have h := Lib.run_convert_whole (P := Tryd.prog) w 72 5 9 Tryd.underlying72 Tryd.underlying5 Tryd.underlying9 b 0 (tx l) (fun i hi => by
    rw [tx_size] at hi
    rw [Nat.zero_add, ho.cellAt i (by omega), List.getElem?_map, List.getElem?_eq_getElem hi]
    rfl) c
  rw [tx_size] at h
  exact h

set_option maxHeartbeats 1000000 in
theorem hex_in (n k : Nat) (h1 : 1 ≤ k) (h2 : k ≤ 12) (hn : n < 16 ^ k) (w : World) :
    Calls Tryd.prog 55 #[.int .i64 n, .int .i64 k] w fun e w' => e = .returned (.string (tx (hexOf n k))) ∧ Below w.heap.size w w' := by
  obtain ⟨i0, hi, hz0, hz1, hz2⟩ := info_parts Tryd.infoByte
  have hn63 : n ≤ 9223372036854775807 := by have := pow12 k h2; omega
  have hsh := shr_hex n k
  have hz := (div_pos_iff n k).2 hn
  rw [hz] at hsh
  have HE := Lib.hid (hexOf_nat n k h1 h2 hn)
  clear hz
  go_enter Tryd.func55, Tryd.ntmps55
  go_wp2_with (at_make; refine wpList_make_full _ rfl (.tmp 24) (.tmp 24) 72 rfl w.heap.size 5 i0 (.int .u8 0) 1 Tryd.underlying72 hi hz0 hz1 .i64 .i64 _ _ k rfl rfl rfl rfl (by rw [hz2]; omega) (by unfold maxLen; omega) (Nat.le_refl _) ?_; intro w1 hown1 hg1)
  have hB1 : Below w.heap.size w w1 := (Below.refl _ _).grown hg1 (Nat.le_refl _) (fun j hj => by cases hj)
  rw [Nat.mul_one, show Value.cells (.int .u8 0) = #[.int .u8 0] from rfl, toList_madeCells_one, ← hexRow_zero n k] at hown1
  go_wp2
  go_loopw [0, 27] (fun v i wr => ∃ j : Nat, j ≤ k ∧ i = .int .i64 j ∧ v = .int .i64 ((n / 16 ^ j : Nat) : Int) ∧ wr.ownsRow w.heap.size 5 1 (.slice (some ⟨w.heap.size, 0, none⟩) k k) k (hexRow n k j) ∧ Below w.heap.size w wr) (fun _ i _ => k - (intOf i).toNat)
  case atStart => exact ⟨0, by omega, rfl, by simp, hown1, hB1⟩
  case round =>
    clear hown1 hg1
    obtain ⟨j, hj, rfl, rfl, hown, hB⟩ := hrel
    by_cases hlt : j < k
    · have hm : n / 16 ^ j ≤ 9223372036854775807 := Nat.le_trans (Nat.div_le_self _ _) hn63
      have HN := Lib.hid (div_pow_next n j)
      have HX := Lib.hid (hexRow_next n k j hlt)
      have hcell := (hown.cellAt (k - 1 - j) (by omega)).trans (hexRow_at n k j hlt)
      have hfz := hown.frozenAt (k - 1 - j)
      have HST := Lib.hid (fun u => hown.stored (k - 1 - j) u)
      generalize n / 16 ^ j = m at *
      have e1 := and15 m hm
      have hmod : m % 16 < 16 := Nat.mod_lt _ (by decide)
      have e2 : (m : Int) / 16 = ((m / 16 : Nat) : Int) := by omega
      have hix := index_num (m % 16) hmod
      generalize m % 16 = d at *
      generalize m / 16 = q at *
      go_wp2
      go_roundw
      case rel => exact ⟨j + 1, by omega, by go_num, by rw [← HN.out], by rw [← HX.out]; exact (HST.out _).1, hB.grown (HST.out _).2 hB.size (fun x hx => by cases hx; exact Nat.le_refl _)⟩
      case measure => simp [intOf]; omega
    · have hjk : j = k := by omega
      subst hjk
      have hl : (hexL n j).length = j := hexL_length n j
      have hrow : hexRow n j j = (hexL n j).map fun c => Value.int .u8 (c.toNat : Int) := by unfold hexRow; rw [Nat.sub_self]; rfl
      have hcv : (convert 72 9 (.slice (some ⟨w.heap.size, 0, none⟩) j j)).run Tryd.prog wr = .ok (.string (tx (hexL n j))) wr := by
        have := conv_row wr w.heap.size (hexL n j) w.heap.size j (by rw [hl, ← hrow]; exact hown)
        rwa [hl] at this
      clear hrow hl hown
      go_wp2
      go_ret
      exact ⟨retS (by rw [HE.out]), hB⟩

set_option maxHeartbeats 1000000 in
theorem hex_out (n wide : Int) (h0 : -9223372036854775808 ≤ n) (h1 : n ≤ 9223372036854775807) (w : World) (h : wide < 1 ∨ 12 < wide ∨ n < 0 ∨ ¬ n < 16 ^ wide.toNat) :
    Calls Tryd.prog 55 #[.int .i64 n, .int .i64 wide] w fun e w' => e = .returned (.string (tx [])) ∧ Below w.heap.size w w' := by
  have hc : wide < 1 ∨ (¬ wide < 1 ∧ 12 < wide) ∨ (¬ wide < 1 ∧ ¬ 12 < wide ∧ n < 0) ∨ (¬ wide < 1 ∧ ¬ 12 < wide ∧ ¬ n < 0 ∧ ¬ n < 16 ^ wide.toNat) := by omega
  clear h
  rcases hc with a1 | ⟨a1, a2⟩ | ⟨a1, a2, a3⟩ | ⟨a1, a2, a3, a4⟩
  · go_enter Tryd.func55, Tryd.ntmps55
    go_wp2
    go_ret
    exact ⟨rfl, Below.refl _ _⟩
  · go_enter Tryd.func55, Tryd.ntmps55
    go_wp2
    go_ret
    exact ⟨rfl, Below.refl _ _⟩
  · go_enter Tryd.func55, Tryd.ntmps55
    go_wp2
    go_ret
    exact ⟨rfl, Below.refl _ _⟩
  · obtain ⟨m, rfl⟩ : ∃ m : Nat, n = m := ⟨n.toNat, by omega⟩
    obtain ⟨k, rfl⟩ : ∃ k : Nat, wide = k := ⟨wide.toNat, by omega⟩
    have hsh := shr_hex m k
    have hne : m / 16 ^ k ≠ 0 := fun e => by
      have := (div_pos_iff m k).1 e
      have hc : ((16 ^ k : Nat) : Int) = 16 ^ k := by simp
      rw [Int.toNat_natCast] at a4
      omega
    have hpos : 0 < m / 16 ^ k := Nat.pos_of_ne_zero hne
    clear hne a4
    generalize m / 16 ^ k = q at *
    go_enter Tryd.func55, Tryd.ntmps55
    go_wp2
    go_ret
    exact ⟨rfl, Below.refl _ _⟩

theorem hex_any (n wide : Int) (h0 : -9223372036854775808 ≤ n) (h1 : n ≤ 9223372036854775807) (w : World) :
    Calls Tryd.prog 55 #[.int .i64 n, .int .i64 wide] w fun e w' => e = .returned (.string (tx (hexOf n wide))) ∧ Below w.heap.size w w' := by
  by_cases h : wide < 1 ∨ 12 < wide ∨ n < 0 ∨ ¬ n < 16 ^ wide.toNat
  · have e : hexOf n wide = [] := by unfold hexOf; rw [if_neg (by omega)]
    rw [e]
    exact hex_out n wide h0 h1 w h
  · obtain ⟨m, rfl⟩ : ∃ m : Nat, n = m := ⟨n.toNat, by omega⟩
    obtain ⟨k, rfl⟩ : ∃ k : Nat, wide = k := ⟨wide.toNat, by omega⟩
    have hc : ((16 ^ k : Nat) : Int) = 16 ^ k := by simp
    rw [Int.toNat_natCast] at h
    exact hex_in m k (by omega) (by omega) (by omega) w
end Go.Proofs.YtollhemkjnkalaaDoor
