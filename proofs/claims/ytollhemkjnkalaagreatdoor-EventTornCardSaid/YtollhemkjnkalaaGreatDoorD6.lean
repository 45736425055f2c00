/- Contracts: texts read as numbers, hexadecimal and decimal, in the program and in the document's own way; decimal digits written. -/
import Derived.Test.YtollhemkjnkalaaGreatDoorD6a
import Derived.Lib.LaidTab
namespace Go.Proofs.YtollhemkjnkalaaGreatDoor
open Go.RowKit Go.Shelf
set_option linter.unusedVariables false
set_option maxRecDepth 100000

/-! ### decimal -/
theorem decOf_out (n : Int) (h : n < 0 ∨ 1099511627776 < n) : decOf n = [] := by
  unfold decOf forever; rw [if_neg (by omega)]
theorem decOf_in (n : Nat) (h : n ≤ 1099511627776) : decOf (n : Int) = Lib.decDigits n := by
  unfold decOf forever; rw [if_pos (by omega), Int.toNat_natCast]

theorem below_grow (w : World) (k : Nat) (os : Array Obj) : Below w.heap.size w (Sort.grow (w.drewN k) os) := by
  refine ⟨rfl, rfl, rfl, ?_, fun j hj => ?_⟩
  · show w.heap.size ≤ (w.heap ++ os).size
    simp
  · show (w.heap ++ os)[j]? = w.heap[j]?
    exact Array.getElem?_append_left hj

theorem itoa_any (n : Nat) (hn : n ≤ 9223372036854775807) (w : World) (htab : Lib.TabIs Tryz.prog w "internal/strconv.uint64pow10" .u64 Lib.pow10Tab) :
    Calls Tryz.prog 76 #[.int .i64 n] w fun e w' => e = .returned (.string (tx (Lib.decDigits n))) ∧ Below w.heap.size w w' := by
  have h := Any.strconv_Itoa Tryz.laysItoa (n : Int) (by omega) (by omega) w htab
  refine Calls.mono h ?_
  rintro e w' ⟨rfl, k, os, rfl⟩
  exact ⟨by rw [Lib.itoa_nonneg]; rfl, below_grow w k os⟩
theorem itoa_small (n : Nat) (hn : n < 100) (w : World) :
    Calls Tryz.prog 76 #[.int .i64 n] w fun e w' => e = .returned (.string (tx (Lib.decDigits n))) ∧ Below w.heap.size w w' := by
  have h := Any.strconv_Itoa_small { Tryz.laysItoa with } n hn w
  refine Calls.mono h ?_
  rintro e w' ⟨rfl, rfl⟩
  exact ⟨rfl, Below.refl _ _⟩

set_option maxHeartbeats 400000 in
theorem dec_of (n : Int) (h0 : -9223372036854775808 ≤ n) (h1 : n ≤ 9223372036854775807) (w : World)
    (HI : Hid (∀ m : Nat, (m : Int) = n → Calls Tryz.prog 76 #[.int .i64 n] w fun e w' => e = .returned (.string (tx (Lib.decDigits m))) ∧ Below w.heap.size w w')) :
    Calls Tryz.prog 57 #[.int .i64 n] w fun e w' => e = .returned (.string (tx (decOf n))) ∧ Below w.heap.size w w' := by
  by_cases h : n < 0 ∨ 1099511627776 < n
  · have HE := Lib.hid (decOf_out n h)
    have hc : n < 0 ∨ (¬ n < 0 ∧ 1099511627776 < n) := by omega
    clear h
    rcases hc with a1 | ⟨a1, a2⟩
    all_goals
      go_enter Tryz.func57, Tryz.ntmps57
      go_wp2
      go_ret
      exact ⟨by rw [HE.out]; rfl, Below.refl _ _⟩
  · obtain ⟨m, rfl⟩ : ∃ m : Nat, n = m := ⟨n.toNat, by omega⟩
    have HE := Lib.hid (decOf_in m (by omega))
    have HJ := Lib.hid (HI.out m rfl)
    clear HI
    go_enter Tryz.func57, Tryz.ntmps57
    go_wp2_with (go_at_call 76; refine HJ.out.mono ?_; rintro e w' ⟨rfl, hB⟩)
    go_ret
    exact ⟨retS (by rw [HE.out]), hB⟩
theorem dec_any (n : Int) (h0 : -9223372036854775808 ≤ n) (h1 : n ≤ 9223372036854775807) (w : World) (htab : Lib.TabIs Tryz.prog w "internal/strconv.uint64pow10" .u64 Lib.pow10Tab) :
    Calls Tryz.prog 57 #[.int .i64 n] w fun e w' => e = .returned (.string (tx (decOf n))) ∧ Below w.heap.size w w' :=
  dec_of n h0 h1 w (fun m hm => by subst hm; exact itoa_any m (by omega) w htab)
theorem dec_small (n : Int) (h0 : 0 ≤ n) (h1 : n < 100) (w : World) :
    Calls Tryz.prog 57 #[.int .i64 n] w fun e w' => e = .returned (.string (tx (decOf n))) ∧ Below w.heap.size w w' :=
  dec_of n (by omega) (by omega) w (fun m hm => by subst hm; exact itoa_small m (by omega) w)

theorem tm10 (m : Nat) : (m : Int).tmod 10 = ((m % 10 : Nat) : Int) := by
  rw [Int.tmod_eq_emod_of_nonneg (by omega)]; omega
theorem td10 (m : Nat) : (m : Int).tdiv 10 = ((m / 10 : Nat) : Int) := by
  rw [Int.tdiv_eq_ediv_of_nonneg (by omega)]; omega
/-- what is left to be written, and what is written, are the digits -/
def DecAt (n0 m : Nat) (out : List UInt8) : Prop := (0 < m ∧ Lib.decDigits n0 = Lib.decDigits m ++ out) ∨ (m = 0 ∧ Lib.decDigits n0 = out)
theorem DecAt.next {n0 m : Nat} {out : List UInt8} (h : DecAt n0 m out) (hm : 0 < m) : DecAt n0 (m / 10) (dgB (m % 10) :: out) := by
  rcases h with ⟨_, h⟩ | ⟨h, _⟩
  · have hd : dgB (m % 10) = UInt8.ofNat (48 + m % 10) := by
      unfold dgB; rw [if_pos (by omega)]
    by_cases h10 : m < 10
    · refine .inr ⟨by omega, ?_⟩
      rw [h, decDigits_small h10, hd, Nat.mod_eq_of_lt h10]; rfl
    · refine .inl ⟨by omega, ?_⟩
      rw [h, decDigits_big h10, hd, List.append_assoc]; rfl
  · omega
theorem DecAt.done {n0 : Nat} {out : List UInt8} (h : DecAt n0 0 out) : Lib.decDigits n0 = out := by
  rcases h with ⟨h, _⟩ | ⟨_, h⟩
  · omega
  · exact h
theorem dec_out_len (m : Nat) : (Lib.decDigits m).length ≤ m + 1 := by
  induction m using Nat.strongRecOn with
  | _ u ih =>
    by_cases h : u < 10
    · rw [decDigits_small h]; simp
    · rw [decDigits_big h, List.length_append]
      have := ih (u / 10) (by omega)
      simp only [List.length_cons, List.length_nil]
      omega
theorem DecAt.len {n0 m : Nat} {out : List UInt8} (h : DecAt n0 m out) : out.length ≤ n0 + 1 := by
  have hl := dec_out_len n0
  rcases h with ⟨_, h⟩ | ⟨_, h⟩
  · rw [h, List.length_append] at hl; omega
  · rw [h] at hl; exact hl

set_option maxHeartbeats 1000000 in
theorem refDec_in (n : Nat) (hn0 : 0 < n) (hn : n ≤ 1099511627776) (w : World) :
    Calls Tryz.prog 44 #[.int .i64 n] w fun e w' => e = .returned (.string (tx (decOf n))) ∧ Below w.heap.size w w' := by
  have HD := Lib.hid digit_any
  have HE := Lib.hid (decOf_in n hn)
  have hne : ((n : Int) == 0) = false := beq_eq_false_iff_ne.2 (by omega)
  go_enter Tryz.func44, Tryz.ntmps44
  go_wp2
  go_loopw [0, 3] (fun v o wr => ∃ (m : Nat) (out : List UInt8), m ≤ n ∧ v = .int .i64 (m : Int) ∧ o = .string (tx out) ∧ Hid (DecAt n m out) ∧ Below w.heap.size w wr) (fun v _ _ => (intOf v).toNat)
  case atStart => exact ⟨n, [], Nat.le_refl _, rfl, rfl, .inl ⟨hn0, by simp⟩, Below.refl _ _⟩
  case round =>
    obtain ⟨m, out, hm, rfl, rfl, HA, hB⟩ := hrel
    by_cases hlt : 0 < m
    · have HN := Lib.hid (HA.out.next hlt)
      have hsz : (tx out).size ≤ 1099511627777 := by rw [tx_size]; have := HA.out.len; omega
      have HX := Lib.hid (tx_append [dgB (m % 10)] out)
      have e1 := tm10 m
      have e2 := td10 m
      have hmod : m % 10 < 16 := by omega
      have hq : m / 10 < m := by omega
      generalize m % 10 = d at *
      generalize m / 10 = q at *
      have hds : (tx [dgB d]).size = 1 := rfl
      go_wp2_with (go_at_call 66; refine (HD.out d hmod _).mono ?_; rintro e w' ⟨rfl, hB2⟩)
      go_roundw
      case rel => exact ⟨q, dgB d :: out, by omega, rfl, by rw [HX.out]; rfl, HN, hB.trans (hB2.mono hB.size)⟩
      case measure => simp [intOf]; omega
    · have : m = 0 := by omega
      subst this
      have HF := Lib.hid HA.out.done
      go_wp2
      go_ret
      exact ⟨retS (by rw [HE.out, HF.out]), hB⟩

set_option maxHeartbeats 1000000 in
theorem refDec_any (n : Int) (h0 : -9223372036854775808 ≤ n) (h1 : n ≤ 9223372036854775807) (w : World) :
    Calls Tryz.prog 44 #[.int .i64 n] w fun e w' => e = .returned (.string (tx (decOf n))) ∧ Below w.heap.size w w' := by
  by_cases h : n < 0 ∨ 1099511627776 < n
  · have HE := Lib.hid (decOf_out n h)
    have hc : n < 0 ∨ (¬ n < 0 ∧ 1099511627776 < n) := by omega
    clear h
    rcases hc with a1 | ⟨a1, a2⟩
    all_goals
      go_enter Tryz.func44, Tryz.ntmps44
      go_wp2
      go_ret
      exact ⟨by rw [HE.out]; rfl, Below.refl _ _⟩
  · obtain ⟨m, rfl⟩ : ∃ m : Nat, n = m := ⟨n.toNat, by omega⟩
    by_cases hz : m = 0
    · subst hz
      go_enter Tryz.func44, Tryz.ntmps44
      go_wp2
      go_ret
      refine ⟨retS ?_, Below.refl _ _⟩
      rw [decOf_in 0 (by decide), decDigits_small (by decide)]; rfl
    · exact refDec_in m (by omega) (by omega) w
end Go.Proofs.YtollhemkjnkalaaGreatDoor
