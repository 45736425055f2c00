/- Contracts of names, for the layers above: which texts are names. -/
import Derived.Test.YtollhemkjnkalaaGreatDoorG0
import Derived.WalkLawsBesides
import Derived.Lib.Hide
import Derived.Lib.Bytealg
import Derived.Deep.QuietTactic
import Derived.BigQuiet
import Derived.Deep.Draws
namespace Go.Proofs.YtollhemkjnkalaaGreatDoor.nm
open Go.RowKit
set_option linter.unusedVariables false
set_option maxRecDepth 100000

/-- a byte that a name may have -/
def isB (c : UInt8) : Bool := (97 ≤ c && c ≤ 122) || (48 ≤ c && c ≤ 57)
/-- a text that is a name -/
def isName (l : List UInt8) : Bool := decide (1 ≤ l.length) && decide (l.length ≤ 12) && l.all isB


theorem isB_eq (c : UInt8) : isB c = ((decide (97 ≤ (c.toNat : Int)) && decide ((c.toNat : Int) ≤ 122)) || (decide (48 ≤ (c.toNat : Int)) && decide ((c.toNat : Int) ≤ 57))) := by
  unfold isB
  simp only [UInt8.le_iff_toNat_le]
  rw [Bool.eq_iff_iff]
  simp
  omega

theorem all_take_succ (p : UInt8 → Bool) (s : ByteArray) (k : Nat) (h : k < s.size) (h1 : (s.data.toList.take k).all p = true) (h2 : p s[k] = true) : (s.data.toList.take (k + 1)).all p = true := by
  rw [List.take_succ_eq_append_getElem (by simpa using h), List.all_append, h1]
  simp only [List.all_cons, List.all_nil, Bool.and_true, Bool.true_and]
  exact h2
theorem all_false_of (p : UInt8 → Bool) (s : ByteArray) (k : Nat) (h : k < s.size) (h2 : p s[k] = false) : s.data.toList.all p = false := by
  rw [List.all_eq_false]
  exact ⟨s[k], by simp [ByteArray.getElem_eq_getElem_data], by simp [h2]⟩
theorem isName_short (s : ByteArray) (h : s.size < 1 ∨ 12 < s.size) : isName s.data.toList = false := by
  unfold isName
  have : s.data.toList.length = s.size := by simp
  rw [this]
  rcases h with h | h
  · simp; omega
  · simp; omega
theorem isName_all (s : ByteArray) (h1 : 1 ≤ s.size) (h2 : s.size ≤ 12) (k : Nat) (hk : s.size ≤ k) (h : (s.data.toList.take k).all isB = true) : isName s.data.toList = true := by
  unfold isName
  rw [List.take_of_length_le (by simpa using hk)] at h
  have : s.data.toList.length = s.size := by simp
  rw [this, h]
  simp
  omega
theorem isName_not (s : ByteArray) (k : Nat) (h : k < s.size) (h2 : isB s[k] = false) : isName s.data.toList = false := by
  unfold isName
  rw [all_false_of isB s k h h2]
  simp

set_option maxHeartbeats 400000 in
theorem rightByte_any (c : UInt8) (w : World) :
    Calls Tryz.prog 80 #[.int .u8 (c.toNat : Int)] w fun e w' => e = .returned (.bool (isB c)) ∧ w = w' := by
  have hb : 0 ≤ (c.toNat : Int) ∧ (c.toNat : Int) ≤ 255 := ⟨by omega, by have := c.toNat_lt; omega⟩
  have HE := Lib.hid (isB_eq c)
  generalize (c.toNat : Int) = n at *
  go_enter Tryz.func80, Tryz.ntmps80
  go_wp2
  all_goals go_ret
  all_goals refine ⟨retB ?_, rfl⟩
  all_goals rw [HE.out, Bool.eq_iff_iff]
  all_goals simp only [Bool.or_eq_true, Bool.and_eq_true, decide_eq_true_eq, Bool.false_eq_true, false_iff, true_iff]
  all_goals omega

set_option maxHeartbeats 400000 in
theorem right_any (s : ByteArray) (w : World) (hs : s.size ≤ maxLen) :
    Calls Tryz.prog 63 #[.string s] w fun e w' => e = .returned (.bool (isName s.data.toList)) ∧ w = w' := by
  unfold maxLen at hs
  by_cases h1 : s.size < 1 ∨ 12 < s.size
  · have H := Lib.hid (isName_short s h1)
    by_cases h0 : s.size < 1
    all_goals
      go_enter Tryz.func63, Tryz.ntmps63
      go_wp2
      all_goals first | omega | (go_ret; exact ⟨retB H.out.symm, rfl⟩)
  · have h2 : 1 ≤ s.size := by omega
    have h3 : s.size ≤ 12 := by omega
    clear h1
    go_enter Tryz.func63, Tryz.ntmps63
    go_wp2
    go_loop [14] (fun i => ∃ k : Nat, k ≤ s.size ∧ i = .int .i64 k ∧ Hid ((s.data.toList.take k).all isB = true)) (fun i => s.size - (intOf i).toNat)
    case atStart => exact ⟨0, by omega, rfl, by simp [Hid]⟩
    case round =>
      obtain ⟨k, hk, rfl, H⟩ := hrel
      by_cases hlt : k < s.size
      · cases hB : isB s[k]
        · have HB := Lib.hid (isName_not s k hlt hB)
          go_wp2_with (go_at_call 80; refine (rightByte_any _ _).mono ?_; rintro e w' ⟨rfl, rfl⟩)
          go_ret
          exact ⟨retB HB.out.symm, rfl⟩
        · have HB := Lib.hid (all_take_succ isB s k hlt H.out hB)
          go_wp2_with (go_at_call 80; refine (rightByte_any _ _).mono ?_; rintro e w' ⟨rfl, rfl⟩)
          go_round
          case rel => exact ⟨k + 1, by omega, by go_num, HB⟩
          case measure => simp [intOf]; omega
      · have HB := Lib.hid (isName_all s h2 h3 k (by omega) H.out)
        go_wp2
        go_ret
        exact ⟨retB HB.out.symm, rfl⟩
set_option maxHeartbeats 400000 in
theorem refRight_any (s : ByteArray) (w : World) (hs : s.size ≤ maxLen) :
    Calls Tryz.prog 25 #[.string s] w fun e w' => e = .returned (.bool (isName s.data.toList)) ∧ w = w' := by
  unfold maxLen at hs
  by_cases h1 : s.size < 1 ∨ 12 < s.size
  · have H := Lib.hid (isName_short s h1)
    by_cases h0 : s.size < 1
    all_goals
      go_enter Tryz.func25, Tryz.ntmps25
      go_wp2
      all_goals first | omega | (go_ret; exact ⟨retB H.out.symm, rfl⟩)
  · have h2 : 1 ≤ s.size := by omega
    have h3 : s.size ≤ 12 := by omega
    clear h1
    go_enter Tryz.func25, Tryz.ntmps25
    go_wp2
    go_loop [3] (fun i => ∃ k : Nat, k ≤ s.size ∧ i = .int .i64 k ∧ Hid ((s.data.toList.take k).all isB = true)) (fun i => s.size - (intOf i).toNat)
    case atStart => exact ⟨0, by omega, rfl, by simp [Hid]⟩
    case round =>
      obtain ⟨k, hk, rfl, H⟩ := hrel
      by_cases hlt : k < s.size
      · have hE := isB_eq s[k]
        have hb : 0 ≤ (s[k].toNat : Int) ∧ (s[k].toNat : Int) ≤ 255 := ⟨by omega, by have := s[k].toNat_lt; omega⟩
        cases d1 : decide (97 ≤ (s[k].toNat : Int)) <;> cases d2 : decide ((s[k].toNat : Int) ≤ 122) <;> cases d3 : decide (48 ≤ (s[k].toNat : Int)) <;> cases d4 : decide ((s[k].toNat : Int) ≤ 57)
        all_goals
          first
            | (exfalso; simp only [decide_eq_true_eq, decide_eq_false_iff_not] at d1 d2 d3 d4; omega)
            | (have hB : isB s[k] = false := by rw [hE, d1, d2, d3, d4]; rfl
               have HB := Lib.hid (isName_not s k hlt hB)
               clear hE hB
               go_wp2
               go_ret
               exact ⟨retB HB.out.symm, rfl⟩)
            | (have hB : isB s[k] = true := by rw [hE, d1, d2, d3, d4]; rfl
               have HB := Lib.hid (all_take_succ isB s k hlt H.out hB)
               clear hE hB
               go_wp2
               go_round
               case rel => exact ⟨k + 1, by omega, by go_num, HB⟩
               case measure => simp [intOf]; omega)
      · have HB := Lib.hid (isName_all s h2 h3 k (by omega) H.out)
        go_wp2
        go_ret
        exact ⟨retB HB.out.symm, rfl⟩
end Go.Proofs.YtollhemkjnkalaaGreatDoor.nm
