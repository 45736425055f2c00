/- Contracts: words, lines and their words, in the program and in the document's own way. -/
import Derived.Test.YtollhemkjnkalaaGreatDoorD7
namespace Go.Proofs.YtollhemkjnkalaaGreatDoor
open Go.RowKit Go.Shelf
set_option linter.unusedVariables false
set_option maxRecDepth 100000

def wordB (s : ByteArray) : Bool := isWord s.data.toList
theorem isW_eq (c : UInt8) : isW c = (decide (33 ≤ (c.toNat : Int)) && decide ((c.toNat : Int) ≤ 126)) := by
  unfold isW
  simp only [UInt8.le_iff_toNat_le]
  rw [Bool.eq_iff_iff]
  simp
  omega
theorem isW_cases (c : UInt8) : (isW c = false ∧ ((c.toNat : Int) < 33 ∨ (¬ (c.toNat : Int) < 33 ∧ 126 < (c.toNat : Int)))) ∨ (isW c = true ∧ ¬ (c.toNat : Int) < 33 ∧ ¬ 126 < (c.toNat : Int)) := by
  rw [isW_eq]
  cases h : (decide (33 ≤ (c.toNat : Int)) && decide ((c.toNat : Int) ≤ 126))
  · left
    refine ⟨rfl, ?_⟩
    simp at h
    omega
  · right
    simp at h
    exact ⟨rfl, by omega, by omega⟩
theorem all_take_succ (p : UInt8 → Bool) (s : ByteArray) (k : Nat) (h : k < s.size) (h1 : (s.data.toList.take k).all p = true) (h2 : p s[k] = true) : (s.data.toList.take (k + 1)).all p = true := by
  rw [List.take_succ_eq_append_getElem (by simpa using h), List.all_append, h1]
  simp only [List.all_cons, List.all_nil, Bool.and_true, Bool.true_and]
  exact h2
theorem all_false_of (p : UInt8 → Bool) (s : ByteArray) (k : Nat) (h : k < s.size) (h2 : p s[k] = false) : s.data.toList.all p = false := by
  rw [List.all_eq_false]
  exact ⟨s[k], by simp [ByteArray.getElem_eq_getElem_data], by simp [h2]⟩
theorem word_not (s : ByteArray) (k : Nat) (h : k < s.size) (h2 : isW s[k] = false) : wordB s = false := by
  unfold wordB isWord
  rw [all_false_of isW s k h h2]
  simp
theorem empty_iff (s : ByteArray) : s.data.toList.isEmpty = decide (s.size = 0) := by
  have : s.data.toList.length = s.size := by simp
  cases h : s.data.toList with
  | nil => rw [h] at this; have : s.size = 0 := this.symm; simp [this]
  | cons a r =>
    rw [h] at this
    simp only [List.length_cons] at this
    rw [decide_eq_false (by omega)]; rfl
theorem word_all (s : ByteArray) (k : Nat) (hk : s.size ≤ k) (h : (s.data.toList.take k).all isW = true) : wordB s = decide (0 < s.size) := by
  unfold wordB isWord
  rw [List.take_of_length_le (by simpa using hk)] at h
  rw [h, empty_iff]
  by_cases hz : s.size = 0
  · simp [hz]
  · have : 0 < s.size := by omega
    simp [hz, this]

set_option maxHeartbeats 1000000 in
theorem word_any (s : ByteArray) (w : World) (hs : s.size ≤ maxLen) :
    Calls Tryz.prog 74 #[.string s] w fun e w' => e = .returned (.bool (wordB s)) ∧ w = w' := by
  unfold maxLen at hs
  go_enter Tryz.func74, Tryz.ntmps74
  go_wp2
  go_loop [6] (fun i => ∃ k : Nat, k ≤ s.size ∧ i = .int .i64 k ∧ Hid ((s.data.toList.take k).all isW = true)) (fun i => s.size - (intOf i).toNat)
  case atStart => exact ⟨0, by omega, rfl, by simp [Hid]⟩
  case round =>
    obtain ⟨k, hk, rfl, H⟩ := hrel
    by_cases hlt : k < s.size
    · have hb : 0 ≤ (s[k].toNat : Int) ∧ (s[k].toNat : Int) ≤ 255 := ⟨by omega, by have := s[k].toNat_lt; omega⟩
      rcases isW_cases s[k] with ⟨hB, hc⟩ | ⟨hB, a1, a2⟩
      · have HB := Lib.hid (word_not s k hlt hB)
        clear hB
        rcases hc with a1 | ⟨a1, a2⟩
        all_goals
          go_wp2
          go_ret
          exact ⟨retB HB.out.symm, rfl⟩
      · have HB := Lib.hid (all_take_succ isW s k hlt H.out hB)
        clear hB
        go_wp2
        go_round
        case rel => exact ⟨k + 1, by omega, by go_num, HB⟩
        case measure => simp [intOf]; omega
    · have HB := Lib.hid (word_all s k (by omega) H.out)
      have hem : s.toList.isEmpty = decide (s.size = 0) := by rw [toList_data]; exact empty_iff s
      by_cases hz : s.size = 0
      · have he : s.toList.isEmpty = true := by rw [hem, decide_eq_true hz]
        have HC : Hid (wordB s = false) := by unfold Hid; rw [HB.out]; simp [hz]
        clear hem
        go_wp2
        go_ret
        exact ⟨retB HC.out.symm, rfl⟩
      · have he : s.toList.isEmpty = false := by rw [hem, decide_eq_false hz]
        have HC : Hid (wordB s = true) := by unfold Hid; rw [HB.out]; simp; omega
        clear hem
        go_wp2
        go_ret
        exact ⟨retB HC.out.symm, rfl⟩

set_option maxHeartbeats 1000000 in
theorem refWord_any (s : ByteArray) (w : World) (hs : s.size ≤ maxLen) :
    Calls Tryz.prog 67 #[.string s] w fun e w' => e = .returned (.bool (wordB s)) ∧ w = w' := by
  unfold maxLen at hs
  go_enter Tryz.func67, Tryz.ntmps67
  go_wp2
  go_loop [3] (fun i => ∃ k : Nat, k ≤ s.size ∧ i = .int .i64 k ∧ Hid ((s.data.toList.take k).all isW = true)) (fun i => s.size - (intOf i).toNat)
  case atStart => exact ⟨0, by omega, rfl, by simp [Hid]⟩
  case round =>
    obtain ⟨k, hk, rfl, H⟩ := hrel
    by_cases hlt : k < s.size
    · have hb : 0 ≤ (s[k].toNat : Int) ∧ (s[k].toNat : Int) ≤ 255 := ⟨by omega, by have := s[k].toNat_lt; omega⟩
      rcases isW_cases s[k] with ⟨hB, hc⟩ | ⟨hB, a1, a2⟩
      · have HB := Lib.hid (word_not s k hlt hB)
        clear hB
        rcases hc with a1 | ⟨a1, a2⟩
        all_goals
          go_wp2
          go_ret
          exact ⟨retB HB.out.symm, rfl⟩
      · have HB := Lib.hid (all_take_succ isW s k hlt H.out hB)
        clear hB
        go_wp2
        go_round
        case rel => exact ⟨k + 1, by omega, by go_num, HB⟩
        case measure => simp [intOf]; omega
    · have HB := Lib.hid (word_all s k (by omega) H.out)
      go_wp2
      go_ret
      exact ⟨retB (by rw [HB.out]), rfl⟩

/-! ### rows of words -/
theorem all_take_next (p : ByteArray → Bool) (l : List ByteArray) (k : Nat) (h : k < l.length) (h1 : (l.take k).all p = true) (h2 : p l[k] = true) : (l.take (k + 1)).all p = true := by
  rw [List.take_succ_eq_append_getElem h, List.all_append, h1]
  simp only [List.all_cons, List.all_nil, Bool.and_true, Bool.true_and]
  exact h2
theorem all_not_at (p : ByteArray → Bool) (l : List ByteArray) (k : Nat) (h : k < l.length) (h2 : p l[k] = false) : l.all p = false := by
  rw [List.all_eq_false]
  exact ⟨l[k], List.getElem_mem h, by simp [h2]⟩
theorem all_take_end (p : ByteArray → Bool) (l : List ByteArray) (k : Nat) (h : l.length ≤ k) (h1 : (l.take k).all p = true) : l.all p = true := by
  rwa [List.take_of_length_le h] at h1

set_option maxHeartbeats 400000 in
theorem words_any (a : Option Addr) (c : Nat) (l : List ByteArray) (w : World) (hr : Sl w a (strs l)) (hf : Fits l) :
    Calls Tryz.prog 55 #[.slice a l.length c] w fun e w' => e = .returned (.bool (l.all wordB)) ∧ w = w' := by
  have hm := hf.1
  unfold maxLen at hm
  have HR := Lib.hid hr
  have HF := Lib.hid hf
  clear hr hf
  go_enter Tryz.func55, Tryz.ntmps55
  go_wp2
  go_loop [7] (fun i => ∃ k : Nat, k ≤ l.length ∧ i = .int .i64 k ∧ Hid ((l.take k).all wordB = true)) (fun i => l.length - (intOf i).toNat)
  case atStart => exact ⟨0, by omega, rfl, by simp [Hid]⟩
  case round =>
    obtain ⟨k, hk, rfl, H⟩ := hrel
    by_cases hlt : k < l.length
    · obtain ⟨b, off, rfl, hbl, hcell⟩ := HR.out.str hlt
      have hsz : l[k].size ≤ maxLen := HF.out.2 _ (List.getElem_mem hlt)
      cases hB : wordB l[k]
      · have HB := Lib.hid (all_not_at wordB l k hlt hB)
        go_wp2_with (go_at_call 74; refine (word_any _ _ hsz).mono ?_; rintro e w' ⟨rfl, rfl⟩)
        go_ret
        exact ⟨retB HB.out.symm, rfl⟩
      · have HB := Lib.hid (all_take_next wordB l k hlt H.out hB)
        go_wp2_with (go_at_call 74; refine (word_any _ _ hsz).mono ?_; rintro e w' ⟨rfl, rfl⟩)
        go_round
        case rel => exact ⟨k + 1, by omega, by go_num, HB⟩
        case measure => simp [intOf]; omega
    · have HB := Lib.hid (all_take_end wordB l k (by omega) H.out)
      go_wp2
      go_ret
      exact ⟨retB HB.out.symm, rfl⟩

end Go.Proofs.YtollhemkjnkalaaGreatDoor
