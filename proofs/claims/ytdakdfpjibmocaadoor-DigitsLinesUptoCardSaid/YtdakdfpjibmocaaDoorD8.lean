/- Contracts: words, lines and their words, in the program and in the document's own way. -/
import Derived.Test.YtdakdfpjibmocaaDoorD7
namespace Go.Proofs.YtdakdfpjibmocaaDoor
open Go.RowKit Go.Shelf
set_option linter.unusedVariables false

def wordB (s : ByteArray) : Bool := isWord s.data.toList
theorem isW_eq (c : UInt8) : isW c = (decide (33 ≤ (c.toNat : Int)) && decide ((c.toNat : Int) ≤ 126)) := by
  unfold isW
  simp only [UInt8.le_iff_toNat_le]
  rw [Bool.eq_iff_iff]
  simp
  omega
theorem isW_cases (c : UInt8) : (isW c = false ∧ ((c.toNat : Int) < 33 ∨ (¬ (c.toNat : Int) < 33 ∧ 126 < (c.toNat : Int)))) ∨ (isW c = true ∧ ¬ (c.toNat : Int) < 33 ∧ ¬ 126 < (c.toNat : Int)) := by
  rw [isW_eq]
  cases h : (decide (33 ≤ (c.toNat : Int)) && decide ((c.toNat : Int) ≤ 126))
  · left
    refine ⟨rfl, ?_⟩
    simp at h
    omega
  · right
    simp at h
    exact ⟨rfl, by omega, by omega⟩
theorem all_take_succ (p : UInt8 → Bool) (s : ByteArray) (k : Nat) (h : k < s.size) (h1 : (s.data.toList.take k).all p = true) (h2 : p s[k] = true) : (s.data.toList.take (k + 1)).all p = true := by
  rw [List.take_succ_eq_append_getElem (by simpa using h), List.all_append, h1]
  simp only [List.all_cons, List.all_nil, Bool.and_true, Bool.true_and]
  exact h2
theorem all_false_of (p : UInt8 → Bool) (s : ByteArray) (k : Nat) (h : k < s.size) (h2 : p s[k] = false) : s.data.toList.all p = false := by
  rw [List.all_eq_false]
  exact ⟨s[k], by simp [ByteArray.getElem_eq_getElem_data], by simp [h2]⟩
theorem word_not (s : ByteArray) (k : Nat) (h : k < s.size) (h2 : isW s[k] = false) : wordB s = false := by
  unfold wordB isWord
  rw [all_false_of isW s k h h2]
  simp
theorem empty_iff (s : ByteArray) : s.data.toList.isEmpty = decide (s.size = 0) := by
  have : s.data.toList.length = s.size := by simp
  cases h : s.data.toList with
  | nil => rw [h] at this; have : s.size = 0 := this.symm; simp [this]
  | cons a r =>
    rw [h] at this
    simp only [List.length_cons] at this
    rw [decide_eq_false (by omega)]; rfl
theorem word_all (s : ByteArray) (k : Nat) (hk : s.size ≤ k) (h : (s.data.toList.take k).all isW = true) : wordB s = decide (0 < s.size) := by
  unfold wordB isWord
  rw [List.take_of_length_le (by simpa using hk)] at h
  rw [h, empty_iff]
  by_cases hz : s.size = 0
  · simp [hz]
  · have : 0 < s.size := by omega
    simp [hz, this]

set_option maxHeartbeats 1000000 in
theorem word_any (s : ByteArray) (w : World) (hs : s.size ≤ maxLen) :
    Calls Tryd.prog 33 #[.string s] w fun e w' => e = .returned (.bool (wordB s)) ∧ w = w' := by
  unfold maxLen at hs
  go_enter Tryd.func33, Tryd.ntmps33
  go_wp2
  go_loop [6] (fun i => ∃ k : Nat, k ≤ s.size ∧ i = .int .i64 k ∧ Hid ((s.data.toList.take k).all isW = true)) (fun i => s.size - (intOf i).toNat)
  case atStart => exact ⟨0, by omega, rfl, by simp [Hid]⟩
  case round =>
    obtain ⟨k, hk, rfl, H⟩ := hrel
    by_cases hlt : k < s.size
    · have hb : 0 ≤ (s[k].toNat : Int) ∧ (s[k].toNat : Int) ≤ 255 := ⟨by omega, by have := s[k].toNat_lt; omega⟩
      rcases isW_cases s[k] with ⟨hB, hc⟩ | ⟨hB, a1, a2⟩
      · have HB := Lib.hid (word_not s k hlt hB)
        clear hB
        rcases hc with a1 | ⟨a1, a2⟩
        all_goals
          go_wp2
          go_ret
          exact ⟨retB HB.out.symm, rfl⟩
      · have HB := Lib.hid (all_take_succ isW s k hlt H.out hB)
        clear hB
        go_wp2
        go_round
        case rel => exact ⟨k + 1, by omega, by go_num, HB⟩
        case measure => simp [intOf]; omega
    · have HB := Lib.hid (word_all s k (by omega) H.out)
      have hem : s.toList.isEmpty = decide (s.size = 0) := by rw [toList_data]; exact empty_iff s
      by_cases hz : s.size = 0
      · have he : s.toList.isEmpty = true := by rw [hem, decide_eq_true hz]
        have HC : Hid (wordB s = false) := by unfold Hid; rw [HB.out]; simp [hz]
        clear hem
        go_wp2
        go_ret
        exact ⟨retB HC.out.symm, rfl⟩
      · have he : s.toList.isEmpty = false := by rw [hem, decide_eq_false hz]
        have HC : Hid (wordB s = true) := by unfold Hid; rw [HB.out]; simp; omega
        clear hem
        go_wp2
        go_ret
        exact ⟨retB HC.out.symm, rfl⟩

set_option maxHeartbeats 1000000 in
theorem refWord_any (s : ByteArray) (w : World) (hs : s.size ≤ maxLen) :
    Calls Tryd.prog 29 #[.string s] w fun e w' => e = .returned (.bool (wordB s)) ∧ w = w' := by
  unfold maxLen at hs
  go_enter Tryd.func29, Tryd.ntmps29
  go_wp2
  go_loop [3] (fun i => ∃ k : Nat, k ≤ s.size ∧ i = .int .i64 k ∧ Hid ((s.data.toList.take k).all isW = true)) (fun i => s.size - (intOf i).toNat)
  case atStart => exact ⟨0, by omega, rfl, by simp [Hid]⟩
  case round =>
    obtain ⟨k, hk, rfl, H⟩ := hrel
    by_cases hlt : k < s.size
    · have hb : 0 ≤ (s[k].toNat : Int) ∧ (s[k].toNat : Int) ≤ 255 := ⟨by omega, by have := s[k].toNat_lt; omega⟩
      rcases isW_cases s[k] with ⟨hB, hc⟩ | ⟨hB, a1, a2⟩
      · have HB := Lib.hid (word_not s k hlt hB)
        clear hB
        rcases hc with a1 | ⟨a1, a2⟩
        all_goals
          go_wp2
          go_ret
          exact ⟨retB HB.out.symm, rfl⟩
      · have HB := Lib.hid (all_take_succ isW s k hlt H.out hB)
        clear hB
        go_wp2
        go_round
        case rel => exact ⟨k + 1, by omega, by go_num, HB⟩
        case measure => simp [intOf]; omega
    · have HB := Lib.hid (word_all s k (by omega) H.out)
      go_wp2
      go_ret
      exact ⟨retB (by rw [HB.out]), rfl⟩

/-! ### rows of words -/
theorem all_take_next (p : ByteArray → Bool) (l : List ByteArray) (k : Nat) (h : k < l.length) (h1 : (l.take k).all p = true) (h2 : p l[k] = true) : (l.take (k + 1)).all p = true := by
  rw [List.take_succ_eq_append_getElem h, List.all_append, h1]
  simp only [List.all_cons, List.all_nil, Bool.and_true, Bool.true_and]
  exact h2
theorem all_not_at (p : ByteArray → Bool) (l : List ByteArray) (k : Nat) (h : k < l.length) (h2 : p l[k] = false) : l.all p = false := by
  rw [List.all_eq_false]
  exact ⟨l[k], List.getElem_mem h, by simp [h2]⟩
theorem all_take_end (p : ByteArray → Bool) (l : List ByteArray) (k : Nat) (h : l.length ≤ k) (h1 : (l.take k).all p = true) : l.all p = true := by
  rwa [List.take_of_length_le h] at h1

set_option maxHeartbeats 400000 in
theorem words_any (a : Option Addr) (c : Nat) (l : List ByteArray) (w : World) (hr : Sl w a (strs l)) (hf : Fits l) :
    Calls Tryd.prog 27 #[.slice a l.length c] w fun e w' => e = .returned (.bool (l.all wordB)) ∧ w = w' := by
  have hm := hf.1
  unfold maxLen at hm
  have HR := Lib.hid hr
  have HF := Lib.hid hf
  clear hr hf
  go_enter Tryd.func27, Tryd.ntmps27
  go_wp2
  go_loop [7] (fun i => ∃ k : Nat, k ≤ l.length ∧ i = .int .i64 k ∧ Hid ((l.take k).all wordB = true)) (fun i => l.length - (intOf i).toNat)
  case atStart => exact ⟨0, by omega, rfl, by simp [Hid]⟩
  case round =>
    obtain ⟨k, hk, rfl, H⟩ := hrel
    by_cases hlt : k < l.length
    · obtain ⟨b, off, rfl, hbl, hcell⟩ := HR.out.str hlt
      have hsz : l[k].size ≤ maxLen := HF.out.2 _ (List.getElem_mem hlt)
      cases hB : wordB l[k]
      · have HB := Lib.hid (all_not_at wordB l k hlt hB)
        go_wp2_with (go_at_call 33; refine (word_any _ _ hsz).mono ?_; rintro e w' ⟨rfl, rfl⟩)
        go_ret
        exact ⟨retB HB.out.symm, rfl⟩
      · have HB := Lib.hid (all_take_next wordB l k hlt H.out hB)
        go_wp2_with (go_at_call 33; refine (word_any _ _ hsz).mono ?_; rintro e w' ⟨rfl, rfl⟩)
        go_round
        case rel => exact ⟨k + 1, by omega, by go_num, HB⟩
        case measure => simp [intOf]; omega
    · have HB := Lib.hid (all_take_end wordB l k (by omega) H.out)
      go_wp2
      go_ret
      exact ⟨retB HB.out.symm, rfl⟩

set_option maxHeartbeats 1000000 in
theorem same_any (a b : Option Addr) (c d : Nat) (l m : List ByteArray) (w : World) (hl : Sl w a (strs l)) (hm : Sl w b (strs m)) (fl : l.length ≤ 1048576) (fm : m.length ≤ 1048576) :
    Calls Tryd.prog 20 #[.slice a l.length c, .slice b m.length d] w fun e w' => e = .returned (.bool (decide (l = m))) ∧ Drew w w' := by
  have HL := Lib.hid hl
  have HM := Lib.hid hm
  clear hl hm
  by_cases hlen : l.length = m.length
  · have hne : ((l.length : Int) != (m.length : Int)) = false := by simp [hlen]
    go_enter Tryd.func20, Tryd.ntmps20
    go_wp2
    go_loopw [5] (fun i wr => ∃ k : Nat, k ≤ l.length ∧ i = .int .i64 k ∧ Hid (l.take k = m.take k) ∧ Hid (Drew w wr)) (fun i _ => l.length - (intOf i).toNat)
    case atStart => exact ⟨0, by omega, rfl, by simp [Hid], Drew.refl _⟩
    case round =>
      obtain ⟨k, hk, rfl, H, HD⟩ := hrel
      by_cases hlt : k < l.length
      · have hlt2 : k < m.length := by omega
        obtain ⟨b1, o1, rfl, _, hc1⟩ := HL.out.str hlt
        obtain ⟨b2, o2, rfl, _, hc2⟩ := HM.out.str hlt2
        have hc1 := (HD.out.cell _).trans hc1
        have hc2 := (HD.out.cell _).trans hc2
        have HEQ : Hid ((l[k].toList == m[k].toList) = decide (l[k] = m[k])) := by
          unfold Hid
          rw [toList_data, toList_data]
          by_cases h : l[k] = m[k]
          · rw [h]; simp
          · rw [decide_eq_false h, beq_eq_false_iff_ne]
            exact fun e => h (toL_inj e)
        have HN : Hid (l[k] = m[k] → l.take (k + 1) = m.take (k + 1)) := fun h => by
          rw [List.take_succ_eq_append_getElem hlt, List.take_succ_eq_append_getElem hlt2, H.out, h]
        have HX : Hid (l[k] ≠ m[k] → l ≠ m) := fun h e => by subst e; exact h rfl
        by_cases h : l[k] = m[k]
        · have HT := Lib.hid (HN.out h)
          have he : (l[k].toList == m[k].toList) = true := by rw [HEQ.out, decide_eq_true h]
          clear h HN HX HEQ
          generalize l[k] = x at *
          generalize m[k] = y at *
          go_wp2
          go_quiet (fail)
          go_wp2
          go_roundw
          case rel => exact ⟨k + 1, by omega, by go_num, HT, HD.out.trans ⟨_, rfl⟩⟩
          case measure => simp [intOf]; omega
        · have HT := Lib.hid (HX.out h)
          have he : (l[k].toList == m[k].toList) = false := by rw [HEQ.out, decide_eq_false h]
          clear h HN HX HEQ
          generalize l[k] = x at *
          generalize m[k] = y at *
          go_wp2
          go_quiet (fail)
          go_wp2
          go_ret
          exact ⟨retB (decide_eq_false HT.out).symm, HD.out.trans ⟨_, rfl⟩⟩
      · have HT : Hid (l = m) := by
          unfold Hid
          have := H.out
          rwa [List.take_of_length_le (by omega), List.take_of_length_le (by omega)] at this
        go_wp2
        go_ret
        exact ⟨retB (decide_eq_true HT.out).symm, HD.out⟩
  · have hne : ((l.length : Int) != (m.length : Int)) = true := by simp; omega
    have HT : Hid (l ≠ m) := fun e => hlen (by rw [e])
    clear hlen
    go_enter Tryd.func20, Tryd.ntmps20
    go_wp2
    go_ret
    exact ⟨retB (decide_eq_false HT.out).symm, Drew.refl _⟩
end Go.Proofs.YtdakdfpjibmocaaDoor
