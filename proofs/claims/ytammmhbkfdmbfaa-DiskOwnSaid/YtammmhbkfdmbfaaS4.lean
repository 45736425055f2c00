/- Contracts of layer 5: what a disk tells of itself. -/
import Derived.Test.YtammmhbkfdmbfaaS3
namespace Go.Proofs.Ytammmhbkfdmbfaa
open Go.RowKit
set_option linter.unusedVariables false

abbrev pt (p : Nat) : Value := .pointer (some ⟨p, 0, none⟩)

theorem used_any (w : World) (p : Nat) (S : Nat → Prop) (d : DiskM) (h : DiskAt w p S d) : Calls Try.prog 32 #[pt p] w fun e w' => e = .returned (.int .i64 (usedL d.L : Int)) ∧ w' = w := by
  obtain ⟨b, F, hr, _⟩ := h
  have hc : w.cell? ⟨p, 1, none⟩ = some (.int .i64 (usedL d.L : Int)) := hr.cells.2.1
  go_enter Try.func32, Try.ntmps32
  go_wp2
  go_ret
  exact ⟨rfl, rfl⟩
theorem limit_any (w : World) (p : Nat) (S : Nat → Prop) (d : DiskM) (h : DiskAt w p S d) : Calls Try.prog 36 #[pt p] w fun e w' => e = .returned (.int .i64 d.limit) ∧ w' = w := by
  obtain ⟨b, F, hr, _⟩ := h
  have hc : w.cell? ⟨p, 0, none⟩ = some (.int .i64 d.limit) := hr.cells.1
  go_enter Try.func36, Try.ntmps36
  go_wp2
  go_ret
  exact ⟨rfl, rfl⟩
theorem ops_any (w : World) (p : Nat) (S : Nat → Prop) (d : DiskM) (h : DiskAt w p S d) : Calls Try.prog 35 #[pt p] w fun e w' => e = .returned (.int .i64 d.ops) ∧ w' = w := by
  obtain ⟨b, F, hr, _⟩ := h
  have hc : w.cell? ⟨p, 3, none⟩ = some (.int .i64 d.ops) := hr.cells.2.2.2.1
  go_enter Try.func35, Try.ntmps35
  go_wp2
  go_ret
  exact ⟨rfl, rfl⟩
theorem reads_any (w : World) (p : Nat) (S : Nat → Prop) (d : DiskM) (h : DiskAt w p S d) : Calls Try.prog 18 #[pt p] w fun e w' => e = .returned (.int .i64 d.reads) ∧ w' = w := by
  obtain ⟨b, F, hr, _⟩ := h
  have hc : w.cell? ⟨p, 4, none⟩ = some (.int .i64 d.reads) := hr.cells.2.2.2.2.1
  go_enter Try.func18, Try.ntmps18
  go_wp2
  go_ret
  exact ⟨rfl, rfl⟩
theorem down_any (w : World) (p : Nat) (S : Nat → Prop) (d : DiskM) (h : DiskAt w p S d) : Calls Try.prog 29 #[pt p] w fun e w' => e = .returned (.bool d.down) ∧ w' = w := by
  obtain ⟨b, F, hr, _⟩ := h
  have hc : w.cell? ⟨p, 6, none⟩ = some (.bool d.down) := hr.cells.2.2.2.2.2.2
  go_enter Try.func29, Try.ntmps29
  go_wp2
  go_ret
  exact ⟨rfl, rfl⟩

theorem named_any (x : Bool) (w : World) : Calls Try.prog 51 #[.bool x] w fun e w' => e = .returned (.int .i64 (if x then 0 else 51)) ∧ w' = w := by
  cases x
  all_goals
    go_enter Try.func51, Try.ntmps51
    go_wp2
    go_ret
    exact ⟨rfl, rfl⟩

theorem rightB_int (c : UInt8) : rightB c = ((decide (97 ≤ (c.toNat : Int)) && decide ((c.toNat : Int) ≤ 122)) || (decide (48 ≤ (c.toNat : Int)) && decide ((c.toNat : Int) ≤ 57))) := by
  unfold rightB
  congr 1 <;> congr 1 <;> exact decide_eq_decide.2 (by omega)
set_option maxHeartbeats 1000000 in
theorem rightByte_any (c : UInt8) (w : World) : Calls Try.prog 45 #[.int .u8 (c.toNat : Int)] w fun e w' => e = .returned (.bool (rightB c)) ∧ w' = w := by
  have HE := Lib.hid (rightB_int c)
  generalize (c.toNat : Int) = n at *
  have hc : (97 ≤ n ∧ n ≤ 122) ∨ (97 ≤ n ∧ ¬ n ≤ 122 ∧ 48 ≤ n) ∨ (¬ 97 ≤ n ∧ 48 ≤ n) ∨ (¬ 97 ≤ n ∧ ¬ 48 ≤ n) := by omega
  rcases hc with ⟨a1, a2⟩ | ⟨a1, a2, a3⟩ | ⟨a1, a2⟩ | ⟨a1, a2⟩
  all_goals
    go_enter Try.func45, Try.ntmps45
    go_wp2
    all_goals go_ret
    refine ⟨retB ?_, rfl⟩
    rw [HE.out, Bool.eq_iff_iff]
    simp
    try omega

theorem all_step {α : Type} (p : α → Bool) (l : List α) (k : Nat) (h : k < l.length) : (l.take (k + 1)).all p = ((l.take k).all p && p l[k]) := by
  rw [List.take_add_one, List.getElem?_eq_getElem h, List.all_append]
  simp
theorem index_u (s : ByteArray) (k : Nat) (h : k < s.size) (W : World) : (Instr.index 9 (.string s) (.int .i64 (k : Int))).run Try.prog W = .ok (.int .u8 (((toL s)[k]'(by rw [toL_length]; exact h)).toNat : Int)) W := by
  have e := run_index_string (P := Try.prog) W 9 s .i64 (k : Int) Try.underlying9
  rw [dif_pos (by omega)] at e
  have e3 : s[k]'h = (toL s)[k]'(by rw [toL_length]; exact h) := by unfold toL; rw [Array.getElem_toList]; rfl
  exact e.trans (congrArg (fun c : UInt8 => Result.ok (Value.int .u8 (c.toNat : Int)) W) e3)
set_option maxHeartbeats 1000000 in
theorem right_any (s : ByteArray) (w : World) (hs : s.size ≤ maxLen) : Calls Try.prog 24 #[.string s] w fun e w' => e = .returned (.bool (rightN (toL s))) ∧ w' = w := by
  unfold maxLen at hs
  have hl := toL_length s
  by_cases h1 : s.size < 1
  · have HE : Hid (rightN (toL s) = false) := by unfold Hid rightN; rw [hl, decide_eq_false (by omega)]; rfl
    go_enter Try.func24, Try.ntmps24
    go_wp2
    go_ret
    exact ⟨retB HE.out.symm, rfl⟩
  by_cases h2 : 20 < s.size
  · have HE : Hid (rightN (toL s) = false) := by unfold Hid rightN; rw [hl, decide_eq_false (p := s.size ≤ 20) (by omega)]; simp
    go_enter Try.func24, Try.ntmps24
    go_wp2
    go_ret
    exact ⟨retB HE.out.symm, rfl⟩
  have HE : Hid (rightN (toL s) = (toL s).all rightB) := by unfold Hid rightN; rw [hl, decide_eq_true (by omega), decide_eq_true (by omega)]; rfl
  have HB := Lib.hid (fun c W => rightByte_any c W)
  have HI := Lib.hid (index_u s)
  go_enter Try.func24, Try.ntmps24
  go_wp2
  go_loopw [14] (fun i wr => ∃ (k : Nat), k ≤ s.size ∧ i = .int .i64 k ∧ Hid (((toL s).take k).all rightB = true) ∧ wr = w) (fun i _ => s.size - (intOf i).toNat)
  case atStart => exact ⟨0, by omega, rfl, rfl, rfl⟩
  case round =>
    obtain ⟨k, hk, rfl, HA, rfl⟩ := hrel
    by_cases hlt : k < s.size
    · have hi := HI.out k hlt
      have hkl : k < (toL s).length := by rw [hl]; exact hlt
      have HS := Lib.hid (all_step rightB (toL s) k hkl)
      have HC := Lib.hid (fun W => HB.out (toL s)[k] W)
      have HM : Hid ((toL s).all rightB = true → rightB (toL s)[k] = true) := fun h => List.all_eq_true.1 h _ (List.getElem_mem hkl)
      generalize (toL s)[k] = c at *
      by_cases hc : rightB c = true
      · have HN : Hid (((toL s).take (k + 1)).all rightB = true) := by unfold Hid; rw [HS.out, HA.out, hc]; rfl
        rw [hc] at HC
        clear HS HA hc HM
        generalize (c.toNat : Int) = x at *
        go_wp2_with fail
        refine (HC.out _).mono ?_
        rintro e w1 ⟨rfl, rfl⟩
        go_wp2
        go_roundw
        case rel => exact ⟨k + 1, by omega, by go_num, HN, by trivial⟩
        case measure => simp [intOf]; omega
      · have hc' : rightB c = false := by simpa using hc
        have HN : Hid ((toL s).all rightB = false) := by
          unfold Hid
          cases h : (toL s).all rightB with
          | false => rfl
          | true => rw [HM.out h] at hc'; cases hc'
        rw [hc'] at HC
        clear HS HA hc hc' HM
        generalize (c.toNat : Int) = x at *
        go_wp2_with fail
        refine (HC.out _).mono ?_
        rintro e w1 ⟨rfl, rfl⟩
        go_wp2
        go_ret
        exact ⟨retB (by rw [HE.out, HN.out]), rfl⟩
    · obtain rfl : k = s.size := by omega
      have HN : Hid ((toL s).all rightB = true) := by
        have := HA.out
        rwa [List.take_of_length_le (by rw [hl]; omega)] at this
      go_wp2
      go_ret
      exact ⟨retB (by rw [HE.out, HN.out]), rfl⟩
end Go.Proofs.Ytammmhbkfdmbfaa
