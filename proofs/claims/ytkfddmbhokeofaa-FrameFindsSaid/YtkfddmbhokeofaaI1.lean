/- Contracts of the document's own words of layer 4: which bytes may stand where; what is summed of a frame. -/
import Derived.Test.YtkfddmbhokeofaaH10
namespace Go.Proofs.Ytkfddmbhokeofaa
open Go.RowKit
set_option linter.unusedVariables false

set_option maxHeartbeats 1000000 in
theorem refDigF_any : Tells 42 isDigB := fun c w => by
  have HE := Lib.hid (isDig_int c)
  generalize (c.toNat : Int) = n at *
  have hc : (48 ≤ n ∧ n ≤ 57) ∨ (48 ≤ n ∧ ¬ n ≤ 57 ∧ 97 ≤ n) ∨ (48 ≤ n ∧ ¬ n ≤ 57 ∧ ¬ 97 ≤ n) ∨ (¬ 48 ≤ n ∧ ¬ 97 ≤ n) := by omega
  rcases hc with ⟨a1, a2⟩ | ⟨a1, a2, a3⟩ | ⟨a1, a2, a3⟩ | ⟨a1, a3⟩
  all_goals
    go_enter Try.func42, Try.ntmps42
    go_wp2
    all_goals go_ret
    refine ⟨retB ?_, rfl⟩
    rw [HE.out, Bool.eq_iff_iff]
    simp
    try omega

theorem okAt_int (long i : Nat) (c : UInt8) : okAt long i c = if i = 0 then decide ((c.toNat : Int) = 254) else if i = 1 then (decide (97 ≤ (c.toNat : Int)) && decide ((c.toNat : Int) ≤ 122)) else if i < 6 ∨ 6 + long ≤ i then isDigB c else (decide (32 ≤ (c.toNat : Int)) && decide ((c.toNat : Int) ≤ 126)) := by
  unfold okAt
  split
  · unfold isMarkB; exact decide_eq_decide.2 (by omega)
  · split
    · unfold isKindB; congr 1 <;> exact decide_eq_decide.2 (by omega)
    · split
      · rfl
      · unfold inBodyB; congr 1 <;> exact decide_eq_decide.2 (by omega)

set_option maxHeartbeats 1000000 in
theorem may_any (c : UInt8) (i long : Nat) (hi : i ≤ 100000) (hl : long ≤ 100000) (w : World) :
    Calls Try.prog 35 #[.int .u8 (c.toNat : Int), .int .i64 (i : Int), .int .i64 (long : Int)] w fun e w' => e = .returned (.bool (okAt long i c)) ∧ w' = w := by
  have HE := Lib.hid (okAt_int long i c)
  have HD := Lib.hid (refDigF_any c)
  generalize isDigB c = dg at *
  generalize (c.toNat : Int) = n at *
  by_cases h0 : i = 0
  · have H1 : Hid (okAt long i c = decide (n = 254)) := by unfold Hid; rw [HE.out, if_pos h0]
    subst h0
    go_enter Try.func35, Try.ntmps35
    go_wp2
    all_goals go_ret
    refine ⟨retB ?_, rfl⟩
    rw [H1.out, Bool.eq_iff_iff]
    simp
  · by_cases h1 : i = 1
    · have H1 : Hid (okAt long i c = (decide (97 ≤ n) && decide (n ≤ 122))) := by unfold Hid; rw [HE.out, if_neg h0, if_pos h1]
      subst h1
      by_cases h2 : 97 ≤ n
      all_goals
        go_enter Try.func35, Try.ntmps35
        go_wp2
        all_goals go_ret
        refine ⟨retB ?_, rfl⟩
        rw [H1.out, Bool.eq_iff_iff]
        simp
        try omega
    · have g0 : ((i : Int) == 0) = false := beq_eq_false_iff_ne.2 (by omega)
      have g1 : ((i : Int) == 1) = false := beq_eq_false_iff_ne.2 (by omega)
      by_cases h2 : i < 6 ∨ 6 + long ≤ i
      · have H1 : Hid (okAt long i c = dg) := by unfold Hid; rw [HE.out, if_neg h0, if_neg h1, if_pos h2]
        by_cases h3 : i < 6
        all_goals
          go_enter Try.func35, Try.ntmps35
          go_wp2_with fail
          refine (HD.out _).mono ?_
          rintro e w1 ⟨rfl, rfl⟩
          go_wp2
          go_ret
          exact ⟨by rw [H1.out]; rfl, rfl⟩
      · have H1 : Hid (okAt long i c = (decide (32 ≤ n) && decide (n ≤ 126))) := by unfold Hid; rw [HE.out, if_neg h0, if_neg h1, if_neg h2]
        have h3 : ¬ (i : Int) < 6 := by omega
        have h4 : ¬ (6 + (long : Int) ≤ (i : Int)) := by omega
        by_cases h5 : 32 ≤ n
        all_goals
          go_enter Try.func35, Try.ntmps35
          go_wp2
          all_goals go_ret
          refine ⟨retB ?_, rfl⟩
          rw [H1.out, Bool.eq_iff_iff]
          simp
          try omega
end Go.Proofs.Ytkfddmbhokeofaa
