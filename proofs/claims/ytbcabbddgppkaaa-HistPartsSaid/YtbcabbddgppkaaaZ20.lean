/- Layer 8's laws: contracts in the form in which a law calls. -/
import Derived.Test.YtbcabbddgppkaaaZ5
import Derived.Test.YtbcabbddgppkaaaZ10
import Derived.Test.YtbcabbddgppkaaaZ11
import Derived.Test.YtbcabbddgppkaaaZ12
namespace Go.Proofs.Ytbcabbddgppkaaa
open Go.RowKit
set_option linter.unusedVariables false
set_option maxRecDepth 100000

theorem s_news (a : Option Addr) (c : Nat) (l : List StM) (W : World) (h : StSl W a l) (hl : l.length ≤ 1000) : Calls Try.prog 34 #[.slice a l.length c] W fun e w' => ∃ x q, e = .returned (.slice x l.length q) ∧ l.length ≤ q ∧ q ≤ maxLen ∧ (x = none → q = 0) ∧ StSl w' x l ∧ Below W.heap.size W w' := by
  refine (snews_any a c l W h (by omega)).mono ?_
  rintro e w' ⟨v, rfl, ho, hb⟩
  obtain ⟨x, q, rfl, h1, h2, h3, h4⟩ := own_st ho
  exact ⟨x, q, rfl, h1, h2, h4, h3, hb⟩
theorem s_olds (a : Option Addr) (c : Nat) (l : List StM) (W : World) (h : StSl W a l) (hl : l.length ≤ 1000) : Calls Try.prog 38 #[.slice a l.length c] W fun e w' => ∃ x q, e = .returned (.slice x l.length q) ∧ StSl w' x l ∧ Below W.heap.size W w' := by
  refine (solds_any a c l W h (by omega)).mono ?_
  rintro e w' ⟨v, rfl, ho, hb⟩
  obtain ⟨x, q, rfl, h1, h2, h3, h4⟩ := own_st ho
  exact ⟨x, q, rfl, h3, hb⟩
theorem s_same (a b : Option Addr) (c q : Nat) (l : List StM) (W : World) (ha : StSl W a l) (hb : StSl W b l) (hl : l.length ≤ 100000) : Calls Try.prog 42 #[.slice a l.length c, .slice b l.length q] W fun e w' => e = .returned (.bool true) ∧ Below W.heap.size W w' := by
  have h := ssame_any a b c q l l W ha hb (by unfold maxLen; omega) (by unfold maxLen; omega)
  rw [decide_eq_true rfl] at h
  exact h
theorem s_rsame (a b : Option Addr) (c q : Nat) (l : List StM) (W : World) (ha : StSl W a l) (hb : StSl W b l) (hl : l.length ≤ 100000) : Calls Try.prog 37 #[.slice a l.length c, .slice b l.length q] W fun e w' => e = .returned (.bool true) ∧ Below W.heap.size W w' := by
  have h := srefSame_any a b c q l l W ha hb (by unfold maxLen; omega) (by unfold maxLen; omega)
  rw [decide_eq_true rfl] at h
  exact h
theorem s_same2 (a b : Option Addr) (c q : Nat) (l m : List StM) (W : World) (ha : StSl W a l) (hb : StSl W b m) (hl : l.length ≤ 1000) (hm : m.length ≤ 1000) : Calls Try.prog 42 #[.slice a l.length c, .slice b m.length q] W fun e w' => e = .returned (.bool (decide (l = m))) ∧ Below W.heap.size W w' :=
  ssame_any a b c q l m W ha hb (by unfold maxLen; omega) (by unfold maxLen; omega)
theorem s_rsame2 (a b : Option Addr) (c q : Nat) (l m : List StM) (W : World) (ha : StSl W a l) (hb : StSl W b m) (hl : l.length ≤ 1000) (hm : m.length ≤ 1000) : Calls Try.prog 37 #[.slice a l.length c, .slice b m.length q] W fun e w' => e = .returned (.bool (decide (l = m))) ∧ Below W.heap.size W w' :=
  srefSame_any a b c q l m W ha hb (by unfold maxLen; omega) (by unfold maxLen; omega)
theorem s_add (a : Option Addr) (c : Nat) (l : List StM) (s : StM) (W : World) (hr : StSl W a l) (hn : a = none → c = 0) (hl : l.length ≤ 1000) (hc : l.length ≤ c) (hcm : c ≤ maxLen) :
    Calls Try.prog 36 #[.slice a l.length c, stV s] W fun e w' => ∃ x q, e = .returned (.slice x (addS l s).length q) ∧ (addS l s).length ≤ q ∧ q ≤ maxLen ∧ (x = none → q = 0) ∧ StSl w' x (addS l s) ∧ Below W.heap.size W w' := by
  refine (add8_any a c l s W hr hn hl hc hcm).mono ?_
  rintro e w' ⟨v, rfl, ho, hb⟩
  obtain ⟨x, q, rfl, h1, h2, h3, h4⟩ := own_st ho
  exact ⟨x, q, rfl, h1, h2, h4, h3, hb⟩
theorem s_after (a : Option Addr) (c : Nat) (l : List StM) (t : Int) (W : World) (hr : StSl W a l) (hl : l.length ≤ 1000) :
    Calls Try.prog 45 #[.slice a l.length c, .int .i64 t] W fun e w' => ∃ x q, e = .returned (.slice x (aftS l t).length q) ∧ StSl w' x (aftS l t) ∧ Below W.heap.size W w' := by
  refine (after_any a c l t W hr (by omega)).mono ?_
  rintro e w' ⟨v, rfl, ho, hb⟩
  obtain ⟨x, q, rfl, h1, h2, h3, h4⟩ := own_st ho
  exact ⟨x, q, rfl, h3, hb⟩
theorem s_rafter (a : Option Addr) (c : Nat) (l : List StM) (t : Int) (W : World) (hr : StSl W a l) (hl : l.length ≤ 1000) :
    Calls Try.prog 46 #[.slice a l.length c, .int .i64 t] W fun e w' => ∃ x q, e = .returned (.slice x (aftS l t).length q) ∧ StSl w' x (aftS l t) ∧ Below W.heap.size W w' := by
  refine (refAfter_any a c l t W hr (by omega)).mono ?_
  rintro e w' ⟨v, rfl, ho, hb⟩
  obtain ⟨x, q, rfl, h1, h2, h3, h4⟩ := own_st ho
  exact ⟨x, q, rfl, h3, hb⟩
theorem s_new (x : StM) (W : World) : Calls Try.prog 31 #[stV x] W fun e w' => e = .returned (stV x) ∧ Below W.heap.size W w' :=
  (new_any x W).mono fun e w' (h : _ ∧ Grew W w') => ⟨h.1, h.2.below (Nat.le_refl _)⟩
theorem s_cmp (a b : StM) (W : World) : Calls Try.prog 32 #[stV a, stV b] W fun e w' => e = .returned (.int .i64 (cmpSt a b)) ∧ Below W.heap.size W w' :=
  (cmp_any a b W).mono fun e w' (h : _ ∧ Grew W w') => ⟨h.1, h.2.below (Nat.le_refl _)⟩
theorem s_ahead (a b : StM) (W : World) : Calls Try.prog 30 #[stV a, stV b] W fun e w' => e = .returned (.bool (decide (ltSt a b))) ∧ Below W.heap.size W w' :=
  (ahead_any a b W).mono fun e w' (h : _ ∧ Grew W w') => ⟨h.1, h.2.below (Nat.le_refl _)⟩
theorem aftS_le (l : List StM) (t : Int) : (aftS l t).length ≤ l.length := List.length_filter_le _ _
end Go.Proofs.Ytbcabbddgppkaaa
