/- Layer 9's laws: contracts in the form in which a law calls. -/
import Derived.Test.YthaancmobpamhaaAB7
import Derived.Test.YthaancmobpamhaaAB8
import Derived.Test.YthaancmobpamhaaAB11
import Derived.Test.YthaancmobpamhaaAB14
import Derived.Test.YthaancmobpamhaaAB15
import Derived.Test.YthaancmobpamhaaAB16
import Derived.Test.YthaancmobpamhaaW19
import Derived.Test.YthaancmobpamhaaAB2
namespace Go.Proofs.Ythaancmobpamhaa
open Go.RowKit
set_option linter.unusedVariables false
set_option maxRecDepth 100000

theorem e_news (a : Option Addr) (c : Nat) (l : List EnM) (W : World) (h : EnSl W a l) (hl : l.length ≤ 1000) : Calls Try.prog 11 #[.slice a l.length c] W fun e w' => ∃ x q, e = .returned (.slice x l.length q) ∧ l.length ≤ q ∧ q ≤ maxLen ∧ (x = none → q = 0) ∧ EnSl w' x l ∧ Below W.heap.size W w' := by
  refine (enews_any a c l W h (by omega)).mono ?_
  rintro e w' ⟨v, rfl, ho, hb⟩
  obtain ⟨x, q, rfl, h1, h2, h3, h4⟩ := own_en ho
  exact ⟨x, q, rfl, h1, h2, h4, h3, hb⟩
theorem e_olds (a : Option Addr) (c : Nat) (l : List EnM) (W : World) (h : EnSl W a l) (hl : l.length ≤ 1000) : Calls Try.prog 17 #[.slice a l.length c] W fun e w' => ∃ x q, e = .returned (.slice x l.length q) ∧ l.length ≤ q ∧ q ≤ maxLen ∧ (x = none → q = 0) ∧ EnSl w' x l ∧ Below W.heap.size W w' := by
  refine (eolds_any a c l W h (by omega)).mono ?_
  rintro e w' ⟨v, rfl, ho, hb⟩
  obtain ⟨x, q, rfl, h1, h2, h3, h4⟩ := own_en ho
  exact ⟨x, q, rfl, h1, h2, h4, h3, hb⟩
theorem e_without (a : Option Addr) (c : Nat) (l : List EnM) (s : ByteArray) (W : World) (h : EnSl W a l) (hl : l.length ≤ 1000) : Calls Try.prog 24 #[.slice a l.length c, .string s] W fun e w' => ∃ x q, e = .returned (.slice x (l.filter (wiE s)).length q) ∧ (l.filter (wiE s)).length ≤ q ∧ q ≤ maxLen ∧ (x = none → q = 0) ∧ EnSl w' x (l.filter (wiE s)) ∧ Below W.heap.size W w' := by
  refine (without_any a c l s W h (by omega)).mono ?_
  rintro e w' ⟨v, rfl, ho, hb⟩
  obtain ⟨x, q, rfl, h1, h2, h3, h4⟩ := own_en ho
  exact ⟨x, q, rfl, h1, h2, h4, h3, hb⟩
theorem e_rwithout (a : Option Addr) (c : Nat) (l : List EnM) (s : ByteArray) (W : World) (h : EnSl W a l) (hl : l.length ≤ 1000) : Calls Try.prog 25 #[.slice a l.length c, .string s] W fun e w' => ∃ x q, e = .returned (.slice x (l.filter (wiE s)).length q) ∧ (l.filter (wiE s)).length ≤ q ∧ q ≤ maxLen ∧ (x = none → q = 0) ∧ EnSl w' x (l.filter (wiE s)) ∧ Below W.heap.size W w' := by
  refine (rwithout_any a c l s W h (by omega)).mono ?_
  rintro e w' ⟨v, rfl, ho, hb⟩
  obtain ⟨x, q, rfl, h1, h2, h3, h4⟩ := own_en ho
  exact ⟨x, q, rfl, h1, h2, h4, h3, hb⟩
theorem e_after (a : Option Addr) (c : Nat) (l : List EnM) (s : Int) (W : World) (h : EnSl W a l) (hl : l.length ≤ 1000) : Calls Try.prog 26 #[.slice a l.length c, .int .i64 s] W fun e w' => ∃ x q, e = .returned (.slice x (l.filter (afE s)).length q) ∧ (l.filter (afE s)).length ≤ q ∧ q ≤ maxLen ∧ (x = none → q = 0) ∧ EnSl w' x (l.filter (afE s)) ∧ Below W.heap.size W w' := by
  refine (after_any a c l s W h (by omega)).mono ?_
  rintro e w' ⟨v, rfl, ho, hb⟩
  obtain ⟨x, q, rfl, h1, h2, h3, h4⟩ := own_en ho
  exact ⟨x, q, rfl, h1, h2, h4, h3, hb⟩
theorem e_rafter (a : Option Addr) (c : Nat) (l : List EnM) (s : Int) (W : World) (h : EnSl W a l) (hl : l.length ≤ 1000) : Calls Try.prog 27 #[.slice a l.length c, .int .i64 s] W fun e w' => ∃ x q, e = .returned (.slice x (l.filter (afE s)).length q) ∧ (l.filter (afE s)).length ≤ q ∧ q ≤ maxLen ∧ (x = none → q = 0) ∧ EnSl w' x (l.filter (afE s)) ∧ Below W.heap.size W w' := by
  refine (rafter_any a c l s W h (by omega)).mono ?_
  rintro e w' ⟨v, rfl, ho, hb⟩
  obtain ⟨x, q, rfl, h1, h2, h3, h4⟩ := own_en ho
  exact ⟨x, q, rfl, h1, h2, h4, h3, hb⟩
theorem e_grant (a : Option Addr) (c : Nat) (l : List EnM) (p u : ByteArray) (n : Int) (W : World) (h : EnSl W a l) (hn : a = none → c = 0) (hl : l.length ≤ 500) (hc : l.length ≤ c) (hcm : c ≤ maxLen) (hi : l.any (infE p u) = false) : Calls Try.prog 12 #[.slice a l.length c, .agg #[.string p, .string u], .int .i64 n] W fun e w' => ∃ x q, e = .returned (.tuple #[.slice x (grantS l (mkE p u n)).length q, .int .i64 0]) ∧ (grantS l (mkE p u n)).length ≤ q ∧ q ≤ maxLen ∧ (x = none → q = 0) ∧ EnSl w' x (grantS l (mkE p u n)) ∧ Below W.heap.size W w' := by
  refine Calls.mono (P := Try.prog) (grant_any a c l p u n W h hn hl hc hcm) ?_
  rintro e w' (⟨k, _, _⟩ | ⟨_, v, rfl, ho, hb⟩)
  · rw [hi] at k; cases k
  · obtain ⟨x, q, rfl, h1, h2, h3, h4⟩ := own_en ho
    exact ⟨x, q, rfl, h1, h2, h4, h3, hb⟩
theorem e_grant_no (a : Option Addr) (c : Nat) (l : List EnM) (p u : ByteArray) (n : Int) (W : World) (h : EnSl W a l) (hn : a = none → c = 0) (hl : l.length ≤ 500) (hc : l.length ≤ c) (hcm : c ≤ maxLen) (hi : l.any (infE p u) = true) : Calls Try.prog 12 #[.slice a l.length c, .agg #[.string p, .string u], .int .i64 n] W fun e w' => e = .returned (.tuple #[.slice none 0 0, .int .i64 90]) ∧ Below W.heap.size W w' := by
  refine Calls.mono (P := Try.prog) (grant_any a c l p u n W h hn hl hc hcm) ?_
  rintro e w' (⟨_, rfl, hb⟩ | ⟨k, _⟩)
  · exact ⟨rfl, hb⟩
  · rw [hi] at k; cases k
theorem e_rgrant (a : Option Addr) (c : Nat) (l : List EnM) (p u : ByteArray) (n : Int) (W : World) (h : EnSl W a l) (hsz : SzE l) (hp : p.size ≤ maxLen) (hu : u.size ≤ maxLen) (hn : a = none → c = 0) (hl : l.length ≤ 500) (hc : l.length ≤ c) (hcm : c ≤ maxLen) (hi : l.any (infE p u) = false) : Calls Try.prog 13 #[.slice a l.length c, .agg #[.string p, .string u], .int .i64 n] W fun e w' => ∃ x q, e = .returned (.tuple #[.slice x (grantS l (mkE p u n)).length q, .int .i64 0]) ∧ (grantS l (mkE p u n)).length ≤ q ∧ q ≤ maxLen ∧ (x = none → q = 0) ∧ EnSl w' x (grantS l (mkE p u n)) ∧ Below W.heap.size W w' := by
  refine Calls.mono (P := Try.prog) (refGrant_any a c l p u n W h hsz hp hu hn hl hc hcm) ?_
  rintro e w' (⟨k, _, _⟩ | ⟨_, v, rfl, ho, hb⟩)
  · rw [hi] at k; cases k
  · obtain ⟨x, q, rfl, h1, h2, h3, h4⟩ := own_en ho
    exact ⟨x, q, rfl, h1, h2, h4, h3, hb⟩
theorem e_rgrant_no (a : Option Addr) (c : Nat) (l : List EnM) (p u : ByteArray) (n : Int) (W : World) (h : EnSl W a l) (hsz : SzE l) (hp : p.size ≤ maxLen) (hu : u.size ≤ maxLen) (hn : a = none → c = 0) (hl : l.length ≤ 500) (hc : l.length ≤ c) (hcm : c ≤ maxLen) (hi : l.any (infE p u) = true) : Calls Try.prog 13 #[.slice a l.length c, .agg #[.string p, .string u], .int .i64 n] W fun e w' => e = .returned (.tuple #[.slice none 0 0, .int .i64 90]) ∧ Below W.heap.size W w' := by
  refine Calls.mono (P := Try.prog) (refGrant_any a c l p u n W h hsz hp hu hn hl hc hcm) ?_
  rintro e w' (⟨_, rfl, hb⟩ | ⟨k, _⟩)
  · exact ⟨rfl, hb⟩
  · rw [hi] at k; cases k
theorem e_revoke (a : Option Addr) (c : Nat) (l : List EnM) (p u : ByteArray) (n : Int) (W : World) (h : EnSl W a l) (hl : l.length ≤ 500) (hc : l.length ≤ c) (hcm : c ≤ maxLen) (hi : l.any (infE p u) = true) : Calls Try.prog 14 #[.slice a l.length c, .agg #[.string p, .string u], .int .i64 n] W fun e w' => ∃ x q, e = .returned (.tuple #[.slice x (revokeS l p u n).length q, .int .i64 0]) ∧ (revokeS l p u n).length ≤ q ∧ q ≤ maxLen ∧ (x = none → q = 0) ∧ EnSl w' x (revokeS l p u n) ∧ Below W.heap.size W w' := by
  refine Calls.mono (P := Try.prog) (revoke_any a c l p u n W h hl hc hcm) ?_
  rintro e w' (⟨k, _, _⟩ | ⟨_, v, rfl, ho, hb⟩)
  · rw [hi] at k; cases k
  · obtain ⟨x, q, rfl, h1, h2, h3, h4⟩ := own_en ho
    exact ⟨x, q, rfl, h1, h2, h4, h3, hb⟩
theorem e_revoke_no (a : Option Addr) (c : Nat) (l : List EnM) (p u : ByteArray) (n : Int) (W : World) (h : EnSl W a l) (hl : l.length ≤ 500) (hc : l.length ≤ c) (hcm : c ≤ maxLen) (hi : l.any (infE p u) = false) : Calls Try.prog 14 #[.slice a l.length c, .agg #[.string p, .string u], .int .i64 n] W fun e w' => e = .returned (.tuple #[.slice none 0 0, .int .i64 91]) ∧ Below W.heap.size W w' := by
  refine Calls.mono (P := Try.prog) (revoke_any a c l p u n W h hl hc hcm) ?_
  rintro e w' (⟨_, rfl, hb⟩ | ⟨k, _⟩)
  · exact ⟨rfl, hb⟩
  · rw [hi] at k; cases k
theorem e_rrevoke (a : Option Addr) (c : Nat) (l : List EnM) (p u : ByteArray) (n : Int) (W : World) (h : EnSl W a l) (hl : l.length ≤ 500) (hi : l.any (infE p u) = true) : Calls Try.prog 15 #[.slice a l.length c, .agg #[.string p, .string u], .int .i64 n] W fun e w' => ∃ x q, e = .returned (.tuple #[.slice x (revokeS l p u n).length q, .int .i64 0]) ∧ (revokeS l p u n).length ≤ q ∧ q ≤ maxLen ∧ (x = none → q = 0) ∧ EnSl w' x (revokeS l p u n) ∧ Below W.heap.size W w' := by
  refine Calls.mono (P := Try.prog) (refRevoke_any a c l p u n W h hl) ?_
  rintro e w' (⟨k, _, _⟩ | ⟨_, v, rfl, ho, hb⟩)
  · rw [hi] at k; cases k
  · obtain ⟨x, q, rfl, h1, h2, h3, h4⟩ := own_en ho
    exact ⟨x, q, rfl, h1, h2, h4, h3, hb⟩
theorem e_rrevoke_no (a : Option Addr) (c : Nat) (l : List EnM) (p u : ByteArray) (n : Int) (W : World) (h : EnSl W a l) (hl : l.length ≤ 500) (hi : l.any (infE p u) = false) : Calls Try.prog 15 #[.slice a l.length c, .agg #[.string p, .string u], .int .i64 n] W fun e w' => e = .returned (.tuple #[.slice none 0 0, .int .i64 91]) ∧ Below W.heap.size W w' := by
  refine Calls.mono (P := Try.prog) (refRevoke_any a c l p u n W h hl) ?_
  rintro e w' (⟨_, rfl, hb⟩ | ⟨k, _⟩)
  · exact ⟨rfl, hb⟩
  · rw [hi] at k; cases k
theorem e_inforce (a : Option Addr) (c : Nat) (l : List EnM) (p u : ByteArray) (W : World) (h : EnSl W a l) (hl : l.length ≤ 1000) : Calls Try.prog 18 #[.slice a l.length c, .agg #[.string p, .string u]] W fun e w' => e = .returned (.bool (l.any (infE p u))) ∧ Below W.heap.size W w' := inForce_any a c l p u W h (by omega)
theorem e_force (a : Option Addr) (c : Nat) (l : List EnM) (p u : ByteArray) (W : World) (h : EnSl W a l) (hl : l.length ≤ 1000) : Calls Try.prog 19 #[.slice a l.length c, .agg #[.string p, .string u]] W fun e w' => e = .returned (.int .i64 (idxI (infE p u) l)) ∧ Below W.heap.size W w' := force_any a c l p u W h (by omega)
theorem e_rising (a : Option Addr) (c : Nat) (l : List EnM) (W : World) (h : EnSl W a l) (hs : SzE l) (hl : l.length ≤ 1000) : Calls Try.prog 28 #[.slice a l.length c] W fun e w' => e = .returned (.bool (decide (RiseE l))) ∧ Below W.heap.size W w' := erising_any a c l W h hs (by omega)
theorem e_rrising (a : Option Addr) (c : Nat) (l : List EnM) (W : World) (h : EnSl W a l) (hs : SzE l) (hl : l.length ≤ 1000) : Calls Try.prog 29 #[.slice a l.length c] W fun e w' => e = .returned (.bool (decide (RiseE l))) ∧ Below W.heap.size W w' := refERising_any a c l W h hs (by omega)
theorem e_same (a b : Option Addr) (c q : Nat) (l m : List EnM) (W : World) (ha : EnSl W a l) (hb : EnSl W b m) (hl : l.length ≤ 1000) (hm : m.length ≤ 1000) : Calls Try.prog 30 #[.slice a l.length c, .slice b m.length q] W fun e w' => e = .returned (.bool (decide (l = m))) ∧ Below W.heap.size W w' :=
  esame_any a b c q l m W ha hb (by unfold maxLen; omega) (by unfold maxLen; omega)
theorem e_rsame (a b : Option Addr) (c q : Nat) (l m : List EnM) (W : World) (ha : EnSl W a l) (hb : EnSl W b m) (hl : l.length ≤ 1000) (hm : m.length ≤ 1000) : Calls Try.prog 16 #[.slice a l.length c, .slice b m.length q] W fun e w' => e = .returned (.bool (decide (l = m))) ∧ Below W.heap.size W w' :=
  erefSame_any a b c q l m W ha hb (by unfold maxLen; omega) (by unfold maxLen; omega)
theorem e_rsame1 (a b : Option Addr) (c q : Nat) (l : List EnM) (W : World) (ha : EnSl W a l) (hb : EnSl W b l) (hl : l.length ≤ 1000) : Calls Try.prog 16 #[.slice a l.length c, .slice b l.length q] W fun e w' => e = .returned (.bool true) ∧ Below W.heap.size W w' := by
  have h := e_rsame a b c q l l W ha hb hl hl
  rw [decide_eq_true rfl] at h
  exact h
theorem e_periods (a : Option Addr) (c : Nat) (l : List EnM) (p u : ByteArray) (W : World) (h : EnSl W a l) (hl : l.length ≤ 1000) : Calls Try.prog 22 #[.slice a l.length c, .agg #[.string p, .string u]] W fun e w' => ∃ x q r, e = .returned (.slice x r.length q) ∧ IsSet (HasL (perS l p u)) r ∧ r.length ≤ l.length ∧ r.length ≤ q ∧ q ≤ maxLen ∧ (x = none → q = 0) ∧ SpSl w' x r ∧ Below W.heap.size W w' := by
  refine (periods_any a c l p u W h hl).mono ?_
  rintro e w' ⟨v, r, rfl, hs, hr, ho, hb⟩
  obtain ⟨x, q, rfl, h1, h2, h3, h4⟩ := own_spm ho
  exact ⟨x, q, r, rfl, hs, hr, h1, h2, h4, h3, hb⟩
theorem e_periods_r (a : Option Addr) (c : Nat) (l : List EnM) (p u : ByteArray) (r : List SpM) (W : World) (h : EnSl W a l) (hr : IsSet (HasL (perS l p u)) r) (hl : l.length ≤ 1000) : Calls Try.prog 22 #[.slice a l.length c, .agg #[.string p, .string u]] W fun e w' => ∃ x q, e = .returned (.slice x r.length q) ∧ SpSl w' x r ∧ Below W.heap.size W w' := by
  refine (e_periods a c l p u W h hl).mono ?_
  rintro e w' ⟨x, q, r', rfl, hs, -, -, -, -, h3, hb⟩
  obtain rfl := hs.only hr
  exact ⟨x, q, rfl, h3, hb⟩
theorem e_rperiods_r (a : Option Addr) (c : Nat) (l : List EnM) (p u : ByteArray) (r : List SpM) (W : World) (h : EnSl W a l) (hr : IsSet (HasL (perS l p u)) r) (hl : l.length ≤ 1000) : Calls Try.prog 23 #[.slice a l.length c, .agg #[.string p, .string u]] W fun e w' => ∃ x q, e = .returned (.slice x r.length q) ∧ SpSl w' x r ∧ Below W.heap.size W w' := by
  refine (refPeriods_any a c l p u W h hl).mono ?_
  rintro e w' ⟨v, r', rfl, hs, -, ho, hb⟩
  obtain rfl := hs.only hr
  obtain ⟨x, q, rfl, h1, h2, h3, h4⟩ := own_spm ho
  exact ⟨x, q, rfl, h3, hb⟩
theorem SzE.of {l : List EnM} (h : FitsE l) : SzE l := fun e he => ⟨(h e he).1, (h e he).2.1⟩
theorem SzE.filter {l : List EnM} (h : SzE l) (p : EnM → Bool) : SzE (l.filter p) := fun e he => h e (List.mem_filter.1 he).1
end Go.Proofs.Ythaancmobpamhaa
