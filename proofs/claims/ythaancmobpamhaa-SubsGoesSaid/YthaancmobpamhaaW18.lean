/- Layer 7's laws: contracts in the form in which a law calls, over the rows that it keeps. -/
import Derived.Test.YthaancmobpamhaaW16
import Derived.Test.YthaancmobpamhaaW17
namespace Go.Proofs.Ythaancmobpamhaa
open Go.RowKit
set_option linter.unusedVariables false
set_option maxRecDepth 100000
set_option maxRecDepth 100000

/-- two rows that came in, and the program's own of them, all else as it was -/
structure St2 (w : World) (a b x y : Option Addr) (l m : List SpM) (W : World) : Prop where
  a : SpSl W a l
  b : SpSl W b m
  x : SpSl W x l
  y : SpSl W y m
  frame : Below w.heap.size w W
theorem St2.below {w W W' : World} {a b x y : Option Addr} {l m : List SpM} (h : St2 w a b x y l m W) (q : Below W.heap.size W W') : St2 w a b x y l m W' :=
  ⟨h.a.below q, h.b.below q, h.x.below q, h.y.below q, h.frame.trans (q.mono h.frame.size)⟩

theorem c_olds (a : Option Addr) (c : Nat) (l : List SpM) (W : World) (h : SpSl W a l) (hl : l.length ≤ 1000) : Calls Try.prog 21 #[.slice a l.length c] W fun e w' => ∃ x q, e = .returned (.slice x l.length q) ∧ SpSl w' x l ∧ Below W.heap.size W w' := by
  refine (olds_any a c l W h (by omega)).mono ?_
  rintro e w' ⟨v, rfl, ho, hb⟩
  obtain ⟨x, q, rfl, h1, h3⟩ := own_sp ho
  exact ⟨x, q, rfl, h3, hb⟩
theorem c_same (a b : Option Addr) (c q : Nat) (l : List SpM) (W : World) (ha : SpSl W a l) (hb : SpSl W b l) (hl : l.length ≤ 1000) : Calls Try.prog 34 #[.slice a l.length c, .slice b l.length q] W fun e w' => e = .returned (.bool true) ∧ Below W.heap.size W w' := by
  have h := same_any a b c q l l W ha hb (by unfold maxLen; omega) (by unfold maxLen; omega)
  rw [decide_eq_true rfl] at h
  exact h
theorem c_rsame (a b : Option Addr) (c q : Nat) (l : List SpM) (W : World) (ha : SpSl W a l) (hb : SpSl W b l) (hl : l.length ≤ 1000) : Calls Try.prog 20 #[.slice a l.length c, .slice b l.length q] W fun e w' => e = .returned (.bool true) ∧ Below W.heap.size W w' := by
  have h := refSame_any a b c q l l W ha hb (by unfold maxLen; omega) (by unfold maxLen; omega)
  rw [decide_eq_true rfl] at h
  exact h
theorem c_less (xa : Option Addr) (ca : Nat) (xb : Option Addr) (cb : Nat) (A B : List SpM) (W : World) (ha : SpSl W xa A) (hb : SpSl W xb B) (hca : A.length ≤ ca) (hcb : B.length ≤ cb) (h1 : ca ≤ maxLen) (h2 : cb ≤ maxLen) (hl : A.length ≤ 400) (hl2 : B.length ≤ 400) (hfa : FitsS A) (hfb : FitsS B) :
    Calls Try.prog 33 #[.slice xa A.length ca, .slice xb B.length cb] W fun e w' => ∃ x q r, e = .returned (.slice x r.length q) ∧ IsSet (fun t => HasL A t ∧ ¬ HasL B t) r ∧ r.length ≤ 1000 ∧ r.length ≤ A.length + B.length + 1 ∧ r.length ≤ q ∧ q ≤ maxLen ∧ SpSl w' x r ∧ Below W.heap.size W w' := by
  refine (less_any xa ca xb cb A B W ha hb hca hcb ⟨h1, h2⟩ (by omega) hfa hfb).mono ?_
  rintro e w' ⟨v, r, rfl, hs, ho, hl, hb⟩
  obtain ⟨x, q, rfl, k1, k2, k3, _⟩ := own_spm ho
  exact ⟨x, q, r, rfl, hs, by omega, by omega, k1, k2, k3, hb⟩
theorem c_norm (xa : Option Addr) (ca : Nat) (A : List SpM) (W : World) (ha : SpSl W xa A) (hca : A.length ≤ ca) (h1 : ca ≤ maxLen) (hl : A.length ≤ 1000) :
    Calls Try.prog 42 #[.slice xa A.length ca] W fun e w' => ∃ x q r, e = .returned (.slice x r.length q) ∧ IsSet (HasL A) r ∧ r.length ≤ 1000 ∧ r.length ≤ A.length ∧ r.length ≤ q ∧ q ≤ maxLen ∧ SpSl w' x r ∧ Below W.heap.size W w' := by
  refine (norm_any xa ca A W ha (by omega) hca h1).mono ?_
  rintro e w' ⟨v, r, rfl, hs, hl, ho, hb⟩
  obtain ⟨x, q, rfl, k1, k2, k3, _⟩ := own_spm ho
  exact ⟨x, q, r, rfl, hs, by omega, by omega, k1, k2, k3, hb⟩
theorem c_rnorm (xa : Option Addr) (ca : Nat) (A : List SpM) (W : World) (ha : SpSl W xa A) (hl : A.length ≤ 1000) (r : List SpM) (hr : IsSet (HasL A) r) :
    Calls Try.prog 43 #[.slice xa A.length ca] W fun e w' => ∃ x q, e = .returned (.slice x r.length q) ∧ SpSl w' x r ∧ Below W.heap.size W w' := by
  refine (refNorm_any xa ca A W ha (by omega)).mono ?_
  rintro e w' ⟨v, r', rfl, hs, hl, ho, hb⟩
  obtain rfl := hs.only hr
  obtain ⟨x, q, rfl, k1, k3⟩ := own_sp ho
  exact ⟨x, q, rfl, k3, hb⟩
end Go.Proofs.Ythaancmobpamhaa
