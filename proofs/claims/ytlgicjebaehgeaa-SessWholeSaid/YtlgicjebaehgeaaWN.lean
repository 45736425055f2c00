/- Texts of mine, one behind the other: W18 W19. -/
import Derived.Test.YtlgicjebaehgeaaWM
import Derived.Test.YtlgicjebaehgeaaW17
/- Layer 7's laws: contracts in the form in which a law calls, over the rows that it keeps. -/
namespace Go.Proofs.Ytlgicjebaehgeaa
open Go.RowKit
set_option linter.unusedVariables false
set_option maxRecDepth 100000
set_option maxRecDepth 100000

/-- two rows that came in, and the program's own of them, all else as it was -/
structure St2 (w : World) (a b x y : Option Addr) (l m : List SpM) (W : World) : Prop where
  a : SpSl W a l
  b : SpSl W b m
  x : SpSl W x l
  y : SpSl W y m
  frame : Below w.heap.size w W
theorem St2.below {w W W' : World} {a b x y : Option Addr} {l m : List SpM} (h : St2 w a b x y l m W) (q : Below W.heap.size W W') : St2 w a b x y l m W' :=
  ⟨h.a.below q, h.b.below q, h.x.below q, h.y.below q, h.frame.trans (q.mono h.frame.size)⟩

theorem c_same (a b : Option Addr) (c q : Nat) (l : List SpM) (W : World) (ha : SpSl W a l) (hb : SpSl W b l) (hl : l.length ≤ 1000) : Calls Try.prog 37 #[.slice a l.length c, .slice b l.length q] W fun e w' => e = .returned (.bool true) ∧ Below W.heap.size W w' := by
  have h := same_any a b c q l l W ha hb (by unfold maxLen; omega) (by unfold maxLen; omega)
  rw [decide_eq_true rfl] at h
  exact h
theorem c_norm (xa : Option Addr) (ca : Nat) (A : List SpM) (W : World) (ha : SpSl W xa A) (hca : A.length ≤ ca) (h1 : ca ≤ maxLen) (hl : A.length ≤ 1000) :
    Calls Try.prog 38 #[.slice xa A.length ca] W fun e w' => ∃ x q r, e = .returned (.slice x r.length q) ∧ IsSet (HasL A) r ∧ r.length ≤ 1000 ∧ r.length ≤ A.length ∧ r.length ≤ q ∧ q ≤ maxLen ∧ SpSl w' x r ∧ Below W.heap.size W w' := by
  refine (norm_any xa ca A W ha (by omega) hca h1).mono ?_
  rintro e w' ⟨v, r, rfl, hs, hl, ho, hb⟩
  obtain ⟨x, q, rfl, k1, k2, k3, _⟩ := own_spm ho
  exact ⟨x, q, r, rfl, hs, by omega, by omega, k1, k2, k3, hb⟩
end Go.Proofs.Ytlgicjebaehgeaa

/- Layer 7's laws: contracts in the form in which a law calls (Join; rows that are handed on to it). -/
namespace Go.Proofs.Ytlgicjebaehgeaa
open Go.RowKit
set_option linter.unusedVariables false
set_option maxRecDepth 100000
set_option maxRecDepth 100000

theorem n_norm (xa : Option Addr) (ca : Nat) (A : List SpM) (W : World) (ha : SpSl W xa A) (hca : A.length ≤ ca) (h1 : ca ≤ maxLen) (hl : A.length ≤ 1000) :
    Calls Try.prog 38 #[.slice xa A.length ca] W fun e w' => ∃ x q r, e = .returned (.slice x r.length q) ∧ IsSet (HasL A) r ∧ r.length ≤ A.length ∧ r.length ≤ q ∧ q ≤ maxLen ∧ (x = none → q = 0) ∧ SpSl w' x r ∧ Below W.heap.size W w' := by
  refine (norm_any xa ca A W ha (by omega) hca h1).mono ?_
  rintro e w' ⟨v, r, rfl, hs, hl, ho, hb⟩
  obtain ⟨x, q, rfl, k1, k2, k3, k4⟩ := own_spm ho
  exact ⟨x, q, r, rfl, hs, hl, k1, k2, k4, k3, hb⟩
theorem set_nil {P : Int → Prop} (h : ∀ x, ¬ P x) : IsSet P [] := ⟨NormL.nil, fun x => ⟨fun hx => absurd hx HasL.nil, fun hx => absurd hx (h x)⟩⟩
theorem set_self {P : Int → Prop} {r : List SpM} (h : IsSet P r) : IsSet (HasL r) r := ⟨h.1, fun x => Iff.rfl⟩
end Go.Proofs.Ytlgicjebaehgeaa
