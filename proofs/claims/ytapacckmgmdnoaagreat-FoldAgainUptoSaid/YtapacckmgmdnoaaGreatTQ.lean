/- Steps through a region that draws its order, with what settles them: an operation that is passed over, and one that only reads. -/
import Derived.Test.YtapacckmgmdnoaaGreatProg
import Derived.WalkKit
import Derived.WalkLawsBesides
import Derived.Lib.Hide
import Derived.Lib.Bytealg
import Derived.Deep.QuietTactic
import Derived.BigQuiet
import Derived.Deep.Draws
import Derived.Below
import Derived.WalkSmall
import Derived.OwnWalk
import Derived.Maps.AppendAt
import Derived.Laws.AppendOwnNone
import Derived.OrdersHeld
namespace Go.Proofs.YtapacckmgmdnoaaGreat
open Go
variable {P : Program} {ops : Array Oper} {Q : Exit → Act → World → Prop} {md : Region.Mode} {S : World → Prop}
theorem tU (i d : Nat) {o : Op} {t : TypeId} {p : String} {f : Array Edge} {g : Option (Nat × Bool)} {fuel : Nat} {l l2 : Array Bool} {a a2 : Act} {w : World} (h : wpAnyH P md ops Q S fuel l2 a2 w) (hi : ops[i]? = some ⟨some d, o, t, p, f, g⟩ := by rfl) (hs : Region.noSelect ops = true := by kernel_rfl) (hf : Region.free md ops l i = true := by kernel_rfl) (hr : (Region.ready md ops l).contains i = true := by kernel_rfl)
    (hy : Region.wanted ⟨some d, o, t, p, f, g⟩ (yielded ops a.tmps) = false := by rfl) (hQ : ∀ c a w, Q (.panic c) (a.put (some d) undef) w → Q (.panic c) a w := by exact fun _ _ _ h => h) (hS : S w := by assumption)
    (hl : l.setIfInBounds i true = l2 := by ((try simp only [List.setIfInBounds_toArray, List.set_cons_zero, List.set_cons_succ]); all_goals exact rfl)) (ha : a.put (some d) undef = a2 := by ((try simp only [Act.put, List.setIfInBounds_toArray, List.set_cons_zero, List.set_cons_succ]); all_goals exact rfl)) : wpAnyH P md ops Q S (fuel + 1) l a w := by
  subst hl ha
  exact wpAnyH_take hi hs hf hr hQ (Or.inr ⟨hy, rfl⟩) hS h
theorem tV (i d : Nat) {o : Op} {t : TypeId} {p : String} {f : Array Edge} {g : Option (Nat × Bool)} {v : Value} {fuel : Nat} {l l2 : Array Bool} {a a2 : Act} {w : World} (h : wpAnyH P md ops Q S fuel l2 a2 w) (hi : ops[i]? = some ⟨some d, o, t, p, f, g⟩ := by rfl) (hs : Region.noSelect ops = true := by kernel_rfl) (hf : Region.free md ops l i = true := by kernel_rfl) (hr : (Region.ready md ops l).contains i = true := by kernel_rfl)
    (hw : Region.wanted ⟨some d, o, t, p, f, g⟩ (yielded ops a.tmps) = true := by rfl) (hy : ∀ w, S w → (execOp a.eval ⟨some d, o, t, p, f, g⟩).run P w = .ok (.value v) w := by (intro wS hSw; (try dsimp only at hSw); (go_simp) <;> (with_reducible rfl))) (hQ : ∀ c a w, Q (.panic c) (a.put (some d) v) w → Q (.panic c) a w := by exact fun _ _ _ h => h) (hS : S w := by assumption)
    (hl : l.setIfInBounds i true = l2 := by ((try simp only [List.setIfInBounds_toArray, List.set_cons_zero, List.set_cons_succ]); all_goals exact rfl)) (ha : a.put (some d) v = a2 := by ((try simp only [Act.put, List.setIfInBounds_toArray, List.set_cons_zero, List.set_cons_succ]); all_goals exact rfl)) : wpAnyH P md ops Q S (fuel + 1) l a w := by
  subst hl ha
  exact wpAnyH_take hi hs hf hr hQ (Or.inl ⟨hw, hy⟩) hS h
end Go.Proofs.YtapacckmgmdnoaaGreat
