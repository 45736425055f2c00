/- Texts of mine, one behind the other, of each what is wanted. -/
import Derived.Test.YtmfpjapiijgdgaaGreatV00
import Derived.Test.YtmfpjapiijgdgaaGreatRows
import Derived.Test.YtmfpjapiijgdgaaGreatV01
import Derived.Test.YtmfpjapiijgdgaaGreatV03
import Derived.Test.YtmfpjapiijgdgaaGreatV18
import Derived.Test.YtmfpjapiijgdgaaGreatV46
namespace Go.Proofs.YtmfpjapiijgdgaaGreat
set_option linter.unusedVariables false
set_option maxRecDepth 100000
def atT (x : Int) (s : StM) : Bool := decide (s.f ≤ x) && decide (x < s.t)
def atP (x : Int) (s : SpM) : Bool := decide (s.f ≤ x) && decide (x < s.t)
theorem norm_count {x : Int} : ∀ {r : List SpM}, NormL r → (HasL r x → r.countP (atP x) = 1) ∧ (¬ HasL r x → r.countP (atP x) = 0)
 | [], _ => ⟨fun h => absurd h HasL.nil, fun _ => rfl⟩
 | s :: r, h => by
  have ih := norm_count (x := x) h.tail
  rw [List.countP_cons]
  by_cases hs : s.f ≤ x ∧ x < s.t
  ·have hn : ¬ HasL r x := fun ⟨u, hu, h1, h2⟩ => by
    have := h.1.2.1 u hu
    omega
   have : atP x s = true := by simp [atP, hs]
   rw [this, ih.2 hn]
   exact ⟨fun _ => rfl, fun h1 => absurd (hasL_cons.2 (.inl hs)) h1⟩
  ·have : atP x s = false := by
    simp only [atP, Bool.and_eq_false_imp, decide_eq_true_eq, decide_eq_false_iff_not]
    intro h1 h2; exact hs ⟨h1, h2⟩
   rw [this]
   refine ⟨fun h1 => ?_, fun h1 => ?_⟩
   ·rw [ih.1 ((hasL_cons.1 h1).resolve_left hs)]; simp
   ·rw [ih.2 (fun h2 => h1 (hasL_cons.2 (.inr h2)))]; simp
theorem pieces_count {P : Int → Prop} {r : List SpM} (hr : IsSet P r) (x : Int) (s : StM) : (P x → (piecesS s r).countP (atT x) = (if atT x s then 1 else 0)) ∧ (¬ P x → (piecesS s r).countP (atT x) = 0) := by
 have e : (piecesS s r).countP (atT x) = (rowOf s.sp r).countP (atP x) := by
  unfold piecesS
  rw [List.countP_map]
  rfl
 rw [e]
 have hc := norm_count (x := x) (rowOf_norm s.sp hr.1)
 have hh := (rowOf_set (s := s.sp) hr).2 x
 refine ⟨fun hp => ?_, fun hp => hc.2 (fun h => hp (hh.1 h).2)⟩
 by_cases hs : s.f ≤ x ∧ x < s.t
 ·rw [hc.1 (hh.2 ⟨hs, hp⟩), show atT x s = true by simp [atT, hs]]
  rfl
 ·rw [hc.2 (fun h => hs (hh.1 h).1)]
  have : atT x s = false := by
   simp only [atT, Bool.and_eq_false_imp, decide_eq_true_eq, decide_eq_false_iff_not]
   intro h1 h2; exact hs ⟨h1, h2⟩
  rw [this]; rfl
theorem IsCut.count {l a : List StM} {P : Int → Prop} (h : IsCut l P a) (x : Int) : (P x → a.countP (atT x) = l.countP (atT x)) ∧ (¬ P x → a.countP (atT x) = 0) := by
 obtain ⟨r, h1, h2, _⟩ := h
 rw [h2.countP_eq]
 clear h2
 induction l with
 | nil => exact ⟨fun _ => rfl, fun _ => rfl⟩
 | cons s l ih =>
  have e : rawS (s :: l) r = piecesS s r ++ rawS l r := by simp [rawS]
  rw [e, List.countP_append, List.countP_cons]
  have hp := pieces_count h1 x s
  refine ⟨fun hx => ?_, fun hx => ?_⟩
  ·rw [hp.1 hx, ih.1 hx]; omega
  ·rw [hp.2 hx, ih.2 hx]
end Go.Proofs.YtmfpjapiijgdgaaGreat
namespace Go.Proofs.YtmfpjapiijgdgaaGreat
set_option linter.unusedVariables false
theorem range_count {s : SaM} {w u : ByteArray} {f t now : Int} {a : List StM} (ha : IsRange s w u f t now a) (x : Int) : (gateP s w u f t x → a.countP (atT x) = (staysS s u now).countP (atT x)) ∧ (¬ gateP s w u f t x → a.countP (atT x) = 0) := IsCut.count ha x
end Go.Proofs.YtmfpjapiijgdgaaGreat
namespace Go.Proofs.YtmfpjapiijgdgaaGreat
set_option maxRecDepth 100000
theorem closedGateTimes : joinedFacts Tryz.pinned.checked.prog 13 Tryz.f13 (Rows.OpenSpec.upto Rows.gateTimesSpec).bare Rows.gateTimesUptoRow = true := by
 unfold joinedFacts
 rw [pf_heard, pf_maps, pf_laid, pf_keys, pf_lift, pf_enter]
 kernel_rfl
end Go.Proofs.YtmfpjapiijgdgaaGreat
