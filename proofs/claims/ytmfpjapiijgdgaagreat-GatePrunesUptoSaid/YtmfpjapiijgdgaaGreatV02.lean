/- Texts of mine, one behind the other, of each what is wanted. -/
import Derived.Test.YtmfpjapiijgdgaaGreatV00
import Derived.Test.YtmfpjapiijgdgaaGreatV01
namespace Go.Proofs.YtmfpjapiijgdgaaGreat
set_option linter.unusedVariables false
set_option maxRecDepth 100000
theorem rowOf_cons (s n : SpM) (r : List SpM) : rowOf s (n :: r) = if (meetS s n).f < (meetS s n).t then meetS s n :: rowOf s r else rowOf s r := by
 unfold rowOf
 rw [List.map_cons, List.filter_cons]
 by_cases h : (meetS s n).f < (meetS s n).t
 ·simp [tB, h]
 ·simp [tB, h]
theorem rowOf_mem {s : SpM} {r : List SpM} {m : SpM} (h : m ∈ rowOf s r) : ∃ n ∈ r, m = meetS s n ∧ m.f < m.t := by
 obtain ⟨h1, h2⟩ := List.mem_filter.1 h
 obtain ⟨n, hn, rfl⟩ := List.mem_map.1 h1
 exact ⟨n, hn, rfl, of_decide_eq_true h2⟩
theorem rowOf_has (s : SpM) (x : Int) : ∀ {r : List SpM}, HasL (rowOf s r) x ↔ (s.f ≤ x ∧ x < s.t) ∧ HasL r x
 | [] => ⟨fun h => absurd h HasL.nil, fun h => absurd h.2 HasL.nil⟩
 | n :: r => by
  have ih := rowOf_has s x (r := r)
  rw [rowOf_cons, hasL_cons (s := n)]
  split
  ·rw [hasL_cons, ih]
   show (max s.f n.f ≤ x ∧ x < min s.t n.t) ∨ _ ↔ _
   constructor
   ·rintro (h | h)
    ·exact ⟨by omega, .inl (by omega)⟩
    ·exact ⟨h.1, .inr h.2⟩
   ·rintro ⟨h1, h2 | h2⟩
    ·exact .inl (by omega)
    ·exact .inr ⟨h1, h2⟩
  ·rename_i ht
   rw [ih]
   constructor
   ·rintro ⟨h1, h2⟩
    exact ⟨h1, .inr h2⟩
   ·rintro ⟨h1, h2 | h2⟩
    ·exact absurd (show max s.f n.f < min s.t n.t by omega) ht
    ·exact ⟨h1, h2⟩
end Go.Proofs.YtmfpjapiijgdgaaGreat
