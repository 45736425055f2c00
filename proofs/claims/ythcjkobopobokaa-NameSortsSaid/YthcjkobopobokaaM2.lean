/- Plain mathematics: the least text of a row is the first one of the row sorted. -/
import Derived.Test.YthcjkobopobokaaA7
namespace Go.Proofs.Ythcjkobopobokaa
open Go.Lib
set_option linter.unusedVariables false

theorem fold_lesser (l : List ByteArray) : ∀ m : ByteArray, (l.foldl lesser m = m ∨ l.foldl lesser m ∈ l) ∧ (∀ x, x = m ∨ x ∈ l → compareBytes (toL (l.foldl lesser m)) (toL x) ≤ 0) := by
  induction l with
  | nil =>
    intro m
    refine ⟨.inl rfl, fun x hx => ?_⟩
    rcases hx with rfl | hx
    · have := cb_refl (toL x); show compareBytes (toL x) (toL x) ≤ 0; omega
    · cases hx
  | cons y r ih =>
    intro m
    obtain ⟨h1, h2⟩ := ih (lesser m y)
    rw [List.foldl_cons]
    have hm : lesser m y = m ∨ lesser m y = y := by unfold lesser; split <;> simp
    have hle : compareBytes (toL (lesser m y)) (toL m) ≤ 0 ∧ compareBytes (toL (lesser m y)) (toL y) ≤ 0 := by
      unfold lesser
      split
      · rename_i h
        have := cb_refl (toL y)
        exact ⟨by have : compareBytes (toL y) (toL m) < 0 := h; omega, by omega⟩
      · rename_i h
        have h' : ¬ compareBytes (toL y) (toL m) < 0 := h
        have a := cb_neg (toL m) (toL y)
        have := cb_refl (toL m)
        exact ⟨by omega, by omega⟩
    have htr : ∀ z, compareBytes (toL (lesser m y)) z ≤ 0 → compareBytes (toL (r.foldl lesser (lesser m y))) z ≤ 0 := fun z hz => by
      have a := h2 (lesser m y) (.inl rfl)
      by_cases e1 : compareBytes (toL (r.foldl lesser (lesser m y))) (toL (lesser m y)) = 0
      · rw [cb_eq _ _ e1]; exact hz
      · by_cases e2 : compareBytes (toL (lesser m y)) z = 0
        · rw [← cb_eq _ _ e2]; exact a
        · have := cb_trans _ _ _ (show compareBytes (toL (r.foldl lesser (lesser m y))) (toL (lesser m y)) < 0 by omega) (show compareBytes (toL (lesser m y)) z < 0 by omega)
          omega
    refine ⟨?_, fun x hx => ?_⟩
    · rcases h1 with h1 | h1
      · rcases hm with e | e
        · exact .inl (h1.trans e)
        · exact .inr (by rw [h1, e]; simp)
      · exact .inr (by simp [h1])
    · rcases hx with rfl | hx
      · exact htr _ hle.1
      · rcases List.mem_cons.1 hx with rfl | hx
        · exact htr _ hle.2
        · exact h2 x (.inr hx)

theorem least_first (x : ByteArray) (l : List ByteArray) : ∃ r, sv (x :: l) = toL (leastOf (x :: l)) :: r := by
  obtain ⟨h1, h2⟩ := fold_lesser l x
  have hm : toL (leastOf (x :: l)) ∈ sv (x :: l) := by
    unfold sv
    rw [mem_sortL, List.mem_map]
    refine ⟨leastOf (x :: l), ?_, rfl⟩
    rcases h1 with h1 | h1
    · rw [show leastOf (x :: l) = x from h1]; simp
    · exact List.mem_cons_of_mem _ h1
  match hs : sv (x :: l) with
  | [] => rw [hs] at hm; cases hm
  | y :: r =>
    refine ⟨r, ?_⟩
    rw [hs] at hm
    have hr : Rises (y :: r) := by rw [← hs]; exact rises_sortL _
    unfold Rises at hr
    rw [List.pairwise_cons] at hr
    rcases List.mem_cons.1 hm with e | e
    · rw [e]
    · exfalso
      have a := hr.1 _ e
      have hy : y ∈ sv (x :: l) := by rw [hs]; simp
      unfold sv at hy
      rw [mem_sortL, List.mem_map] at hy
      obtain ⟨z, hz, rfl⟩ := hy
      have b := h2 z (by simpa using hz)
      have c := cb_neg (toL z) (toL (leastOf (x :: l)))
      have d : compareBytes (toL (leastOf (x :: l))) (toL z) ≤ 0 := b
      omega
end Go.Proofs.Ythcjkobopobokaa
