/- Plain mathematics: the least text of a row is the first one of the row sorted. -/
import Derived.Test.YthcjkobopobokaaA7
namespace Go.Proofs.Ythcjkobopobokaa
open Go.Lib
set_option linter.unusedVariables false

theorem fold_lesser (l : List ByteArray) : ∀ m : ByteArray, (l.foldl lesser m = m ∨ l.foldl lesser m ∈ l) ∧ (∀ x, x = m ∨ x ∈ l → compareBytes (toL (l.foldl lesser m)) (toL x) ≤ 0) := by
  induction l with
  | nil =>
    intro m
    refine ⟨.inl rfl, fun x hx => ?_⟩
    rcases hx with rfl | hx
    · have := cb_refl (toL x); show compareBytes (toL x) (toL x) ≤ 0; omega
    · cases hx
  | cons y r ih =>
    intro m
    obtain ⟨h1, h2⟩ := ih (lesser m y)
    rw [List.foldl_cons]
    have hm : lesser m y = m ∨ lesser m y = y := by unfold lesser; split <;> simp
    have hle : compareBytes (toL (lesser m y)) (toL m) ≤ 0 ∧ compareBytes (toL (lesser m y)) (toL y) ≤ 0 := by
      unfold lesser
      split
      · rename_i h
        have := cb_refl (toL y)
        exact ⟨by have : compareBytes (toL y) (toL m) < 0 := h; omega, by omega⟩
      · rename_i h
        have h' : ¬ compareBytes (toL y) (toL m) < 0 := h
        have a := cb_neg (toL m) (toL y)
        have := cb_refl (toL m)
        exact ⟨by omega, by omega⟩
    have htr : ∀ z, compareBytes (toL (lesser m y)) z ≤ 0 → compareBytes (toL (r.foldl lesser (lesser m y))) z ≤ 0 := fun z hz => by
      have a := h2 (lesser m y) (.inl rfl)
      by_cases e1 : compareBytes (toL (r.foldl lesser (lesser m y))) (toL (lesser m y)) = 0
      · rw [cb_eq _ _ e1]; exact hz
      · by_cases e2 : compareBytes (toL (lesser m y)) z = 0
        · rw [← cb_eq _ _ e2]; exact a
        · have := cb_trans _ _ _ (show compareBytes (toL (r.foldl lesser (lesser m y))) (toL (lesser m y)) < 0 by omega) (show compareBytes (toL (lesser m y)) z < 0 by omega)
          omega
    refine ⟨?_, fun x hx => ?_⟩
    · rcases h1 with h1 | h1
      · rcases hm with e | e
        · exact .inl (h1.trans e)
        · exact .inr (by rw [h1, e]; simp)
      · exact .inr (by simp [h1])
    · rcases hx with rfl | hx
      · exact htr _ hle.1
      · rcases List.mem_cons.1 hx with rfl | hx
        · exact htr _ hle.2
        · exact h2 x (.inr hx)

theorem least_first (x : ByteArray) (l : List ByteArray) : ∃ r, sv (x :: l) = toL (leastOf (x :: l)) :: r := by
  obtain ⟨h1, h2⟩ := fold_lesser l x
  have hm : toL (leastOf (x :: l)) ∈ sv (x :: l) := by
    unfold sv
    rw [mem_sortL, List.mem_map]
    refine ⟨leastOf (x :: l), ?_, rfl⟩
    rcases h1 with h1 | h1
    · rw [show leastOf (x :: l) = x from h1]; simp
    · exact List.mem_cons_of_mem _ h1
  match hs : sv (x :: l) with
  | [] => rw [hs] at hm; cases hm
  | y :: r =>
    refine ⟨r, ?_⟩
    rw [hs] at hm
    have hr : Rises (y :: r) := by rw [← hs]; exact rises_sortL _
    unfold Rises at hr
    rw [List.pairwise_cons] at hr
    rcases List.mem_cons.1 hm with e | e
    · rw [e]
    · exfalso
      have a := hr.1 _ e
      have hy : y ∈ sv (x :: l) := by rw [hs]; simp
      unfold sv at hy
      rw [mem_sortL, List.mem_map] at hy
      obtain ⟨z, hz, rfl⟩ := hy
      have b := h2 z (by simpa using hz)
      have c := cb_neg (toL z) (toL (leastOf (x :: l)))
      have d : compareBytes (toL (leastOf (x :: l))) (toL z) ≤ 0 := b
      omega

theorem toL_inj {a b : ByteArray} (h : toL a = toL b) : a = b := by
  unfold toL at h
  cases a; cases b
  simp at h
  rw [h]

/-- a text that is one of a row and no greater than any is the only such one -/
theorem least_unique (l : List ByteArray) (a b : ByteArray) (ha : a ∈ l) (hb : b ∈ l) (h1 : ∀ x ∈ l, compareBytes (toL a) (toL x) ≤ 0) (h2 : ∀ x ∈ l, compareBytes (toL b) (toL x) ≤ 0) : a = b := by
  have e1 := h1 b hb
  have e2 := h2 a ha
  have n := cb_neg (toL a) (toL b)
  exact toL_inj (cb_eq _ _ (by omega))
theorem least_mem (x : ByteArray) (l : List ByteArray) : leastOf (x :: l) ∈ x :: l := by
  rcases (fold_lesser l x).1 with h | h
  · rw [show leastOf (x :: l) = x from h]; simp
  · exact List.mem_cons_of_mem _ h
theorem least_le (x : ByteArray) (l : List ByteArray) : ∀ y ∈ x :: l, compareBytes (toL (leastOf (x :: l))) (toL y) ≤ 0 := fun y hy => (fold_lesser l x).2 y (by simpa using hy)
theorem cb_le_trans {a b c : List UInt8} (h1 : compareBytes a b ≤ 0) (h2 : compareBytes b c ≤ 0) : compareBytes a c ≤ 0 := by
  by_cases e1 : compareBytes a b = 0
  · rw [cb_eq _ _ e1]; exact h2
  · by_cases e2 : compareBytes b c = 0
    · rw [← cb_eq _ _ e2]; exact h1
    · have := cb_trans a b c (by omega) (by omega); omega
theorem least_both (x y : ByteArray) (r s : List ByteArray) :
    leastOf (x :: (r ++ y :: s)) = leastOf [leastOf (x :: r), leastOf (y :: s)] ∧ compareBytes (toL (leastOf (x :: (r ++ y :: s)))) (toL (leastOf (x :: r))) ≤ 0 ∧ compareBytes (toL (leastOf (x :: (r ++ y :: s)))) (toL (leastOf (y :: s))) ≤ 0 := by
  have hz := least_le x (r ++ y :: s)
  have i1 : ∀ z ∈ x :: r, z ∈ x :: (r ++ y :: s) := fun z hz => by
    rcases List.mem_cons.1 hz with h | h
    · simp [h]
    · simp [h]
  have i2 : ∀ z ∈ y :: s, z ∈ x :: (r ++ y :: s) := fun z hz => by
    rcases List.mem_cons.1 hz with h | h
    · simp [h]
    · simp [h]
  refine ⟨least_unique (x :: (r ++ y :: s)) _ _ (least_mem _ _) ?_ hz ?_, hz _ (i1 _ (least_mem x r)), hz _ (i2 _ (least_mem y s))⟩
  · have := least_mem (leastOf (x :: r)) [leastOf (y :: s)]
    rcases List.mem_cons.1 this with h | h
    · rw [h]; exact i1 _ (least_mem x r)
    · rw [List.mem_singleton.1 h]; exact i2 _ (least_mem y s)
  · intro z hz
    have a := least_le (leastOf (x :: r)) [leastOf (y :: s)]
    have hz' : z ∈ x :: r ∨ z ∈ y :: s := by
      have : z ∈ (x :: r) ++ (y :: s) := hz
      rwa [List.mem_append] at this
    rcases hz' with h | h
    · exact cb_le_trans (a _ (by simp)) (least_le x r z h)
    · exact cb_le_trans (a _ (by simp)) (least_le y s z h)
end Go.Proofs.Ythcjkobopobokaa
