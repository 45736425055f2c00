/- Plain mathematics of texts by their order: rows that rise have what they have in one order alone. -/
import Derived.Lib.SlicesCompact
import Derived.Test.YtlgicjebaehgeaaAA0
namespace Go.Proofs.Ytlgicjebaehgeaa
open Go.Lib
section order
end order

/-- a row of texts that rises -/
def Rises (l : List (List UInt8)) : Prop := l.Pairwise (fun a b => compareBytes a b < 0)

theorem rises_unique : ∀ l m : List (List UInt8), Rises l → Rises m → (∀ x, x ∈ l ↔ x ∈ m) → l = m
  | [], [], _, _, _ => rfl
  | [], y :: s, _, _, h => absurd ((h y).2 (by simp)) (by simp)
  | x :: r, [], _, _, h => absurd ((h x).1 (by simp)) (by simp)
  | x :: r, y :: s, h1, h2, h => by
    unfold Rises at h1 h2
    rw [List.pairwise_cons] at h1 h2
    have e : x = y := by
      have hx := (h x).1 (by simp)
      have hy := (h y).2 (by simp)
      rw [List.mem_cons] at hx hy
      rcases hx with hx | hx
      · exact hx
      · rcases hy with hy | hy
        · exact hy.symm
        · have a := h2.1 x hx
          have b := h1.1 y hy
          have c := cb_neg x y
          omega
    subst e
    have hr : ∀ z, z ∈ r ↔ z ∈ s := fun z => by
      have hz := h z
      rw [List.mem_cons, List.mem_cons] at hz
      constructor
      · intro hm
        rcases hz.1 (.inr hm) with e | e
        · subst e; have := h1.1 z hm; rw [cb_refl] at this; omega
        · exact e
      · intro hm
        rcases hz.2 (.inr hm) with e | e
        · subst e; have := h2.1 z hm; rw [cb_refl] at this; omega
        · exact e
    rw [rises_unique r s h1.2 h2.2 hr]

/-- one more text in a row -/
def ins (s : List UInt8) : List (List UInt8) → List (List UInt8)
  | [] => [s]
  | x :: r => if compareBytes s x = 0 then x :: r else if compareBytes s x < 0 then s :: x :: r else x :: ins s r
theorem mem_ins (s : List UInt8) : ∀ (l : List (List UInt8)) (x : List UInt8), x ∈ ins s l ↔ x ∈ l ∨ x = s
  | [], x => by simp [ins]
  | y :: r, x => by
    unfold ins
    split
    · rename_i h
      have := cb_eq s y h
      subst this
      simp only [List.mem_cons]
      constructor
      · intro h; exact .inl h
      · rintro (h | h)
        · exact h
        · exact .inl h
    · split
      · simp only [List.mem_cons]
        constructor
        · rintro (h | h | h)
          · exact .inr h
          · exact .inl (.inl h)
          · exact .inl (.inr h)
        · rintro ((h | h) | h)
          · exact .inr (.inl h)
          · exact .inr (.inr h)
          · exact .inl h
      · rw [List.mem_cons, mem_ins s r x, List.mem_cons]
        constructor
        · rintro (h | h | h)
          · exact .inl (.inl h)
          · exact .inl (.inr h)
          · exact .inr h
        · rintro ((h | h) | h)
          · exact .inl h
          · exact .inr (.inl h)
          · exact .inr (.inr h)
theorem rises_ins (s : List UInt8) : ∀ l : List (List UInt8), Rises l → Rises (ins s l)
  | [], _ => by simp [ins, Rises]
  | y :: r, h => by
    have h' := h
    unfold Rises at h'
    rw [List.pairwise_cons] at h'
    unfold ins
    split
    · exact h
    · split
      · rename_i h0 h1
        unfold Rises
        rw [List.pairwise_cons]
        refine ⟨fun z hz => ?_, h⟩
        rw [List.mem_cons] at hz
        rcases hz with e | hz
        · subst e; exact h1
        · exact cb_trans s y z h1 (h'.1 z hz)
      · rename_i h0 h1
        unfold Rises
        rw [List.pairwise_cons]
        refine ⟨fun z hz => ?_, rises_ins s r h'.2⟩
        rw [mem_ins] at hz
        rcases hz with hz | e
        · exact h'.1 z hz
        · subst e
          have := cb_neg z y
          omega

/-- a row, sorted, each once -/
def sortL (l : List (List UInt8)) : List (List UInt8) := l.foldl (fun r s => ins s r) []
theorem sortL_aux (l : List (List UInt8)) : ∀ acc, Rises acc → Rises (l.foldl (fun r s => ins s r) acc) ∧ ∀ x, x ∈ l.foldl (fun r s => ins s r) acc ↔ x ∈ acc ∨ x ∈ l := by
  induction l with
  | nil => intro acc h; exact ⟨h, fun x => by simp⟩
  | cons y r ih =>
    intro acc h
    have := ih (ins y acc) (rises_ins y acc h)
    refine ⟨this.1, fun x => ?_⟩
    rw [List.foldl_cons, this.2 x, mem_ins, List.mem_cons]
    constructor
    · rintro ((h | h) | h)
      · exact .inl h
      · exact .inr (.inl h)
      · exact .inr (.inr h)
    · rintro (h | h | h)
      · exact .inl (.inl h)
      · exact .inl (.inr h)
      · exact .inr h
theorem rises_sortL (l : List (List UInt8)) : Rises (sortL l) := (sortL_aux l [] (by simp [Rises])).1
theorem mem_sortL (l : List (List UInt8)) (x : List UInt8) : x ∈ sortL l ↔ x ∈ l := by
  have := (sortL_aux l [] (by simp [Rises])).2 x
  simpa [sortL] using this

/-- the library's way: sorted, then without what stands twice -/
theorem compact_aux (d : Array (List UInt8)) (hd : ∀ i j, i < j → j < d.size → compareBytes d[i]! d[j]! ≤ 0) : ∀ m, m ≤ d.size →
    Rises (compactUpTo d m) ∧ ∀ x, x ∈ compactUpTo d m ↔ ∃ j, j < m ∧ d[j]! = x
  | 0, _ => by simp [compactUpTo, Rises]
  | m + 1, hm => by
    obtain ⟨h1, h2⟩ := compact_aux d hd m (by omega)
    rw [compactUpTo_succ]
    cases hk : keeps d m
    · simp only [Bool.false_eq_true, ↓reduceIte, List.append_nil]
      unfold keeps at hk
      simp only [ne_eq, decide_eq_false_iff_not, not_or, Decidable.not_not] at hk
      refine ⟨h1, fun x => ?_⟩
      rw [h2 x]
      constructor
      · rintro ⟨j, hj, e⟩; exact ⟨j, by omega, e⟩
      · rintro ⟨j, hj, e⟩
        by_cases hjm : j = m
        · subst hjm; exact ⟨j - 1, by omega, by rw [← hk.2]; exact e⟩
        · exact ⟨j, by omega, e⟩
    · simp only [↓reduceIte]
      unfold keeps at hk
      simp only [ne_eq, decide_eq_true_eq] at hk
      refine ⟨?_, fun x => ?_⟩
      · unfold Rises
        rw [List.pairwise_append]
        refine ⟨h1, by simp, fun x hx y hy => ?_⟩
        simp at hy
        subst hy
        obtain ⟨j, hj, rfl⟩ := (h2 x).1 hx
        have a := hd j m hj (by omega)
        have hne : compareBytes d[j]! d[m]! ≠ 0 := fun h0 => by
          have e := cb_eq _ _ h0
          rcases hk with hk | hk
          · omega
          · apply hk
            by_cases hjm : j = m - 1
            · subst hjm; exact e.symm
            · have b := hd j (m - 1) (by omega) (by omega)
              have c := hd (m - 1) m (by omega) (by omega)
              rw [e] at b
              have n := cb_neg d[m]! d[m-1]!
              exact cb_eq _ _ (by omega)
        omega
      · rw [List.mem_append, h2 x, List.mem_singleton]
        constructor
        · rintro (⟨j, hj, e⟩ | e)
          · exact ⟨j, by omega, e⟩
          · exact ⟨m, by omega, e.symm⟩
        · rintro ⟨j, hj, e⟩
          by_cases hjm : j = m
          · subst hjm; exact .inr e.symm
          · exact .inl ⟨j, by omega, e⟩

theorem compact_sortL (l s : List (List UInt8)) (hs : s.Pairwise (fun x y => compareBytes x y ≤ 0)) (hm : ∀ x, x ∈ s ↔ x ∈ l) : compact s = sortL l := by
  have hd : ∀ i j, i < j → j < s.toArray.size → compareBytes s.toArray[i]! s.toArray[j]! ≤ 0 := fun i j hij hj => by
    have hj' : j < s.length := by simpa using hj
    have := List.pairwise_iff_getElem.1 hs i j (by omega) hj' hij
    simpa [getElem!_pos, hj', show i < s.length by omega] using this
  obtain ⟨h1, h2⟩ := compact_aux s.toArray hd s.length (by simp)
  refine rises_unique _ _ h1 (rises_sortL l) fun x => ?_
  rw [mem_sortL, ← hm]
  show x ∈ compactUpTo s.toArray s.length ↔ _
  rw [h2]
  constructor
  · rintro ⟨j, hj, rfl⟩
    simp [getElem!_pos, hj]
  · intro hx
    obtain ⟨j, hj, rfl⟩ := List.getElem_of_mem hx
    exact ⟨j, hj, by simp [getElem!_pos, hj]⟩
end Go.Proofs.Ytlgicjebaehgeaa
