/- Layer 7: plain mathematics of spans: rows as Norm tells them, of which there is one for each set of times; how the program, and the document, come to it. -/
import Derived.Test.YtlgicjebaehgeaaG0
namespace Go.Proofs.Ytlgicjebaehgeaa
set_option linter.unusedVariables false
set_option maxRecDepth 100000

/-- a span: the times from f on, up to t -/
structure SpM where
  f : Int
  t : Int
instance spDec : DecidableEq SpM := fun a b => decidable_of_iff (a.f = b.f ∧ a.t = b.t) (by
  obtain ⟨_, _⟩ := a
  obtain ⟨_, _⟩ := b
  simp)
/-- has a span of the row the time? -/
def HasL (l : List SpM) (x : Int) : Prop := ∃ s ∈ l, s.f ≤ x ∧ x < s.t
theorem HasL.nil {x : Int} : ¬ HasL [] x := fun ⟨_, h, _⟩ => by cases h
theorem hasL_cons {s : SpM} {l : List SpM} {x : Int} : HasL (s :: l) x ↔ (s.f ≤ x ∧ x < s.t) ∨ HasL l x := by
  constructor
  · rintro ⟨u, hu, h⟩
    rcases List.mem_cons.1 hu with rfl | hu
    · exact .inl h
    · exact .inr ⟨u, hu, h⟩
  · rintro (h | ⟨u, hu, h⟩)
    · exact ⟨s, by simp, h⟩
    · exact ⟨u, List.mem_cons_of_mem _ hu, h⟩
theorem hasL_append {l m : List SpM} {x : Int} : HasL (l ++ m) x ↔ HasL l x ∨ HasL m x := by
  constructor
  · rintro ⟨u, hu, h⟩
    rcases List.mem_append.1 hu with hu | hu
    · exact .inl ⟨u, hu, h⟩
    · exact .inr ⟨u, hu, h⟩
  · rintro (⟨u, hu, h⟩ | ⟨u, hu, h⟩)
    · exact ⟨u, List.mem_append_left _ hu, h⟩
    · exact ⟨u, List.mem_append_right _ hu, h⟩
theorem hasL_one {s : SpM} {x : Int} : HasL [s] x ↔ s.f ≤ x ∧ x < s.t := by
  rw [hasL_cons]; exact ⟨fun h => h.resolve_right HasL.nil, .inl⟩
/-- spans that rise and do not touch; some may have no time -/
def RowL : List SpM → Prop
  | [] => True
  | s :: l => s.f ≤ s.t ∧ (∀ u ∈ l, s.t < u.f) ∧ RowL l
/-- .. and each has some time: as Norm tells them -/
def NormL (l : List SpM) : Prop := RowL l ∧ ∀ s ∈ l, s.f < s.t
theorem NormL.nil : NormL [] := ⟨trivial, fun s h => by cases h⟩
theorem NormL.tail {s : SpM} {l : List SpM} (h : NormL (s :: l)) : NormL l := ⟨h.1.2.2, fun u hu => h.2 u (List.mem_cons_of_mem _ hu)⟩
/-- a row as Norm tells it, of the times P -/
def IsSet (P : Int → Prop) (r : List SpM) : Prop := NormL r ∧ ∀ x, HasL r x ↔ P x
theorem norm_only : ∀ (a b : List SpM), NormL a → NormL b → (∀ x, HasL a x ↔ HasL b x) → a = b
  | [], [], _, _, _ => rfl
  | [], o :: b, _, hb, h => by
    have := (h o.f).2 (hasL_cons.2 (.inl ⟨Int.le_refl _, hb.2 o (by simp)⟩))
    exact absurd this HasL.nil
  | s :: a, [], ha, _, h => by
    have := (h s.f).1 (hasL_cons.2 (.inl ⟨Int.le_refl _, ha.2 s (by simp)⟩))
    exact absurd this HasL.nil
  | s :: a, o :: b, ha, hb, h => by
    have hs := ha.2 s (by simp)
    have ho := hb.2 o (by simp)
    have low : ∀ {u : SpM} {l : List SpM}, NormL (u :: l) → ∀ {x}, HasL (u :: l) x → u.f ≤ x := fun {u l} hn {x} hx => by
      rcases hasL_cons.1 hx with hx | ⟨v, hv, hx⟩
      · exact hx.1
      · have := hn.1.2.1 v hv
        have := hn.1.1
        omega
    have e1 : s.f = o.f := by
      have h1 := low hb ((h s.f).1 (hasL_cons.2 (.inl ⟨Int.le_refl _, hs⟩)))
      have h2 := low ha ((h o.f).2 (hasL_cons.2 (.inl ⟨Int.le_refl _, ho⟩)))
      omega
    have past : ∀ {u : SpM} {l : List SpM}, NormL (u :: l) → ¬ HasL (u :: l) u.t := fun {u l} hn hx => by
      rcases hasL_cons.1 hx with hx | ⟨v, hv, hx⟩
      · omega
      · have := hn.1.2.1 v hv
        omega
    have e2 : s.t = o.t := by
      rcases Int.lt_trichotomy s.t o.t with h1 | h1 | h1
      · exact absurd ((h s.t).2 (hasL_cons.2 (.inl ⟨by omega, h1⟩))) (past ha)
      · exact h1
      · exact absurd ((h o.t).1 (hasL_cons.2 (.inl ⟨by omega, h1⟩))) (past hb)
    have e : s = o := by
      obtain ⟨_, _⟩ := s
      obtain ⟨_, _⟩ := o
      simp only at e1 e2
      rw [e1, e2]
    subst e
    have ht : ∀ x, HasL a x ↔ HasL b x := fun x => by
      constructor
      · intro hx
        have hx2 := hx
        obtain ⟨v, hv, h1, h2⟩ := hx2
        have h3 := ha.1.2.1 v hv
        rcases hasL_cons.1 ((h x).1 (hasL_cons.2 (.inr hx))) with h4 | h4
        · omega
        · exact h4
      · intro hx
        have hx2 := hx
        obtain ⟨v, hv, h1, h2⟩ := hx2
        have h3 := hb.1.2.1 v hv
        rcases hasL_cons.1 ((h x).2 (hasL_cons.2 (.inr hx))) with h4 | h4
        · omega
        · exact h4
    rw [norm_only a b ha.tail hb.tail ht]
theorem IsSet.only {P : Int → Prop} {a b : List SpM} (ha : IsSet P a) (hb : IsSet P b) : a = b := norm_only a b ha.1 hb.1 (fun x => (ha.2 x).trans (hb.2 x).symm)
theorem IsSet.congr {P Q : Int → Prop} {a : List SpM} (ha : IsSet P a) (h : ∀ x, P x ↔ Q x) : IsSet Q a := ⟨ha.1, fun x => (ha.2 x).trans (h x)⟩
theorem rowL_snoc {l : List SpM} {s : SpM} (h : RowL l) (hs : s.f ≤ s.t) (hl : ∀ u ∈ l, u.t < s.f) : RowL (l ++ [s]) := by
  induction l with
  | nil => exact ⟨hs, fun u hu => (by cases hu), trivial⟩
  | cons u l ih =>
    refine ⟨h.1, fun v hv => ?_, ih h.2.2 (fun v hv => hl v (List.mem_cons_of_mem _ hv))⟩
    rcases List.mem_append.1 hv with hv | hv
    · exact h.2.1 v hv
    · rw [List.mem_singleton.1 hv]; exact hl u (by simp)
theorem normL_snoc {l : List SpM} {s : SpM} (h : NormL l) (hs : s.f < s.t) (hl : ∀ u ∈ l, u.t < s.f) : NormL (l ++ [s]) := by
  refine ⟨rowL_snoc h.1 (Int.le_of_lt hs) hl, fun u hu => ?_⟩
  rcases List.mem_append.1 hu with hu | hu
  · exact h.2 u hu
  · rw [List.mem_singleton.1 hu]; exact hs
theorem rowL_front {l : List SpM} {s : SpM} (h : RowL (l ++ [s])) : RowL l ∧ s.f ≤ s.t ∧ ∀ u ∈ l, u.t < s.f := by
  induction l with
  | nil => exact ⟨trivial, h.1, fun u hu => (by cases hu)⟩
  | cons v l ih =>
    obtain ⟨i1, i2, i3⟩ := ih h.2.2
    refine ⟨⟨h.1, fun u hu => h.2.1 u (List.mem_append_left _ hu), i1⟩, i2, fun u hu => ?_⟩
    rcases List.mem_cons.1 hu with rfl | hu
    · exact h.2.1 s (by simp)
    · exact i3 u hu
theorem normL_front {l : List SpM} {s : SpM} (h : NormL (l ++ [s])) : NormL l ∧ s.f < s.t ∧ ∀ u ∈ l, u.t < s.f := by
  obtain ⟨h1, h2, h3⟩ := rowL_front h.1
  exact ⟨⟨h1, fun u hu => h.2 u (List.mem_append_left _ hu)⟩, h.2 s (by simp), h3⟩

/-! ### runs that are put together: the program's Norm, one span after the other, rising by From -/
/-- one more span: behind the last one, or into it -/
def mergeS (l : List SpM) (s : SpM) : List SpM :=
  match l.getLast? with
  | none => l ++ [s]
  | some u => if s.f ≤ u.t then l.dropLast ++ [⟨u.f, max u.t s.t⟩] else l ++ [s]
theorem mergeS_nil (s : SpM) : mergeS [] s = [s] := rfl
theorem mergeS_snoc (l : List SpM) (u s : SpM) : mergeS (l ++ [u]) s = if s.f ≤ u.t then l ++ [⟨u.f, max u.t s.t⟩] else l ++ [u] ++ [s] := by
  unfold mergeS
  rw [List.getLast?_append]
  simp
/-- what the loop has so far, of the spans d, all with From at most as far as the next one's -/
structure Merged (d r : List SpM) : Prop where
  norm : NormL r
  has : ∀ x, HasL r x ↔ HasL d x
  low : ∀ u ∈ r, ∃ s ∈ d, u.f = s.f
theorem Merged.nil : Merged [] [] := ⟨NormL.nil, fun x => Iff.rfl, fun u h => by cases h⟩
theorem Merged.step {d r : List SpM} {s : SpM} (h : Merged d r) (hs : s.f < s.t) (hd : ∀ u ∈ d, u.f ≤ s.f) : Merged (d ++ [s]) (mergeS r s) := by
  have hlow : ∀ u ∈ r, u.f ≤ s.f := fun u hu => by
    obtain ⟨v, hv, e⟩ := h.low u hu
    rw [e]; exact hd v hv
  rcases List.eq_nil_or_concat r with rfl | ⟨l, u, rfl⟩
  · rw [mergeS_nil]
    refine ⟨⟨⟨Int.le_of_lt hs, fun u hu => (by cases hu), trivial⟩, fun u hu => by rw [List.mem_singleton.1 hu]; exact hs⟩, fun x => ?_, fun u hu => ⟨s, by simp, by rw [List.mem_singleton.1 hu]⟩⟩
    rw [hasL_append, ← h.has x]
    exact ⟨.inr, fun h => h.resolve_left HasL.nil⟩
  · rw [List.concat_eq_append] at *
    rw [mergeS_snoc]
    obtain ⟨n1, n2, n3⟩ := normL_front h.norm
    have hu := hlow u (by simp)
    split
    · rename_i hle
      refine ⟨normL_snoc n1 ?_ n3, fun x => ?_, fun v hv => ?_⟩
      · show u.f < max u.t s.t
        omega
      · rw [hasL_append (m := [s]), ← h.has x, hasL_append, hasL_append, hasL_one, hasL_one, hasL_one]
        show HasL l x ∨ (u.f ≤ x ∧ x < max u.t s.t) ↔ (HasL l x ∨ u.f ≤ x ∧ x < u.t) ∨ s.f ≤ x ∧ x < s.t
        constructor
        · rintro (h1 | h1)
          · exact .inl (.inl h1)
          · rcases Int.lt_or_le x u.t with h2 | h2
            · exact .inl (.inr ⟨h1.1, h2⟩)
            · exact .inr ⟨by omega, by omega⟩
        · rintro ((h1 | h1) | h1)
          · exact .inl h1
          · exact .inr ⟨h1.1, by omega⟩
          · exact .inr ⟨by omega, by omega⟩
      · rcases List.mem_append.1 hv with hv | hv
        · obtain ⟨y, hy, e⟩ := h.low v (List.mem_append_left _ hv)
          exact ⟨y, List.mem_append_left _ hy, e⟩
        · obtain ⟨y, hy, e⟩ := h.low u (by simp)
          rw [List.mem_singleton.1 hv]
          exact ⟨y, List.mem_append_left _ hy, e⟩
    · rename_i hgt
      refine ⟨normL_snoc h.norm hs (fun v hv => ?_), fun x => ?_, fun v hv => ?_⟩
      · rcases List.mem_append.1 hv with hv | hv
        · have := n3 v hv; omega
        · rw [List.mem_singleton.1 hv]; omega
      · rw [hasL_append (m := [s]), hasL_append (l := d), h.has x]
      · rcases List.mem_append.1 hv with hv | hv
        · obtain ⟨y, hy, e⟩ := h.low v hv
          exact ⟨y, List.mem_append_left _ hy, e⟩
        · rw [List.mem_singleton.1 hv]; exact ⟨s, by simp, rfl⟩
theorem Merged.set {d r : List SpM} (h : Merged d r) : IsSet (HasL d) r := ⟨h.norm, h.has⟩

/-! ### what two rows have in common, head by head -/
def meetS (s o : SpM) : SpM := ⟨max s.f o.f, min s.t o.t⟩
/-- l, and m behind it if m has some time -/
def pushS (l : List SpM) (m : SpM) : List SpM := if m.t ≤ m.f then l else l ++ [m]
theorem hasL_push {l : List SpM} {m : SpM} {x : Int} : HasL (pushS l m) x ↔ HasL l x ∨ (m.f ≤ x ∧ x < m.t) := by
  unfold pushS
  split
  · exact ⟨.inl, fun h => h.resolve_right (fun h => by omega)⟩
  · rw [hasL_append, hasL_one]
structure ComI (A B l a b : List SpM) : Prop where
  norm : NormL l
  ra : RowL a
  rb : RowL b
  has : ∀ x, (HasL A x ∧ HasL B x) ↔ HasL l x ∨ (HasL a x ∧ HasL b x)
  gap : ∀ u ∈ l, (∀ s ∈ a, u.t < s.f) ∨ (∀ s ∈ b, u.t < s.f)
theorem ComI.start {A B : List SpM} (ha : RowL A) (hb : RowL B) : ComI A B [] A B :=
  ⟨NormL.nil, ha, hb, fun x => ⟨.inr, fun h => h.resolve_left HasL.nil⟩, fun u h => by cases h⟩
theorem ComI.push {A B l a b : List SpM} {x y : SpM} (h : ComI A B l (x :: a) (y :: b)) : NormL (pushS l (meetS x y)) := by
  unfold pushS
  split
  · exact h.norm
  · rename_i hm
    refine normL_snoc h.norm (by omega) (fun u hu => ?_)
    show u.t < max x.f y.f
    rcases h.gap u hu with g | g
    · have := g x (by simp); omega
    · have := g y (by simp); omega
theorem mem_push {l : List SpM} {m u : SpM} (h : u ∈ pushS l m) : u ∈ l ∨ u = m := by
  unfold pushS at h
  split at h
  · exact .inl h
  · rcases List.mem_append.1 h with h | h
    · exact .inl h
    · exact .inr (List.mem_singleton.1 h)
theorem ComI.left {A B l a b : List SpM} {x y : SpM} (h : ComI A B l (x :: a) (y :: b)) (ht : x.t < y.t) : ComI A B (pushS l (meetS x y)) a (y :: b) := by
  refine ⟨h.push, h.ra.2.2, h.rb, fun z => ?_, fun u hu => ?_⟩
  · rw [h.has z, hasL_push, hasL_cons (s := x)]
    show HasL l z ∨ ((x.f ≤ z ∧ z < x.t) ∨ HasL a z) ∧ HasL (y :: b) z ↔ (HasL l z ∨ (max x.f y.f ≤ z ∧ z < min x.t y.t)) ∨ HasL a z ∧ HasL (y :: b) z
    constructor
    · rintro (h1 | ⟨h1 | h1, h2⟩)
      · exact .inl (.inl h1)
      · rcases hasL_cons.1 h2 with h3 | ⟨v, hv, h3, h4⟩
        · exact .inl (.inr ⟨by omega, by omega⟩)
        · have := h.rb.2.1 v hv; omega
      · exact .inr ⟨h1, h2⟩
    · rintro ((h1 | h1) | h1)
      · exact .inl h1
      · exact .inr ⟨.inl ⟨by omega, by omega⟩, hasL_cons.2 (.inl ⟨by omega, by omega⟩)⟩
      · exact .inr ⟨.inr h1.1, h1.2⟩
  · rcases mem_push hu with hu | rfl
    · rcases h.gap u hu with g | g
      · exact .inl (fun s hs => g s (List.mem_cons_of_mem _ hs))
      · exact .inr g
    · refine .inl (fun s hs => ?_)
      have := h.ra.2.1 s hs
      show min x.t y.t < s.f
      omega
theorem ComI.right {A B l a b : List SpM} {x y : SpM} (h : ComI A B l (x :: a) (y :: b)) (ht : ¬ x.t < y.t) : ComI A B (pushS l (meetS x y)) (x :: a) b := by
  refine ⟨h.push, h.ra, h.rb.2.2, fun z => ?_, fun u hu => ?_⟩
  · rw [h.has z, hasL_push, hasL_cons (s := y)]
    show HasL l z ∨ HasL (x :: a) z ∧ ((y.f ≤ z ∧ z < y.t) ∨ HasL b z) ↔ (HasL l z ∨ (max x.f y.f ≤ z ∧ z < min x.t y.t)) ∨ HasL (x :: a) z ∧ HasL b z
    constructor
    · rintro (h1 | ⟨h2, h1 | h1⟩)
      · exact .inl (.inl h1)
      · rcases hasL_cons.1 h2 with h3 | ⟨v, hv, h3, h4⟩
        · exact .inl (.inr ⟨by omega, by omega⟩)
        · have := h.ra.2.1 v hv; omega
      · exact .inr ⟨h2, h1⟩
    · rintro ((h1 | h1) | h1)
      · exact .inl h1
      · exact .inr ⟨hasL_cons.2 (.inl ⟨by omega, by omega⟩), .inl ⟨by omega, by omega⟩⟩
      · exact .inr ⟨h1.1, .inr h1.2⟩
  · rcases mem_push hu with hu | rfl
    · rcases h.gap u hu with g | g
      · exact .inl g
      · exact .inr (fun s hs => g s (List.mem_cons_of_mem _ hs))
    · refine .inr (fun s hs => ?_)
      have := h.rb.2.1 s hs
      show min x.t y.t < s.f
      omega
theorem ComI.done {A B l a b : List SpM} (h : ComI A B l a b) (he : a = [] ∨ b = []) : IsSet (fun x => HasL A x ∧ HasL B x) l := by
  refine ⟨h.norm, fun x => ?_⟩
  show HasL l x ↔ HasL A x ∧ HasL B x
  rw [h.has x]
  refine ⟨.inl, fun h1 => h1.resolve_right (fun h2 => ?_)⟩
  rcases he with rfl | rfl
  · exact HasL.nil h2.1
  · exact HasL.nil h2.2

/-! ### the gaps of a row -/
def gapsS (c : Int) (M : Int) : List SpM → List SpM
  | [] => [⟨c, M⟩]
  | s :: l => ⟨c, s.f⟩ :: gapsS s.t M l
theorem gapsS_low (M : Int) : ∀ (l : List SpM) (c : Int), NormL l → (∀ s ∈ l, c ≤ s.f) → ∀ u ∈ gapsS c M l, c ≤ u.f
  | [], c, _, _, u, hu => by rw [List.mem_singleton.1 hu]; exact Int.le_refl _
  | s :: l, c, hn, hc, u, hu => by
    rcases List.mem_cons.1 hu with rfl | hu
    · exact Int.le_refl _
    · have h1 := gapsS_low M l s.t hn.tail (fun v hv => Int.le_of_lt (hn.1.2.1 v hv)) u hu
      have h2 := hc s (by simp)
      have h3 := hn.2 s (by simp)
      omega
theorem gapsS_row (M : Int) : ∀ (l : List SpM) (c : Int), NormL l → (∀ s ∈ l, c ≤ s.f ∧ s.t ≤ M) → c ≤ M → RowL (gapsS c M l)
  | [], c, _, _, h => ⟨h, fun u hu => (by cases hu), trivial⟩
  | s :: l, c, hn, hc, h => by
    have h2 := hc s (by simp)
    have h3 := hn.2 s (by simp)
    refine ⟨h2.1, fun u hu => ?_, gapsS_row M l s.t hn.tail (fun v hv => ⟨Int.le_of_lt (hn.1.2.1 v hv), (hc v (List.mem_cons_of_mem _ hv)).2⟩) h2.2⟩
    have h1 := gapsS_low M l s.t hn.tail (fun v hv => Int.le_of_lt (hn.1.2.1 v hv)) u hu
    show s.f < u.f
    omega
theorem gapsS_has (M : Int) : ∀ (l : List SpM) (c : Int), NormL l → (∀ s ∈ l, c ≤ s.f ∧ s.t ≤ M) → ∀ x, c ≤ x → x < M → (HasL (gapsS c M l) x ↔ ¬ HasL l x)
  | [], c, _, _, x, h1, h2 => ⟨fun _ => HasL.nil, fun _ => hasL_one.2 ⟨h1, h2⟩⟩
  | s :: l, c, hn, hc, x, h1, h2 => by
    have b := hc s (by simp)
    have b3 := hn.2 s (by simp)
    show HasL (⟨c, s.f⟩ :: gapsS s.t M l) x ↔ _
    rw [hasL_cons, hasL_cons]
    have far : HasL l x → s.t < x := fun ⟨v, hv, h3, _⟩ => by have := hn.1.2.1 v hv; omega
    have low : HasL (gapsS s.t M l) x → s.t ≤ x := fun ⟨v, hv, h3, _⟩ => by
      have := gapsS_low M l s.t hn.tail (fun v hv => Int.le_of_lt (hn.1.2.1 v hv)) v hv; omega
    rcases Int.lt_or_le x s.t with h3 | h3
    · constructor
      · rintro (h4 | h4) (h5 | h5)
        · have := h4.2; simp only at this; omega
        · have := far h5; omega
        · have := low h4; omega
        · have := far h5; omega
      · intro h4
        refine .inl ⟨h1, ?_⟩
        show x < s.f
        rcases Int.lt_or_le x s.f with h5 | h5
        · exact h5
        · exact absurd (.inl ⟨h5, h3⟩) h4
    · have ih := gapsS_has M l s.t hn.tail (fun v hv => ⟨Int.le_of_lt (hn.1.2.1 v hv), (hc v (List.mem_cons_of_mem _ hv)).2⟩) x h3 h2
      rw [ih]
      constructor
      · rintro (h4 | h4) (h5 | h5)
        · omega
        · have := h4.2; simp only at this; omega
        · omega
        · exact h4 h5
      · intro h4
        exact .inr (fun h5 => h4 (.inr h5))
theorem isSet_fits {P : Int → Prop} {r : List SpM} {lo hi : Int} (h : IsSet P r) (hP : ∀ x, P x → lo ≤ x ∧ x < hi) : ∀ s ∈ r, lo ≤ s.f ∧ s.t ≤ hi := fun s hs => by
  have h1 := h.1.2 s hs
  have a := hP s.f ((h.2 _).1 ⟨s, hs, Int.le_refl _, h1⟩)
  have b := hP (s.t - 1) ((h.2 _).1 ⟨s, hs, by omega, by omega⟩)
  omega

/-! ### the document's way: cell by cell between all ends -/
def glueS (l : List SpM) (s : SpM) : List SpM :=
  match l.getLast? with
  | none => l ++ [s]
  | some u => if u.t = s.f then l.dropLast ++ [⟨u.f, s.t⟩] else l ++ [s]
theorem glueS_nil (s : SpM) : glueS [] s = [s] := rfl
theorem glueS_snoc (l : List SpM) (u s : SpM) : glueS (l ++ [u]) s = if u.t = s.f then l ++ [⟨u.f, s.t⟩] else l ++ [u] ++ [s] := by
  unfold glueS
  rw [List.getLast?_append]
  simp
/-- numbers that rise -/
def Rise (e : List Int) : Prop := e.Pairwise (· < ·)
/-- what the loop has, of the cells ahead of c -/
structure GlueI (P : Int → Prop) (c : Int) (r : List SpM) : Prop where
  norm : NormL r
  has : ∀ x, HasL r x ↔ P x ∧ x < c
theorem GlueI.low {P : Int → Prop} {c : Int} {r : List SpM} (h : GlueI P c r) : ∀ u ∈ r, u.t ≤ c := fun u hu => by
  have h1 := h.norm.2 u hu
  have := ((h.has (u.t - 1)).1 ⟨u, hu, by omega, by omega⟩).2
  omega
theorem GlueI.start {P : Int → Prop} {c : Int} (h : ∀ x, P x → c ≤ x) : GlueI P c [] :=
  ⟨NormL.nil, fun x => ⟨fun h => absurd h HasL.nil, fun ⟨h1, h2⟩ => by have := h x h1; omega⟩⟩
theorem GlueI.skip {P : Int → Prop} {c d : Int} {r : List SpM} (h : GlueI P c r) (hcd : c < d) (hc : ∀ x, c ≤ x → x < d → ¬ P x) : GlueI P d r :=
  ⟨h.norm, fun x => by
    rw [h.has x]
    constructor
    · rintro ⟨h1, h2⟩; exact ⟨h1, by omega⟩
    · rintro ⟨h1, h2⟩
      refine ⟨h1, ?_⟩
      rcases Int.lt_or_le x c with h3 | h3
      · exact h3
      · exact absurd h1 (hc x h3 h2)⟩
theorem GlueI.step {P : Int → Prop} {c d : Int} {r : List SpM} (h : GlueI P c r) (hcd : c < d) (hc : ∀ x, c ≤ x → x < d → P x) : GlueI P d (glueS r ⟨c, d⟩) := by
  have hlow := h.low
  have key : ∀ x, (P x ∧ x < c) ∨ (c ≤ x ∧ x < d) ↔ P x ∧ x < d := fun x => by
    constructor
    · rintro (⟨h1, h2⟩ | ⟨h1, h2⟩)
      · exact ⟨h1, by omega⟩
      · exact ⟨hc x h1 h2, h2⟩
    · rintro ⟨h1, h2⟩
      rcases Int.lt_or_le x c with h3 | h3
      · exact .inl ⟨h1, h3⟩
      · exact .inr ⟨h3, h2⟩
  rcases List.eq_nil_or_concat r with rfl | ⟨l, u, rfl⟩
  · rw [glueS_nil]
    refine ⟨⟨⟨Int.le_of_lt hcd, fun u hu => (by cases hu), trivial⟩, fun u hu => by rw [List.mem_singleton.1 hu]; exact hcd⟩, fun x => ?_⟩
    rw [hasL_one, ← key x, ← h.has x]
    exact ⟨.inr, fun h => h.resolve_left HasL.nil⟩
  · rw [List.concat_eq_append] at *
    rw [glueS_snoc]
    obtain ⟨n1, n2, n3⟩ := normL_front h.norm
    have hu := hlow u (by simp)
    split
    · rename_i he
      have he : u.t = c := he
      refine ⟨normL_snoc n1 (by show u.f < d; omega) n3, fun x => ?_⟩
      rw [← key x, ← h.has x, hasL_append, hasL_append, hasL_one, hasL_one]
      show HasL l x ∨ (u.f ≤ x ∧ x < d) ↔ (HasL l x ∨ u.f ≤ x ∧ x < u.t) ∨ c ≤ x ∧ x < d
      constructor
      · rintro (h1 | h1)
        · exact .inl (.inl h1)
        · rcases Int.lt_or_le x c with h2 | h2
          · exact .inl (.inr ⟨h1.1, by omega⟩)
          · exact .inr ⟨h2, h1.2⟩
      · rintro ((h1 | h1) | h1)
        · exact .inl h1
        · exact .inr ⟨h1.1, by omega⟩
        · exact .inr ⟨by omega, h1.2⟩
    · rename_i hne
      have hne : ¬ u.t = c := hne
      refine ⟨normL_snoc h.norm hcd (fun v hv => ?_), fun x => ?_⟩
      · show v.t < c
        rcases List.mem_append.1 hv with hv | hv
        · have := n3 v hv; omega
        · rw [List.mem_singleton.1 hv]; omega
      · rw [hasL_append (m := [_]), h.has x, hasL_one]
        exact key x
theorem GlueI.done {P : Int → Prop} {c : Int} {r : List SpM} (h : GlueI P c r) (hP : ∀ x, P x → x < c) : IsSet P r :=
  ⟨h.norm, fun x => (h.has x).trans ⟨fun h => h.1, fun h => ⟨h, hP x h⟩⟩⟩

/-! ### all ends, rising, each once -/
/-- a row of numbers with one more, as far as k: what is out, and whether the new one has been -/
structure PutI (l : List Int) (n : Int) (k : Nat) (out : List Int) (done : Bool) : Prop where
  rise : Rise out
  mem : ∀ x, x ∈ out ↔ x ∈ l.take k ∨ (done = true ∧ x = n)
  yet : done = false → ∀ x ∈ l.take k, x < n
  past : done = true → ∃ x ∈ l.take k, n ≤ x
theorem PutI.start (l : List Int) (n : Int) : PutI l n 0 [] false :=
  ⟨List.Pairwise.nil, fun x => by simp, fun _ x hx => by simp at hx, fun h => by cases h⟩
theorem rise_snoc {l : List Int} {x : Int} (h : Rise l) (hx : ∀ y ∈ l, y < x) : Rise (l ++ [x]) :=
  List.pairwise_append.2 ⟨h, List.pairwise_singleton _ _, fun a ha b hb => by rw [List.mem_singleton.1 hb]; exact hx a ha⟩
theorem take_mem {l : List Int} {k : Nat} (h : k < l.length) (x : Int) : x ∈ l.take (k + 1) ↔ x ∈ l.take k ∨ x = l[k] := by
  rw [List.take_succ_eq_append_getElem h, List.mem_append, List.mem_singleton]
theorem rise_at {l : List Int} (h : Rise l) {k : Nat} (hk : k < l.length) : ∀ y ∈ l.take k, y < l[k] := fun y hy => by
  have h2 : Rise (l.take (k + 1)) := h.sublist (List.take_sublist _ _)
  rw [List.take_succ_eq_append_getElem hk] at h2
  exact (List.pairwise_append.1 h2).2.2 y hy l[k] (by simp)
/-- the number is not put in: it comes later, or has been, or is there -/
theorem PutI.plain {l : List Int} {n : Int} {k : Nat} {out : List Int} {done : Bool} (h : PutI l n k out done) (hr : Rise l) (hk : k < l.length) (hd : done = true ∨ l[k] < n ∨ l[k] = n) :
    PutI l n (k + 1) (out ++ [l[k]]) (done || decide (l[k] = n)) := by
  have hlt := rise_at hr hk
  have hout : ∀ y ∈ out, y < l[k] := fun y hy => by
    rcases (h.mem y).1 hy with h1 | ⟨h1, h2⟩
    · exact hlt y h1
    · obtain ⟨z, hz, h3⟩ := h.past h1
      have := hlt z hz
      omega
  refine ⟨rise_snoc h.rise hout, fun x => ?_, fun hf x hx => ?_, fun ht => ?_⟩
  · rw [List.mem_append, h.mem x, take_mem hk, List.mem_singleton]
    cases done with
    | true => simp; exact ⟨fun h => by rcases h with (h | h) | h <;> simp [h], fun h => by rcases h with (h | h) | h <;> simp [h]⟩
    | false =>
      by_cases he : l[k] = n
      · simp only [Bool.false_or, decide_eq_true he, true_and, Bool.false_eq_true, false_and, or_false]
        constructor
        · rintro (h1 | h1)
          · exact .inl (.inl h1)
          · exact .inl (.inr h1)
        · rintro ((h1 | h1) | h1)
          · exact .inl h1
          · exact .inr h1
          · exact .inr (by rw [h1, he])
      · simp [he]
  · cases done with
    | true => simp at hf
    | false =>
      simp only [Bool.false_or, decide_eq_false_iff_not] at hf
      rcases (take_mem hk x).1 hx with h1 | h1
      · exact h.yet rfl x h1
      · rw [h1]; rcases hd with h2 | h2 | h2
        · cases h2
        · exact h2
        · exact absurd h2 hf
  · cases done with
    | true =>
      obtain ⟨z, hz, h3⟩ := h.past rfl
      exact ⟨z, (take_mem hk z).2 (.inl hz), h3⟩
    | false =>
      simp only [Bool.false_or, decide_eq_true_eq] at ht
      exact ⟨l[k], (take_mem hk _).2 (.inr rfl), by omega⟩
/-- the number is put in ahead of the next one -/
theorem PutI.put {l : List Int} {n : Int} {k : Nat} {out : List Int} (h : PutI l n k out false) (hr : Rise l) (hk : k < l.length) (hd : n < l[k]) :
    PutI l n (k + 1) (out ++ [n] ++ [l[k]]) true := by
  have hlt := rise_at hr hk
  have hout : ∀ y ∈ out, y < n := fun y hy => by
    rcases (h.mem y).1 hy with h1 | ⟨h1, h2⟩
    · exact h.yet rfl y h1
    · cases h1
  refine ⟨rise_snoc (rise_snoc h.rise hout) (fun y hy => ?_), fun x => ?_, fun hf => (by cases hf), fun _ => ⟨l[k], (take_mem hk _).2 (.inr rfl), by omega⟩⟩
  · rcases List.mem_append.1 hy with h1 | h1
    · have := hout y h1; omega
    · rw [List.mem_singleton.1 h1]; exact hd
  · rw [List.mem_append, List.mem_append, h.mem x, take_mem hk, List.mem_singleton, List.mem_singleton]
    simp only [Bool.false_eq_true, false_and, or_false, true_and]
    constructor
    · rintro ((h1 | h1) | h1)
      · exact .inl (.inl h1)
      · exact .inr h1
      · exact .inl (.inr h1)
    · rintro ((h1 | h1) | h1)
      · exact .inl (.inl h1)
      · exact .inr h1
      · exact .inl (.inr h1)
theorem PutI.done {l : List Int} {n : Int} {out : List Int} {done : Bool} (h : PutI l n l.length out done) : Rise (if done then out else out ++ [n]) ∧ ∀ x, x ∈ (if done then out else out ++ [n]) ↔ x ∈ l ∨ x = n := by
  have ht : l.take l.length = l := List.take_of_length_le (Nat.le_refl _)
  cases done with
  | true =>
    refine ⟨h.rise, fun x => ?_⟩
    have := h.mem x
    rw [ht] at this
    simpa using this
  | false =>
    have hy := h.yet rfl
    rw [ht] at hy
    refine ⟨rise_snoc h.rise (fun y hm => ?_), fun x => ?_⟩
    · have := (h.mem y).1 hm
      rw [ht] at this
      simp only [Bool.false_eq_true, false_and, or_false] at this
      exact hy y this
    · have := h.mem x
      rw [ht] at this
      simp only [Bool.false_eq_true, false_and, or_false] at this
      simp [this]
/-- e: all ends of the spans, rising, each once -/
def IsEnds (l : List SpM) (e : List Int) : Prop := Rise e ∧ ∀ x, x ∈ e ↔ ∃ s ∈ l, x = s.f ∨ x = s.t
theorem IsEnds.nil : IsEnds [] [] := ⟨List.Pairwise.nil, fun x => by simp⟩
theorem IsEnds.snoc {l : List SpM} {s : SpM} {e e1 e2 : List Int} (h : IsEnds l e) (h1 : Rise e1 ∧ ∀ x, x ∈ e1 ↔ x ∈ e ∨ x = s.f) (h2 : Rise e2 ∧ ∀ x, x ∈ e2 ↔ x ∈ e1 ∨ x = s.t) : IsEnds (l ++ [s]) e2 := by
  refine ⟨h2.1, fun x => ?_⟩
  rw [h2.2, h1.2, h.2]
  constructor
  · rintro ((⟨u, hu, h3⟩ | h3) | h3)
    · exact ⟨u, List.mem_append_left _ hu, h3⟩
    · exact ⟨s, by simp, .inl h3⟩
    · exact ⟨s, by simp, .inr h3⟩
  · rintro ⟨u, hu, h3⟩
    rcases List.mem_append.1 hu with hu | hu
    · exact .inl (.inl ⟨u, hu, h3⟩)
    · rw [List.mem_singleton.1 hu] at h3
      rcases h3 with h3 | h3
      · exact .inl (.inr h3)
      · exact .inr h3
theorem rise_between {e : List Int} (h : Rise e) {k : Nat} (hk : k + 1 < e.length) {y : Int} (hy : y ∈ e) : y ≤ e[k] ∨ e[k + 1] ≤ y := by
  obtain ⟨i, hi, rfl⟩ := List.getElem_of_mem hy
  have hp := List.pairwise_iff_getElem.1 h
  rcases Nat.lt_or_ge i (k + 1) with h1 | h1
  · rcases Nat.lt_or_ge i k with h2 | h2
    · exact .inl (Int.le_of_lt (hp i k (by omega) (by omega) h2))
    · obtain rfl : i = k := by omega
      exact .inl (Int.le_refl _)
  · rcases Nat.lt_or_ge (k + 1) i with h2 | h2
    · exact .inr (Int.le_of_lt (hp (k + 1) i (by omega) (by omega) h2))
    · obtain rfl : i = k + 1 := by omega
      exact .inr (Int.le_refl _)
/-- within a cell all times are alike -/
theorem IsEnds.cell {l m : List SpM} {e : List Int} (h : IsEnds l e) (hm : ∀ s ∈ m, s ∈ l) {k : Nat} (hk : k + 1 < e.length) {x : Int} (h1 : e[k] ≤ x) (h2 : x < e[k + 1]) : HasL m x ↔ HasL m e[k] := by
  constructor
  · rintro ⟨s, hs, h3, h4⟩
    refine ⟨s, hs, ?_, by omega⟩
    rcases rise_between h.1 hk ((h.2 s.f).2 ⟨s, hm s hs, .inl rfl⟩) with h5 | h5
    · exact h5
    · omega
  · rintro ⟨s, hs, h3, h4⟩
    refine ⟨s, hs, by omega, ?_⟩
    rcases rise_between h.1 hk ((h.2 s.t).2 ⟨s, hm s hs, .inr rfl⟩) with h5 | h5
    · omega
    · omega
theorem IsEnds.first {l m : List SpM} {e : List Int} (h : IsEnds l e) (hm : ∀ s ∈ m, s ∈ l) {x : Int} (hx : HasL m x) : ∃ h0 : 0 < e.length, e[0] ≤ x := by
  obtain ⟨s, hs, h3, h4⟩ := hx
  obtain ⟨i, hi, he⟩ := List.getElem_of_mem ((h.2 s.f).2 ⟨s, hm s hs, .inl rfl⟩)
  refine ⟨by omega, ?_⟩
  rcases Nat.eq_zero_or_pos i with h5 | h5
  · subst h5; omega
  · have := List.pairwise_iff_getElem.1 h.1 0 i (by omega) hi h5
    omega
theorem IsEnds.last {l m : List SpM} {e : List Int} (h : IsEnds l e) (hm : ∀ s ∈ m, s ∈ l) {x : Int} (hx : HasL m x) {k : Nat} (hk : k + 1 = e.length) : x < e[k] := by
  obtain ⟨s, hs, h3, h4⟩ := hx
  obtain ⟨i, hi, he⟩ := List.getElem_of_mem ((h.2 s.t).2 ⟨s, hm s hs, .inr rfl⟩)
  rcases Nat.lt_or_ge i k with h5 | h5
  · have := List.pairwise_iff_getElem.1 h.1 i k hi (by omega) h5
    omega
  · obtain rfl : i = k := by omega
    omega
end Go.Proofs.Ytlgicjebaehgeaa
