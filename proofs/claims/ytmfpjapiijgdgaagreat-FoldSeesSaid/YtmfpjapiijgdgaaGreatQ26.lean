/- Texts of mine, one behind the other, of each what is wanted. -/
import Derived.Test.YtmfpjapiijgdgaaGreatQ00
import Derived.Test.YtmfpjapiijgdgaaGreatShelf
import Derived.Test.YtmfpjapiijgdgaaGreatQ01
import Derived.Test.YtmfpjapiijgdgaaGreatQ17
import Derived.Test.YtmfpjapiijgdgaaGreatQ25
namespace Go.Proofs.YtmfpjapiijgdgaaGreat
open Go.RowKit
set_option linter.unusedVariables false
set_option maxRecDepth 100000
theorem own_slice {w : World} {B e n : Nat} {v : Value} {xs : List Value} (h : w.ownsRow B e 1 v n xs) : ∃ a c, v = .slice a n c ∧ n ≤ c ∧ c ≤ maxLen ∧ Sl w a xs ∧ (∀ b o, a = some ⟨b, o, none⟩ → B ≤ b) ∧ (a = none → c = 0) := by
 rcases h.2 with ⟨rfl, rfl⟩ | ⟨g, cap, cur, rfl, hg, hh, hn, hc, hsz, ht⟩
 ·refine ⟨none, 0, rfl, Nat.le_refl _, by unfold maxLen; omega, ?_, fun b o e => (by cases e), fun _ => rfl⟩
  have : xs = [] := List.eq_nil_of_length_eq_zero (by simpa using h.1)
  subst this
  exact Sl.nil _ _
 ·refine ⟨_, cap, rfl, hn, hc, fun k hk => ⟨g, 0, rfl, ?_, ?_⟩, fun b o e => (by cases e; exact hg), fun e => by cases e⟩
  ·rcases Nat.lt_or_ge g w.heap.size with h1 | h1
   ·exact h1
   ·rw [Array.getElem?_eq_none h1] at hh; cases hh
  ·have hl := h.1
   simp only [Nat.mul_one] at hl ht
   rw [cell_of_row w g (0 + k) cur e (0, 0) hh, Nat.zero_add]
   subst ht
   simp at hk
   simp [Array.getElem?_eq_getElem (show k < cur.size by omega)]
end Go.Proofs.YtmfpjapiijgdgaaGreat
namespace Go.Proofs.YtmfpjapiijgdgaaGreat
set_option linter.unusedVariables false
set_option maxRecDepth 100000
instance spDec : DecidableEq SpM := fun a b => decidable_of_iff (a.f = b.f ∧ a.t = b.t) (by
 obtain ⟨_, _⟩ := a
 obtain ⟨_, _⟩ := b
 simp)
theorem HasL.nil {x : Int} : ¬ HasL [] x := fun ⟨_, h, _⟩ => by cases h
theorem hasL_cons {s : SpM} {l : List SpM} {x : Int} : HasL (s :: l) x ↔ (s.f ≤ x ∧ x < s.t) ∨ HasL l x := by
 constructor
 ·rintro ⟨u, hu, h⟩
  rcases List.mem_cons.1 hu with rfl | hu
  ·exact .inl h
  ·exact .inr ⟨u, hu, h⟩
 ·rintro (h | ⟨u, hu, h⟩)
  ·exact ⟨s, by simp, h⟩
  ·exact ⟨u, List.mem_cons_of_mem _ hu, h⟩
theorem hasL_append {l m : List SpM} {x : Int} : HasL (l ++ m) x ↔ HasL l x ∨ HasL m x := by
 constructor
 ·rintro ⟨u, hu, h⟩
  rcases List.mem_append.1 hu with hu | hu
  ·exact .inl ⟨u, hu, h⟩
  ·exact .inr ⟨u, hu, h⟩
 ·rintro (⟨u, hu, h⟩ | ⟨u, hu, h⟩)
  ·exact ⟨u, List.mem_append_left _ hu, h⟩
  ·exact ⟨u, List.mem_append_right _ hu, h⟩
theorem hasL_one {s : SpM} {x : Int} : HasL [s] x ↔ s.f ≤ x ∧ x < s.t := by
 rw [hasL_cons]; exact ⟨fun h => h.resolve_right HasL.nil, .inl⟩
def RowL : List SpM → Prop
 | [] => True
 | s :: l => s.f ≤ s.t ∧ (∀ u ∈ l, s.t < u.f) ∧ RowL l
def NormL (l : List SpM) : Prop := RowL l ∧ ∀ s ∈ l, s.f < s.t
theorem NormL.nil : NormL [] := ⟨trivial, fun s h => by cases h⟩
theorem NormL.tail {s : SpM} {l : List SpM} (h : NormL (s :: l)) : NormL l := ⟨h.1.2.2, fun u hu => h.2 u (List.mem_cons_of_mem _ hu)⟩
def IsSet (P : Int → Prop) (r : List SpM) : Prop := NormL r ∧ ∀ x, HasL r x ↔ P x
theorem norm_only : ∀ (a b : List SpM), NormL a → NormL b → (∀ x, HasL a x ↔ HasL b x) → a = b
 | [], [], _, _, _ => rfl
 | [], o :: b, _, hb, h => by
  have := (h o.f).2 (hasL_cons.2 (.inl ⟨Int.le_refl _, hb.2 o (by simp)⟩))
  exact absurd this HasL.nil
 | s :: a, [], ha, _, h => by
  have := (h s.f).1 (hasL_cons.2 (.inl ⟨Int.le_refl _, ha.2 s (by simp)⟩))
  exact absurd this HasL.nil
 | s :: a, o :: b, ha, hb, h => by
  have hs := ha.2 s (by simp)
  have ho := hb.2 o (by simp)
  have low : ∀ {u : SpM} {l : List SpM}, NormL (u :: l) → ∀ {x}, HasL (u :: l) x → u.f ≤ x := fun {u l} hn {x} hx => by
   rcases hasL_cons.1 hx with hx | ⟨v, hv, hx⟩
   ·exact hx.1
   ·have := hn.1.2.1 v hv
    have := hn.1.1
    omega
  have e1 : s.f = o.f := by
   have h1 := low hb ((h s.f).1 (hasL_cons.2 (.inl ⟨Int.le_refl _, hs⟩)))
   have h2 := low ha ((h o.f).2 (hasL_cons.2 (.inl ⟨Int.le_refl _, ho⟩)))
   omega
  have past : ∀ {u : SpM} {l : List SpM}, NormL (u :: l) → ¬ HasL (u :: l) u.t := fun {u l} hn hx => by
   rcases hasL_cons.1 hx with hx | ⟨v, hv, hx⟩
   ·omega
   ·have := hn.1.2.1 v hv
    omega
  have e2 : s.t = o.t := by
   rcases Int.lt_trichotomy s.t o.t with h1 | h1 | h1
   ·exact absurd ((h s.t).2 (hasL_cons.2 (.inl ⟨by omega, h1⟩))) (past ha)
   ·exact h1
   ·exact absurd ((h o.t).1 (hasL_cons.2 (.inl ⟨by omega, h1⟩))) (past hb)
  have e : s = o := by
   obtain ⟨_, _⟩ := s
   obtain ⟨_, _⟩ := o
   simp only at e1 e2
   rw [e1, e2]
  subst e
  have ht : ∀ x, HasL a x ↔ HasL b x := fun x => by
   constructor
   ·intro hx
    have hx2 := hx
    obtain ⟨v, hv, h1, h2⟩ := hx2
    have h3 := ha.1.2.1 v hv
    rcases hasL_cons.1 ((h x).1 (hasL_cons.2 (.inr hx))) with h4 | h4
    ·omega
    ·exact h4
   ·intro hx
    have hx2 := hx
    obtain ⟨v, hv, h1, h2⟩ := hx2
    have h3 := hb.1.2.1 v hv
    rcases hasL_cons.1 ((h x).2 (hasL_cons.2 (.inr hx))) with h4 | h4
    ·omega
    ·exact h4
  rw [norm_only a b ha.tail hb.tail ht]
theorem IsSet.only {P : Int → Prop} {a b : List SpM} (ha : IsSet P a) (hb : IsSet P b) : a = b := norm_only a b ha.1 hb.1 (fun x => (ha.2 x).trans (hb.2 x).symm)
theorem IsSet.congr {P Q : Int → Prop} {a : List SpM} (ha : IsSet P a) (h : ∀ x, P x ↔ Q x) : IsSet Q a := ⟨ha.1, fun x => (ha.2 x).trans (h x)⟩
theorem rowL_snoc {l : List SpM} {s : SpM} (h : RowL l) (hs : s.f ≤ s.t) (hl : ∀ u ∈ l, u.t < s.f) : RowL (l ++ [s]) := by
 induction l with
 | nil => exact ⟨hs, fun u hu => (by cases hu), trivial⟩
 | cons u l ih =>
  refine ⟨h.1, fun v hv => ?_, ih h.2.2 (fun v hv => hl v (List.mem_cons_of_mem _ hv))⟩
  rcases List.mem_append.1 hv with hv | hv
  ·exact h.2.1 v hv
  ·rw [List.mem_singleton.1 hv]; exact hl u (by simp)
theorem normL_snoc {l : List SpM} {s : SpM} (h : NormL l) (hs : s.f < s.t) (hl : ∀ u ∈ l, u.t < s.f) : NormL (l ++ [s]) := by
 refine ⟨rowL_snoc h.1 (Int.le_of_lt hs) hl, fun u hu => ?_⟩
 rcases List.mem_append.1 hu with hu | hu
 ·exact h.2 u hu
 ·rw [List.mem_singleton.1 hu]; exact hs
theorem rowL_front {l : List SpM} {s : SpM} (h : RowL (l ++ [s])) : RowL l ∧ s.f ≤ s.t ∧ ∀ u ∈ l, u.t < s.f := by
 induction l with
 | nil => exact ⟨trivial, h.1, fun u hu => (by cases hu)⟩
 | cons v l ih =>
  obtain ⟨i1, i2, i3⟩ := ih h.2.2
  refine ⟨⟨h.1, fun u hu => h.2.1 u (List.mem_append_left _ hu), i1⟩, i2, fun u hu => ?_⟩
  rcases List.mem_cons.1 hu with rfl | hu
  ·exact h.2.1 s (by simp)
  ·exact i3 u hu
theorem normL_front {l : List SpM} {s : SpM} (h : NormL (l ++ [s])) : NormL l ∧ s.f < s.t ∧ ∀ u ∈ l, u.t < s.f := by
 obtain ⟨h1, h2, h3⟩ := rowL_front h.1
 exact ⟨⟨h1, fun u hu => h.2 u (List.mem_append_left _ hu)⟩, h.2 s (by simp), h3⟩
def mergeS (l : List SpM) (s : SpM) : List SpM :=
 match l.getLast? with
 | none => l ++ [s]
 | some u => if s.f ≤ u.t then l.dropLast ++ [⟨u.f, max u.t s.t⟩] else l ++ [s]
theorem mergeS_nil (s : SpM) : mergeS [] s = [s] := rfl
theorem mergeS_snoc (l : List SpM) (u s : SpM) : mergeS (l ++ [u]) s = if s.f ≤ u.t then l ++ [⟨u.f, max u.t s.t⟩] else l ++ [u] ++ [s] := by
 unfold mergeS
 rw [List.getLast?_append]
 simp
structure Merged (d r : List SpM) : Prop where
 norm : NormL r
 has : ∀ x, HasL r x ↔ HasL d x
 low : ∀ u ∈ r, ∃ s ∈ d, u.f = s.f
theorem Merged.nil : Merged [] [] := ⟨NormL.nil, fun x => Iff.rfl, fun u h => by cases h⟩
theorem Merged.step {d r : List SpM} {s : SpM} (h : Merged d r) (hs : s.f < s.t) (hd : ∀ u ∈ d, u.f ≤ s.f) : Merged (d ++ [s]) (mergeS r s) := by
 have hlow : ∀ u ∈ r, u.f ≤ s.f := fun u hu => by
  obtain ⟨v, hv, e⟩ := h.low u hu
  rw [e]; exact hd v hv
 rcases List.eq_nil_or_concat r with rfl | ⟨l, u, rfl⟩
 ·rw [mergeS_nil]
  refine ⟨⟨⟨Int.le_of_lt hs, fun u hu => (by cases hu), trivial⟩, fun u hu => by rw [List.mem_singleton.1 hu]; exact hs⟩, fun x => ?_, fun u hu => ⟨s, by simp, by rw [List.mem_singleton.1 hu]⟩⟩
  rw [hasL_append, ← h.has x]
  exact ⟨.inr, fun h => h.resolve_left HasL.nil⟩
 ·rw [List.concat_eq_append] at *
  rw [mergeS_snoc]
  obtain ⟨n1, n2, n3⟩ := normL_front h.norm
  have hu := hlow u (by simp)
  split
  ·rename_i hle
   refine ⟨normL_snoc n1 ?_ n3, fun x => ?_, fun v hv => ?_⟩
   ·show u.f < max u.t s.t
    omega
   ·rw [hasL_append (m := [s]), ← h.has x, hasL_append, hasL_append, hasL_one, hasL_one, hasL_one]
    show HasL l x ∨ (u.f ≤ x ∧ x < max u.t s.t) ↔ (HasL l x ∨ u.f ≤ x ∧ x < u.t) ∨ s.f ≤ x ∧ x < s.t
    constructor
    ·rintro (h1 | h1)
     ·exact .inl (.inl h1)
     ·rcases Int.lt_or_le x u.t with h2 | h2
      ·exact .inl (.inr ⟨h1.1, h2⟩)
      ·exact .inr ⟨by omega, by omega⟩
    ·rintro ((h1 | h1) | h1)
     ·exact .inl h1
     ·exact .inr ⟨h1.1, by omega⟩
     ·exact .inr ⟨by omega, by omega⟩
   ·rcases List.mem_append.1 hv with hv | hv
    ·obtain ⟨y, hy, e⟩ := h.low v (List.mem_append_left _ hv)
     exact ⟨y, List.mem_append_left _ hy, e⟩
    ·obtain ⟨y, hy, e⟩ := h.low u (by simp)
     rw [List.mem_singleton.1 hv]
     exact ⟨y, List.mem_append_left _ hy, e⟩
  ·rename_i hgt
   refine ⟨normL_snoc h.norm hs (fun v hv => ?_), fun x => ?_, fun v hv => ?_⟩
   ·rcases List.mem_append.1 hv with hv | hv
    ·have := n3 v hv; omega
    ·rw [List.mem_singleton.1 hv]; omega
   ·rw [hasL_append (m := [s]), hasL_append (l := d), h.has x]
   ·rcases List.mem_append.1 hv with hv | hv
    ·obtain ⟨y, hy, e⟩ := h.low v hv
     exact ⟨y, List.mem_append_left _ hy, e⟩
    ·rw [List.mem_singleton.1 hv]; exact ⟨s, by simp, rfl⟩
theorem Merged.set {d r : List SpM} (h : Merged d r) : IsSet (HasL d) r := ⟨h.norm, h.has⟩
def glueS (l : List SpM) (s : SpM) : List SpM :=
 match l.getLast? with
 | none => l ++ [s]
 | some u => if u.t = s.f then l.dropLast ++ [⟨u.f, s.t⟩] else l ++ [s]
theorem glueS_nil (s : SpM) : glueS [] s = [s] := rfl
theorem glueS_snoc (l : List SpM) (u s : SpM) : glueS (l ++ [u]) s = if u.t = s.f then l ++ [⟨u.f, s.t⟩] else l ++ [u] ++ [s] := by
 unfold glueS
 rw [List.getLast?_append]
 simp
def Rise (e : List Int) : Prop := e.Pairwise (· < ·)
structure GlueI (P : Int → Prop) (c : Int) (r : List SpM) : Prop where
 norm : NormL r
 has : ∀ x, HasL r x ↔ P x ∧ x < c
theorem GlueI.low {P : Int → Prop} {c : Int} {r : List SpM} (h : GlueI P c r) : ∀ u ∈ r, u.t ≤ c := fun u hu => by
 have h1 := h.norm.2 u hu
 have := ((h.has (u.t - 1)).1 ⟨u, hu, by omega, by omega⟩).2
 omega
theorem GlueI.start {P : Int → Prop} {c : Int} (h : ∀ x, P x → c ≤ x) : GlueI P c [] :=
 ⟨NormL.nil, fun x => ⟨fun h => absurd h HasL.nil, fun ⟨h1, h2⟩ => by have := h x h1; omega⟩⟩
theorem GlueI.skip {P : Int → Prop} {c d : Int} {r : List SpM} (h : GlueI P c r) (hcd : c < d) (hc : ∀ x, c ≤ x → x < d → ¬ P x) : GlueI P d r :=
 ⟨h.norm, fun x => by
  rw [h.has x]
  constructor
  ·rintro ⟨h1, h2⟩; exact ⟨h1, by omega⟩
  ·rintro ⟨h1, h2⟩
   refine ⟨h1, ?_⟩
   rcases Int.lt_or_le x c with h3 | h3
   ·exact h3
   ·exact absurd h1 (hc x h3 h2)⟩
theorem GlueI.step {P : Int → Prop} {c d : Int} {r : List SpM} (h : GlueI P c r) (hcd : c < d) (hc : ∀ x, c ≤ x → x < d → P x) : GlueI P d (glueS r ⟨c, d⟩) := by
 have hlow := h.low
 have key : ∀ x, (P x ∧ x < c) ∨ (c ≤ x ∧ x < d) ↔ P x ∧ x < d := fun x => by
  constructor
  ·rintro (⟨h1, h2⟩ | ⟨h1, h2⟩)
   ·exact ⟨h1, by omega⟩
   ·exact ⟨hc x h1 h2, h2⟩
  ·rintro ⟨h1, h2⟩
   rcases Int.lt_or_le x c with h3 | h3
   ·exact .inl ⟨h1, h3⟩
   ·exact .inr ⟨h3, h2⟩
 rcases List.eq_nil_or_concat r with rfl | ⟨l, u, rfl⟩
 ·rw [glueS_nil]
  refine ⟨⟨⟨Int.le_of_lt hcd, fun u hu => (by cases hu), trivial⟩, fun u hu => by rw [List.mem_singleton.1 hu]; exact hcd⟩, fun x => ?_⟩
  rw [hasL_one, ← key x, ← h.has x]
  exact ⟨.inr, fun h => h.resolve_left HasL.nil⟩
 ·rw [List.concat_eq_append] at *
  rw [glueS_snoc]
  obtain ⟨n1, n2, n3⟩ := normL_front h.norm
  have hu := hlow u (by simp)
  split
  ·rename_i he
   have he : u.t = c := he
   refine ⟨normL_snoc n1 (by show u.f < d; omega) n3, fun x => ?_⟩
   rw [← key x, ← h.has x, hasL_append, hasL_append, hasL_one, hasL_one]
   show HasL l x ∨ (u.f ≤ x ∧ x < d) ↔ (HasL l x ∨ u.f ≤ x ∧ x < u.t) ∨ c ≤ x ∧ x < d
   constructor
   ·rintro (h1 | h1)
    ·exact .inl (.inl h1)
    ·rcases Int.lt_or_le x c with h2 | h2
     ·exact .inl (.inr ⟨h1.1, by omega⟩)
     ·exact .inr ⟨h2, h1.2⟩
   ·rintro ((h1 | h1) | h1)
    ·exact .inl h1
    ·exact .inr ⟨h1.1, by omega⟩
    ·exact .inr ⟨by omega, h1.2⟩
  ·rename_i hne
   have hne : ¬ u.t = c := hne
   refine ⟨normL_snoc h.norm hcd (fun v hv => ?_), fun x => ?_⟩
   ·show v.t < c
    rcases List.mem_append.1 hv with hv | hv
    ·have := n3 v hv; omega
    ·rw [List.mem_singleton.1 hv]; omega
   ·rw [hasL_append (m := [_]), h.has x, hasL_one]
    exact key x
theorem GlueI.done {P : Int → Prop} {c : Int} {r : List SpM} (h : GlueI P c r) (hP : ∀ x, P x → x < c) : IsSet P r :=
 ⟨h.norm, fun x => (h.has x).trans ⟨fun h => h.1, fun h => ⟨h, hP x h⟩⟩⟩
structure PutI (l : List Int) (n : Int) (k : Nat) (out : List Int) (done : Bool) : Prop where
 rise : Rise out
 mem : ∀ x, x ∈ out ↔ x ∈ l.take k ∨ (done = true ∧ x = n)
 yet : done = false → ∀ x ∈ l.take k, x < n
 past : done = true → ∃ x ∈ l.take k, n ≤ x
theorem PutI.start (l : List Int) (n : Int) : PutI l n 0 [] false :=
 ⟨List.Pairwise.nil, fun x => by simp, fun _ x hx => by simp at hx, fun h => by cases h⟩
theorem rise_snoc {l : List Int} {x : Int} (h : Rise l) (hx : ∀ y ∈ l, y < x) : Rise (l ++ [x]) :=
 List.pairwise_append.2 ⟨h, List.pairwise_singleton _ _, fun a ha b hb => by rw [List.mem_singleton.1 hb]; exact hx a ha⟩
theorem take_mem {l : List Int} {k : Nat} (h : k < l.length) (x : Int) : x ∈ l.take (k + 1) ↔ x ∈ l.take k ∨ x = l[k] := by
 rw [List.take_succ_eq_append_getElem h, List.mem_append, List.mem_singleton]
theorem rise_at {l : List Int} (h : Rise l) {k : Nat} (hk : k < l.length) : ∀ y ∈ l.take k, y < l[k] := fun y hy => by
 have h2 : Rise (l.take (k + 1)) := h.sublist (List.take_sublist _ _)
 rw [List.take_succ_eq_append_getElem hk] at h2
 exact (List.pairwise_append.1 h2).2.2 y hy l[k] (by simp)
theorem PutI.plain {l : List Int} {n : Int} {k : Nat} {out : List Int} {done : Bool} (h : PutI l n k out done) (hr : Rise l) (hk : k < l.length) (hd : done = true ∨ l[k] < n ∨ l[k] = n) :
  PutI l n (k + 1) (out ++ [l[k]]) (done || decide (l[k] = n)) := by
 have hlt := rise_at hr hk
 have hout : ∀ y ∈ out, y < l[k] := fun y hy => by
  rcases (h.mem y).1 hy with h1 | ⟨h1, h2⟩
  ·exact hlt y h1
  ·obtain ⟨z, hz, h3⟩ := h.past h1
   have := hlt z hz
   omega
 refine ⟨rise_snoc h.rise hout, fun x => ?_, fun hf x hx => ?_, fun ht => ?_⟩
 ·rw [List.mem_append, h.mem x, take_mem hk, List.mem_singleton]
  cases done with
  | true => simp; exact ⟨fun h => by rcases h with (h | h) | h <;> simp [h], fun h => by rcases h with (h | h) | h <;> simp [h]⟩
  | false =>
   by_cases he : l[k] = n
   ·simp only [Bool.false_or, decide_eq_true he, true_and, Bool.false_eq_true, false_and, or_false]
    constructor
    ·rintro (h1 | h1)
     ·exact .inl (.inl h1)
     ·exact .inl (.inr h1)
    ·rintro ((h1 | h1) | h1)
     ·exact .inl h1
     ·exact .inr h1
     ·exact .inr (by rw [h1, he])
   ·simp [he]
 ·cases done with
  | true => simp at hf
  | false =>
   simp only [Bool.false_or, decide_eq_false_iff_not] at hf
   rcases (take_mem hk x).1 hx with h1 | h1
   ·exact h.yet rfl x h1
   ·rw [h1]; rcases hd with h2 | h2 | h2
    ·cases h2
    ·exact h2
    ·exact absurd h2 hf
 ·cases done with
  | true =>
   obtain ⟨z, hz, h3⟩ := h.past rfl
   exact ⟨z, (take_mem hk z).2 (.inl hz), h3⟩
  | false =>
   simp only [Bool.false_or, decide_eq_true_eq] at ht
   exact ⟨l[k], (take_mem hk _).2 (.inr rfl), by omega⟩
theorem PutI.put {l : List Int} {n : Int} {k : Nat} {out : List Int} (h : PutI l n k out false) (hr : Rise l) (hk : k < l.length) (hd : n < l[k]) :
  PutI l n (k + 1) (out ++ [n] ++ [l[k]]) true := by
 have hlt := rise_at hr hk
 have hout : ∀ y ∈ out, y < n := fun y hy => by
  rcases (h.mem y).1 hy with h1 | ⟨h1, h2⟩
  ·exact h.yet rfl y h1
  ·cases h1
 refine ⟨rise_snoc (rise_snoc h.rise hout) (fun y hy => ?_), fun x => ?_, fun hf => (by cases hf), fun _ => ⟨l[k], (take_mem hk _).2 (.inr rfl), by omega⟩⟩
 ·rcases List.mem_append.1 hy with h1 | h1
  ·have := hout y h1; omega
  ·rw [List.mem_singleton.1 h1]; exact hd
 ·rw [List.mem_append, List.mem_append, h.mem x, take_mem hk, List.mem_singleton, List.mem_singleton]
  simp only [Bool.false_eq_true, false_and, or_false, true_and]
  constructor
  ·rintro ((h1 | h1) | h1)
   ·exact .inl (.inl h1)
   ·exact .inr h1
   ·exact .inl (.inr h1)
  ·rintro ((h1 | h1) | h1)
   ·exact .inl (.inl h1)
   ·exact .inr h1
   ·exact .inl (.inr h1)
theorem PutI.done {l : List Int} {n : Int} {out : List Int} {done : Bool} (h : PutI l n l.length out done) : Rise (if done then out else out ++ [n]) ∧ ∀ x, x ∈ (if done then out else out ++ [n]) ↔ x ∈ l ∨ x = n := by
 have ht : l.take l.length = l := List.take_of_length_le (Nat.le_refl _)
 cases done with
 | true =>
  refine ⟨h.rise, fun x => ?_⟩
  have := h.mem x
  rw [ht] at this
  simpa using this
 | false =>
  have hy := h.yet rfl
  rw [ht] at hy
  refine ⟨rise_snoc h.rise (fun y hm => ?_), fun x => ?_⟩
  ·have := (h.mem y).1 hm
   rw [ht] at this
   simp only [Bool.false_eq_true, false_and, or_false] at this
   exact hy y this
  ·have := h.mem x
   rw [ht] at this
   simp only [Bool.false_eq_true, false_and, or_false] at this
   simp [this]
def IsEnds (l : List SpM) (e : List Int) : Prop := Rise e ∧ ∀ x, x ∈ e ↔ ∃ s ∈ l, x = s.f ∨ x = s.t
theorem IsEnds.nil : IsEnds [] [] := ⟨List.Pairwise.nil, fun x => by simp⟩
theorem IsEnds.snoc {l : List SpM} {s : SpM} {e e1 e2 : List Int} (h : IsEnds l e) (h1 : Rise e1 ∧ ∀ x, x ∈ e1 ↔ x ∈ e ∨ x = s.f) (h2 : Rise e2 ∧ ∀ x, x ∈ e2 ↔ x ∈ e1 ∨ x = s.t) : IsEnds (l ++ [s]) e2 := by
 refine ⟨h2.1, fun x => ?_⟩
 rw [h2.2, h1.2, h.2]
 constructor
 ·rintro ((⟨u, hu, h3⟩ | h3) | h3)
  ·exact ⟨u, List.mem_append_left _ hu, h3⟩
  ·exact ⟨s, by simp, .inl h3⟩
  ·exact ⟨s, by simp, .inr h3⟩
 ·rintro ⟨u, hu, h3⟩
  rcases List.mem_append.1 hu with hu | hu
  ·exact .inl (.inl ⟨u, hu, h3⟩)
  ·rw [List.mem_singleton.1 hu] at h3
   rcases h3 with h3 | h3
   ·exact .inl (.inr h3)
   ·exact .inr h3
theorem rise_between {e : List Int} (h : Rise e) {k : Nat} (hk : k + 1 < e.length) {y : Int} (hy : y ∈ e) : y ≤ e[k] ∨ e[k + 1] ≤ y := by
 obtain ⟨i, hi, rfl⟩ := List.getElem_of_mem hy
 have hp := List.pairwise_iff_getElem.1 h
 rcases Nat.lt_or_ge i (k + 1) with h1 | h1
 ·rcases Nat.lt_or_ge i k with h2 | h2
  ·exact .inl (Int.le_of_lt (hp i k (by omega) (by omega) h2))
  ·obtain rfl : i = k := by omega
   exact .inl (Int.le_refl _)
 ·rcases Nat.lt_or_ge (k + 1) i with h2 | h2
  ·exact .inr (Int.le_of_lt (hp (k + 1) i (by omega) (by omega) h2))
  ·obtain rfl : i = k + 1 := by omega
   exact .inr (Int.le_refl _)
theorem IsEnds.cell {l m : List SpM} {e : List Int} (h : IsEnds l e) (hm : ∀ s ∈ m, s ∈ l) {k : Nat} (hk : k + 1 < e.length) {x : Int} (h1 : e[k] ≤ x) (h2 : x < e[k + 1]) : HasL m x ↔ HasL m e[k] := by
 constructor
 ·rintro ⟨s, hs, h3, h4⟩
  refine ⟨s, hs, ?_, by omega⟩
  rcases rise_between h.1 hk ((h.2 s.f).2 ⟨s, hm s hs, .inl rfl⟩) with h5 | h5
  ·exact h5
  ·omega
 ·rintro ⟨s, hs, h3, h4⟩
  refine ⟨s, hs, by omega, ?_⟩
  rcases rise_between h.1 hk ((h.2 s.t).2 ⟨s, hm s hs, .inr rfl⟩) with h5 | h5
  ·omega
  ·omega
theorem IsEnds.first {l m : List SpM} {e : List Int} (h : IsEnds l e) (hm : ∀ s ∈ m, s ∈ l) {x : Int} (hx : HasL m x) : ∃ h0 : 0 < e.length, e[0] ≤ x := by
 obtain ⟨s, hs, h3, h4⟩ := hx
 obtain ⟨i, hi, he⟩ := List.getElem_of_mem ((h.2 s.f).2 ⟨s, hm s hs, .inl rfl⟩)
 refine ⟨by omega, ?_⟩
 rcases Nat.eq_zero_or_pos i with h5 | h5
 ·subst h5; omega
 ·have := List.pairwise_iff_getElem.1 h.1 0 i (by omega) hi h5
  omega
theorem IsEnds.last {l m : List SpM} {e : List Int} (h : IsEnds l e) (hm : ∀ s ∈ m, s ∈ l) {x : Int} (hx : HasL m x) {k : Nat} (hk : k + 1 = e.length) : x < e[k] := by
 obtain ⟨s, hs, h3, h4⟩ := hx
 obtain ⟨i, hi, he⟩ := List.getElem_of_mem ((h.2 s.t).2 ⟨s, hm s hs, .inr rfl⟩)
 rcases Nat.lt_or_ge i k with h5 | h5
 ·have := List.pairwise_iff_getElem.1 h.1 i k hi (by omega) h5
  omega
 ·obtain rfl : i = k := by omega
  omega
def tB (s : SpM) : Bool := decide (s.f < s.t)
theorem per_len (l : List EnM) (w u : ByteArray) : (perS l w u).length ≤ l.length := by
 unfold perS
 rw [List.length_map]
 exact List.length_filter_le _ _
theorem ofE_other {e : EnM} {w u w' u' : ByteArray} (h : e.w = w ∧ e.u = u) (hne : ¬ (w = w' ∧ u = u')) : ofE w' u' e = false := by
 cases hc : ofE w' u' e with
 | false => rfl
 | true =>
  obtain ⟨h1, h2⟩ := ofE_iff.1 hc
  exact absurd ⟨h.1.symm.trans h1, h.2.symm.trans h2⟩ hne
theorem end_other {e : EnM} {w u w' u' : ByteArray} {a : Int} (h : e.w = w ∧ e.u = u) (hne : ¬ (w = w' ∧ u = u')) : (endS e a).filter (ofE w' u') = [] := by
 unfold endS
 split
 ·rfl
 ·rw [List.filter_cons_of_neg (by rw [ofE_other (e := ⟨e.w, e.u, e.f, a⟩) h hne]; exact Bool.false_ne_true)]
  rfl
theorem without_of {l : List EnM} {s w u : ByteArray} (h : w = s ∨ u = s) : (withoutS l s).filter (ofE w u) = [] := by
 rw [List.filter_eq_nil_iff]
 intro e he hc
 obtain ⟨h1, h2⟩ := ofE_iff.1 hc
 have h3 := (List.mem_filter.1 he).2
 rw [Bool.and_eq_true, decide_eq_true_iff, decide_eq_true_iff, h1, h2] at h3
 rcases h with h | h
 ·exact h3.1 h
 ·exact h3.2 h
theorem grant_perm (l : List EnM) (e : EnM) : (grantS l e).Perm (e :: l) := by
 unfold grantS
 refine List.perm_middle.trans ?_
 rw [List.take_append_drop]
theorem revoke_mid {A B : List EnM} {e : EnM} {w u : ByteArray} (hA : ∀ x ∈ A, infE w u x = false) (he : infE w u e = true) (a : Int) : revokeS (A ++ e :: B) w u a = A ++ (endS e a ++ B) := by
 have hF : IsFirst (infE w u) (A ++ e :: B) A.length := by
  refine ⟨by simp, fun i hi hik => ?_, fun hk => ?_⟩
  ·rw [List.getElem_append_left hik]
   exact hA _ (List.getElem_mem hik)
  ·rw [List.getElem_append_right (Nat.le_refl _)]
   simpa using he
 have hk : A.length < (A ++ e :: B).length := by simp
 rw [revoke_at hF, cut_at hk]
 have h1 : (A ++ e :: B)[A.length] = e := by
  rw [List.getElem_append_right (Nat.le_refl _)]
  simp
 rw [h1]
 have h2 : (A ++ e :: B).take A.length = A := List.take_left ..
 have h3 : (A ++ e :: B).drop (A.length + 1) = B := by
  rw [← List.drop_drop, List.drop_left]
  rfl
 rw [h2, h3]
end Go.Proofs.YtmfpjapiijgdgaaGreat
namespace Go.Proofs.YtmfpjapiijgdgaaGreat
open Go.RowKit
set_option linter.unusedVariables false
set_option maxRecDepth 100000
set_option maxRecDepth 100000
def sps (l : List SpM) : List Value := l.flatMap fun s => [.int .i64 s.f, .int .i64 s.t]
theorem sps_cons (s : SpM) (l : List SpM) : sps (s :: l) = [.int .i64 s.f, .int .i64 s.t] ++ sps l := by simp [sps]
theorem sps_len (l : List SpM) : (sps l).length = l.length * 2 := by
 induction l with
 | nil => rfl
 | cons e l ih => rw [sps_cons, List.length_append, ih, List.length_cons]; simp only [List.length_cons, List.length_nil]; omega
theorem sps_append (l m : List SpM) : sps (l ++ m) = sps l ++ sps m := by simp [sps]
theorem sps_snoc (l : List SpM) (x : SpM) : sps (l ++ [x]) = sps l ++ [.int .i64 x.f, .int .i64 x.t] := by simp [sps]
theorem sps_take (l : List SpM) (j : Nat) (h : j < l.length) : sps (l.take (j + 1)) = sps (l.take j) ++ [.int .i64 l[j].f, .int .i64 l[j].t] := by
 rw [List.take_succ_eq_append_getElem h]; exact sps_snoc _ _
theorem sps_get (l : List SpM) : ∀ (k : Nat) (h : k < l.length), (sps l)[k * 2]? = some (.int .i64 l[k].f) ∧ (sps l)[k * 2 + 1]? = some (.int .i64 l[k].t) := by
 induction l with
 | nil => intro k h; exact absurd h (by simp)
 | cons x l ih =>
  intro k h
  rw [sps_cons]
  cases k with
  | zero => exact ⟨rfl, rfl⟩
  | succ k =>
   have := ih k (by simpa using h)
   rw [show (k + 1) * 2 = k * 2 + 1 + 1 by omega]
   simpa using this
def SpSl (w : World) (a : Option Addr) (l : List SpM) : Prop := ∀ k (h : k < l.length), ∃ b off, a = some ⟨b, off, none⟩ ∧ b < w.heap.size ∧
 w.cell? ⟨b, off + k * 2, none⟩ = some (.int .i64 l[k].f) ∧ w.cell? ⟨b, off + k * 2 + 1, none⟩ = some (.int .i64 l[k].t)
theorem SpSl.nil (w : World) (a : Option Addr) : SpSl w a [] := fun k h => absurd h (by simp)
theorem SpSl.below {w w' : World} {a : Option Addr} {l : List SpM} (h : SpSl w a l) (hb : Below w.heap.size w w') : SpSl w' a l := fun k hk => by
 obtain ⟨b, off, e, hlt, h0, h1⟩ := h k hk
 exact ⟨b, off, e, Nat.lt_of_lt_of_le hlt hb.size, (hb.cell (p := ⟨b, off + k * 2, none⟩) hlt).trans h0, (hb.cell (p := ⟨b, off + k * 2 + 1, none⟩) hlt).trans h1⟩
theorem SpSl.at_ {w : World} {a : Option Addr} {l : List SpM} (h : SpSl w a l) {k : Nat} (hk : k < l.length) : ∃ b off, a = some ⟨b, off, none⟩ ∧ b < w.heap.size ∧
  w.cell? ⟨b, off + k * 2, none⟩ = some (.int .i64 l[k].f) ∧ w.cell? ⟨b, off + k * 2 + 1, none⟩ = some (.int .i64 l[k].t) := h k hk
theorem own_sp {w : World} {B e : Nat} {v : Value} {l : List SpM} (h : w.ownsRow B e 2 v l.length (sps l)) : ∃ a c, v = .slice a l.length c ∧ l.length ≤ c ∧ SpSl w a l := by
 rcases h.2 with ⟨rfl, hn⟩ | ⟨g, cap, cur, rfl, hg, hh, hn, hc, hsz, ht⟩
 ·have : l = [] := List.eq_nil_of_length_eq_zero hn
  subst this
  exact ⟨none, 0, rfl, Nat.le_refl _, SpSl.nil _ _⟩
 ·refine ⟨_, cap, rfl, hn, fun k hk => ⟨g, 0, rfl, ?_, ?_, ?_⟩⟩
  ·rcases Nat.lt_or_ge g w.heap.size with h1 | h1
   ·exact h1
   ·rw [Array.getElem?_eq_none h1] at hh; cases hh
  ·have hg := (sps_get l k hk).1
   rw [← ht, List.getElem?_take, if_pos (by omega), Array.getElem?_toList] at hg
   rw [cell_of_row w g _ cur e (0, 0) hh, Nat.zero_add, hg]
  ·have hg := (sps_get l k hk).2
   rw [← ht, List.getElem?_take, if_pos (by omega), Array.getElem?_toList] at hg
   rw [cell_of_row w g _ cur e (0, 0) hh, Nat.zero_add, hg]
theorem two_one (a b : Int) : ∀ u ∈ [Value.int .i64 a, .int .i64 b], u.oneCell' = true := by
 intro u hu
 simp only [List.mem_cons, List.mem_nil_iff, or_false] at hu
 rcases hu with rfl | rfl <;> rfl
theorem infoSpan : (Tryz.prog.info? 90).map (fun i => (i.zero, i.size, i.bytes)) = some (some (.agg #[.int .i64 0, .int .i64 0]), 2, 16) := by kernel_rfl
theorem infoSpanR : (Tryz.prog.info? 106).map (fun i => (i.zero, i.size, i.bytes)) = some (some (.agg #[.int .i64 0, .int .i64 0]), 2, 16) := by kernel_rfl
def spV (s : SpM) : Value := .agg #[.int .i64 s.f, .int .i64 s.t]
theorem shas_any (f t x : Int) (w : World) : Calls Tryz.prog 60 #[.agg #[.int .i64 f, .int .i64 t], .int .i64 x] w fun e w' => e = .returned (.bool (decide (f ≤ x) && decide (x < t))) ∧ Below w.heap.size w w' := by
 have HBB := Lib.hid (fun o => (Below.refl w.heap.size w).alloc (Nat.le_refl _) o)
 by_cases h : f ≤ x
 ·go_enter Tryz.func60, Tryz.ntmps60
  go_wp2
  go_ret
  exact ⟨retB (by simp [h]), HBB.out _⟩
 ·go_enter Tryz.func60, Tryz.ntmps60
  go_wp2
  go_ret
  exact ⟨retB (by simp; omega), HBB.out _⟩
theorem cells2 {g : Nat} {a b : Value} {t : TypeId} {W : World} (h : W.heap[g]? = some (.cells #[a, b] t (0, 0))) : W.cell? ⟨g, 0, none⟩ = some a ∧ W.cell? ⟨g, 1, none⟩ = some b := ⟨cell_of_row _ _ _ _ _ _ h, cell_of_row _ _ _ _ _ _ h⟩
end Go.Proofs.YtmfpjapiijgdgaaGreat
namespace Go.Proofs.YtmfpjapiijgdgaaGreat
open Go.RowKit Go.Sort Go.Proofs
set_option linter.unusedVariables false
set_option maxRecDepth 100000
set_option maxRecDepth 100000
def encS (s : SpM) : List Value := [.int .i64 s.f, .int .i64 s.t]
def cfS (x y : SpM) : Int := Lib.compareInt x.f y.f
theorem ltS (x y : SpM) : ltOf cfS x y = decide (x.f < y.f) := by
 unfold ltOf cfS Lib.compareInt
 by_cases h1 : x.f < y.f
 ·simp [h1]
 ·by_cases h2 : y.f < x.f <;> simp [h1, h2]
theorem swoS : SWO (ltOf cfS) where
 irrefl x := by rw [ltS]; simp
 trans x y z h1 h2 := by rw [ltS] at *; simp at *; omega
 ntrans x y z h1 h2 := by rw [ltS] at *; simp at *; omega
set_option maxHeartbeats 1000000 in
theorem closure_any (x y : SpM) (W : World) : Calls Tryz.prog 210 #[.agg #[.int .i64 x.f, .int .i64 x.t], .agg #[.int .i64 y.f, .int .i64 y.t]] W fun e w' => e = .returned (.int .i64 (cfS x y)) ∧ ∃ q os', w' = grow (W.drewN q) os' := by
 have hcon := fun W' => AnyG.cmp_Compare_int Tryz.laysCompare x.f y.f W'
 change ∀ W', Calls Tryz.prog 168 _ _ _ at hcon
 unfold cfS
 generalize Lib.compareInt x.f y.f = r at hcon ⊢
 go_enter Tryz.func210, Tryz.ntmps210
 go_wp2_with (go_at_call 168; refine (hcon _).mono ?_; rintro e w' ⟨rfl, rfl⟩)
 go_ret
 exact ⟨rfl, 0, _, by rw [alloc_eq_grow, alloc_eq_grow, grow_grow]; rfl⟩
theorem flat_sps (l : List SpM) (t : Nat) (h : t < l.length * 2) : (sps l)[t]? = some ((flatK encS 2 l.toArray)[t]!) := by
 rw [get_flatK encS 2 l.toArray t (by simpa using h)]
 have hk : t / 2 < l.length := by omega
 have hd : (t = t / 2 * 2 ∧ t % 2 = 0) ∨ (t = t / 2 * 2 + 1 ∧ t % 2 = 1) := by omega
 obtain ⟨g1, g2⟩ := sps_get l (t / 2) hk
 have he : l.toArray[t / 2]! = l[t / 2] := by simp [hk]
 rw [he]
 rcases hd with ⟨h1, h2⟩ | ⟨h1, h2⟩
 ·rw [← h1] at g1
  rw [h2, g1]
  rfl
 ·rw [← h1] at g2
  rw [h2, g2]
  rfl
theorem heap_sortedS {w : World} {g n : Nat} {os : Array Obj} {cur : Array Value} {e : TypeId} {fr : Nat × Nat} (d : Array SpM) (hb : w.heap[g]? = some (.cells cur e fr)) :
  (sortWorldK encS 2 w g 0 n d os).heap[g]? = some (.cells (putCells id 0 (flatK encS 2 d) cur) e fr) := by
 have hg : g < w.heap.size := (Array.getElem?_eq_some_iff.1 hb).1
 unfold sortWorldK putRowK
 rw [heap_grow_old _ _ (by simpa using hg)]
 simp [putRow, mapBlock, Sort.ahead, Array.getElem?_modify, hb, onCells]
theorem grownBy_sortedS {w : World} {g n : Nat} {os : Array Obj} (d : Array SpM) : w.grownBy (sortWorldK encS 2 w g 0 n d os) (some g) := by
 unfold sortWorldK putRowK
 refine ⟨rfl, rfl, rfl, by simp, fun k hk hne => ?_⟩
 rw [heap_grow_old _ _ (by simpa using hk)]
 have : g ≠ k := fun e => hne (by rw [e])
 simp [putRow, mapBlock, Sort.ahead, Array.getElem?_modify, this]
theorem take_putS (cur : Array Value) (m : List SpM) (h : m.length * 2 ≤ cur.size) : (putCells id 0 (flatK encS 2 m.toArray) cur).toList.take (m.length * 2) = sps m := by
 apply List.ext_getElem?
 intro j
 by_cases hj : j < m.length * 2
 ·rw [List.getElem?_take_of_lt hj, Array.getElem?_toList, flat_sps m j hj]
  simp [putCells, hj, show j < cur.size by omega]
 ·rw [List.getElem?_take_eq_none (by omega), List.getElem?_eq_none (by rw [sps_len]; omega)]
set_option maxHeartbeats 2000000 in
theorem sort_any (B : Nat) (v : Value) (l : List SpM) (w : World) (hB : B ≤ w.heap.size) (ho : w.ownsRow B 90 2 v l.length (sps l)) (hl : l.length ≤ 1000000) :
  Calls Tryz.prog 209 #[v, .func (.func 210) #[] #[]] w fun e w' => e = .returned (.tuple #[]) ∧ ∃ m : List SpM, m.Perm l ∧ m.Pairwise (fun a b => a.f ≤ b.f) ∧ w'.ownsRow B 90 2 v m.length (sps m) ∧ Below B w w' := by
 cases hll : l with
 | nil =>
  subst hll
  obtain ⟨a, c, rfl, hc, _⟩ := own_sp ho
  refine (AnyF.slices_SortFunc_none Tryz.laysSortFunc a c _ w).mono ?_
  rintro e w' ⟨rfl, rfl⟩
  exact ⟨rfl, [], List.Perm.refl _, List.Pairwise.nil, ho, Below.refl _ _⟩
 | cons x l' =>
  rw [← hll]
  rcases ho.2 with ⟨_, h0⟩ | ⟨g, cap, cur, rfl, hg, hb, hn, hcm, hsz, ht⟩
  ·rw [hll] at h0; simp at h0
  have hH : HoldsK encS 2 w g 0 l.toArray := fun j hj => by
   have hj' : j < l.length * 2 := by simpa using hj
   rw [Nat.zero_add]
   exact ⟨by rw [ho.cellAt j hj', flat_sps l j hj']; rfl, ho.frozenAt j⟩
  have eg : ∀ args w, (callFunc 210 args).run Tryz.prog w = .ok (.enter 210 args) w := enters_of Tryz.func210 (by kernel_rfl) rfl
  have hcon := AnyQ.slices_SortFunc Tryz.laysSortFunc 2 Tryz.isAgg90 Tryz.sizeOf90 encS (fun _ => rfl) (fun x v hv => by simp [encS] at hv; rcases hv with rfl | rfl <;> rfl) cfS swoS 210 #[] g 0 cap l.toArray w eg (fun _ _ _ _ x y => closure_any x y _) hH (Array.getElem?_eq_some_iff.1 hb).1 (by simp; omega)
  change Calls Tryz.prog 209 #[.slice (some ⟨g, 0, none⟩) l.length cap, _] _ _ at hcon
  refine hcon.mono ?_
  rintro e w' ⟨rfl, d', n, os, hp, hs, rfl⟩
  have hsize : d'.size = l.length := by simpa using hp.1
  have hml : d'.toList.length = l.length := by simpa using hsize
  have hpm : d'.toList.Perm l := by
   have h := hp.2.2
   simpa [Array.extract_eq_self_of_le, hsize] using h
  have hd : d'.toList.toArray = d' := by simp
  refine ⟨rfl, d'.toList, hpm, ?_, ?_, app_below (Below.refl _ _) hB ho (grownBy_sortedS d')⟩
  ·rw [List.pairwise_iff_getElem]
   intro i j hi hj hij
   have h := hs i j (Nat.zero_le _) hij (by simpa [hsize] using hj)
   rw [ltS] at h
   simp at hi hj
   simp [hi, hj] at h
   simpa using h
  ·rw [hml]
   refine ⟨by rw [sps_len, hml], .inr ⟨g, cap, _, rfl, hg, heap_sortedS d' hb, hn, hcm, by simp [putCells, hsz], ?_⟩⟩
   have := take_putS cur d'.toList (by rw [hml, hsz]; exact Nat.mul_le_mul_right _ hn)
   rw [hd, hml] at this
   exact this
end Go.Proofs.YtmfpjapiijgdgaaGreat
namespace Go.Proofs.YtmfpjapiijgdgaaGreat
open Go.RowKit
set_option linter.unusedVariables false
set_option maxRecDepth 100000
set_option maxRecDepth 100000
theorem sizeSpR (W : World) : (sizeOf (Tryz.prog.elem 74)).run Tryz.prog W = .ok 2 W := by rfl
theorem add_zero' (a : Addr) : a.add 0 = a := by unfold Addr.add; rw [if_pos rfl]
theorem glue_front (a : Option Addr) (N c h : Nat) (hc : h ≤ c) (W : World) : (Instr.slice 74 (.slice a N c) none (some (.int .i64 (h : Int))) none).run Tryz.prog W = .ok (.slice a h c) W := by
 rw [run_slice_h W 74 a N c (by kernel_rfl) .i64 h (by omega) (by omega), sizeSpR]
 show Result.ok (sliced a 0 h c 2) W = _
 unfold sliced
 congr 2
 split
 ·rfl
 ·cases a
  ·rfl
  ·simp [add_zero']
structure GlA (W0 W : World) (b : Nat) : Prop where
 own : W.ownsRow W0.heap.size 106 2 (.slice (some ⟨b, 0, none⟩) 0 0) 0 []
 frame : Below W0.heap.size W0 W
theorem GlA.size {W0 W : World} {b : Nat} (h : GlA W0 W b) : W0.heap.size ≤ W.heap.size := h.frame.size
theorem far_news {W w2 : World} {b k : Nat} {xs : List Value} (hg : W.grownBy w2 (some b)) (hk : k < W.heap.size) (hne : k ≠ b) (h : ∀ j x, xs[j]? = some x → W.cell? ((⟨k, 0, none⟩ : Addr).add j) = some x) :
  ∀ j x, xs[j]? = some x → w2.cell? ((⟨k, 0, none⟩ : Addr).add j) = some x := fun j x hx => by
 have hb : ∀ j, ((⟨k, 0, none⟩ : Addr).add j).block = k := fun j => by unfold Addr.add; split <;> rfl
 rw [hg.cell_far _ (by rw [hb]; exact hk) (by rw [hb]; intro e; exact hne (Option.some.inj e))]
 exact h j x hx
set_option maxHeartbeats 4000000 in
theorem glue_any (B : Nat) (v : Value) (l : List SpM) (s : SpM) (w : World) (hB : B ≤ w.heap.size) (ho : w.ownsRow B 106 2 v l.length (sps l)) (hl : l.length ≤ 1000000) :
  Calls Tryz.prog 160 #[v, spV s] w fun e w' => ∃ (v' : Value), e = .returned v' ∧ w'.ownsRow B 106 2 v' (glueS l s).length (sps (glueS l s)) ∧ Below B w w' := by
 obtain ⟨i0, hi, hz0, hz1, hz2⟩ := info_parts infoSpanR
 have HO := Lib.hid ho
 rcases List.eq_nil_or_concat l with rfl | ⟨fr, u, hfu⟩
 ·rw [glueS_nil]
  obtain ⟨a, c, rfl, hc, _⟩ := own_sp ho
  clear ho
  unfold spV
  have HA1 : ∀ q, Hid (Below w.heap.size w (((w.alloc (.cells #[.int .i64 s.f, .int .i64 s.t] 106)).drewN q).alloc (.cells #[.int .i64 s.f, .int .i64 s.t] 106))) := fun q => (((Below.refl _ _).alloc (Nat.le_refl _) _).trans (Drew.below ⟨q, rfl⟩ _)).alloc (by show _ ≤ (w.alloc _).heap.size; rw [size1]; omega) _
  have HO1 := fun q => Lib.hid (own_below HO.out (HA1 q).out)
  have HS1 := fun q => Lib.hid (Nat.le_trans hB (HA1 q).out.size)
  go_enter Tryz.func160, Tryz.ntmps160
  go_wp2
  go_quiet (fail)
  go_wp2_with (at_builtin; refine wpList_append_own _ rfl (.tmp 38) (.tmp 40) 74 rfl B 106 i0 _ 2 16 Tryz.underlying74 hi hz0 hz1 hz2 rfl (by decide) _ _ _ rfl (HO1 _).out ⟨w.heap.size + 1, 0, none⟩ 1 1 [.int .i64 s.f, .int .i64 s.t] rfl rfl (news_at _ _ _ _ (by show _ = (w.alloc _).heap.size; rw [size1])) (two_one _ _) (by unfold maxLen; simp) (by simp) (HS1 _).out ?_; intro v' w2 hown' hgrow hiff)
  have HB3 := Lib.hid (app_below ((HA1 _).out.mono hB) (HS1 _).out (HO1 _).out hgrow)
  have HO3 : Hid (w2.ownsRow B 106 2 v' [s].length (sps [s])) := hown'
  clear hown' hgrow hiff
  go_wp2
  go_ret
  exact ⟨_, rfl, HO3.out, HB3.out⟩
 ·obtain rfl : l = fr ++ [u] := by rw [hfu, List.concat_eq_append]
  clear hfu
  obtain ⟨n, hn⟩ : ∃ n, n = fr.length := ⟨_, rfl⟩
  obtain ⟨N, hN⟩ : ∃ N, N = (fr ++ [u]).length := ⟨_, rfl⟩
  have hNn : N = n + 1 := by rw [hN, hn]; simp
  obtain ⟨a, cap, rfl, hcN, hsp⟩ := own_sp ho
  obtain ⟨g, off, rfl, hgw, hcx⟩ := hsp.at_ (k := n) (by rw [← hN]; omega)
  obtain rfl : off = 0 := by
   rcases ho.2 with ⟨h0, _⟩ | ⟨_, _, _, h0, _⟩
   ·cases h0
   ·cases h0; rfl
  have hcm : cap ≤ maxLen := by
   rcases ho.2 with ⟨h0, _⟩ | ⟨_, _, _, h0, _, _, _, h1, _⟩
   ·cases h0
   ·cases h0; exact h1
  have hgB : B ≤ g := (ho.lt g rfl).1
  have HCL : Hid (∀ W, Below w.heap.size w W → W.cell? ⟨g, n * 2, none⟩ = some (.int .i64 u.f) ∧ W.cell? ⟨g, n * 2 + 1, none⟩ = some (.int .i64 u.t)) := fun W hW => by
   obtain ⟨_, _, e1, _, h1, h2⟩ := (hsp.below hW).at_ (k := n) (by rw [← hN]; omega)
   cases e1
   have hx : (fr ++ [u])[n]'(by rw [← hN]; omega) = u := by subst hn; simp
   rw [hx] at h1 h2
   simp only [Nat.zero_add] at h1 h2
   exact ⟨h1, h2⟩
  have HFR : Hid (∀ W, Below w.heap.size w W → ∀ j x, (sps fr)[j]? = some x → W.cell? ((⟨g, 0, none⟩ : Addr).add j) = some x) := fun W hW j x hx => by
   refine (own_below ho hW).cells rfl j x ?_
   rw [sps_append, List.getElem?_append_left (by rcases List.getElem?_eq_some_iff.1 hx with ⟨h, _⟩; exact h)]
   exact hx
  have hNl : N ≤ 1000000 := by rw [hN]; exact hl
  have hcN' : N ≤ cap := by rw [hN]; exact hcN
  rw [← hN] at HO
  rw [← hN]
  clear ho hsp hl hcN hcx
  have HN := Lib.hid hN
  have HNL := Lib.hid hn
  clear hN hn
  unfold maxLen at hcm
  unfold spV
  rw [glueS_snoc]
  by_cases he : u.t = s.f
  ·rw [if_pos he]
   obtain ⟨c0, c1⟩ := HCL.out _ ((Below.refl w.heap.size w).alloc (Nat.le_refl _) (.cells #[.int .i64 s.f, .int .i64 s.t] 106))
   have hwr : IntKind.i64.wrap ((N : Int) - 1) = (n : Int) := by rw [IntWalk.i64_in] <;> omega
   have hb0 : (0 : Int) < (N : Int) := by omega
   have hb1 : (n : Int) < (N : Int) := by omega
   have hb2 : (0 : Int) ≤ (n : Int) := Int.natCast_nonneg _
   have hb3 : (n : Int) ≤ (cap : Int) := by omega
   have hg0 : decide (0 < N) = true := decide_eq_true (by omega)
   have hg1 : 0 < N := by omega
   have HNN := Lib.hid hNn
   have HNLE := Lib.hid hNl
   have HCN := Lib.hid hcN'
   clear hNn hNl hcN'
   go_enter Tryz.func160, Tryz.ntmps160
   go_wp2
   go_quiet (fail)
   go_wp2_with fail
   have HW0 : Hid (Below w.heap.size w ((w.alloc (.cells #[.int .i64 s.f, .int .i64 s.t] 106)).drewN nq)) := ((Below.refl _ _).alloc (Nat.le_refl _) _).trans (Drew.below ⟨nq, rfl⟩ _)
   have hP : ((w.alloc (.cells #[.int .i64 s.f, .int .i64 s.t] 106)).drewN nq).heap[w.heap.size]? = some (.cells #[.int .i64 s.f, .int .i64 s.t] 106 (0, 0)) := heap_alloc_new w _
   generalize ((w.alloc (.cells #[.int .i64 s.f, .int .i64 s.t] 106)).drewN nq) = W0 at HW0 hP ⊢
   clear c0 c1
   obtain ⟨c0, c1⟩ := HCL.out _ HW0.out
   obtain ⟨p0, p1⟩ := cells2 hP
   have HSC : Hid (∀ W, Below W0.heap.size W0 W → W.cell? ⟨g, n * 2, none⟩ = some (.int .i64 u.f) ∧ W.cell? ⟨w.heap.size, 1, none⟩ = some (.int .i64 s.t)) := fun W hW => ⟨(HCL.out _ (HW0.out.trans (hW.mono HW0.out.size))).1, (cells2 ((hW.block _ (heap_lt hP)).trans hP)).2⟩
   have HFW : Hid (∀ W, Below W0.heap.size W0 W → ∀ j x, (sps fr)[j]? = some x → W.cell? ((⟨g, 0, none⟩ : Addr).add j) = some x) := fun W hW => HFR.out W (HW0.out.trans (hW.mono HW0.out.size))
   have hX : Below W0.heap.size W0 W0.drew := (Below.refl _ _).drew
   have HAL : Hid (∀ W ob, Below W0.heap.size W0 W → Below W0.heap.size W0 (W.alloc ob)) := fun W ob h => h.alloc h.size _
   have HAS : Hid (∀ W, Below W0.heap.size W0 W → W0.heap.size ≤ (W.alloc (.cells #[.int .i64 u.f, .int .i64 s.t] 106)).heap.size) := fun W h => by rw [size1]; have := h.size; omega
   have hR : Below W0.heap.size W0 W0 := Below.refl _ _
   have hN0 : Below W0.heap.size W0 (W0.alloc (.cells #[.int .i64 u.f, .int .i64 s.t] 106)) := HAL.out _ _ hR
   have hE0 : Below W0.heap.size W0 (W0.alloc (.cells #[] 106)) := HAL.out _ _ hR
   have HG0 : Hid ((W0.alloc (.cells #[] 106)).ownsRow W0.heap.size 106 2 (.slice (some ⟨W0.heap.size, 0, none⟩) 0 0) 0 []) := World.ownsRow_lit W0 #[] 0 (Nat.le_refl _) (by unfold maxLen; omega) rfl
   have HGa : Hid (GlA W0 (W0.alloc (.cells #[] 106)).drew W0.heap.size) := ⟨HG0.out.drew, hE0.drew⟩
   have HGb : Hid (GlA W0 ((W0.alloc (.cells #[] 106)).alloc (.cells #[.int .i64 u.f, .int .i64 s.t] 106)).drew W0.heap.size) := ⟨(HG0.out.alloc _).drew, (HAL.out _ _ hE0).drew⟩
   have HGc : Hid (GlA W0 ((W0.alloc (.cells #[.int .i64 u.f, .int .i64 s.t] 106)).alloc (.cells #[] 106)).drew (W0.heap.size + 1)) := ⟨by
    have h := World.ownsRow_lit (base := W0.heap.size) (e := 106) (size := 2) (W0.alloc (.cells #[.int .i64 u.f, .int .i64 s.t] 106)) #[] 0 (by rw [size1]; omega) (by unfold maxLen; omega) rfl
    rw [size1] at h
    exact h.drew, (HAL.out _ _ hN0).drew⟩
   have HNB : Hid (∀ j x, [Value.int .i64 u.f, .int .i64 s.t][j]? = some x → ((W0.alloc (.cells #[] 106)).alloc (.cells #[.int .i64 u.f, .int .i64 s.t] 106)).drew.cell? ((⟨W0.heap.size + 1, 0, none⟩ : Addr).add j) = some x) := news_at (W0.alloc (.cells #[] 106)) _ _ _ (by rw [size1])
   have HNC : Hid (∀ j x, [Value.int .i64 u.f, .int .i64 s.t][j]? = some x → ((W0.alloc (.cells #[.int .i64 u.f, .int .i64 s.t] 106)).alloc (.cells #[] 106)).drew.cell? ((⟨W0.heap.size, 0, none⟩ : Addr).add j) = some x) := fun j x hx => by
    have hb : ((⟨W0.heap.size, 0, none⟩ : Addr).add j).block = W0.heap.size := by unfold Addr.add; split <;> rfl
    have h0 := news_at W0 #[Value.int .i64 u.f, .int .i64 s.t] 106 _ rfl j x hx
    have h1 : ((W0.alloc (.cells #[.int .i64 u.f, .int .i64 s.t] 106)).alloc (.cells #[] 106)).heap[W0.heap.size]? = (W0.alloc (.cells #[.int .i64 u.f, .int .i64 s.t] 106)).heap[W0.heap.size]? := heap_alloc_old _ _ (by rw [size1]; omega)
    exact (World.cell?_of_block (by rw [hb]; exact h1)).trans h0
   have HKB : Hid (W0.heap.size + 1 < ((W0.alloc (.cells #[] 106)).alloc (.cells #[.int .i64 u.f, .int .i64 s.t] 106)).drew.heap.size) := by unfold Hid; show _ < ((W0.alloc _).alloc _).heap.size; rw [size1, size1]; omega
   have HKC : Hid (W0.heap.size < ((W0.alloc (.cells #[.int .i64 u.f, .int .i64 s.t] 106)).alloc (.cells #[] 106)).drew.heap.size) := by unfold Hid; show _ < ((W0.alloc _).alloc _).heap.size; rw [size1, size1]; omega
   have hNa : Below W0.heap.size W0 (W0.alloc (.cells #[.int .i64 u.f, .int .i64 s.t] 106)).drew := hN0.drew
   have HLEN : Hid ((sps fr).length = n * 2) := by unfold Hid; rw [sps_len, ← HNL.out]
   have HONE : Hid (∀ x ∈ sps fr, x.oneCell' = true) := fun x hx => by
    unfold sps at hx
    obtain ⟨y, _, hy⟩ := List.mem_flatMap.1 hx
    exact two_one _ _ x hy
   have HM1 : Hid (0 + n ≤ maxLen) := by unfold Hid maxLen; have := HNN.out; have := HNLE.out; omega
   have HM2 : Hid ((0 + n) * 16 ≤ 140737488355328) := by unfold Hid; have := HNN.out; have := HNLE.out; omega
   have HM3 : Hid (0 + n + 1 ≤ maxLen) := by unfold Hid maxLen; have := HNN.out; have := HNLE.out; omega
   have HM4 : Hid ((0 + n + 1) * 16 ≤ 140737488355328) := by unfold Hid; have := HNN.out; have := HNLE.out; omega
   have HSI := glue_front (some ⟨g, 0, none⟩) N cap n (by omega)
   clear hR hN0 hE0
   go_region_held3 (fun W => W.cell? ⟨g, n * 2, none⟩ = some (.int .i64 u.f) ∧ W.cell? ⟨w.heap.size, 1, none⟩ = some (.int .i64 s.t))
    (first | with_reducible exact HSC.out _ hX | with_reducible exact HSC.out _ hZ | with_reducible exact HSC.out _ hY | with_reducible exact HSC.out _ (HAL.out _ _ hY) | with_reducible exact HSC.out _ HGa.out.frame | with_reducible exact HSC.out _ HGb.out.frame | with_reducible exact HSC.out _ HGc.out.frame | with_reducible exact HSC.out _ hNa | assumption)
    (first | (have hseen := hY; clear hseen; first | (refine step_own rfl (.tmp 26) (.tmp 36) 74 rfl W0.heap.size 106 i0 _ 2 16 Tryz.underlying74 hi hz0 hz1 hz2 rfl (by decide) v1 (0 + n) ([] ++ sps fr) rfl hown1 ⟨_, 0, none⟩ 1 1 [.int .i64 u.f, .int .i64 s.t] rfl rfl hN (two_one _ _) HM3.out HM4.out hY.size ?_; intro v3 w4 hown3 hgrow3; have hZ := app_below hY hY.size hown1 hgrow3) | (refine step_own rfl (.tmp 26) (.tmp 36) 74 rfl W0.heap.size 106 i0 _ 2 16 Tryz.underlying74 hi hz0 hz1 hz2 rfl (by decide) v1 (0 + n) ([] ++ sps fr) rfl (hown1.alloc _) ⟨w2.heap.size, 0, none⟩ 1 1 [.int .i64 u.f, .int .i64 s.t] rfl rfl (news_at _ _ _ _ rfl) (two_one _ _) HM3.out HM4.out (HAS.out _ hY) ?_; intro v3 w4 hown3 hgrow3; have hZ := app_below (HAL.out _ _ hY) (HAS.out _ hY) (hown1.alloc _) hgrow3)) | (refine step_own rfl (.tmp 21) (.tmp 25) 74 rfl W0.heap.size 106 i0 _ 2 16 Tryz.underlying74 hi hz0 hz1 hz2 rfl (by decide) _ 0 [] rfl HGa.out.own ⟨g, 0, none⟩ n cap (sps fr) rfl HLEN.out (HFW.out _ HGa.out.frame) HONE.out HM1.out HM2.out HGa.out.size ?_; intro v1 w2 hown1 hgrow; have hY := app_below HGa.out.frame HGa.out.size HGa.out.own hgrow) | (refine step_own rfl (.tmp 21) (.tmp 25) 74 rfl W0.heap.size 106 i0 _ 2 16 Tryz.underlying74 hi hz0 hz1 hz2 rfl (by decide) _ 0 [] rfl HGb.out.own ⟨g, 0, none⟩ n cap (sps fr) rfl HLEN.out (HFW.out _ HGb.out.frame) HONE.out HM1.out HM2.out HGb.out.size ?_; intro v1 w2 hown1 hgrow; have hY := app_below HGb.out.frame HGb.out.size HGb.out.own hgrow; have hN := far_news (b := W0.heap.size) (k := W0.heap.size + 1) hgrow HKB.out (Nat.succ_ne_self _) HNB.out) | (refine step_own rfl (.tmp 21) (.tmp 25) 74 rfl W0.heap.size 106 i0 _ 2 16 Tryz.underlying74 hi hz0 hz1 hz2 rfl (by decide) _ 0 [] rfl HGc.out.own ⟨g, 0, none⟩ n cap (sps fr) rfl HLEN.out (HFW.out _ HGc.out.frame) HONE.out HM1.out HM2.out HGc.out.size ?_; intro v1 w2 hown1 hgrow; have hY := app_below HGc.out.frame HGc.out.size HGc.out.own hgrow; have hN := far_news (b := W0.heap.size + 1) (k := W0.heap.size) hgrow HKC.out (Nat.ne_of_lt (Nat.lt_succ_self _)) HNC.out))
   all_goals
    have HO4 : Hid (w4.ownsRow B 106 2 v3 (fr ++ [(⟨u.f, s.t⟩ : SpM)]).length (sps (fr ++ [(⟨u.f, s.t⟩ : SpM)]))) := by
     unfold Hid
     rw [sps_snoc, List.length_append, ← HNL.out]
     have h := own_low hown3 (Nat.le_trans hB HW0.out.size)
     rw [Nat.zero_add] at h
     exact h
    have HB4 := Lib.hid ((HW0.out.mono hB).trans (hZ.mono (Nat.le_trans hB HW0.out.size)))
    clear hown3 hgrow3 hgrow hown1 hY hZ
    go_wp2
    go_ret
    exact ⟨_, rfl, HO4.out, HB4.out⟩
  ·rw [if_neg he]
   obtain ⟨c0, c1⟩ := HCL.out _ ((Below.refl w.heap.size w).alloc (Nat.le_refl _) (.cells #[.int .i64 s.f, .int .i64 s.t] 106))
   have hwr : IntKind.i64.wrap ((N : Int) - 1) = (n : Int) := by rw [IntWalk.i64_in] <;> omega
   have hb0 : (0 : Int) < (N : Int) := by omega
   have hb1 : (n : Int) < (N : Int) := by omega
   have hb2 : (0 : Int) ≤ (n : Int) := Int.natCast_nonneg _
   have hb3 : (n : Int) ≤ (cap : Int) := by omega
   have hg0 : decide (0 < N) = true := decide_eq_true (by omega)
   have hg1 : 0 < N := by omega
   have he0 : (u.t == s.f) = false := beq_eq_false_iff_ne.2 he
   have he1 : decide (u.t = s.f) = false := decide_eq_false he
   have HNN := Lib.hid hNn
   have HM3 : Hid (N + 1 ≤ maxLen) := by unfold Hid maxLen; omega
   have HM4 : Hid ((N + 1) * 16 ≤ 140737488355328) := by unfold Hid; omega
   have HA1 : ∀ q, Hid (Below w.heap.size w (((w.alloc (.cells #[.int .i64 s.f, .int .i64 s.t] 106)).drewN q).alloc (.cells #[.int .i64 s.f, .int .i64 s.t] 106))) := fun q => (((Below.refl _ _).alloc (Nat.le_refl _) _).trans (Drew.below ⟨q, rfl⟩ _)).alloc (by show _ ≤ (w.alloc _).heap.size; rw [size1]; omega) _
   have HO1 := fun q => Lib.hid (own_below HO.out (HA1 q).out)
   have HS1 := fun q => Lib.hid (Nat.le_trans hB (HA1 q).out.size)
   clear hNn hNl hcN'
   go_enter Tryz.func160, Tryz.ntmps160
   go_wp2
   go_quiet (fail)
   go_wp2_with (at_builtin; refine wpList_append_own _ rfl (.tmp 38) (.tmp 40) 74 rfl B 106 i0 _ 2 16 Tryz.underlying74 hi hz0 hz1 hz2 rfl (by decide) _ _ _ rfl (HO1 _).out ⟨w.heap.size + 1, 0, none⟩ 1 1 [.int .i64 s.f, .int .i64 s.t] rfl rfl (news_at _ _ _ _ (by show _ = (w.alloc _).heap.size; rw [size1])) (two_one _ _) HM3.out HM4.out (HS1 _).out ?_; intro v' w2 hown' hgrow hiff)
   have HB3 := Lib.hid (app_below ((HA1 _).out.mono hB) (HS1 _).out (HO1 _).out hgrow)
   have HO3 : Hid (w2.ownsRow B 106 2 v' (fr ++ [u] ++ [s]).length (sps (fr ++ [u] ++ [s]))) := by
    unfold Hid
    rw [sps_snoc, List.length_append, ← HN.out]
    exact hown'
   clear hown' hgrow hiff
   go_wp2
   go_ret
   exact ⟨_, rfl, HO3.out, HB3.out⟩
end Go.Proofs.YtmfpjapiijgdgaaGreat
namespace Go.Proofs.YtmfpjapiijgdgaaGreat
open Go.RowKit Go.Sort Go.Proofs
set_option linter.unusedVariables false
set_option maxRecDepth 100000
set_option maxRecDepth 100000
def hasS (s : SpM) : Bool := decide (s.f < s.t)
def RiseV (a : Option Addr) (B : Nat) (W : World) (v : Value) (d : List SpM) : Prop := (d = [] ∧ v = .slice a 0 0) ∨ W.ownsRow B 90 2 v d.length (sps d)
theorem RiseV.below {a : Option Addr} {B : Nat} {W W' : World} {v : Value} {d : List SpM} (h : RiseV a B W v d) (hb : Below W.heap.size W W') : RiseV a B W' v d := by
 rcases h with h | h
 ·exact .inl h
 ·exact .inr (own_below h hb)
theorem wpList_append_rise {P : Program} (w0 w : World) {ops : Array Oper} {rest : List Oper} {o : Oper} {a : Act} {Q : Exit → Act → World → Prop} (hgd : o.guard = none) (s x : Operand) (t : TypeId)
  (ho : o.op = .call { callee := .builtin .append, args := #[s, x], argTypes := #[t, t] })
  (base : Nat) (i : TypeInfo) (z : Value) (ht : P.underlying t = some (.slice 90)) (hi : P.info? 90 = some i) (hz : i.zero = some z)
  (hsize : i.size = 2) (hby : i.bytes = 16) (hzs : z.cells.size = 2)
  (v : Value) (al : Option Addr) (d : List SpM) (hs : a.eval s = v) (hv : RiseV al base w v d)
  (ad : Addr) (y : SpM) (hx : a.eval x = .slice (some ad) 1 1) (hnews : ∀ j u, [Value.int .i64 y.f, .int .i64 y.t][j]? = some u → w.cell? (ad.add j) = some u)
  (hlen : d.length + 1 ≤ 1000000) (hbase : base ≤ w.heap.size) (hB : Below base w0 w)
  (h : ∀ v' w', RiseV al base w' v' (d ++ [y]) → Below base w0 w' → wpList P ops Q rest (a.put o.dst v') w') : wpList P ops Q (o :: rest) a w := by
 rcases hv with ⟨rfl, rfl⟩ | hv
 ·refine wpList_append_grows w hgd s x t ho 90 i z 2 16 ht hi hz hsize hby hzs (by decide) al 0 0 [] hs (fun _ => ⟨rfl, rfl⟩) rfl (fun _ _ j u hu => by simp at hu) ad 1 1 [.int .i64 y.f, .int .i64 y.t] hx rfl hnews (two_one _ _) (by decide) (by unfold maxLen; omega) (by omega) fun v' w' h1 h2 => h v' w' (.inr ?_) ?_
  ·have := own_low h1 hbase
   simpa [sps] using this
  ·exact hB.trans ((Below.refl _ _).grown h2 hbase (fun j hj => by cases hj))
 ·refine wpList_append_own w hgd s x t ho base 90 i z 2 16 ht hi hz hsize hby hzs (by decide) v d.length (sps d) hs hv ad 1 1 [.int .i64 y.f, .int .i64 y.t] hx rfl hnews (two_one _ _) (by unfold maxLen; omega) (by omega) hbase fun v' w' h1 h2 _ => h v' w' (.inr ?_) (app_below hB hbase hv h2)
  rw [sps_snoc, List.length_append]
  exact h1
theorem sort_rise (a : Option Addr) (B : Nat) (v : Value) (l : List SpM) (w : World) (hB : B ≤ w.heap.size) (ho : RiseV a B w v l) (hl : l.length ≤ 1000000) :
  Calls Tryz.prog 209 #[v, .func (.func 210) #[] #[]] w fun e w' => e = .returned (.tuple #[]) ∧ ∃ m : List SpM, m.Perm l ∧ m.Pairwise (fun a b => a.f ≤ b.f) ∧ RiseV a B w' v m ∧ Below B w w' := by
 rcases ho with ⟨rfl, rfl⟩ | ho
 ·refine (AnyF.slices_SortFunc_none Tryz.laysSortFunc a 0 _ w).mono ?_
  rintro e w' ⟨rfl, rfl⟩
  exact ⟨rfl, [], List.Perm.refl _, List.Pairwise.nil, .inl ⟨rfl, rfl⟩, Below.refl _ _⟩
 ·refine (sort_any B v l w hB ho hl).mono ?_
  rintro e w' ⟨rfl, m, h1, h2, h3, h4⟩
  exact ⟨rfl, m, h1, h2, .inr h3, h4⟩
theorem RiseV.shape {a : Option Addr} {B : Nat} {W : World} {v : Value} {d : List SpM} (h : RiseV a B W v d) : ∃ x q, v = .slice x d.length q ∧ d.length ≤ q ∧ SpSl W x d := by
 rcases h with ⟨rfl, rfl⟩ | h
 ·exact ⟨a, 0, rfl, Nat.le_refl _, SpSl.nil _ _⟩
 ·exact own_sp h
set_option maxHeartbeats 4000000 in
theorem rising_any (a : Option Addr) (c : Nat) (l : List SpM) (w : World) (hr : SpSl w a l) (hl : l.length ≤ 100000) (hc : l.length ≤ c) (hcm : c ≤ maxLen) :
  Calls Tryz.prog 158 #[.slice a l.length c] w fun e w' => ∃ (x : Option Addr) (q : Nat) (m : List SpM), e = .returned (.slice x m.length q) ∧ m.Perm (l.filter hasS) ∧ m.Pairwise (fun s o => s.f ≤ o.f) ∧ SpSl w' x m ∧ Below w.heap.size w w' := by
 obtain ⟨i0, hi, hz0, hz1, hz2⟩ := info_parts infoSpan
 have HR := Lib.hid hr
 have HNO := Lib.hid none_any
 unfold maxLen at hcm
 clear hr
 go_enter Tryz.func158, Tryz.ntmps158
 go_wp2
 go_loopw [3, 10] (fun v i wr => ∃ (j : Nat) (d : List SpM), j ≤ l.length ∧ i = .int .i64 j ∧ d.length ≤ j ∧ Hid (d = (l.take j).filter hasS) ∧ Hid (RiseV a w.heap.size wr v d) ∧ Hid (Below w.heap.size w wr)) (fun _ i _ => l.length - (intOf i).toNat)
 case atStart => exact ⟨0, [], by omega, rfl, by simp, rfl, .inl ⟨rfl, rfl⟩, Below.refl _ _⟩
 case round =>
  obtain ⟨j, d, hj, rfl, hdl, HD, HV, HB⟩ := hrel
  by_cases hjl : j < l.length
  ·obtain ⟨b, off, rfl, hbl, hc0, hc1⟩ := (HR.out.below HB.out).at_ hjl
   have HT : Hid ((l.take (j + 1)).filter hasS = d ++ if hasS l[j] then [l[j]] else []) := by
    unfold Hid
    rw [List.take_succ_eq_append_getElem hjl, List.filter_append, ← HD.out]
    congr 1
    by_cases h : hasS l[j] = true <;> simp [h]
   generalize l[j] = x at *
   have hA := (Below.refl wr.heap.size wr).alloc (Nat.le_refl _) (.cells #[.int .i64 x.f, .int .i64 x.t] 90)
   have HA := Lib.hid hA
   have HBX : Hid ((wr.alloc (.cells #[.int .i64 x.f, .int .i64 x.t] 90)).heap[wr.heap.size]? = some (.cells #[.int .i64 x.f, .int .i64 x.t] 90 (0, 0))) := heap_alloc_new _ _
   have HN := Lib.hid (HNO.out x.f x.t (wr.alloc (.cells #[.int .i64 x.f, .int .i64 x.t] 90)))
   clear hA
   by_cases ht : x.t ≤ x.f
   ·have hd : decide (x.t ≤ x.f) = true := decide_eq_true ht
    have hh : hasS x = false := decide_eq_false (by omega)
    rw [hd] at HN
    rw [hh] at HT
    clear hd hh ht
    go_wp2_with fail
    refine HN.out.mono ?_
    rintro r w3 ⟨rfl, h3⟩
    have HB3 := Lib.hid (HB.out.trans ((HA.out.trans (h3.mono (by rw [size1]; omega))).mono HB.out.size))
    have HV3 := Lib.hid (HV.out.below (HA.out.trans (h3.mono (by rw [size1]; omega))))
    clear h3 HN
    go_wp2
    go_roundw
    case rel => exact ⟨j + 1, d, by omega, by go_num, by omega, (by unfold Hid; rw [HT.out]; simp), HV3, HB3⟩
    case measure => simp [intOf]; omega
   ·have hd : decide (x.t ≤ x.f) = false := decide_eq_false ht
    have hh : hasS x = true := decide_eq_true (by omega)
    rw [hd] at HN
    rw [hh] at HT
    clear hd hh ht
    go_wp2_with fail
    refine HN.out.mono ?_
    rintro r w3 ⟨rfl, h3⟩
    have hx3 : w3.heap[wr.heap.size]? = some (.cells #[.int .i64 x.f, .int .i64 x.t] 90 (0, 0)) := (h3.block _ (by rw [size1]; omega)).trans HBX.out
    have hf3 := HA.out.trans (h3.mono (by rw [size1]; omega))
    have hf4 := hf3.alloc hf3.size (.cells #[.int .i64 x.f, .int .i64 x.t] 90)
    have HV4 := Lib.hid (HV.out.below hf4)
    have HB4 := Lib.hid (HB.out.trans (hf4.mono HB.out.size))
    have HS4 := Lib.hid HB4.out.size
    obtain ⟨g0, g1⟩ := cells2 hx3
    clear h3 HN hx3 hf3 hf4
    go_wp2_with (at_builtin; refine wpList_append_rise w _ rfl (.tmp 17) (.tmp 19) 76 rfl w.heap.size i0 _ Tryz.underlying76 hi hz0 hz1 hz2 rfl _ _ d rfl HV4.out ⟨w3.heap.size, 0, none⟩ x rfl (news_at _ _ _ _ rfl) (by omega) HS4.out HB4.out ?_; intro v5 w5 hv5 hb5)
    have HV5 := Lib.hid hv5
    have HB5 := Lib.hid hb5
    clear hv5 hb5
    go_wp2
    go_roundw
    case rel => exact ⟨j + 1, d ++ [x], by omega, by go_num, by rw [List.length_append]; simp; omega, (by unfold Hid; rw [HT.out]; simp), HV5, HB5⟩
    case measure => simp [intOf]; omega
  ·obtain rfl : j = l.length := by omega
   rw [List.take_of_length_le (Nat.le_refl _)] at HD
   have HS := Lib.hid (sort_rise a w.heap.size u3 d wr HB.out.size HV.out (by omega))
   go_wp2_with fail
   refine HS.out.mono ?_
   rintro e w5 ⟨rfl, m, hp, hs, hv, hb⟩
   have HB5 := Lib.hid (HB.out.trans hb)
   obtain ⟨x, q, rfl, _, hsp⟩ := hv.shape
   have HP := Lib.hid hp
   have HSS := Lib.hid hs
   have HSP := Lib.hid hsp
   clear hp hs hv hb hsp HS
   go_wp2
   go_ret
   exact ⟨x, q, m, rfl, by rw [← HD.out]; exact HP.out, HSS.out, HSP.out, HB5.out⟩
theorem own_last {w : World} {B e n N cap g : Nat} {fr : List SpM} {u : SpM} (h : w.ownsRow B e 2 (.slice (some ⟨g, 0, none⟩) N cap) N (sps (fr ++ [u]))) (hn : n = fr.length) (hN : N = n + 1) :
  w.cell? ⟨g, n * 2, none⟩ = some (.int .i64 u.f) ∧ w.cell? ⟨g, n * 2 + 1, none⟩ = some (.int .i64 u.t) ∧ w.frozen? ⟨g, n * 2 + 1, none⟩ = false := by
 subst hN
 have hl : (fr ++ [u]).length = n + 1 := by rw [hn]; simp
 obtain ⟨g1, g2⟩ := sps_get (fr ++ [u]) n (by omega)
 have hx : (fr ++ [u])[n]'(by omega) = u := by subst hn; simp
 rw [hx] at g1 g2
 exact ⟨by rw [h.cellAt _ (by omega)]; exact g1, by rw [h.cellAt _ (by omega)]; exact g2, h.frozenAt _⟩
theorem sps_set (fr : List SpM) (u : SpM) (n : Nat) (hn : n = fr.length) (x : Int) : (sps (fr ++ [u])).set (n * 2 + 1) (.int .i64 x) = sps (fr ++ [(⟨u.f, x⟩ : SpM)]) := by
 rw [sps_snoc, sps_snoc, List.set_append_right _ _ (by rw [sps_len]; omega), sps_len]
 have : n * 2 + 1 - fr.length * 2 = 1 := by omega
 rw [this]
 rfl
theorem own_end {w : World} {B e n N cap g : Nat} {fr : List SpM} {u : SpM} (h : w.ownsRow B e 2 (.slice (some ⟨g, 0, none⟩) N cap) N (sps (fr ++ [u]))) (hn : n = fr.length) (hN : N = n + 1) (hB : B ≤ g) (x : Int) :
  (w.setCell ⟨g, n * 2 + 1, none⟩ (.int .i64 x)).ownsRow B e 2 (.slice (some ⟨g, 0, none⟩) N cap) (fr ++ [(⟨u.f, x⟩ : SpM)]).length (sps (fr ++ [(⟨u.f, x⟩ : SpM)])) := by
 subst hN
 have hl2 : (fr ++ [(⟨u.f, x⟩ : SpM)]).length = n + 1 := by rw [hn]; simp
 have := (h.stored (n * 2 + 1) (.int .i64 x)).1
 rw [sps_set fr u n hn x] at this
 rw [hl2]
 exact this
theorem mergeS_le (r : List SpM) (s : SpM) : (mergeS r s).length ≤ r.length + 1 := by
 rcases List.eq_nil_or_concat r with rfl | ⟨fr, u, hfu⟩
 ·rw [mergeS_nil]; simp
 ·rw [hfu, List.concat_eq_append, mergeS_snoc]
  split <;> simp
theorem merged_perm {m l r : List SpM} (hp : m.Perm (l.filter hasS)) (h : Merged m r) : IsSet (HasL l) r :=
 h.set.congr fun x => ⟨fun ⟨s, hs, h1⟩ => ⟨s, (List.mem_filter.1 (hp.mem_iff.1 hs)).1, h1⟩, fun ⟨s, hs, h1⟩ => ⟨s, hp.mem_iff.2 (List.mem_filter.2 ⟨hs, decide_eq_true (by omega)⟩), h1⟩⟩
set_option maxHeartbeats 4000000 in
theorem norm_any (a : Option Addr) (c : Nat) (l : List SpM) (w : World) (hr : SpSl w a l) (hl : l.length ≤ 100000) (hc : l.length ≤ c) (hcm : c ≤ maxLen) :
  Calls Tryz.prog 95 #[.slice a l.length c] w fun e w' => ∃ (v : Value) (r : List SpM), e = .returned v ∧ IsSet (HasL l) r ∧ r.length ≤ l.length ∧ w'.ownsRow w.heap.size 90 2 v r.length (sps r) ∧ Below w.heap.size w w' := by
 obtain ⟨i0, hi, hz0, hz1, hz2⟩ := info_parts infoSpan
 have HRI := Lib.hid (rising_any a c l w hr hl hc hcm)
 clear hr hc hcm
 go_enter Tryz.func95, Tryz.ntmps95
 go_wp2_with fail
 refine HRI.out.mono ?_
 rintro e w1 ⟨x, q, m, rfl, hp, hs, hsp, hB1⟩
 have hml : m.length ≤ l.length := by rw [hp.length_eq]; exact List.length_filter_le _ _
 have HP := Lib.hid hp
 have HS := Lib.hid hs
 have HSP := Lib.hid hsp
 have HB1 := Lib.hid hB1
 have HT : Hid (∀ s ∈ m, s.f < s.t) := fun s hs => of_decide_eq_true (List.mem_filter.1 (hp.mem_iff.1 hs)).2
 clear hp hs hsp hB1 HRI
 go_wp2
 go_loopw [3, 10] (fun v i wr => ∃ (j : Nat) (r : List SpM), j ≤ m.length ∧ i = .int .i64 j ∧ r.length ≤ j ∧ Hid (Merged (m.take j) r) ∧ Hid (wr.ownsRow w1.heap.size 90 2 v r.length (sps r)) ∧ Hid (Below w1.heap.size w1 wr)) (fun _ i _ => m.length - (intOf i).toNat)
 case atStart => exact ⟨0, [], by omega, rfl, by simp, Merged.nil, ⟨rfl, .inl ⟨rfl, rfl⟩⟩, Below.refl _ _⟩
 case round =>
  obtain ⟨j, r, hj, rfl, hrj, HM, HO, HB⟩ := hrel
  by_cases hjl : j < m.length
  ·obtain ⟨b, off, rfl, hbl, hc0, hc1⟩ := (HSP.out.below HB.out).at_ hjl
   have HM2 : Hid (Merged (m.take (j + 1)) (mergeS r m[j])) := by
    unfold Hid
    rw [List.take_succ_eq_append_getElem hjl]
    refine HM.out.step (HT.out _ (List.getElem_mem hjl)) fun u hu => ?_
    obtain ⟨k, hk, rfl⟩ := List.getElem_of_mem hu
    rw [List.getElem_take]
    exact (List.pairwise_iff_getElem.1 HS.out) k j _ hjl (by simp at hk; omega)
   generalize m[j] = s at *
   have hle := mergeS_le r s
   have HA := Lib.hid ((Below.refl wr.heap.size wr).alloc (Nat.le_refl _) (.cells #[.int .i64 s.f, .int .i64 s.t] 90))
   have HBX : Hid ((wr.alloc (.cells #[.int .i64 s.f, .int .i64 s.t] 90)).heap[wr.heap.size]? = some (.cells #[.int .i64 s.f, .int .i64 s.t] 90 (0, 0))) := heap_alloc_new _ _
   have HAN : ∀ q, Hid (Below wr.heap.size wr (((wr.alloc (.cells #[.int .i64 s.f, .int .i64 s.t] 90)).drewN q).alloc (.cells #[.int .i64 s.f, .int .i64 s.t] 90))) := fun q => (HA.out.trans (Drew.below ⟨q, rfl⟩ _)).alloc (by show _ ≤ (wr.alloc _).heap.size; rw [size1]; omega) _
   have HON := fun q => Lib.hid (own_below HO.out (HAN q).out)
   have HBN := fun q => Lib.hid (HB.out.trans ((HAN q).out.mono HB.out.size))
   have HSN := fun q => Lib.hid (HBN q).out.size
   rcases List.eq_nil_or_concat r with hr0 | ⟨fr, u, hfu⟩
   ·subst hr0
    rw [mergeS_nil] at HM2
    obtain ⟨av, cv, rfl, _, _⟩ := own_sp HO.out
    simp only [List.length_nil] at *
    go_wp2
    go_quiet (fail)
    go_wp2_with (at_builtin; refine wpList_append_own _ rfl (.tmp 41) (.tmp 43) 76 rfl w1.heap.size 90 i0 _ 2 16 Tryz.underlying76 hi hz0 hz1 hz2 rfl (by decide) _ _ _ rfl (HON _).out ⟨wr.heap.size + 1, 0, none⟩ 1 1 [.int .i64 s.f, .int .i64 s.t] rfl rfl (news_at _ _ _ _ (by show _ = (wr.alloc _).heap.size; rw [size1])) (two_one _ _) (by unfold maxLen; omega) (by omega) (HSN _).out ?_; intro v' w2 hown' hgrow hiff)
    have HB3 := Lib.hid (app_below (HBN _).out (HSN _).out (HON _).out hgrow)
    have HO3 : Hid (w2.ownsRow w1.heap.size 90 2 v' [s].length (sps [s])) := hown'
    clear hown' hgrow hiff
    go_wp2
    go_roundw
    case rel => exact ⟨j + 1, [s], by omega, by go_num, by simp, HM2, HO3, HB3⟩
    case measure => simp [intOf]; omega
   ·obtain rfl : r = fr ++ [u] := by rw [hfu, List.concat_eq_append]
    clear hfu
    rw [mergeS_snoc] at HM2 hle
    obtain ⟨n, hn⟩ : ∃ n, n = fr.length := ⟨_, rfl⟩
    obtain ⟨N, hN⟩ : ∃ N, N = (fr ++ [u]).length := ⟨_, rfl⟩
    have hNn : N = n + 1 := by rw [hN, hn]; simp
    obtain ⟨ga, cap, rfl, hcN, hsp⟩ := own_sp HO.out
    obtain ⟨g, rfl, hcm⟩ : ∃ g, ga = some ⟨g, 0, none⟩ ∧ cap ≤ 9223372036854775807 := by
     rcases HO.out.2 with ⟨h0, _⟩ | ⟨g, cap', _, h0, _, _, _, h1, _⟩
     ·injection h0 with e1 e2 e3
      simp at e2
     ·injection h0 with e1 e2 e3
      exact ⟨g, e1, by rw [e3]; exact h1⟩
    have hgB : w1.heap.size ≤ g := (HO.out.lt g rfl).1
    rw [← hN] at HO hrj hle hcN HON
    rw [← hN]
    have HNL := Lib.hid hn
    have HNN := Lib.hid hN
    have HN1 := Lib.hid hNn
    have hwr : IntKind.i64.wrap ((N : Int) - 1) = (n : Int) := by rw [IntWalk.i64_in] <;> omega
    have hb1 : (n : Int) < (N : Int) := by omega
    have hb2 : (0 : Int) ≤ (n : Int) := Int.natCast_nonneg _
    have HHB := Lib.hid hgB
    have HOD := fun q => Lib.hid (own_below HO.out (HA.out.trans (Drew.below ⟨q, rfl⟩ wr.heap.size)))
    have HBD := fun q => Lib.hid (HB.out.trans ((HA.out.trans (Drew.below ⟨q, rfl⟩ wr.heap.size)).mono HB.out.size))
    obtain ⟨c0, c1, c2⟩ := own_last (own_below HO.out HA.out) hn hNn
    have hjN : N ≤ j := hrj
    have hN0 : 0 < N := by omega
    clear hN hn hNn hsp hgB
    by_cases hsu : s.f ≤ u.t
    ·rw [if_pos hsu] at HM2 hle
     have hd0 : decide (s.f ≤ u.t) = true := decide_eq_true hsu
     have hd1 : decide ((0 : Int) ≤ (n : Int)) = true := decide_eq_true hb2
     obtain ⟨mx, hmx⟩ : ∃ mx, mx = max u.t s.t := ⟨_, rfl⟩
     rw [← hmx] at HM2 hle
     have p1 := (cells2 (W := (wr.alloc (.cells #[.int .i64 s.f, .int .i64 s.t] 90))) HBX.out).2
     rcases Int.lt_or_le u.t s.t with hm | hm
     ·have e1 : max u.t s.t = s.t := by omega
      rw [e1] at hmx
      subst hmx
      go_wp2
      go_quiet (fail)
      go_wp2_with fail
      go_region
      have HO5 := Lib.hid (own_end (HOD nq).out.drew HNL.out HN1.out HHB.out s.t)
      have HB5 := Lib.hid ((HBD nq).out.drew.setCell (p := ⟨g, n * 2 + 1, none⟩) HHB.out (.int .i64 s.t))
      clear HOD HBD HON HBN HSN
      go_wp2
      go_roundw
      case rel => exact ⟨j + 1, fr ++ [(⟨u.f, s.t⟩ : SpM)], by omega, by go_num, by omega, HM2, HO5, HB5⟩
      case measure => simp [intOf]; omega
     ·have e1 : max u.t s.t = u.t := by omega
      rw [e1] at hmx
      subst hmx
      go_wp2
      go_quiet (fail)
      go_wp2_with fail
      go_region
      have HO5 := Lib.hid (own_end (HOD nq).out.drew HNL.out HN1.out HHB.out u.t)
      have HB5 := Lib.hid ((HBD nq).out.drew.setCell (p := ⟨g, n * 2 + 1, none⟩) HHB.out (.int .i64 u.t))
      clear HOD HBD HON HBN HSN
      go_wp2
      go_roundw
      case rel => exact ⟨j + 1, fr ++ [(⟨u.f, u.t⟩ : SpM)], by omega, by go_num, by omega, HM2, HO5, HB5⟩
      case measure => simp [intOf]; omega
    ·rw [if_neg hsu] at HM2 hle
     have hd0 : decide (s.f ≤ u.t) = false := decide_eq_false hsu
     have hd1 : decide ((0 : Int) ≤ (n : Int)) = true := decide_eq_true hb2
     clear HOD HBD
     go_wp2
     go_quiet (fail)
     go_wp2_with (at_builtin; refine wpList_append_own _ rfl (.tmp 41) (.tmp 43) 76 rfl w1.heap.size 90 i0 _ 2 16 Tryz.underlying76 hi hz0 hz1 hz2 rfl (by decide) _ _ _ rfl (HON _).out ⟨wr.heap.size + 1, 0, none⟩ 1 1 [.int .i64 s.f, .int .i64 s.t] rfl rfl (news_at _ _ _ _ (by show _ = (wr.alloc _).heap.size; rw [size1])) (two_one _ _) (by unfold maxLen; omega) (by omega) (HSN _).out ?_; intro v' w2 hown' hgrow hiff)
     have HB3 := Lib.hid (app_below (HBN _).out (HSN _).out (HON _).out hgrow)
     have HO3 : Hid (w2.ownsRow w1.heap.size 90 2 v' (fr ++ [u] ++ [s]).length (sps (fr ++ [u] ++ [s]))) := by
      unfold Hid
      rw [sps_snoc, List.length_append, ← HNN.out]
      exact hown'
     clear hown' hgrow hiff
     go_wp2
     go_roundw
     case rel => exact ⟨j + 1, fr ++ [u] ++ [s], by omega, by go_num, by omega, HM2, HO3, HB3⟩
     case measure => simp [intOf]; omega
  ·obtain rfl : j = m.length := by omega
   rw [List.take_of_length_le (Nat.le_refl _)] at HM
   have HD := Lib.hid (merged_perm HP.out HM.out)
   go_wp2
   go_ret
   first | exact ⟨_, r, rfl, HD.out, by omega, own_low HO.out HB1.out.size, HB1.out.trans (HB.out.mono HB1.out.size)⟩ | exact ⟨_, rfl, r, HD.out, by omega, own_low HO.out HB1.out.size, HB1.out.trans (HB.out.mono HB1.out.size)⟩
theorem own_spm {w : World} {B e : Nat} {v : Value} {l : List SpM} (h : w.ownsRow B e 2 v l.length (sps l)) : ∃ a c, v = .slice a l.length c ∧ l.length ≤ c ∧ c ≤ maxLen ∧ SpSl w a l ∧ (a = none → c = 0) := by
 obtain ⟨a, c, rfl, hc, hs⟩ := own_sp h
 refine ⟨a, c, rfl, hc, ?_, hs, ?_⟩
 ·rcases h.2 with ⟨h0, _⟩ | ⟨g, cap', _, h0, _, _, _, h1, _⟩
  ·injection h0 with e1 e2 e3
   rw [e3]; unfold maxLen; omega
  ·injection h0 with e1 e2 e3
   rw [e3]; exact h1
 ·intro ha
  rcases h.2 with ⟨h0, _⟩ | ⟨g, cap', _, h0, _, _, _, h1, _⟩
  ·injection h0 with e1 e2 e3
  ·injection h0 with e1 e2 e3
   rw [ha] at e1; cases e1
end Go.Proofs.YtmfpjapiijgdgaaGreat
