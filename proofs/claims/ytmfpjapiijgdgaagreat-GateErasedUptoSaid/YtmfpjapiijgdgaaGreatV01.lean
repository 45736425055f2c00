/- Texts of mine, one behind the other, of each what is wanted. -/
import Derived.Test.YtmfpjapiijgdgaaGreatV00
namespace Go.Proofs.YtmfpjapiijgdgaaGreat
open Go.RowKit
set_option linter.unusedVariables false
set_option maxRecDepth 100000
theorem retB {a b : Bool} (h : a = b) : Ending.returned (.bool a) = .returned (.bool b) := by rw [h]
theorem retI {k : IntKind} {a b : Int} (h : a = b) : Ending.returned (.int k a) = .returned (.int k b) := by rw [h]
def toL (b : ByteArray) : List UInt8 := b.data.toList
def tx (l : List UInt8) : ByteArray := ⟨l.toArray⟩
theorem tx_toL (b : ByteArray) : tx (toL b) = b := by cases b; simp [toL, tx]
theorem toL_inj {a b : ByteArray} (h : toL a = toL b) : a = b := by rw [← tx_toL a, h, tx_toL]
theorem toList_tx (l : List UInt8) : (tx l).toList = l := by rw [ByteArray.toList_eq]; simp [tx]
def Sl (w : World) (a : Option Addr) (xs : List Value) : Prop :=
 ∀ k (h : k < xs.length), ∃ b off, a = some ⟨b, off, none⟩ ∧ b < w.heap.size ∧ w.cell? ⟨b, off + k, none⟩ = some xs[k]
theorem Sl.below {w w' : World} {a : Option Addr} {xs : List Value} (h : Sl w a xs) (hb : Below w.heap.size w w') : Sl w' a xs := fun k hk => by
 obtain ⟨b, off, e, hlt, hc⟩ := h k hk
 exact ⟨b, off, e, Nat.lt_of_lt_of_le hlt hb.size, (hb.cell (p := ⟨b, off + k, none⟩) hlt).trans hc⟩
theorem Sl.drewN {w : World} {a : Option Addr} {xs : List Value} (h : Sl w a xs) (n : Nat) : Sl (w.drewN n) a xs := h
theorem Sl.nil (w : World) (a : Option Addr) : Sl w a [] := fun k hk => absurd hk (by simp)
def strs (l : List ByteArray) : List Value := l.map .string
theorem strs_length (l : List ByteArray) : (strs l).length = l.length := by simp [strs]
theorem Sl.str {w : World} {a : Option Addr} {l : List ByteArray} (h : Sl w a (strs l)) {k : Nat} (hk : k < l.length) :
  ∃ b off, a = some ⟨b, off, none⟩ ∧ b < w.heap.size ∧ w.cell? ⟨b, off + k, none⟩ = some (.string l[k]) := by
 obtain ⟨b, off, e, hlt, hc⟩ := h k (by rw [strs_length]; exact hk)
 exact ⟨b, off, e, hlt, by rw [hc]; simp [strs]⟩
def Fits (l : List ByteArray) : Prop := l.length ≤ maxLen ∧ ∀ s ∈ l, s.size ≤ maxLen
def Drew (w w' : World) : Prop := ∃ n, w' = w.drewN n
theorem Drew.below {w w' : World} (h : Drew w w') (B : Nat) : Below B w w' := by obtain ⟨n, rfl⟩ := h; exact ⟨rfl, rfl, rfl, Nat.le_refl _, fun _ _ => rfl⟩
theorem own_base {w : World} {B B' e k n : Nat} {v : Value} {xs : List Value} (h : w.ownsRow B e k v n xs) (hB : B' ≤ B) : w.ownsRow B' e k v n xs := by
 refine ⟨h.1, ?_⟩
 rcases h.2 with h | ⟨g, cap, cur, r1, r2, r3⟩
 ·exact .inl h
 ·exact .inr ⟨g, cap, cur, r1, Nat.le_trans hB r2, r3⟩
theorem sl_lit (w : World) (xs : Array Value) (t : TypeId) : Sl (w.alloc (.cells xs t)) (some ⟨w.heap.size, 0, none⟩) xs.toList := fun k hk => by
 refine ⟨_, _, rfl, by simp, ?_⟩
 rw [cell_of_row _ _ _ xs t (0, 0) (heap_alloc_new w _), Nat.zero_add]
 have : k < xs.size := by simpa using hk
 simp [Array.getElem?_eq_getElem this]
theorem Sl.cells {w : World} {ad : Addr} {xs : List Value} (h : Sl w (some ad) xs) : ∀ j u, xs[j]? = some u → w.cell? (ad.add j) = some u := fun j u hu => by
 have hj : j < xs.length := by
  rcases Nat.lt_or_ge j xs.length with h1 | h1
  ·exact h1
  ·rw [List.getElem?_eq_none h1] at hu; cases hu
 obtain ⟨b, off, e, _, hc⟩ := h j hj
 cases e
 rw [Go.WideShapes.add_plain, hc]
 rw [List.getElem?_eq_getElem hj] at hu
 exact hu
end Go.Proofs.YtmfpjapiijgdgaaGreat
namespace Go.Proofs.YtmfpjapiijgdgaaGreat
set_option linter.unusedVariables false
set_option maxRecDepth 100000
structure SpM where
 f : Int
 t : Int
def HasL (l : List SpM) (x : Int) : Prop := ∃ s ∈ l, s.f ≤ x ∧ x < s.t
theorem HasL.nil {x : Int} : ¬ HasL [] x := fun ⟨_, h, _⟩ => by cases h
theorem hasL_cons {s : SpM} {l : List SpM} {x : Int} : HasL (s :: l) x ↔ (s.f ≤ x ∧ x < s.t) ∨ HasL l x := by
 constructor
 ·rintro ⟨u, hu, h⟩
  rcases List.mem_cons.1 hu with rfl | hu
  ·exact .inl h
  ·exact .inr ⟨u, hu, h⟩
 ·rintro (h | ⟨u, hu, h⟩)
  ·exact ⟨s, by simp, h⟩
  ·exact ⟨u, List.mem_cons_of_mem _ hu, h⟩
theorem hasL_append {l m : List SpM} {x : Int} : HasL (l ++ m) x ↔ HasL l x ∨ HasL m x := by
 constructor
 ·rintro ⟨u, hu, h⟩
  rcases List.mem_append.1 hu with hu | hu
  ·exact .inl ⟨u, hu, h⟩
  ·exact .inr ⟨u, hu, h⟩
 ·rintro (⟨u, hu, h⟩ | ⟨u, hu, h⟩)
  ·exact ⟨u, List.mem_append_left _ hu, h⟩
  ·exact ⟨u, List.mem_append_right _ hu, h⟩
theorem hasL_one {s : SpM} {x : Int} : HasL [s] x ↔ s.f ≤ x ∧ x < s.t := by
 rw [hasL_cons]; exact ⟨fun h => h.resolve_right HasL.nil, .inl⟩
def RowL : List SpM → Prop
 | [] => True
 | s :: l => s.f ≤ s.t ∧ (∀ u ∈ l, s.t < u.f) ∧ RowL l
def NormL (l : List SpM) : Prop := RowL l ∧ ∀ s ∈ l, s.f < s.t
theorem NormL.nil : NormL [] := ⟨trivial, fun s h => by cases h⟩
theorem NormL.tail {s : SpM} {l : List SpM} (h : NormL (s :: l)) : NormL l := ⟨h.1.2.2, fun u hu => h.2 u (List.mem_cons_of_mem _ hu)⟩
def IsSet (P : Int → Prop) (r : List SpM) : Prop := NormL r ∧ ∀ x, HasL r x ↔ P x
theorem norm_only : ∀ (a b : List SpM), NormL a → NormL b → (∀ x, HasL a x ↔ HasL b x) → a = b
 | [], [], _, _, _ => rfl
 | [], o :: b, _, hb, h => by
  have := (h o.f).2 (hasL_cons.2 (.inl ⟨Int.le_refl _, hb.2 o (by simp)⟩))
  exact absurd this HasL.nil
 | s :: a, [], ha, _, h => by
  have := (h s.f).1 (hasL_cons.2 (.inl ⟨Int.le_refl _, ha.2 s (by simp)⟩))
  exact absurd this HasL.nil
 | s :: a, o :: b, ha, hb, h => by
  have hs := ha.2 s (by simp)
  have ho := hb.2 o (by simp)
  have low : ∀ {u : SpM} {l : List SpM}, NormL (u :: l) → ∀ {x}, HasL (u :: l) x → u.f ≤ x := fun {u l} hn {x} hx => by
   rcases hasL_cons.1 hx with hx | ⟨v, hv, hx⟩
   ·exact hx.1
   ·have := hn.1.2.1 v hv
    have := hn.1.1
    omega
  have e1 : s.f = o.f := by
   have h1 := low hb ((h s.f).1 (hasL_cons.2 (.inl ⟨Int.le_refl _, hs⟩)))
   have h2 := low ha ((h o.f).2 (hasL_cons.2 (.inl ⟨Int.le_refl _, ho⟩)))
   omega
  have past : ∀ {u : SpM} {l : List SpM}, NormL (u :: l) → ¬ HasL (u :: l) u.t := fun {u l} hn hx => by
   rcases hasL_cons.1 hx with hx | ⟨v, hv, hx⟩
   ·omega
   ·have := hn.1.2.1 v hv
    omega
  have e2 : s.t = o.t := by
   rcases Int.lt_trichotomy s.t o.t with h1 | h1 | h1
   ·exact absurd ((h s.t).2 (hasL_cons.2 (.inl ⟨by omega, h1⟩))) (past ha)
   ·exact h1
   ·exact absurd ((h o.t).1 (hasL_cons.2 (.inl ⟨by omega, h1⟩))) (past hb)
  have e : s = o := by
   obtain ⟨_, _⟩ := s
   obtain ⟨_, _⟩ := o
   simp only at e1 e2
   rw [e1, e2]
  subst e
  have ht : ∀ x, HasL a x ↔ HasL b x := fun x => by
   constructor
   ·intro hx
    have hx2 := hx
    obtain ⟨v, hv, h1, h2⟩ := hx2
    have h3 := ha.1.2.1 v hv
    rcases hasL_cons.1 ((h x).1 (hasL_cons.2 (.inr hx))) with h4 | h4
    ·omega
    ·exact h4
   ·intro hx
    have hx2 := hx
    obtain ⟨v, hv, h1, h2⟩ := hx2
    have h3 := hb.1.2.1 v hv
    rcases hasL_cons.1 ((h x).2 (hasL_cons.2 (.inr hx))) with h4 | h4
    ·omega
    ·exact h4
  rw [norm_only a b ha.tail hb.tail ht]
theorem IsSet.only {P : Int → Prop} {a b : List SpM} (ha : IsSet P a) (hb : IsSet P b) : a = b := norm_only a b ha.1 hb.1 (fun x => (ha.2 x).trans (hb.2 x).symm)
theorem IsSet.congr {P Q : Int → Prop} {a : List SpM} (ha : IsSet P a) (h : ∀ x, P x ↔ Q x) : IsSet Q a := ⟨ha.1, fun x => (ha.2 x).trans (h x)⟩
theorem rowL_snoc {l : List SpM} {s : SpM} (h : RowL l) (hs : s.f ≤ s.t) (hl : ∀ u ∈ l, u.t < s.f) : RowL (l ++ [s]) := by
 induction l with
 | nil => exact ⟨hs, fun u hu => (by cases hu), trivial⟩
 | cons u l ih =>
  refine ⟨h.1, fun v hv => ?_, ih h.2.2 (fun v hv => hl v (List.mem_cons_of_mem _ hv))⟩
  rcases List.mem_append.1 hv with hv | hv
  ·exact h.2.1 v hv
  ·rw [List.mem_singleton.1 hv]; exact hl u (by simp)
theorem normL_snoc {l : List SpM} {s : SpM} (h : NormL l) (hs : s.f < s.t) (hl : ∀ u ∈ l, u.t < s.f) : NormL (l ++ [s]) := by
 refine ⟨rowL_snoc h.1 (Int.le_of_lt hs) hl, fun u hu => ?_⟩
 rcases List.mem_append.1 hu with hu | hu
 ·exact h.2 u hu
 ·rw [List.mem_singleton.1 hu]; exact hs
theorem rowL_front {l : List SpM} {s : SpM} (h : RowL (l ++ [s])) : RowL l ∧ s.f ≤ s.t ∧ ∀ u ∈ l, u.t < s.f := by
 induction l with
 | nil => exact ⟨trivial, h.1, fun u hu => (by cases hu)⟩
 | cons v l ih =>
  obtain ⟨i1, i2, i3⟩ := ih h.2.2
  refine ⟨⟨h.1, fun u hu => h.2.1 u (List.mem_append_left _ hu), i1⟩, i2, fun u hu => ?_⟩
  rcases List.mem_cons.1 hu with rfl | hu
  ·exact h.2.1 s (by simp)
  ·exact i3 u hu
theorem normL_front {l : List SpM} {s : SpM} (h : NormL (l ++ [s])) : NormL l ∧ s.f < s.t ∧ ∀ u ∈ l, u.t < s.f := by
 obtain ⟨h1, h2, h3⟩ := rowL_front h.1
 exact ⟨⟨h1, fun u hu => h.2 u (List.mem_append_left _ hu)⟩, h.2 s (by simp), h3⟩
def mergeS (l : List SpM) (s : SpM) : List SpM :=
 match l.getLast? with
 | none => l ++ [s]
 | some u => if s.f ≤ u.t then l.dropLast ++ [⟨u.f, max u.t s.t⟩] else l ++ [s]
theorem mergeS_nil (s : SpM) : mergeS [] s = [s] := rfl
theorem mergeS_snoc (l : List SpM) (u s : SpM) : mergeS (l ++ [u]) s = if s.f ≤ u.t then l ++ [⟨u.f, max u.t s.t⟩] else l ++ [u] ++ [s] := by
 unfold mergeS
 rw [List.getLast?_append]
 simp
structure Merged (d r : List SpM) : Prop where
 norm : NormL r
 has : ∀ x, HasL r x ↔ HasL d x
 low : ∀ u ∈ r, ∃ s ∈ d, u.f = s.f
theorem Merged.nil : Merged [] [] := ⟨NormL.nil, fun x => Iff.rfl, fun u h => by cases h⟩
theorem Merged.step {d r : List SpM} {s : SpM} (h : Merged d r) (hs : s.f < s.t) (hd : ∀ u ∈ d, u.f ≤ s.f) : Merged (d ++ [s]) (mergeS r s) := by
 have hlow : ∀ u ∈ r, u.f ≤ s.f := fun u hu => by
  obtain ⟨v, hv, e⟩ := h.low u hu
  rw [e]; exact hd v hv
 rcases List.eq_nil_or_concat r with rfl | ⟨l, u, rfl⟩
 ·rw [mergeS_nil]
  refine ⟨⟨⟨Int.le_of_lt hs, fun u hu => (by cases hu), trivial⟩, fun u hu => by rw [List.mem_singleton.1 hu]; exact hs⟩, fun x => ?_, fun u hu => ⟨s, by simp, by rw [List.mem_singleton.1 hu]⟩⟩
  rw [hasL_append, ← h.has x]
  exact ⟨.inr, fun h => h.resolve_left HasL.nil⟩
 ·rw [List.concat_eq_append] at *
  rw [mergeS_snoc]
  obtain ⟨n1, n2, n3⟩ := normL_front h.norm
  have hu := hlow u (by simp)
  split
  ·rename_i hle
   refine ⟨normL_snoc n1 ?_ n3, fun x => ?_, fun v hv => ?_⟩
   ·show u.f < max u.t s.t
    omega
   ·rw [hasL_append (m := [s]), ← h.has x, hasL_append, hasL_append, hasL_one, hasL_one, hasL_one]
    show HasL l x ∨ (u.f ≤ x ∧ x < max u.t s.t) ↔ (HasL l x ∨ u.f ≤ x ∧ x < u.t) ∨ s.f ≤ x ∧ x < s.t
    constructor
    ·rintro (h1 | h1)
     ·exact .inl (.inl h1)
     ·rcases Int.lt_or_le x u.t with h2 | h2
      ·exact .inl (.inr ⟨h1.1, h2⟩)
      ·exact .inr ⟨by omega, by omega⟩
    ·rintro ((h1 | h1) | h1)
     ·exact .inl h1
     ·exact .inr ⟨h1.1, by omega⟩
     ·exact .inr ⟨by omega, by omega⟩
   ·rcases List.mem_append.1 hv with hv | hv
    ·obtain ⟨y, hy, e⟩ := h.low v (List.mem_append_left _ hv)
     exact ⟨y, List.mem_append_left _ hy, e⟩
    ·obtain ⟨y, hy, e⟩ := h.low u (by simp)
     rw [List.mem_singleton.1 hv]
     exact ⟨y, List.mem_append_left _ hy, e⟩
  ·rename_i hgt
   refine ⟨normL_snoc h.norm hs (fun v hv => ?_), fun x => ?_, fun v hv => ?_⟩
   ·rcases List.mem_append.1 hv with hv | hv
    ·have := n3 v hv; omega
    ·rw [List.mem_singleton.1 hv]; omega
   ·rw [hasL_append (m := [s]), hasL_append (l := d), h.has x]
   ·rcases List.mem_append.1 hv with hv | hv
    ·obtain ⟨y, hy, e⟩ := h.low v hv
     exact ⟨y, List.mem_append_left _ hy, e⟩
    ·rw [List.mem_singleton.1 hv]; exact ⟨s, by simp, rfl⟩
theorem Merged.set {d r : List SpM} (h : Merged d r) : IsSet (HasL d) r := ⟨h.norm, h.has⟩
def meetS (s o : SpM) : SpM := ⟨max s.f o.f, min s.t o.t⟩
def pushS (l : List SpM) (m : SpM) : List SpM := if m.t ≤ m.f then l else l ++ [m]
theorem hasL_push {l : List SpM} {m : SpM} {x : Int} : HasL (pushS l m) x ↔ HasL l x ∨ (m.f ≤ x ∧ x < m.t) := by
 unfold pushS
 split
 ·exact ⟨.inl, fun h => h.resolve_right (fun h => by omega)⟩
 ·rw [hasL_append, hasL_one]
structure ComI (A B l a b : List SpM) : Prop where
 norm : NormL l
 ra : RowL a
 rb : RowL b
 has : ∀ x, (HasL A x ∧ HasL B x) ↔ HasL l x ∨ (HasL a x ∧ HasL b x)
 gap : ∀ u ∈ l, (∀ s ∈ a, u.t < s.f) ∨ (∀ s ∈ b, u.t < s.f)
theorem ComI.start {A B : List SpM} (ha : RowL A) (hb : RowL B) : ComI A B [] A B :=
 ⟨NormL.nil, ha, hb, fun x => ⟨.inr, fun h => h.resolve_left HasL.nil⟩, fun u h => by cases h⟩
theorem ComI.push {A B l a b : List SpM} {x y : SpM} (h : ComI A B l (x :: a) (y :: b)) : NormL (pushS l (meetS x y)) := by
 unfold pushS
 split
 ·exact h.norm
 ·rename_i hm
  refine normL_snoc h.norm (by omega) (fun u hu => ?_)
  show u.t < max x.f y.f
  rcases h.gap u hu with g | g
  ·have := g x (by simp); omega
  ·have := g y (by simp); omega
theorem mem_push {l : List SpM} {m u : SpM} (h : u ∈ pushS l m) : u ∈ l ∨ u = m := by
 unfold pushS at h
 split at h
 ·exact .inl h
 ·rcases List.mem_append.1 h with h | h
  ·exact .inl h
  ·exact .inr (List.mem_singleton.1 h)
theorem ComI.left {A B l a b : List SpM} {x y : SpM} (h : ComI A B l (x :: a) (y :: b)) (ht : x.t < y.t) : ComI A B (pushS l (meetS x y)) a (y :: b) := by
 refine ⟨h.push, h.ra.2.2, h.rb, fun z => ?_, fun u hu => ?_⟩
 ·rw [h.has z, hasL_push, hasL_cons (s := x)]
  show HasL l z ∨ ((x.f ≤ z ∧ z < x.t) ∨ HasL a z) ∧ HasL (y :: b) z ↔ (HasL l z ∨ (max x.f y.f ≤ z ∧ z < min x.t y.t)) ∨ HasL a z ∧ HasL (y :: b) z
  constructor
  ·rintro (h1 | ⟨h1 | h1, h2⟩)
   ·exact .inl (.inl h1)
   ·rcases hasL_cons.1 h2 with h3 | ⟨v, hv, h3, h4⟩
    ·exact .inl (.inr ⟨by omega, by omega⟩)
    ·have := h.rb.2.1 v hv; omega
   ·exact .inr ⟨h1, h2⟩
  ·rintro ((h1 | h1) | h1)
   ·exact .inl h1
   ·exact .inr ⟨.inl ⟨by omega, by omega⟩, hasL_cons.2 (.inl ⟨by omega, by omega⟩)⟩
   ·exact .inr ⟨.inr h1.1, h1.2⟩
 ·rcases mem_push hu with hu | rfl
  ·rcases h.gap u hu with g | g
   ·exact .inl (fun s hs => g s (List.mem_cons_of_mem _ hs))
   ·exact .inr g
  ·refine .inl (fun s hs => ?_)
   have := h.ra.2.1 s hs
   show min x.t y.t < s.f
   omega
theorem ComI.right {A B l a b : List SpM} {x y : SpM} (h : ComI A B l (x :: a) (y :: b)) (ht : ¬ x.t < y.t) : ComI A B (pushS l (meetS x y)) (x :: a) b := by
 refine ⟨h.push, h.ra, h.rb.2.2, fun z => ?_, fun u hu => ?_⟩
 ·rw [h.has z, hasL_push, hasL_cons (s := y)]
  show HasL l z ∨ HasL (x :: a) z ∧ ((y.f ≤ z ∧ z < y.t) ∨ HasL b z) ↔ (HasL l z ∨ (max x.f y.f ≤ z ∧ z < min x.t y.t)) ∨ HasL (x :: a) z ∧ HasL b z
  constructor
  ·rintro (h1 | ⟨h2, h1 | h1⟩)
   ·exact .inl (.inl h1)
   ·rcases hasL_cons.1 h2 with h3 | ⟨v, hv, h3, h4⟩
    ·exact .inl (.inr ⟨by omega, by omega⟩)
    ·have := h.ra.2.1 v hv; omega
   ·exact .inr ⟨h2, h1⟩
  ·rintro ((h1 | h1) | h1)
   ·exact .inl h1
   ·exact .inr ⟨hasL_cons.2 (.inl ⟨by omega, by omega⟩), .inl ⟨by omega, by omega⟩⟩
   ·exact .inr ⟨h1.1, .inr h1.2⟩
 ·rcases mem_push hu with hu | rfl
  ·rcases h.gap u hu with g | g
   ·exact .inl g
   ·exact .inr (fun s hs => g s (List.mem_cons_of_mem _ hs))
  ·refine .inr (fun s hs => ?_)
   have := h.rb.2.1 s hs
   show min x.t y.t < s.f
   omega
theorem ComI.done {A B l a b : List SpM} (h : ComI A B l a b) (he : a = [] ∨ b = []) : IsSet (fun x => HasL A x ∧ HasL B x) l := by
 refine ⟨h.norm, fun x => ?_⟩
 show HasL l x ↔ HasL A x ∧ HasL B x
 rw [h.has x]
 refine ⟨.inl, fun h1 => h1.resolve_right (fun h2 => ?_)⟩
 rcases he with rfl | rfl
 ·exact HasL.nil h2.1
 ·exact HasL.nil h2.2
structure StM where
 f : Int
 t : Int
 n : Int
 s : Int
instance : Inhabited StM := ⟨⟨0, 0, 0, 0⟩⟩
theorem StM.same {a b : StM} (h1 : a.f = b.f) (h2 : a.t = b.t) (h3 : a.n = b.n) (h4 : a.s = b.s) : a = b := by
 obtain ⟨_, _, _, _⟩ := a
 obtain ⟨_, _, _, _⟩ := b
 simp only at h1 h2 h3 h4
 rw [h1, h2, h3, h4]
theorem StM.iff {a b : StM} : a = b ↔ a.f = b.f ∧ a.t = b.t ∧ a.n = b.n ∧ a.s = b.s := ⟨fun h => by rw [h]; exact ⟨rfl, rfl, rfl, rfl⟩, fun h => StM.same h.1 h.2.1 h.2.2.1 h.2.2.2⟩
instance stDec : DecidableEq StM := fun a b => decidable_of_iff (a.f = b.f ∧ a.t = b.t ∧ a.n = b.n ∧ a.s = b.s) StM.iff.symm
def StM.sp (a : StM) : SpM := ⟨a.f, a.t⟩
def ltSt (a b : StM) : Prop := a.f < b.f ∨ (a.f = b.f ∧ (a.t < b.t ∨ (a.t = b.t ∧ (a.n < b.n ∨ (a.n = b.n ∧ a.s < b.s)))))
instance ltStDec (a b : StM) : Decidable (ltSt a b) := by unfold ltSt; infer_instance
theorem ltSt_irrefl (a : StM) : ¬ ltSt a a := by unfold ltSt; omega
theorem ltSt_trans {a b c : StM} (h : ltSt a b) (k : ltSt b c) : ltSt a c := by unfold ltSt at *; omega
theorem ltSt_asymm {a b : StM} (h : ltSt a b) : ¬ ltSt b a := by unfold ltSt at *; omega
theorem ltSt_tri {a b : StM} (h : ¬ ltSt a b) (k : ¬ ltSt b a) : a = b := by
 unfold ltSt at *
 exact StM.same (by omega) (by omega) (by omega) (by omega)
theorem leSt_trans {a b c : StM} (h : ¬ ltSt b a) (k : ¬ ltSt c b) : ¬ ltSt c a := by unfold ltSt at *; omega
theorem ltSt_of_le {a b : StM} (h : ¬ ltSt b a) (k : a ≠ b) : ltSt a b := by
 by_cases h1 : ltSt a b
 ·exact h1
 ·exact absurd (ltSt_tri h1 h) k
def cmpSt (a b : StM) : Int := if ltSt a b then -1 else if ltSt b a then 1 else 0
def SortedS (l : List StM) : Prop := l.Pairwise (fun a b => ¬ ltSt b a)
theorem sorted_only {a b : List StM} (ha : SortedS a) (hb : SortedS b) (h : a.Perm b) : a = b :=
 h.eq_of_pairwise (fun x y _ _ h1 h2 => ltSt_tri h2 h1) ha hb
def RiseS (l : List StM) : Prop := ∀ k (h : k < l.length), l[k].f < l[k].t ∧ (0 < k → ltSt (l[k - 1]'(by omega)) l[k])
instance riseDec (l : List StM) : Decidable (RiseS l) := by unfold RiseS; infer_instance
theorem rise_iff {l : List StM} : RiseS l ↔ (∀ s ∈ l, s.f < s.t) ∧ l.Pairwise ltSt := by
 constructor
 ·intro h
  refine ⟨fun s hs => ?_, ?_⟩
  ·obtain ⟨k, hk, rfl⟩ := List.getElem_of_mem hs
   exact (h k hk).1
  ·rw [List.pairwise_iff_getElem]
   intro i j hi hj hij
   induction j with
   | zero => omega
   | succ j ih =>
    have h1 := (h (j + 1) hj).2 (by omega)
    rcases Nat.lt_or_ge i j with h2 | h2
    ·exact ltSt_trans (ih (by omega) h2) h1
    ·obtain rfl : i = j := by omega
     exact h1
 ·rintro ⟨h1, h2⟩ k hk
  exact ⟨h1 _ (List.getElem_mem hk), fun h0 => List.pairwise_iff_getElem.1 h2 (k - 1) k (by omega) hk (by omega)⟩
theorem rise_sorted {l : List StM} (h : RiseS l) : SortedS l := (rise_iff.1 h).2.imp ltSt_asymm
structure IsPos (l : List StM) (s : StM) (k : Nat) : Prop where
 le : k ≤ l.length
 up : ∀ j (h : j < l.length), k ≤ j → ltSt s l[j]
 low : ∀ (h : 0 < k) (h1 : k - 1 < l.length), ¬ ltSt s l[k - 1]
theorem IsPos.only {l : List StM} {s : StM} {a b : Nat} (ha : IsPos l s a) (hb : IsPos l s b) : a = b := by
 have h1 := ha.le
 have h2 := hb.le
 rcases Nat.lt_trichotomy a b with h | h | h
 ·exact absurd (ha.up (b - 1) (by omega) (by omega)) (hb.low (by omega) (by omega))
 ·exact h
 ·exact absurd (hb.up (a - 1) (by omega) (by omega)) (ha.low (by omega) (by omega))
def posS : List StM → StM → Nat
 | [], _ => 0
 | x :: l, s => if posS l s = 0 then (if ltSt s x then 0 else 1) else posS l s + 1
theorem get_pred {l : List StM} {x : StM} {q : Nat} (h0 : ¬ q = 0) (hq : q ≤ l.length) (h1 : q + 1 - 1 < (x :: l).length) : (x :: l)[q + 1 - 1] = l[q - 1]'(by omega) := by
 obtain ⟨p, rfl⟩ : ∃ p, q = p + 1 := ⟨q - 1, by omega⟩
 rfl
theorem posS_is (s : StM) : ∀ l : List StM, IsPos l s (posS l s)
 | [] => ⟨Nat.le_refl _, fun j h => absurd h (by simp), fun h => absurd h (by simp [posS])⟩
 | x :: l => by
  have ih := posS_is s l
  unfold posS
  by_cases h0 : posS l s = 0
  ·rw [if_pos h0]
   by_cases h1 : ltSt s x
   ·rw [if_pos h1]
    refine ⟨Nat.zero_le _, fun j h _ => ?_, fun h => absurd h (by omega)⟩
    cases j with
    | zero => exact h1
    | succ j => exact ih.up j (by simpa using h) (by omega)
   ·rw [if_neg h1]
    refine ⟨by simp, fun j h hj => ?_, fun _ _ => h1⟩
    cases j with
    | zero => omega
    | succ j => exact ih.up j (by simpa using h) (by omega)
  ·rw [if_neg h0]
   refine ⟨by have := ih.le; simp; omega, fun j h hj => ?_, fun _ h1 => ?_⟩
   ·cases j with
    | zero => omega
    | succ j => exact ih.up j (by simpa using h) (by omega)
   ·have h3 := ih.le
    have h2 := ih.low (by omega) (by omega)
    rw [get_pred h0 h3]
    exact h2
theorem posS_eq {l : List StM} {s : StM} {k : Nat} (h : IsPos l s k) : k = posS l s := h.only (posS_is s l)
def putS (l : List StM) (s : StM) : List StM := l.take (posS l s) ++ s :: l.drop (posS l s)
def addS (l : List StM) (s : StM) : List StM := if s.t ≤ s.f then l else putS l s
theorem putS_at {l : List StM} {s : StM} {k : Nat} (h : IsPos l s k) : putS l s = l.take k ++ s :: l.drop k := by unfold putS; rw [← posS_eq h]
theorem putS_len (l : List StM) (s : StM) : (putS l s).length = l.length + 1 := by
 have := (posS_is s l).le
 simp [putS]; omega
theorem addS_len (l : List StM) (s : StM) : (addS l s).length ≤ l.length + 1 := by
 unfold addS
 split
 ·omega
 ·rw [putS_len]; omega
theorem putS_perm (l : List StM) (s : StM) : (putS l s).Perm (s :: l) := by
 have h : (l.take (posS l s) ++ s :: l.drop (posS l s)).Perm (s :: (l.take (posS l s) ++ l.drop (posS l s))) := List.perm_middle
 rw [List.take_append_drop] at h
 exact h
theorem mem_take_get {α : Type} {l : List α} {k : Nat} {x : α} (h : x ∈ l.take k) : ∃ j, ∃ hj : j < l.length, j < k ∧ l[j] = x := by
 obtain ⟨j, hj, e⟩ := List.getElem_of_mem h
 have h1 : j < k ∧ j < l.length := by simp at hj; omega
 exact ⟨j, h1.2, h1.1, by rw [← e, List.getElem_take]⟩
theorem mem_drop_get {α : Type} {l : List α} {k : Nat} {x : α} (h : x ∈ l.drop k) : ∃ j, ∃ hj : j < l.length, k ≤ j ∧ l[j] = x := by
 obtain ⟨j, hj, e⟩ := List.getElem_of_mem h
 have h1 : j < l.length - k := by simpa using hj
 exact ⟨k + j, by omega, by omega, by rw [← e, List.getElem_drop]⟩
theorem putS_sorted {l : List StM} {s : StM} (h : SortedS l) : SortedS (putS l s) := by
 have hp := posS_is s l
 unfold putS
 generalize posS l s = k at *
 have hle : ∀ x ∈ l.take k, ¬ ltSt s x := fun x hx => by
  obtain ⟨j, hj, hjk, rfl⟩ := mem_take_get hx
  have h1 := hp.le
  have h2 := hp.low (by omega) (by omega)
  rcases Nat.lt_or_ge j (k - 1) with h3 | h3
  ·exact leSt_trans (List.pairwise_iff_getElem.1 h j (k - 1) hj (by omega) h3) h2
  ·have : j = k - 1 := by omega
   subst this
   exact h2
 have hup : ∀ y ∈ l.drop k, ltSt s y := fun y hy => by
  obtain ⟨j, hj, hjk, rfl⟩ := mem_drop_get hy
  exact hp.up j hj hjk
 unfold SortedS
 rw [List.pairwise_append]
 refine ⟨h.sublist (List.take_sublist _ _), ?_, fun x hx y hy => ?_⟩
 ·rw [List.pairwise_cons]
  exact ⟨fun y hy => ltSt_asymm (hup y hy), h.sublist (List.drop_sublist _ _)⟩
 ·rcases List.mem_cons.1 hy with rfl | hy
  ·exact hle x hx
  ·exact leSt_trans (hle x hx) (ltSt_asymm (hup y hy))
theorem addS_sorted {l : List StM} {s : StM} (h : SortedS l) : SortedS (addS l s) := by
 unfold addS
 split
 ·exact h
 ·exact putS_sorted h
theorem addS_rise {l : List StM} {s : StM} (h : RiseS l) : RiseS (addS l s) ↔ s ∉ l := by
 obtain ⟨h1, h2⟩ := rise_iff.1 h
 unfold addS
 split
 ·rename_i hs
  exact ⟨fun _ hm => by have := h1 s hm; omega, fun _ => h⟩
 ·rename_i hs
  constructor
  ·intro hr hm
   have h3 := (rise_iff.1 hr).2
   have hp : (putS l s).Nodup := h3.imp (fun {a b} h e => by subst e; exact ltSt_irrefl _ h)
   have := (putS_perm l s).nodup_iff.1 hp
   rw [List.nodup_cons] at this
   exact this.1 hm
  ·intro hm
   have hsort := putS_sorted (s := s) (rise_sorted h)
   have hp := putS_perm l s
   have hnd : l.Nodup := h2.imp (fun {a b} h e => by subst e; exact ltSt_irrefl _ h)
   have hnd2 : (putS l s).Nodup := hp.nodup_iff.2 (List.nodup_cons.2 ⟨hm, hnd⟩)
   refine rise_iff.2 ⟨fun x hx => ?_, ?_⟩
   ·rcases List.mem_cons.1 (hp.mem_iff.1 hx) with rfl | hx
    ·omega
    ·exact h1 x hx
   ·exact List.Pairwise.imp (fun {a b} (hab : (¬ ltSt b a) ∧ a ≠ b) => ltSt_of_le hab.1 hab.2) (List.pairwise_and_iff.2 ⟨hsort, hnd2⟩)
def tB (s : SpM) : Bool := decide (s.f < s.t)
def rowOf (s : SpM) (r : List SpM) : List SpM := (r.map (meetS s)).filter tB
def ofSp (x : StM) (m : SpM) : StM := ⟨m.f, m.t, x.n, x.s⟩
def piecesS (x : StM) (r : List SpM) : List StM := (rowOf x.sp r).map (ofSp x)
def rawS (l : List StM) (r : List SpM) : List StM := l.flatMap fun x => piecesS x r
def IsCut (l : List StM) (P : Int → Prop) (m : List StM) : Prop := ∃ r, IsSet P r ∧ m.Perm (rawS l r) ∧ SortedS m
theorem IsCut.only {l a b : List StM} {P : Int → Prop} (ha : IsCut l P a) (hb : IsCut l P b) : a = b := by
 obtain ⟨r, h1, h2, h3⟩ := ha
 obtain ⟨q, k1, k2, k3⟩ := hb
 obtain rfl := h1.only k1
 exact sorted_only h3 k3 (h2.trans k2.symm)
theorem IsCut.congr {l a : List StM} {P Q : Int → Prop} (ha : IsCut l P a) (h : ∀ x, P x ↔ Q x) : IsCut l Q a := by
 obtain ⟨r, h1, h2, h3⟩ := ha
 exact ⟨r, h1.congr h, h2, h3⟩
theorem rowOf_le (s : SpM) (r : List SpM) : (rowOf s r).length ≤ r.length := by
 unfold rowOf
 exact Nat.le_trans (List.length_filter_le _ _) (by simp)
theorem pieces_le (x : StM) (r : List SpM) : (piecesS x r).length ≤ r.length := by
 unfold piecesS
 rw [List.length_map]
 exact rowOf_le _ _
theorem raw_le (r : List SpM) : ∀ l : List StM, (rawS l r).length ≤ l.length * r.length
 | [] => by simp [rawS]
 | x :: l => by
  have ih := raw_le r l
  have h1 := pieces_le x r
  have e : rawS (x :: l) r = piecesS x r ++ rawS l r := by simp [rawS]
  rw [e, List.length_append, List.length_cons, Nat.succ_mul]
  omega
theorem raw_take (l : List StM) (r : List SpM) (j : Nat) (h : j < l.length) : rawS (l.take (j + 1)) r = rawS (l.take j) r ++ piecesS l[j] r := by
 unfold rawS
 rw [List.take_succ_eq_append_getElem h, List.flatMap_append]
 simp
theorem rowOf_take (s : SpM) (r : List SpM) (j : Nat) (h : j < r.length) : rowOf s (r.take (j + 1)) = rowOf s (r.take j) ++ (if (meetS s r[j]).f < (meetS s r[j]).t then [meetS s r[j]] else []) := by
 unfold rowOf
 rw [List.take_succ_eq_append_getElem h, List.map_append, List.filter_append]
 congr 1
 by_cases h1 : (meetS s r[j]).f < (meetS s r[j]).t
 ·simp [tB, h1]
 ·simp [tB, h1]
theorem rowOf_none {s : SpM} {r : List SpM} (h : ∀ n ∈ r, ¬ (meetS s n).f < (meetS s n).t) : rowOf s r = [] := by
 unfold rowOf
 rw [List.filter_eq_nil_iff]
 intro m hm
 obtain ⟨n, hn, rfl⟩ := List.mem_map.1 hm
 simpa [tB] using h n hn
theorem rowOf_append (s : SpM) (a b : List SpM) : rowOf s (a ++ b) = rowOf s a ++ rowOf s b := by simp [rowOf]
theorem rowOf_drop {s : SpM} {r : List SpM} {k : Nat} (h : ∀ j (hj : j < r.length), j < k → r[j].t ≤ s.f) : rowOf s (r.drop k) = rowOf s r := by
 have h1 : rowOf s (r.take k) = [] := rowOf_none fun n hn => by
  obtain ⟨j, hj, hjk, rfl⟩ := mem_take_get hn
  have := h j hj hjk
  show ¬ max s.f r[j].f < min s.t r[j].t
  omega
 have h2 := rowOf_append s (r.take k) (r.drop k)
 rw [List.take_append_drop, h1, List.nil_append] at h2
 exact h2.symm
theorem rowOf_rest {s : SpM} {n : SpM} {r : List SpM} (hn : NormL (n :: r)) (ht : s.f < n.t) (h : ¬ (meetS s n).f < (meetS s n).t) : rowOf s (n :: r) = [] := by
 have h1 : ¬ max s.f n.f < min s.t n.t := h
 have h2 := hn.2 n (by simp)
 refine rowOf_none fun o ho => ?_
 show ¬ max s.f o.f < min s.t o.t
 rcases List.mem_cons.1 ho with rfl | ho
 ·exact h1
 ·have := hn.1.2.1 o ho
  omega
end Go.Proofs.YtmfpjapiijgdgaaGreat
namespace Go.Proofs.YtmfpjapiijgdgaaGreat
open Go.Lib
set_option linter.unusedVariables false
set_option maxRecDepth 100000
theorem cb_refl : ∀ a : List UInt8, compareBytes a a = 0
 | [] => rfl
 | x :: r => by unfold compareBytes; rw [if_neg (by simp), if_neg (by simp)]; exact cb_refl r
theorem cb_eq : ∀ a b : List UInt8, compareBytes a b = 0 → a = b
 | [], [], _ => rfl
 | [], _ :: _, h => by simp [compareBytes] at h
 | _ :: _, [], h => by simp [compareBytes] at h
 | x :: r, y :: s, h => by
  unfold compareBytes at h
  split at h
  ·simp at h
  ·split at h
   ·simp at h
   ·rename_i h1 h2
    have e : x = y := by
     rw [UInt8.lt_iff_toNat_lt] at h1 h2
     exact UInt8.toNat_inj.1 (by omega)
    rw [e, cb_eq r s h]
theorem cb_neg : ∀ a b : List UInt8, compareBytes b a = - compareBytes a b
 | [], [] => rfl
 | [], _ :: _ => rfl
 | _ :: _, [] => rfl
 | x :: r, y :: s => by
  unfold compareBytes
  simp only [UInt8.lt_iff_toNat_lt]
  by_cases h1 : x.toNat < y.toNat
  ·have h2 : ¬ y.toNat < x.toNat := by omega
   simp only [h1, h2, ↓reduceIte]; rfl
  ·by_cases h2 : y.toNat < x.toNat
   ·simp only [h1, h2, ↓reduceIte]
   ·simp only [h1, h2, ↓reduceIte]; exact cb_neg r s
theorem cb_trans : ∀ a b c : List UInt8, compareBytes a b < 0 → compareBytes b c < 0 → compareBytes a c < 0
 | [], [], _, h, _ => by simp [compareBytes] at h
 | _ :: _, [], _, h, _ => by simp [compareBytes] at h
 | _, _ :: _, [], _, h => by simp [compareBytes] at h
 | [], _ :: _, _ :: _, _, _ => by simp [compareBytes]
 | x :: r, y :: s, z :: t, h1, h2 => by
  unfold compareBytes at h1 h2 ⊢
  simp only [UInt8.lt_iff_toNat_lt] at h1 h2 ⊢
  by_cases a1 : x.toNat < y.toNat
  ·by_cases a2 : y.toNat < z.toNat
   ·rw [if_pos (by omega)]; omega
   ·rw [if_neg a2] at h2
    by_cases a3 : z.toNat < y.toNat
    ·rw [if_pos a3] at h2; omega
    ·rw [if_pos (by omega)]; omega
  ·rw [if_neg a1] at h1
   by_cases a3 : y.toNat < x.toNat
   ·rw [if_pos a3] at h1; omega
   ·rw [if_neg a3] at h1
    by_cases a2 : y.toNat < z.toNat
    ·rw [if_pos (by omega)]; omega
    ·rw [if_neg a2] at h2
     by_cases a4 : z.toNat < y.toNat
     ·rw [if_pos a4] at h2; omega
     ·rw [if_neg a4] at h2
      rw [if_neg (by omega), if_neg (by omega)]
      exact cb_trans r s t h1 h2
def isB (c : UInt8) : Bool := (97 ≤ c && c ≤ 122) || (48 ≤ c && c ≤ 57)
def isName (l : List UInt8) : Bool := decide (1 ≤ l.length) && decide (l.length ≤ 12) && l.all isB
theorem isB_eq (c : UInt8) : isB c = ((decide (97 ≤ (c.toNat : Int)) && decide ((c.toNat : Int) ≤ 122)) || (decide (48 ≤ (c.toNat : Int)) && decide ((c.toNat : Int) ≤ 57))) := by
 unfold isB
 simp only [UInt8.le_iff_toNat_le]
 rw [Bool.eq_iff_iff]
 simp
 omega
theorem all_take_succ (p : UInt8 → Bool) (s : ByteArray) (k : Nat) (h : k < s.size) (h1 : (s.data.toList.take k).all p = true) (h2 : p s[k] = true) : (s.data.toList.take (k + 1)).all p = true := by
 rw [List.take_succ_eq_append_getElem (by simpa using h), List.all_append, h1]
 simp only [List.all_cons, List.all_nil, Bool.and_true, Bool.true_and]
 exact h2
theorem all_false_of (p : UInt8 → Bool) (s : ByteArray) (k : Nat) (h : k < s.size) (h2 : p s[k] = false) : s.data.toList.all p = false := by
 rw [List.all_eq_false]
 exact ⟨s[k], by simp [ByteArray.getElem_eq_getElem_data], by simp [h2]⟩
theorem isName_short (s : ByteArray) (h : s.size < 1 ∨ 12 < s.size) : isName s.data.toList = false := by
 unfold isName
 have : s.data.toList.length = s.size := by simp
 rw [this]
 rcases h with h | h
 ·simp; omega
 ·simp; omega
theorem isName_all (s : ByteArray) (h1 : 1 ≤ s.size) (h2 : s.size ≤ 12) (k : Nat) (hk : s.size ≤ k) (h : (s.data.toList.take k).all isB = true) : isName s.data.toList = true := by
 unfold isName
 rw [List.take_of_length_le (by simpa using hk)] at h
 have : s.data.toList.length = s.size := by simp
 rw [this, h]
 simp
 omega
theorem isName_not (s : ByteArray) (k : Nat) (h : k < s.size) (h2 : isB s[k] = false) : isName s.data.toList = false := by
 unfold isName
 rw [all_false_of isB s k h h2]
 simp
theorem all_take_next (p : ByteArray → Bool) (l : List ByteArray) (k : Nat) (h : k < l.length) (h1 : (l.take k).all p = true) (h2 : p l[k] = true) : (l.take (k + 1)).all p = true := by
 rw [List.take_succ_eq_append_getElem h, List.all_append, h1]
 simp only [List.all_cons, List.all_nil, Bool.and_true, Bool.true_and]
 exact h2
theorem all_not_at (p : ByteArray → Bool) (l : List ByteArray) (k : Nat) (h : k < l.length) (h2 : p l[k] = false) : l.all p = false := by
 rw [List.all_eq_false]
 exact ⟨l[k], List.getElem_mem h, by simp [h2]⟩
theorem all_take_end (p : ByteArray → Bool) (l : List ByteArray) (k : Nat) (h : l.length ≤ k) (h1 : (l.take k).all p = true) : l.all p = true := by
 rwa [List.take_of_length_le h] at h1
end Go.Proofs.YtmfpjapiijgdgaaGreat
namespace Go.Proofs.YtmfpjapiijgdgaaGreat
set_option linter.unusedVariables false
set_option maxRecDepth 100000
structure OpM where
 n : Int
 u : ByteArray
 s : Int
 f : Int
def opZ : OpM := ⟨0, ⟨#[]⟩, 0, 0⟩
instance : Inhabited OpM := ⟨opZ⟩
structure IsFst {α : Type} (p : α → Bool) (l : List α) (k : Nat) : Prop where
 le : k ≤ l.length
 low : ∀ i (h : i < l.length), i < k → p l[i] = false
 hit : ∀ (h : k < l.length), p l[k] = true
theorem fst_idx {α : Type} (p : α → Bool) (l : List α) : IsFst p l (l.findIdx p) :=
 ⟨List.findIdx_le_length, fun i h h1 => by simpa using List.not_of_lt_findIdx h1, fun h => List.findIdx_getElem (w := h)⟩
theorem IsFst.only {α : Type} {p : α → Bool} {l : List α} {a b : Nat} (ha : IsFst p l a) (hb : IsFst p l b) : a = b := by
 have h1 := ha.le
 have h2 := hb.le
 rcases Nat.lt_trichotomy a b with h | h | h
 ·have k1 := ha.hit (by omega)
  rw [hb.low a (by omega) h] at k1
  cases k1
 ·exact h
 ·have k1 := hb.hit (by omega)
  rw [ha.low b (by omega) h] at k1
  cases k1
theorem IsFst.idx {α : Type} {p : α → Bool} {l : List α} {k : Nat} (h : IsFst p l k) : l.findIdx p = k := (fst_idx p l).only h
theorem IsFst.any {α : Type} {p : α → Bool} {l : List α} {k : Nat} (h : IsFst p l k) : l.any p = decide (k < l.length) := by
 by_cases h1 : k < l.length
 ·rw [decide_eq_true h1, List.any_eq_true]
  exact ⟨_, List.getElem_mem h1, h.hit h1⟩
 ·rw [decide_eq_false h1, List.any_eq_false]
  intro x hx
  obtain ⟨i, hi, rfl⟩ := List.getElem_of_mem hx
  rw [h.low i hi (by omega)]
  exact Bool.false_ne_true
theorem IsFst.take {α : Type} {p : α → Bool} {l : List α} {k : Nat} (h : IsFst p l k) : ∀ x ∈ l.take k, p x = false := fun x hx => by
 obtain ⟨j, hj, hjk, rfl⟩ := mem_take_get hx
 exact h.low j hj hjk
def LoTo {α : Type} (p : α → Bool) (l : List α) (j : Nat) : Prop := ∀ i (h : i < l.length), i < j → p l[i] = false
theorem LoTo.zero {α : Type} (p : α → Bool) (l : List α) : LoTo p l 0 := fun i _ h => absurd h (by omega)
theorem LoTo.next {α : Type} {p : α → Bool} {l : List α} {j : Nat} (h : LoTo p l j) (hj : j < l.length) (hp : p l[j] = false) : LoTo p l (j + 1) := fun i hi hij => by
 rcases Nat.lt_or_ge i j with h1 | h1
 ·exact h i hi h1
 ·obtain rfl : i = j := by omega
  exact hp
theorem LoTo.hit {α : Type} {p : α → Bool} {l : List α} {j : Nat} (h : LoTo p l j) (hj : j < l.length) (hp : p l[j] = true) : IsFst p l j := ⟨Nat.le_of_lt hj, h, fun _ => hp⟩
theorem LoTo.miss {α : Type} {p : α → Bool} {l : List α} (h : LoTo p l l.length) : IsFst p l l.length := ⟨Nat.le_refl _, h, fun h => absurd h (by omega)⟩
def idxO {α : Type} (p : α → Bool) (l : List α) : Int := if l.findIdx p < l.length then (l.findIdx p : Nat) else -1
theorem idxO_hit {α : Type} {p : α → Bool} {l : List α} {k : Nat} (h : IsFst p l k) (hk : k < l.length) : idxO p l = k := by
 unfold idxO
 rw [h.idx, if_pos hk]
theorem idxO_miss {α : Type} {p : α → Bool} {l : List α} (h : IsFst p l l.length) : idxO p l = -1 := by
 unfold idxO
 rw [h.idx, if_neg (by omega)]
theorem idxO_any {α : Type} (p : α → Bool) (l : List α) : decide (0 ≤ idxO p l) = l.any p := by
 have h := fst_idx p l
 rw [h.any]
 by_cases h1 : l.findIdx p < l.length
 ·rw [idxO_hit h h1, decide_eq_true h1]
  exact decide_eq_true (by omega)
 ·rw [decide_eq_false h1]
  unfold idxO
  rw [if_neg h1]
  rfl
def hasN (n : Int) (e : OpM) : Bool := decide (e.n = n)
def abvN (n : Int) (e : OpM) : Bool := decide (n < e.n)
theorem hasN_iff {n : Int} {e : OpM} : hasN n e = true ↔ e.n = n := decide_eq_true_iff
theorem abvN_iff {n : Int} {e : OpM} : abvN n e = true ↔ n < e.n := decide_eq_true_iff
def openS (l : List OpM) (e : OpM) : List OpM := l.take (l.findIdx (abvN e.n)) ++ e :: l.drop (l.findIdx (abvN e.n))
def openC (l : List OpM) (e : OpM) : Int := if l.any (hasN e.n) = true then 100 else if 16 ≤ l.length then 103 else 0
def openR (l : List OpM) (e : OpM) : List OpM := if openC l e = 0 then openS l e else []
theorem open_at {l : List OpM} {e : OpM} {k : Nat} (h : IsFst (abvN e.n) l k) : openS l e = l.take k ++ e :: l.drop k := by
 unfold openS
 rw [h.idx]
theorem open_len (l : List OpM) (e : OpM) : (openS l e).length = l.length + 1 := by
 have h := (fst_idx (abvN e.n) l).le
 unfold openS
 generalize l.findIdx _ = k at *
 simp only [List.length_append, List.length_take, List.length_cons, List.length_drop]
 omega
theorem openR_len (l : List OpM) (e : OpM) : (openR l e).length ≤ l.length + 1 := by
 unfold openR
 split
 ·rw [open_len]; omega
 ·simp
def findC (l : List OpM) (n : Int) (u : ByteArray) : Int := match l.find? (hasN n) with
 | none => 101
 | some e => if e.u = u then 0 else 102
def findE (l : List OpM) (n : Int) (u : ByteArray) : OpM := match l.find? (hasN n) with
 | none => opZ
 | some e => if e.u = u then e else opZ
def findP (l : List OpM) (n : Int) (u : ByteArray) : Nat := if findC l n u = 0 then l.findIdx (hasN n) else 0
theorem find_hit {l : List OpM} {n : Int} {k : Nat} (h : IsFst (hasN n) l k) (hk : k < l.length) : l.find? (hasN n) = some l[k] := by
 rw [List.find?_eq_some_iff_getElem]
 exact ⟨h.hit hk, k, hk, rfl, fun j hj => by rw [h.low j (by omega) hj]; rfl⟩
theorem find_miss {l : List OpM} {n : Int} (h : IsFst (hasN n) l l.length) : l.find? (hasN n) = none := by
 rw [List.find?_eq_none]
 intro x hx
 obtain ⟨j, hj, rfl⟩ := List.getElem_of_mem hx
 rw [h.low j hj hj]
 exact Bool.false_ne_true
theorem fc_miss {l : List OpM} {n : Int} (h : IsFst (hasN n) l l.length) (u : ByteArray) : findC l n u = 101 ∧ findE l n u = opZ ∧ findP l n u = 0 := by
 have h1 : findC l n u = 101 := by unfold findC; rw [find_miss h]
 refine ⟨h1, by unfold findE; rw [find_miss h], ?_⟩
 unfold findP
 rw [h1, if_neg (by decide)]
theorem fc_user {l : List OpM} {n : Int} {k : Nat} (h : IsFst (hasN n) l k) (hk : k < l.length) {u : ByteArray} (hu : ¬ l[k].u = u) : findC l n u = 102 ∧ findE l n u = opZ ∧ findP l n u = 0 := by
 have h1 : findC l n u = 102 := by unfold findC; rw [find_hit h hk]; exact if_neg hu
 refine ⟨h1, by unfold findE; rw [find_hit h hk]; exact if_neg hu, ?_⟩
 unfold findP
 rw [h1, if_neg (by decide)]
theorem fc_hit {l : List OpM} {n : Int} {k : Nat} (h : IsFst (hasN n) l k) (hk : k < l.length) {u : ByteArray} (hu : l[k].u = u) : findC l n u = 0 ∧ findE l n u = l[k] ∧ findP l n u = k := by
 have h1 : findC l n u = 0 := by unfold findC; rw [find_hit h hk]; exact if_pos hu
 refine ⟨h1, by unfold findE; rw [find_hit h hk]; exact if_pos hu, ?_⟩
 unfold findP
 rw [h1, if_pos rfl, h.idx]
theorem fc_three (l : List OpM) (n : Int) (u : ByteArray) : (findC l n u = 0 ∧ ∃ k, ∃ h : k < l.length, IsFst (hasN n) l k ∧ l[k].n = n ∧ l[k].u = u ∧ findE l n u = l[k] ∧ findP l n u = k) ∨ ((findC l n u = 101 ∨ findC l n u = 102) ∧ findE l n u = opZ ∧ findP l n u = 0) := by
 have h := fst_idx (hasN n) l
 generalize l.findIdx (hasN n) = k at h
 by_cases hk : k < l.length
 ·by_cases hu : l[k].u = u
  ·obtain ⟨h1, h2, h3⟩ := fc_hit h hk hu
   exact .inl ⟨h1, k, hk, h, hasN_iff.1 (h.hit hk), hu, h2, h3⟩
  ·obtain ⟨h1, h2, h3⟩ := fc_user h hk hu
   exact .inr ⟨.inr h1, h2, h3⟩
 ·obtain rfl : k = l.length := by have := h.le; omega
  obtain ⟨h1, h2, h3⟩ := fc_miss h u
  exact .inr ⟨.inl h1, h2, h3⟩
def chgAt (l : List OpM) (k : Nat) (s f : Int) : List OpM := match l[k]? with
 | some e => l.take k ++ ⟨e.n, e.u, s, f⟩ :: l.drop (k + 1)
 | none => l
theorem chgAt_at {l : List OpM} {k : Nat} (h : k < l.length) (s f : Int) : chgAt l k s f = l.take k ++ ⟨l[k].n, l[k].u, s, f⟩ :: l.drop (k + 1) := by
 unfold chgAt
 rw [List.getElem?_eq_getElem h]
theorem chgAt_len (l : List OpM) (k : Nat) (s f : Int) : (chgAt l k s f).length = l.length := by
 by_cases h : k < l.length
 ·rw [chgAt_at h]
  simp only [List.length_append, List.length_take, List.length_cons, List.length_drop]
  omega
 ·unfold chgAt
  rw [List.getElem?_eq_none (by omega)]
def cutAt (l : List OpM) (k : Nat) : List OpM := l.take k ++ l.drop (k + 1)
theorem cutAt_len (l : List OpM) (k : Nat) : (cutAt l k).length ≤ l.length := by
 unfold cutAt
 simp only [List.length_append, List.length_take, List.length_drop]
 omega
def stayO (e : OpM) (w : Int) : StM := ⟨e.f, w, e.n, e.s⟩
def stZ : StM := ⟨0, 0, 0, 0⟩
def chgR (l : List OpM) (n : Int) (u : ByteArray) (s w : Int) : List OpM := if findC l n u = 0 then chgAt l (findP l n u) s w else []
def cloR (l : List OpM) (n : Int) (u : ByteArray) : List OpM := if findC l n u = 0 then cutAt l (findP l n u) else []
def fndS (l : List OpM) (n : Int) (u : ByteArray) (w : Int) : StM := if findC l n u = 0 then stayO (findE l n u) w else stZ
theorem chgR_len (l : List OpM) (n : Int) (u : ByteArray) (s w : Int) : (chgR l n u s w).length ≤ l.length := by
 unfold chgR
 split
 ·rw [chgAt_len]; omega
 ·simp
theorem cloR_len (l : List OpM) (n : Int) (u : ByteArray) : (cloR l n u).length ≤ l.length := by
 unfold cloR
 split
 ·exact cutAt_len _ _
 ·simp
def nameO (s : ByteArray) : Bool := isName s.data.toList
def OkO (e : OpM) : Prop := nameO e.u = true ∧ 1 ≤ e.n ∧ e.n ≤ 999 ∧ 1 ≤ e.s ∧ e.s ≤ 4 ∧ 0 ≤ e.f ∧ e.f ≤ 1099511627775
instance okODec (e : OpM) : Decidable (OkO e) := by unfold OkO; infer_instance
def RiseO (l : List OpM) : Prop := l.length ≤ 16 ∧ ∀ k (h : k < l.length), OkO l[k] ∧ (0 < k → (l[k - 1]'(by omega)).n < l[k].n)
instance riseODec (l : List OpM) : Decidable (RiseO l) := by unfold RiseO; infer_instance
theorem riseO_iff {l : List OpM} : RiseO l ↔ l.length ≤ 16 ∧ (∀ e ∈ l, OkO e) ∧ l.Pairwise (fun a b => a.n < b.n) := by
 constructor
 ·rintro ⟨h0, h⟩
  refine ⟨h0, fun s hs => ?_, ?_⟩
  ·obtain ⟨k, hk, rfl⟩ := List.getElem_of_mem hs
   exact (h k hk).1
  ·rw [List.pairwise_iff_getElem]
   intro i j hi hj hij
   induction j with
   | zero => omega
   | succ j ih =>
    have h1 := (h (j + 1) hj).2 (by omega)
    rcases Nat.lt_or_ge i j with h2 | h2
    ·exact Int.lt_trans (ih (by omega) h2) h1
    ·obtain rfl : i = j := by omega
     exact h1
 ·rintro ⟨h0, h1, h2⟩
  exact ⟨h0, fun k hk => ⟨h1 _ (List.getElem_mem hk), fun h0 => List.pairwise_iff_getElem.1 h2 (k - 1) k (by omega) hk (by omega)⟩⟩
theorem openC_ok {l : List OpM} {e : OpM} (h : openC l e = 0) : l.length < 16 ∧ ∀ x ∈ l, ¬ x.n = e.n := by
 unfold openC at h
 split at h
 ·exact absurd h (by decide)
 ·rename_i h1
  split at h
  ·exact absurd h (by decide)
  ·rename_i h2
   refine ⟨by omega, fun x hx hn => h1 ?_⟩
   rw [List.any_eq_true]
   exact ⟨x, hx, hasN_iff.2 hn⟩
theorem open_rise {l : List OpM} {e : OpM} (hc : openC l e = 0) (hl : RiseO l) (he : RiseO [e]) : RiseO (openR l e) := by
 unfold openR
 rw [if_pos hc]
 obtain ⟨hlen, hno⟩ := openC_ok hc
 obtain ⟨_, hok, hpw⟩ := riseO_iff.1 hl
 have hoe : OkO e := (riseO_iff.1 he).2.1 e (by simp)
 have hf := fst_idx (abvN e.n) l
 rw [riseO_iff, open_len]
 refine ⟨by omega, ?_, ?_⟩
 ·unfold openS
  intro x hx
  rcases List.mem_append.1 hx with h | h
  ·exact hok x (List.mem_of_mem_take h)
  ·rcases List.mem_cons.1 h with rfl | h
   ·exact hoe
   ·exact hok x (List.mem_of_mem_drop h)
 ·unfold openS
  generalize l.findIdx (abvN e.n) = k at *
  have hlow : ∀ x ∈ l.take k, x.n < e.n := fun x hx => by
   have h1 := hf.take x hx
   have h2 := hno x (List.mem_of_mem_take hx)
   have h3 : ¬ e.n < x.n := of_decide_eq_false h1
   omega
  have hup : ∀ y ∈ l.drop k, e.n < y.n := fun y hy => by
   obtain ⟨j, hj, hjk, rfl⟩ := mem_drop_get hy
   have h1 := abvN_iff.1 (hf.hit (by omega))
   rcases Nat.lt_or_ge k j with h2 | h2
   ·exact Int.lt_trans h1 (List.pairwise_iff_getElem.1 hpw k j (by omega) hj h2)
   ·obtain rfl : k = j := by omega
    exact h1
  rw [List.pairwise_append]
  refine ⟨hpw.sublist (List.take_sublist _ _), ?_, fun x hx y hy => ?_⟩
  ·rw [List.pairwise_cons]
   exact ⟨fun y hy => hup y hy, hpw.sublist (List.drop_sublist _ _)⟩
  ·rcases List.mem_cons.1 hy with rfl | hy
   ·exact hlow x hx
   ·exact Int.lt_trans (hlow x hx) (hup y hy)
def notU (u : ByteArray) (e : OpM) : Bool := decide (¬ e.u = u)
def stU (u : ByteArray) (w : Int) (e : OpM) : Bool := decide (e.u = u) && decide (e.f < w)
def rawO (l : List OpM) (u : ByteArray) (w : Int) : List StM := (l.filter (stU u w)).map fun e => stayO e w
def staysO (l : List OpM) (u : ByteArray) (w : Int) : List StM := l.foldl (fun r e => if e.u = u then addS r (stayO e w) else r) []
theorem rawO_next (l : List OpM) (u : ByteArray) (w : Int) (j : Nat) (h : j < l.length) : rawO (l.take (j + 1)) u w = if stU u w l[j] = true then rawO (l.take j) u w ++ [stayO l[j] w] else rawO (l.take j) u w := by
 unfold rawO
 rw [List.take_succ_eq_append_getElem h, List.filter_append, List.filter_cons, List.filter_nil, List.map_append]
 split
 ·rfl
 ·rw [List.map_nil, List.append_nil]
theorem rawO_len (l : List OpM) (u : ByteArray) (w : Int) : (rawO l u w).length ≤ l.length := by
 unfold rawO
 rw [List.length_map]
 exact List.length_filter_le _ _
theorem staysO_next (l : List OpM) (u : ByteArray) (w : Int) (j : Nat) (h : j < l.length) : staysO (l.take (j + 1)) u w = if l[j].u = u then addS (staysO (l.take j) u w) (stayO l[j] w) else staysO (l.take j) u w := by
 unfold staysO
 rw [List.take_succ_eq_append_getElem h, List.foldl_append]
 rfl
theorem stays_is (l : List OpM) (u : ByteArray) (w : Int) : ∀ j, j ≤ l.length → (staysO (l.take j) u w).Perm (rawO (l.take j) u w) ∧ SortedS (staysO (l.take j) u w)
 | 0, _ => by
  rw [List.take_zero]
  exact ⟨List.Perm.refl _, List.Pairwise.nil⟩
 | j + 1, h => by
  obtain ⟨h1, h2⟩ := stays_is l u w j (by omega)
  rw [staysO_next l u w j (by omega), rawO_next l u w j (by omega)]
  generalize staysO (l.take j) u w = a at *
  generalize rawO (l.take j) u w = b at *
  generalize l[j] = e at *
  by_cases hu : e.u = u
  ·rw [if_pos hu]
   by_cases hw : e.f < w
   ·have : stU u w e = true := by unfold stU; rw [decide_eq_true hu, decide_eq_true hw]; rfl
    rw [if_pos this]
    refine ⟨?_, addS_sorted h2⟩
    have h3 : addS a (stayO e w) = putS a (stayO e w) := if_neg (show ¬ w ≤ e.f by omega)
    rw [h3]
    refine (putS_perm _ _).trans ((h1.cons _).trans ?_)
    exact (List.perm_append_singleton _ _).symm
   ·have : ¬ stU u w e = true := by unfold stU; rw [decide_eq_false hw, Bool.and_false]; exact Bool.false_ne_true
    rw [if_neg this]
    have h3 : addS a (stayO e w) = a := if_pos (show w ≤ e.f by omega)
    rw [h3]
    exact ⟨h1, h2⟩
  ·have : ¬ stU u w e = true := by unfold stU; rw [decide_eq_false hu]; exact Bool.false_ne_true
   rw [if_neg hu, if_neg this]
   exact ⟨h1, h2⟩
theorem stays_only {l : List OpM} {u : ByteArray} {w : Int} {m : List StM} (hp : m.Perm (rawO l u w)) (hs : m.Pairwise fun a b => ¬ ltSt b a) : m = staysO l u w := by
 have h := stays_is l u w l.length (Nat.le_refl _)
 rw [List.take_of_length_le (Nat.le_refl _)] at h
 exact sorted_only hs h.2 (hp.trans h.1.symm)
theorem staysO_len (l : List OpM) (u : ByteArray) (w : Int) (j : Nat) : (staysO (l.take j) u w).length ≤ j := by
 rcases Nat.lt_or_ge l.length j with h | h
 ·rw [List.take_of_length_le (Nat.le_of_lt h)]
  have h1 := (stays_is l u w l.length (Nat.le_refl _)).1.length_eq
  rw [List.take_of_length_le (Nat.le_refl _)] at h1
  have := rawO_len l u w
  omega
 ·have h1 := (stays_is l u w j h).1.length_eq
  have h2 := rawO_len (l.take j) u w
  have h3 : (l.take j).length ≤ j := by simp; omega
  omega
end Go.Proofs.YtmfpjapiijgdgaaGreat
namespace Go.Proofs.YtmfpjapiijgdgaaGreat
open Go.RowKit
set_option linter.unusedVariables false
set_option maxRecDepth 100000
set_option maxRecDepth 100000
theorem size1 (w : World) (o : Obj) : (w.alloc o).heap.size = w.heap.size + 1 := by simp
def sps (l : List SpM) : List Value := l.flatMap fun s => [.int .i64 s.f, .int .i64 s.t]
theorem sps_cons (s : SpM) (l : List SpM) : sps (s :: l) = [.int .i64 s.f, .int .i64 s.t] ++ sps l := by simp [sps]
theorem sps_len (l : List SpM) : (sps l).length = l.length * 2 := by
 induction l with
 | nil => rfl
 | cons e l ih => rw [sps_cons, List.length_append, ih, List.length_cons]; simp only [List.length_cons, List.length_nil]; omega
theorem sps_snoc (l : List SpM) (x : SpM) : sps (l ++ [x]) = sps l ++ [.int .i64 x.f, .int .i64 x.t] := by simp [sps]
theorem sps_get (l : List SpM) : ∀ (k : Nat) (h : k < l.length), (sps l)[k * 2]? = some (.int .i64 l[k].f) ∧ (sps l)[k * 2 + 1]? = some (.int .i64 l[k].t) := by
 induction l with
 | nil => intro k h; exact absurd h (by simp)
 | cons x l ih =>
  intro k h
  rw [sps_cons]
  cases k with
  | zero => exact ⟨rfl, rfl⟩
  | succ k =>
   have := ih k (by simpa using h)
   rw [show (k + 1) * 2 = k * 2 + 1 + 1 by omega]
   simpa using this
def SpSl (w : World) (a : Option Addr) (l : List SpM) : Prop := ∀ k (h : k < l.length), ∃ b off, a = some ⟨b, off, none⟩ ∧ b < w.heap.size ∧
 w.cell? ⟨b, off + k * 2, none⟩ = some (.int .i64 l[k].f) ∧ w.cell? ⟨b, off + k * 2 + 1, none⟩ = some (.int .i64 l[k].t)
theorem SpSl.nil (w : World) (a : Option Addr) : SpSl w a [] := fun k h => absurd h (by simp)
theorem SpSl.below {w w' : World} {a : Option Addr} {l : List SpM} (h : SpSl w a l) (hb : Below w.heap.size w w') : SpSl w' a l := fun k hk => by
 obtain ⟨b, off, e, hlt, h0, h1⟩ := h k hk
 exact ⟨b, off, e, Nat.lt_of_lt_of_le hlt hb.size, (hb.cell (p := ⟨b, off + k * 2, none⟩) hlt).trans h0, (hb.cell (p := ⟨b, off + k * 2 + 1, none⟩) hlt).trans h1⟩
theorem SpSl.at_ {w : World} {a : Option Addr} {l : List SpM} (h : SpSl w a l) {k : Nat} (hk : k < l.length) : ∃ b off, a = some ⟨b, off, none⟩ ∧ b < w.heap.size ∧
  w.cell? ⟨b, off + k * 2, none⟩ = some (.int .i64 l[k].f) ∧ w.cell? ⟨b, off + k * 2 + 1, none⟩ = some (.int .i64 l[k].t) := h k hk
theorem SpSl.tail {w : World} {b off : Nat} {s : SpM} {l : List SpM} (h : SpSl w (some ⟨b, off, none⟩) (s :: l)) : SpSl w (some ⟨b, off + 2, none⟩) l := fun k hk => by
 obtain ⟨b', off', e, hlt, h0, h1⟩ := h (k + 1) (by simpa using hk)
 cases e
 exact ⟨b, off + 2, rfl, hlt, by rw [show off + 2 + k * 2 = off + (k + 1) * 2 by omega]; simpa using h0, by rw [show off + 2 + k * 2 + 1 = off + (k + 1) * 2 + 1 by omega]; simpa using h1⟩
theorem own_sp {w : World} {B e : Nat} {v : Value} {l : List SpM} (h : w.ownsRow B e 2 v l.length (sps l)) : ∃ a c, v = .slice a l.length c ∧ l.length ≤ c ∧ SpSl w a l := by
 rcases h.2 with ⟨rfl, hn⟩ | ⟨g, cap, cur, rfl, hg, hh, hn, hc, hsz, ht⟩
 ·have : l = [] := List.eq_nil_of_length_eq_zero hn
  subst this
  exact ⟨none, 0, rfl, Nat.le_refl _, SpSl.nil _ _⟩
 ·refine ⟨_, cap, rfl, hn, fun k hk => ⟨g, 0, rfl, ?_, ?_, ?_⟩⟩
  ·rcases Nat.lt_or_ge g w.heap.size with h1 | h1
   ·exact h1
   ·rw [Array.getElem?_eq_none h1] at hh; cases hh
  ·have hg := (sps_get l k hk).1
   rw [← ht, List.getElem?_take, if_pos (by omega), Array.getElem?_toList] at hg
   rw [cell_of_row w g _ cur e (0, 0) hh, Nat.zero_add, hg]
  ·have hg := (sps_get l k hk).2
   rw [← ht, List.getElem?_take, if_pos (by omega), Array.getElem?_toList] at hg
   rw [cell_of_row w g _ cur e (0, 0) hh, Nat.zero_add, hg]
theorem two_one (a b : Int) : ∀ u ∈ [Value.int .i64 a, .int .i64 b], u.oneCell' = true := by
 intro u hu
 simp only [List.mem_cons, List.mem_nil_iff, or_false] at hu
 rcases hu with rfl | rfl <;> rfl
theorem own_below {w w' : World} {B e k n : Nat} {v : Value} {xs : List Value} (h : w.ownsRow B e k v n xs) (hb : Below w.heap.size w w') : w'.ownsRow B e k v n xs := by
 refine ⟨h.1, ?_⟩
 rcases h.2 with h | ⟨g, cap, cur, r1, r2, r3, r4⟩
 ·exact .inl h
 ·refine .inr ⟨g, cap, cur, r1, r2, ?_, r4⟩
  rw [hb.block g ?_]
  ·exact r3
  ·rcases Nat.lt_or_ge g w.heap.size with h1 | h1
   ·exact h1
   ·rw [Array.getElem?_eq_none h1] at r3; cases r3
theorem app_below {B : Nat} {w W w' : World} {e k n : Nat} {v : Value} {xs : List Value} (hB : Below B w W) (hs : B ≤ W.heap.size) (ho : W.ownsRow B e k v n xs) (hg : W.grownBy w' v.ownBlock) : Below B w w' :=
 hB.grown hg hs (fun j hj => (ho.lt j hj).1)
theorem news_at (W : World) (xs : Array Value) (t : TypeId) (g : Nat) (hg : g = W.heap.size) : ∀ j u, xs.toList[j]? = some u → (W.alloc (.cells xs t)).cell? ((⟨g, 0, none⟩ : Addr).add j) = some u := by
 subst hg; exact Sl.cells (sl_lit W xs t)
theorem below_two (w : World) (o p : Obj) : Below w.heap.size w ((w.alloc o).alloc p) := ((Below.refl _ _).alloc (Nat.le_refl _) _).alloc (by rw [size1]; omega) _
theorem heap_lt {W : World} {G : Nat} {o : Obj} (h : W.heap[G]? = some o) : G < W.heap.size := (Array.getElem?_eq_some_iff.1 h).1
theorem infoSpan : (Tryz.prog.info? 90).map (fun i => (i.zero, i.size, i.bytes)) = some (some (.agg #[.int .i64 0, .int .i64 0]), 2, 16) := by kernel_rfl
theorem infoSpan2 : (Tryz.prog.info? 90).map (·.size) = some 2 := by kernel_rfl
theorem loadSp {W : World} {g : Nat} {a b : Value} {t : TypeId} (h : W.heap[g]? = some (.cells #[a, b] t (0, 0))) :
  (loadVar 90 ⟨g, 0, none⟩).run Tryz.prog W = .ok (.agg #[a, b]) W :=
 run_loadVar_mid (P := Tryz.prog) W g 0 90 [a, b] _ (fun j v hv => by
  rw [Nat.zero_add, cell_of_row _ _ _ _ _ (0, 0) h]
  simpa using hv) Tryz.underlying90 rfl infoSpan2
theorem heap_setCell_at {w : World} {p : Nat} {cur : Array Value} {t : TypeId} (h : w.heap[p]? = some (.cells cur t (0, 0))) (i : Nat) (v : Value) :
  (w.setCell ⟨p, i, none⟩ v).heap[p]? = some (.cells (cur.setIfInBounds i v) t (0, 0)) := by
 obtain ⟨hlt, hk⟩ := Array.getElem?_eq_some_iff.1 h
 show (w.heap.modify p _)[p]? = _
 rw [Array.getElem?_eq_getElem (by rw [Array.size_modify]; exact hlt), Array.getElem_modify_self, hk]
 rfl
theorem results_cell1 {fn : Func} {p : Tmp} {ty : TypeId} (h : fn.results = #[.cell p ty]) (tmps : Array Value) (P : Program) (w : World) :
  (results fn tmps).run P w = ((asAddr (tmps.getD p undef)).run P w).andThen fun a w₁ => (loadVar ty a).run P w₁ := by
 simp only [results, h]
 simp [Sem.run_bind, Result.andThen]
def spV (s : SpM) : Value := .agg #[.int .i64 s.f, .int .i64 s.t]
def I64 (n : Int) : Prop := -9223372036854775808 ≤ n ∧ n ≤ 9223372036854775807
theorem none_any (f t : Int) (w : World) : Calls Tryz.prog 108 #[.agg #[.int .i64 f, .int .i64 t]] w fun e w' => e = .returned (.bool (decide (t ≤ f))) ∧ Below w.heap.size w w' := by
 have HBB := Lib.hid (fun o => (Below.refl w.heap.size w).alloc (Nat.le_refl _) o)
 go_enter Tryz.func108, Tryz.ntmps108
 go_wp2
 go_ret
 exact ⟨retB (by simp), HBB.out _⟩
theorem shas_any (f t x : Int) (w : World) : Calls Tryz.prog 60 #[.agg #[.int .i64 f, .int .i64 t], .int .i64 x] w fun e w' => e = .returned (.bool (decide (f ≤ x) && decide (x < t))) ∧ Below w.heap.size w w' := by
 have HBB := Lib.hid (fun o => (Below.refl w.heap.size w).alloc (Nat.le_refl _) o)
 by_cases h : f ≤ x
 ·go_enter Tryz.func60, Tryz.ntmps60
  go_wp2
  go_ret
  exact ⟨retB (by simp [h]), HBB.out _⟩
 ·go_enter Tryz.func60, Tryz.ntmps60
  go_wp2
  go_ret
  exact ⟨retB (by simp; omega), HBB.out _⟩
set_option maxHeartbeats 1000000 in
theorem smeet_any (s o : SpM) (w : World) : Calls Tryz.prog 163 #[spV s, spV o] w fun e w' => e = .returned (spV (meetS s o)) ∧ Below w.heap.size w w' := by
 unfold spV meetS
 have HB3 : Hid (∀ o1 o2 o3, Below w.heap.size w (((w.alloc o1).alloc o2).alloc o3)) := fun o1 o2 o3 => (below_two w o1 o2).alloc (by rw [size1, size1]; omega) _
 have HL : Hid (∀ (o1 o2 : Obj) (a b : Value), (loadVar 90 ⟨w.heap.size + 1 + 1, 0, none⟩).run Tryz.prog (((w.alloc o1).alloc o2).alloc (.cells #[a, b] 90)) = .ok (.agg #[a, b]) (((w.alloc o1).alloc o2).alloc (.cells #[a, b] 90))) := fun o1 o2 a b => by
  have := heap_alloc_new ((w.alloc o1).alloc o2) (.cells #[a, b] 90)
  rw [size1, size1] at this
  exact loadSp this
 rcases Int.lt_or_le s.f o.f with h1 | h1 <;> rcases Int.lt_or_le o.t s.t with h2 | h2
 ·have e1 : max s.f o.f = o.f := by omega
  have e2 : min s.t o.t = o.t := by omega
  rw [e1, e2]
  go_enter Tryz.func163, Tryz.ntmps163
  go_wp2
  refine bodyPost_ret (v := .agg #[.int .i64 o.f, .int .i64 o.t]) ?_ rfl ?_
  ·rw [results_cell1 rfl]
   simp [asAddr, Result.andThen, HL.out]
  ·exact ⟨rfl, HB3.out _ _ _⟩
 ·have e1 : max s.f o.f = o.f := by omega
  have e2 : min s.t o.t = s.t := by omega
  rw [e1, e2]
  go_enter Tryz.func163, Tryz.ntmps163
  go_wp2
  refine bodyPost_ret (v := .agg #[.int .i64 o.f, .int .i64 s.t]) ?_ rfl ?_
  ·rw [results_cell1 rfl]
   simp [asAddr, Result.andThen, HL.out]
  ·exact ⟨rfl, HB3.out _ _ _⟩
 ·have e1 : max s.f o.f = s.f := by omega
  have e2 : min s.t o.t = o.t := by omega
  rw [e1, e2]
  go_enter Tryz.func163, Tryz.ntmps163
  go_wp2
  refine bodyPost_ret (v := .agg #[.int .i64 s.f, .int .i64 o.t]) ?_ rfl ?_
  ·rw [results_cell1 rfl]
   simp [asAddr, Result.andThen, HL.out]
  ·exact ⟨rfl, HB3.out _ _ _⟩
 ·have e1 : max s.f o.f = s.f := by omega
  have e2 : min s.t o.t = s.t := by omega
  rw [e1, e2]
  go_enter Tryz.func163, Tryz.ntmps163
  go_wp2
  refine bodyPost_ret (v := .agg #[.int .i64 s.f, .int .i64 s.t]) ?_ rfl ?_
  ·rw [results_cell1 rfl]
   simp [asAddr, Result.andThen, HL.out]
  ·exact ⟨rfl, HB3.out _ _ _⟩
theorem cells2 {g : Nat} {a b : Value} {t : TypeId} {W : World} (h : W.heap[g]? = some (.cells #[a, b] t (0, 0))) : W.cell? ⟨g, 0, none⟩ = some a ∧ W.cell? ⟨g, 1, none⟩ = some b := ⟨cell_of_row _ _ _ _ _ _ h, cell_of_row _ _ _ _ _ _ h⟩
end Go.Proofs.YtmfpjapiijgdgaaGreat
