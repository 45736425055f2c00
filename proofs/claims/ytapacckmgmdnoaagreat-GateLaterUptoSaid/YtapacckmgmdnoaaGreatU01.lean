/- Texts of mine, one behind the other, of each what is wanted. -/
import Derived.Test.YtapacckmgmdnoaaGreatU00
namespace Go.Proofs.YtapacckmgmdnoaaGreat
open Go.RowKit
set_option linter.unusedVariables false
set_option maxRecDepth 100000
theorem retB {a b : Bool} (h : a = b) : Ending.returned (.bool a) = .returned (.bool b) := by rw [h]
theorem retI {k : IntKind} {a b : Int} (h : a = b) : Ending.returned (.int k a) = .returned (.int k b) := by rw [h]
def toL (b : ByteArray) : List UInt8 := b.data.toList
def tx (l : List UInt8) : ByteArray := ⟨l.toArray⟩
theorem tx_toL (b : ByteArray) : tx (toL b) = b := by cases b; simp [toL, tx]
theorem toL_inj {a b : ByteArray} (h : toL a = toL b) : a = b := by rw [← tx_toL a, h, tx_toL]
theorem toList_tx (l : List UInt8) : (tx l).toList = l := by rw [ByteArray.toList_eq]; simp [tx]
def Sl (w : World) (a : Option Addr) (xs : List Value) : Prop :=
 ∀ k (h : k < xs.length), ∃ b off, a = some ⟨b, off, none⟩ ∧ b < w.heap.size ∧ w.cell? ⟨b, off + k, none⟩ = some xs[k]
theorem Sl.below {w w' : World} {a : Option Addr} {xs : List Value} (h : Sl w a xs) (hb : Below w.heap.size w w') : Sl w' a xs := fun k hk => by
 obtain ⟨b, off, e, hlt, hc⟩ := h k hk
 exact ⟨b, off, e, Nat.lt_of_lt_of_le hlt hb.size, (hb.cell (p := ⟨b, off + k, none⟩) hlt).trans hc⟩
theorem Sl.drewN {w : World} {a : Option Addr} {xs : List Value} (h : Sl w a xs) (n : Nat) : Sl (w.drewN n) a xs := h
theorem Sl.nil (w : World) (a : Option Addr) : Sl w a [] := fun k hk => absurd hk (by simp)
def strs (l : List ByteArray) : List Value := l.map .string
theorem strs_length (l : List ByteArray) : (strs l).length = l.length := by simp [strs]
theorem Sl.str {w : World} {a : Option Addr} {l : List ByteArray} (h : Sl w a (strs l)) {k : Nat} (hk : k < l.length) :
  ∃ b off, a = some ⟨b, off, none⟩ ∧ b < w.heap.size ∧ w.cell? ⟨b, off + k, none⟩ = some (.string l[k]) := by
 obtain ⟨b, off, e, hlt, hc⟩ := h k (by rw [strs_length]; exact hk)
 exact ⟨b, off, e, hlt, by rw [hc]; simp [strs]⟩
def Fits (l : List ByteArray) : Prop := l.length ≤ maxLen ∧ ∀ s ∈ l, s.size ≤ maxLen
def Drew (w w' : World) : Prop := ∃ n, w' = w.drewN n
theorem Drew.refl (w : World) : Drew w w := ⟨0, rfl⟩
theorem Drew.below {w w' : World} (h : Drew w w') (B : Nat) : Below B w w' := by obtain ⟨n, rfl⟩ := h; exact ⟨rfl, rfl, rfl, Nat.le_refl _, fun _ _ => rfl⟩
theorem Drew.trans {w w' w'' : World} (h : Drew w w') (k : Drew w' w'') : Drew w w'' := by
 obtain ⟨n, rfl⟩ := h; obtain ⟨m, rfl⟩ := k; exact ⟨_, by rw [World.drewN_drewN]⟩
theorem own_base {w : World} {B B' e k n : Nat} {v : Value} {xs : List Value} (h : w.ownsRow B e k v n xs) (hB : B' ≤ B) : w.ownsRow B' e k v n xs := by
 refine ⟨h.1, ?_⟩
 rcases h.2 with h | ⟨g, cap, cur, r1, r2, r3⟩
 ·exact .inl h
 ·exact .inr ⟨g, cap, cur, r1, Nat.le_trans hB r2, r3⟩
theorem sl_lit (w : World) (xs : Array Value) (t : TypeId) : Sl (w.alloc (.cells xs t)) (some ⟨w.heap.size, 0, none⟩) xs.toList := fun k hk => by
 refine ⟨_, _, rfl, by simp, ?_⟩
 rw [cell_of_row _ _ _ xs t (0, 0) (heap_alloc_new w _), Nat.zero_add]
 have : k < xs.size := by simpa using hk
 simp [Array.getElem?_eq_getElem this]
theorem Sl.cells {w : World} {ad : Addr} {xs : List Value} (h : Sl w (some ad) xs) : ∀ j u, xs[j]? = some u → w.cell? (ad.add j) = some u := fun j u hu => by
 have hj : j < xs.length := by
  rcases Nat.lt_or_ge j xs.length with h1 | h1
  ·exact h1
  ·rw [List.getElem?_eq_none h1] at hu; cases hu
 obtain ⟨b, off, e, _, hc⟩ := h j hj
 cases e
 rw [Go.WideShapes.add_plain, hc]
 rw [List.getElem?_eq_getElem hj] at hu
 exact hu
end Go.Proofs.YtapacckmgmdnoaaGreat
namespace Go.Proofs.YtapacckmgmdnoaaGreat
set_option linter.unusedVariables false
set_option maxRecDepth 100000
structure SpM where
 f : Int
 t : Int
def HasL (l : List SpM) (x : Int) : Prop := ∃ s ∈ l, s.f ≤ x ∧ x < s.t
theorem HasL.nil {x : Int} : ¬ HasL [] x := fun ⟨_, h, _⟩ => by cases h
theorem hasL_cons {s : SpM} {l : List SpM} {x : Int} : HasL (s :: l) x ↔ (s.f ≤ x ∧ x < s.t) ∨ HasL l x := by
 constructor
 ·rintro ⟨u, hu, h⟩
  rcases List.mem_cons.1 hu with rfl | hu
  ·exact .inl h
  ·exact .inr ⟨u, hu, h⟩
 ·rintro (h | ⟨u, hu, h⟩)
  ·exact ⟨s, by simp, h⟩
  ·exact ⟨u, List.mem_cons_of_mem _ hu, h⟩
theorem hasL_append {l m : List SpM} {x : Int} : HasL (l ++ m) x ↔ HasL l x ∨ HasL m x := by
 constructor
 ·rintro ⟨u, hu, h⟩
  rcases List.mem_append.1 hu with hu | hu
  ·exact .inl ⟨u, hu, h⟩
  ·exact .inr ⟨u, hu, h⟩
 ·rintro (⟨u, hu, h⟩ | ⟨u, hu, h⟩)
  ·exact ⟨u, List.mem_append_left _ hu, h⟩
  ·exact ⟨u, List.mem_append_right _ hu, h⟩
theorem hasL_one {s : SpM} {x : Int} : HasL [s] x ↔ s.f ≤ x ∧ x < s.t := by
 rw [hasL_cons]; exact ⟨fun h => h.resolve_right HasL.nil, .inl⟩
def RowL : List SpM → Prop
 | [] => True
 | s :: l => s.f ≤ s.t ∧ (∀ u ∈ l, s.t < u.f) ∧ RowL l
def NormL (l : List SpM) : Prop := RowL l ∧ ∀ s ∈ l, s.f < s.t
theorem NormL.nil : NormL [] := ⟨trivial, fun s h => by cases h⟩
theorem NormL.tail {s : SpM} {l : List SpM} (h : NormL (s :: l)) : NormL l := ⟨h.1.2.2, fun u hu => h.2 u (List.mem_cons_of_mem _ hu)⟩
def IsSet (P : Int → Prop) (r : List SpM) : Prop := NormL r ∧ ∀ x, HasL r x ↔ P x
theorem norm_only : ∀ (a b : List SpM), NormL a → NormL b → (∀ x, HasL a x ↔ HasL b x) → a = b
 | [], [], _, _, _ => rfl
 | [], o :: b, _, hb, h => by
  have := (h o.f).2 (hasL_cons.2 (.inl ⟨Int.le_refl _, hb.2 o (by simp)⟩))
  exact absurd this HasL.nil
 | s :: a, [], ha, _, h => by
  have := (h s.f).1 (hasL_cons.2 (.inl ⟨Int.le_refl _, ha.2 s (by simp)⟩))
  exact absurd this HasL.nil
 | s :: a, o :: b, ha, hb, h => by
  have hs := ha.2 s (by simp)
  have ho := hb.2 o (by simp)
  have low : ∀ {u : SpM} {l : List SpM}, NormL (u :: l) → ∀ {x}, HasL (u :: l) x → u.f ≤ x := fun {u l} hn {x} hx => by
   rcases hasL_cons.1 hx with hx | ⟨v, hv, hx⟩
   ·exact hx.1
   ·have := hn.1.2.1 v hv
    have := hn.1.1
    omega
  have e1 : s.f = o.f := by
   have h1 := low hb ((h s.f).1 (hasL_cons.2 (.inl ⟨Int.le_refl _, hs⟩)))
   have h2 := low ha ((h o.f).2 (hasL_cons.2 (.inl ⟨Int.le_refl _, ho⟩)))
   omega
  have past : ∀ {u : SpM} {l : List SpM}, NormL (u :: l) → ¬ HasL (u :: l) u.t := fun {u l} hn hx => by
   rcases hasL_cons.1 hx with hx | ⟨v, hv, hx⟩
   ·omega
   ·have := hn.1.2.1 v hv
    omega
  have e2 : s.t = o.t := by
   rcases Int.lt_trichotomy s.t o.t with h1 | h1 | h1
   ·exact absurd ((h s.t).2 (hasL_cons.2 (.inl ⟨by omega, h1⟩))) (past ha)
   ·exact h1
   ·exact absurd ((h o.t).1 (hasL_cons.2 (.inl ⟨by omega, h1⟩))) (past hb)
  have e : s = o := by
   obtain ⟨_, _⟩ := s
   obtain ⟨_, _⟩ := o
   simp only at e1 e2
   rw [e1, e2]
  subst e
  have ht : ∀ x, HasL a x ↔ HasL b x := fun x => by
   constructor
   ·intro hx
    have hx2 := hx
    obtain ⟨v, hv, h1, h2⟩ := hx2
    have h3 := ha.1.2.1 v hv
    rcases hasL_cons.1 ((h x).1 (hasL_cons.2 (.inr hx))) with h4 | h4
    ·omega
    ·exact h4
   ·intro hx
    have hx2 := hx
    obtain ⟨v, hv, h1, h2⟩ := hx2
    have h3 := hb.1.2.1 v hv
    rcases hasL_cons.1 ((h x).2 (hasL_cons.2 (.inr hx))) with h4 | h4
    ·omega
    ·exact h4
  rw [norm_only a b ha.tail hb.tail ht]
theorem IsSet.only {P : Int → Prop} {a b : List SpM} (ha : IsSet P a) (hb : IsSet P b) : a = b := norm_only a b ha.1 hb.1 (fun x => (ha.2 x).trans (hb.2 x).symm)
theorem IsSet.congr {P Q : Int → Prop} {a : List SpM} (ha : IsSet P a) (h : ∀ x, P x ↔ Q x) : IsSet Q a := ⟨ha.1, fun x => (ha.2 x).trans (h x)⟩
theorem rowL_snoc {l : List SpM} {s : SpM} (h : RowL l) (hs : s.f ≤ s.t) (hl : ∀ u ∈ l, u.t < s.f) : RowL (l ++ [s]) := by
 induction l with
 | nil => exact ⟨hs, fun u hu => (by cases hu), trivial⟩
 | cons u l ih =>
  refine ⟨h.1, fun v hv => ?_, ih h.2.2 (fun v hv => hl v (List.mem_cons_of_mem _ hv))⟩
  rcases List.mem_append.1 hv with hv | hv
  ·exact h.2.1 v hv
  ·rw [List.mem_singleton.1 hv]; exact hl u (by simp)
theorem normL_snoc {l : List SpM} {s : SpM} (h : NormL l) (hs : s.f < s.t) (hl : ∀ u ∈ l, u.t < s.f) : NormL (l ++ [s]) := by
 refine ⟨rowL_snoc h.1 (Int.le_of_lt hs) hl, fun u hu => ?_⟩
 rcases List.mem_append.1 hu with hu | hu
 ·exact h.2 u hu
 ·rw [List.mem_singleton.1 hu]; exact hs
theorem rowL_front {l : List SpM} {s : SpM} (h : RowL (l ++ [s])) : RowL l ∧ s.f ≤ s.t ∧ ∀ u ∈ l, u.t < s.f := by
 induction l with
 | nil => exact ⟨trivial, h.1, fun u hu => (by cases hu)⟩
 | cons v l ih =>
  obtain ⟨i1, i2, i3⟩ := ih h.2.2
  refine ⟨⟨h.1, fun u hu => h.2.1 u (List.mem_append_left _ hu), i1⟩, i2, fun u hu => ?_⟩
  rcases List.mem_cons.1 hu with rfl | hu
  ·exact h.2.1 s (by simp)
  ·exact i3 u hu
theorem normL_front {l : List SpM} {s : SpM} (h : NormL (l ++ [s])) : NormL l ∧ s.f < s.t ∧ ∀ u ∈ l, u.t < s.f := by
 obtain ⟨h1, h2, h3⟩ := rowL_front h.1
 exact ⟨⟨h1, fun u hu => h.2 u (List.mem_append_left _ hu)⟩, h.2 s (by simp), h3⟩
def mergeS (l : List SpM) (s : SpM) : List SpM :=
 match l.getLast? with
 | none => l ++ [s]
 | some u => if s.f ≤ u.t then l.dropLast ++ [⟨u.f, max u.t s.t⟩] else l ++ [s]
theorem mergeS_nil (s : SpM) : mergeS [] s = [s] := rfl
theorem mergeS_snoc (l : List SpM) (u s : SpM) : mergeS (l ++ [u]) s = if s.f ≤ u.t then l ++ [⟨u.f, max u.t s.t⟩] else l ++ [u] ++ [s] := by
 unfold mergeS
 rw [List.getLast?_append]
 simp
structure Merged (d r : List SpM) : Prop where
 norm : NormL r
 has : ∀ x, HasL r x ↔ HasL d x
 low : ∀ u ∈ r, ∃ s ∈ d, u.f = s.f
theorem Merged.nil : Merged [] [] := ⟨NormL.nil, fun x => Iff.rfl, fun u h => by cases h⟩
theorem Merged.step {d r : List SpM} {s : SpM} (h : Merged d r) (hs : s.f < s.t) (hd : ∀ u ∈ d, u.f ≤ s.f) : Merged (d ++ [s]) (mergeS r s) := by
 have hlow : ∀ u ∈ r, u.f ≤ s.f := fun u hu => by
  obtain ⟨v, hv, e⟩ := h.low u hu
  rw [e]; exact hd v hv
 rcases List.eq_nil_or_concat r with rfl | ⟨l, u, rfl⟩
 ·rw [mergeS_nil]
  refine ⟨⟨⟨Int.le_of_lt hs, fun u hu => (by cases hu), trivial⟩, fun u hu => by rw [List.mem_singleton.1 hu]; exact hs⟩, fun x => ?_, fun u hu => ⟨s, by simp, by rw [List.mem_singleton.1 hu]⟩⟩
  rw [hasL_append, ← h.has x]
  exact ⟨.inr, fun h => h.resolve_left HasL.nil⟩
 ·rw [List.concat_eq_append] at *
  rw [mergeS_snoc]
  obtain ⟨n1, n2, n3⟩ := normL_front h.norm
  have hu := hlow u (by simp)
  split
  ·rename_i hle
   refine ⟨normL_snoc n1 ?_ n3, fun x => ?_, fun v hv => ?_⟩
   ·show u.f < max u.t s.t
    omega
   ·rw [hasL_append (m := [s]), ← h.has x, hasL_append, hasL_append, hasL_one, hasL_one, hasL_one]
    show HasL l x ∨ (u.f ≤ x ∧ x < max u.t s.t) ↔ (HasL l x ∨ u.f ≤ x ∧ x < u.t) ∨ s.f ≤ x ∧ x < s.t
    constructor
    ·rintro (h1 | h1)
     ·exact .inl (.inl h1)
     ·rcases Int.lt_or_le x u.t with h2 | h2
      ·exact .inl (.inr ⟨h1.1, h2⟩)
      ·exact .inr ⟨by omega, by omega⟩
    ·rintro ((h1 | h1) | h1)
     ·exact .inl h1
     ·exact .inr ⟨h1.1, by omega⟩
     ·exact .inr ⟨by omega, by omega⟩
   ·rcases List.mem_append.1 hv with hv | hv
    ·obtain ⟨y, hy, e⟩ := h.low v (List.mem_append_left _ hv)
     exact ⟨y, List.mem_append_left _ hy, e⟩
    ·obtain ⟨y, hy, e⟩ := h.low u (by simp)
     rw [List.mem_singleton.1 hv]
     exact ⟨y, List.mem_append_left _ hy, e⟩
  ·rename_i hgt
   refine ⟨normL_snoc h.norm hs (fun v hv => ?_), fun x => ?_, fun v hv => ?_⟩
   ·rcases List.mem_append.1 hv with hv | hv
    ·have := n3 v hv; omega
    ·rw [List.mem_singleton.1 hv]; omega
   ·rw [hasL_append (m := [s]), hasL_append (l := d), h.has x]
   ·rcases List.mem_append.1 hv with hv | hv
    ·obtain ⟨y, hy, e⟩ := h.low v hv
     exact ⟨y, List.mem_append_left _ hy, e⟩
    ·rw [List.mem_singleton.1 hv]; exact ⟨s, by simp, rfl⟩
theorem Merged.set {d r : List SpM} (h : Merged d r) : IsSet (HasL d) r := ⟨h.norm, h.has⟩
def meetS (s o : SpM) : SpM := ⟨max s.f o.f, min s.t o.t⟩
def pushS (l : List SpM) (m : SpM) : List SpM := if m.t ≤ m.f then l else l ++ [m]
theorem hasL_push {l : List SpM} {m : SpM} {x : Int} : HasL (pushS l m) x ↔ HasL l x ∨ (m.f ≤ x ∧ x < m.t) := by
 unfold pushS
 split
 ·exact ⟨.inl, fun h => h.resolve_right (fun h => by omega)⟩
 ·rw [hasL_append, hasL_one]
structure ComI (A B l a b : List SpM) : Prop where
 norm : NormL l
 ra : RowL a
 rb : RowL b
 has : ∀ x, (HasL A x ∧ HasL B x) ↔ HasL l x ∨ (HasL a x ∧ HasL b x)
 gap : ∀ u ∈ l, (∀ s ∈ a, u.t < s.f) ∨ (∀ s ∈ b, u.t < s.f)
theorem ComI.start {A B : List SpM} (ha : RowL A) (hb : RowL B) : ComI A B [] A B :=
 ⟨NormL.nil, ha, hb, fun x => ⟨.inr, fun h => h.resolve_left HasL.nil⟩, fun u h => by cases h⟩
theorem ComI.push {A B l a b : List SpM} {x y : SpM} (h : ComI A B l (x :: a) (y :: b)) : NormL (pushS l (meetS x y)) := by
 unfold pushS
 split
 ·exact h.norm
 ·rename_i hm
  refine normL_snoc h.norm (by omega) (fun u hu => ?_)
  show u.t < max x.f y.f
  rcases h.gap u hu with g | g
  ·have := g x (by simp); omega
  ·have := g y (by simp); omega
theorem mem_push {l : List SpM} {m u : SpM} (h : u ∈ pushS l m) : u ∈ l ∨ u = m := by
 unfold pushS at h
 split at h
 ·exact .inl h
 ·rcases List.mem_append.1 h with h | h
  ·exact .inl h
  ·exact .inr (List.mem_singleton.1 h)
theorem ComI.left {A B l a b : List SpM} {x y : SpM} (h : ComI A B l (x :: a) (y :: b)) (ht : x.t < y.t) : ComI A B (pushS l (meetS x y)) a (y :: b) := by
 refine ⟨h.push, h.ra.2.2, h.rb, fun z => ?_, fun u hu => ?_⟩
 ·rw [h.has z, hasL_push, hasL_cons (s := x)]
  show HasL l z ∨ ((x.f ≤ z ∧ z < x.t) ∨ HasL a z) ∧ HasL (y :: b) z ↔ (HasL l z ∨ (max x.f y.f ≤ z ∧ z < min x.t y.t)) ∨ HasL a z ∧ HasL (y :: b) z
  constructor
  ·rintro (h1 | ⟨h1 | h1, h2⟩)
   ·exact .inl (.inl h1)
   ·rcases hasL_cons.1 h2 with h3 | ⟨v, hv, h3, h4⟩
    ·exact .inl (.inr ⟨by omega, by omega⟩)
    ·have := h.rb.2.1 v hv; omega
   ·exact .inr ⟨h1, h2⟩
  ·rintro ((h1 | h1) | h1)
   ·exact .inl h1
   ·exact .inr ⟨.inl ⟨by omega, by omega⟩, hasL_cons.2 (.inl ⟨by omega, by omega⟩)⟩
   ·exact .inr ⟨.inr h1.1, h1.2⟩
 ·rcases mem_push hu with hu | rfl
  ·rcases h.gap u hu with g | g
   ·exact .inl (fun s hs => g s (List.mem_cons_of_mem _ hs))
   ·exact .inr g
  ·refine .inl (fun s hs => ?_)
   have := h.ra.2.1 s hs
   show min x.t y.t < s.f
   omega
theorem ComI.right {A B l a b : List SpM} {x y : SpM} (h : ComI A B l (x :: a) (y :: b)) (ht : ¬ x.t < y.t) : ComI A B (pushS l (meetS x y)) (x :: a) b := by
 refine ⟨h.push, h.ra, h.rb.2.2, fun z => ?_, fun u hu => ?_⟩
 ·rw [h.has z, hasL_push, hasL_cons (s := y)]
  show HasL l z ∨ HasL (x :: a) z ∧ ((y.f ≤ z ∧ z < y.t) ∨ HasL b z) ↔ (HasL l z ∨ (max x.f y.f ≤ z ∧ z < min x.t y.t)) ∨ HasL (x :: a) z ∧ HasL b z
  constructor
  ·rintro (h1 | ⟨h2, h1 | h1⟩)
   ·exact .inl (.inl h1)
   ·rcases hasL_cons.1 h2 with h3 | ⟨v, hv, h3, h4⟩
    ·exact .inl (.inr ⟨by omega, by omega⟩)
    ·have := h.ra.2.1 v hv; omega
   ·exact .inr ⟨h2, h1⟩
  ·rintro ((h1 | h1) | h1)
   ·exact .inl h1
   ·exact .inr ⟨hasL_cons.2 (.inl ⟨by omega, by omega⟩), .inl ⟨by omega, by omega⟩⟩
   ·exact .inr ⟨h1.1, .inr h1.2⟩
 ·rcases mem_push hu with hu | rfl
  ·rcases h.gap u hu with g | g
   ·exact .inl g
   ·exact .inr (fun s hs => g s (List.mem_cons_of_mem _ hs))
  ·refine .inr (fun s hs => ?_)
   have := h.rb.2.1 s hs
   show min x.t y.t < s.f
   omega
theorem ComI.done {A B l a b : List SpM} (h : ComI A B l a b) (he : a = [] ∨ b = []) : IsSet (fun x => HasL A x ∧ HasL B x) l := by
 refine ⟨h.norm, fun x => ?_⟩
 show HasL l x ↔ HasL A x ∧ HasL B x
 rw [h.has x]
 refine ⟨.inl, fun h1 => h1.resolve_right (fun h2 => ?_)⟩
 rcases he with rfl | rfl
 ·exact HasL.nil h2.1
 ·exact HasL.nil h2.2
structure StM where
 f : Int
 t : Int
 n : Int
 s : Int
instance : Inhabited StM := ⟨⟨0, 0, 0, 0⟩⟩
theorem StM.same {a b : StM} (h1 : a.f = b.f) (h2 : a.t = b.t) (h3 : a.n = b.n) (h4 : a.s = b.s) : a = b := by
 obtain ⟨_, _, _, _⟩ := a
 obtain ⟨_, _, _, _⟩ := b
 simp only at h1 h2 h3 h4
 rw [h1, h2, h3, h4]
theorem StM.iff {a b : StM} : a = b ↔ a.f = b.f ∧ a.t = b.t ∧ a.n = b.n ∧ a.s = b.s := ⟨fun h => by rw [h]; exact ⟨rfl, rfl, rfl, rfl⟩, fun h => StM.same h.1 h.2.1 h.2.2.1 h.2.2.2⟩
instance stDec : DecidableEq StM := fun a b => decidable_of_iff (a.f = b.f ∧ a.t = b.t ∧ a.n = b.n ∧ a.s = b.s) StM.iff.symm
def StM.sp (a : StM) : SpM := ⟨a.f, a.t⟩
def ltSt (a b : StM) : Prop := a.f < b.f ∨ (a.f = b.f ∧ (a.t < b.t ∨ (a.t = b.t ∧ (a.n < b.n ∨ (a.n = b.n ∧ a.s < b.s)))))
instance ltStDec (a b : StM) : Decidable (ltSt a b) := by unfold ltSt; infer_instance
theorem ltSt_irrefl (a : StM) : ¬ ltSt a a := by unfold ltSt; omega
theorem ltSt_trans {a b c : StM} (h : ltSt a b) (k : ltSt b c) : ltSt a c := by unfold ltSt at *; omega
theorem ltSt_asymm {a b : StM} (h : ltSt a b) : ¬ ltSt b a := by unfold ltSt at *; omega
theorem ltSt_tri {a b : StM} (h : ¬ ltSt a b) (k : ¬ ltSt b a) : a = b := by
 unfold ltSt at *
 exact StM.same (by omega) (by omega) (by omega) (by omega)
theorem leSt_trans {a b c : StM} (h : ¬ ltSt b a) (k : ¬ ltSt c b) : ¬ ltSt c a := by unfold ltSt at *; omega
theorem ltSt_of_le {a b : StM} (h : ¬ ltSt b a) (k : a ≠ b) : ltSt a b := by
 by_cases h1 : ltSt a b
 ·exact h1
 ·exact absurd (ltSt_tri h1 h) k
def cmpSt (a b : StM) : Int := if ltSt a b then -1 else if ltSt b a then 1 else 0
def SortedS (l : List StM) : Prop := l.Pairwise (fun a b => ¬ ltSt b a)
theorem sorted_only {a b : List StM} (ha : SortedS a) (hb : SortedS b) (h : a.Perm b) : a = b :=
 h.eq_of_pairwise (fun x y _ _ h1 h2 => ltSt_tri h2 h1) ha hb
def RiseS (l : List StM) : Prop := ∀ k (h : k < l.length), l[k].f < l[k].t ∧ (0 < k → ltSt (l[k - 1]'(by omega)) l[k])
instance riseDec (l : List StM) : Decidable (RiseS l) := by unfold RiseS; infer_instance
theorem rise_iff {l : List StM} : RiseS l ↔ (∀ s ∈ l, s.f < s.t) ∧ l.Pairwise ltSt := by
 constructor
 ·intro h
  refine ⟨fun s hs => ?_, ?_⟩
  ·obtain ⟨k, hk, rfl⟩ := List.getElem_of_mem hs
   exact (h k hk).1
  ·rw [List.pairwise_iff_getElem]
   intro i j hi hj hij
   induction j with
   | zero => omega
   | succ j ih =>
    have h1 := (h (j + 1) hj).2 (by omega)
    rcases Nat.lt_or_ge i j with h2 | h2
    ·exact ltSt_trans (ih (by omega) h2) h1
    ·obtain rfl : i = j := by omega
     exact h1
 ·rintro ⟨h1, h2⟩ k hk
  exact ⟨h1 _ (List.getElem_mem hk), fun h0 => List.pairwise_iff_getElem.1 h2 (k - 1) k (by omega) hk (by omega)⟩
theorem rise_sorted {l : List StM} (h : RiseS l) : SortedS l := (rise_iff.1 h).2.imp ltSt_asymm
structure IsPos (l : List StM) (s : StM) (k : Nat) : Prop where
 le : k ≤ l.length
 up : ∀ j (h : j < l.length), k ≤ j → ltSt s l[j]
 low : ∀ (h : 0 < k) (h1 : k - 1 < l.length), ¬ ltSt s l[k - 1]
theorem IsPos.only {l : List StM} {s : StM} {a b : Nat} (ha : IsPos l s a) (hb : IsPos l s b) : a = b := by
 have h1 := ha.le
 have h2 := hb.le
 rcases Nat.lt_trichotomy a b with h | h | h
 ·exact absurd (ha.up (b - 1) (by omega) (by omega)) (hb.low (by omega) (by omega))
 ·exact h
 ·exact absurd (hb.up (a - 1) (by omega) (by omega)) (ha.low (by omega) (by omega))
def posS : List StM → StM → Nat
 | [], _ => 0
 | x :: l, s => if posS l s = 0 then (if ltSt s x then 0 else 1) else posS l s + 1
theorem get_pred {l : List StM} {x : StM} {q : Nat} (h0 : ¬ q = 0) (hq : q ≤ l.length) (h1 : q + 1 - 1 < (x :: l).length) : (x :: l)[q + 1 - 1] = l[q - 1]'(by omega) := by
 obtain ⟨p, rfl⟩ : ∃ p, q = p + 1 := ⟨q - 1, by omega⟩
 rfl
theorem posS_is (s : StM) : ∀ l : List StM, IsPos l s (posS l s)
 | [] => ⟨Nat.le_refl _, fun j h => absurd h (by simp), fun h => absurd h (by simp [posS])⟩
 | x :: l => by
  have ih := posS_is s l
  unfold posS
  by_cases h0 : posS l s = 0
  ·rw [if_pos h0]
   by_cases h1 : ltSt s x
   ·rw [if_pos h1]
    refine ⟨Nat.zero_le _, fun j h _ => ?_, fun h => absurd h (by omega)⟩
    cases j with
    | zero => exact h1
    | succ j => exact ih.up j (by simpa using h) (by omega)
   ·rw [if_neg h1]
    refine ⟨by simp, fun j h hj => ?_, fun _ _ => h1⟩
    cases j with
    | zero => omega
    | succ j => exact ih.up j (by simpa using h) (by omega)
  ·rw [if_neg h0]
   refine ⟨by have := ih.le; simp; omega, fun j h hj => ?_, fun _ h1 => ?_⟩
   ·cases j with
    | zero => omega
    | succ j => exact ih.up j (by simpa using h) (by omega)
   ·have h3 := ih.le
    have h2 := ih.low (by omega) (by omega)
    rw [get_pred h0 h3]
    exact h2
theorem posS_eq {l : List StM} {s : StM} {k : Nat} (h : IsPos l s k) : k = posS l s := h.only (posS_is s l)
def putS (l : List StM) (s : StM) : List StM := l.take (posS l s) ++ s :: l.drop (posS l s)
def addS (l : List StM) (s : StM) : List StM := if s.t ≤ s.f then l else putS l s
theorem putS_at {l : List StM} {s : StM} {k : Nat} (h : IsPos l s k) : putS l s = l.take k ++ s :: l.drop k := by unfold putS; rw [← posS_eq h]
theorem putS_len (l : List StM) (s : StM) : (putS l s).length = l.length + 1 := by
 have := (posS_is s l).le
 simp [putS]; omega
theorem addS_len (l : List StM) (s : StM) : (addS l s).length ≤ l.length + 1 := by
 unfold addS
 split
 ·omega
 ·rw [putS_len]; omega
theorem putS_perm (l : List StM) (s : StM) : (putS l s).Perm (s :: l) := by
 have h : (l.take (posS l s) ++ s :: l.drop (posS l s)).Perm (s :: (l.take (posS l s) ++ l.drop (posS l s))) := List.perm_middle
 rw [List.take_append_drop] at h
 exact h
theorem mem_take_get {α : Type} {l : List α} {k : Nat} {x : α} (h : x ∈ l.take k) : ∃ j, ∃ hj : j < l.length, j < k ∧ l[j] = x := by
 obtain ⟨j, hj, e⟩ := List.getElem_of_mem h
 have h1 : j < k ∧ j < l.length := by simp at hj; omega
 exact ⟨j, h1.2, h1.1, by rw [← e, List.getElem_take]⟩
theorem mem_drop_get {α : Type} {l : List α} {k : Nat} {x : α} (h : x ∈ l.drop k) : ∃ j, ∃ hj : j < l.length, k ≤ j ∧ l[j] = x := by
 obtain ⟨j, hj, e⟩ := List.getElem_of_mem h
 have h1 : j < l.length - k := by simpa using hj
 exact ⟨k + j, by omega, by omega, by rw [← e, List.getElem_drop]⟩
theorem putS_sorted {l : List StM} {s : StM} (h : SortedS l) : SortedS (putS l s) := by
 have hp := posS_is s l
 unfold putS
 generalize posS l s = k at *
 have hle : ∀ x ∈ l.take k, ¬ ltSt s x := fun x hx => by
  obtain ⟨j, hj, hjk, rfl⟩ := mem_take_get hx
  have h1 := hp.le
  have h2 := hp.low (by omega) (by omega)
  rcases Nat.lt_or_ge j (k - 1) with h3 | h3
  ·exact leSt_trans (List.pairwise_iff_getElem.1 h j (k - 1) hj (by omega) h3) h2
  ·have : j = k - 1 := by omega
   subst this
   exact h2
 have hup : ∀ y ∈ l.drop k, ltSt s y := fun y hy => by
  obtain ⟨j, hj, hjk, rfl⟩ := mem_drop_get hy
  exact hp.up j hj hjk
 unfold SortedS
 rw [List.pairwise_append]
 refine ⟨h.sublist (List.take_sublist _ _), ?_, fun x hx y hy => ?_⟩
 ·rw [List.pairwise_cons]
  exact ⟨fun y hy => ltSt_asymm (hup y hy), h.sublist (List.drop_sublist _ _)⟩
 ·rcases List.mem_cons.1 hy with rfl | hy
  ·exact hle x hx
  ·exact leSt_trans (hle x hx) (ltSt_asymm (hup y hy))
theorem addS_sorted {l : List StM} {s : StM} (h : SortedS l) : SortedS (addS l s) := by
 unfold addS
 split
 ·exact h
 ·exact putS_sorted h
theorem addS_rise {l : List StM} {s : StM} (h : RiseS l) : RiseS (addS l s) ↔ s ∉ l := by
 obtain ⟨h1, h2⟩ := rise_iff.1 h
 unfold addS
 split
 ·rename_i hs
  exact ⟨fun _ hm => by have := h1 s hm; omega, fun _ => h⟩
 ·rename_i hs
  constructor
  ·intro hr hm
   have h3 := (rise_iff.1 hr).2
   have hp : (putS l s).Nodup := h3.imp (fun {a b} h e => by subst e; exact ltSt_irrefl _ h)
   have := (putS_perm l s).nodup_iff.1 hp
   rw [List.nodup_cons] at this
   exact this.1 hm
  ·intro hm
   have hsort := putS_sorted (s := s) (rise_sorted h)
   have hp := putS_perm l s
   have hnd : l.Nodup := h2.imp (fun {a b} h e => by subst e; exact ltSt_irrefl _ h)
   have hnd2 : (putS l s).Nodup := hp.nodup_iff.2 (List.nodup_cons.2 ⟨hm, hnd⟩)
   refine rise_iff.2 ⟨fun x hx => ?_, ?_⟩
   ·rcases List.mem_cons.1 (hp.mem_iff.1 hx) with rfl | hx
    ·omega
    ·exact h1 x hx
   ·exact List.Pairwise.imp (fun {a b} (hab : (¬ ltSt b a) ∧ a ≠ b) => ltSt_of_le hab.1 hab.2) (List.pairwise_and_iff.2 ⟨hsort, hnd2⟩)
def tB (s : SpM) : Bool := decide (s.f < s.t)
def rowOf (s : SpM) (r : List SpM) : List SpM := (r.map (meetS s)).filter tB
def ofSp (x : StM) (m : SpM) : StM := ⟨m.f, m.t, x.n, x.s⟩
def piecesS (x : StM) (r : List SpM) : List StM := (rowOf x.sp r).map (ofSp x)
def rawS (l : List StM) (r : List SpM) : List StM := l.flatMap fun x => piecesS x r
theorem rowOf_cons (s n : SpM) (r : List SpM) : rowOf s (n :: r) = if (meetS s n).f < (meetS s n).t then meetS s n :: rowOf s r else rowOf s r := by
 unfold rowOf
 rw [List.map_cons, List.filter_cons]
 by_cases h : (meetS s n).f < (meetS s n).t
 ·simp [tB, h]
 ·simp [tB, h]
theorem rowOf_mem {s : SpM} {r : List SpM} {m : SpM} (h : m ∈ rowOf s r) : ∃ n ∈ r, m = meetS s n ∧ m.f < m.t := by
 obtain ⟨h1, h2⟩ := List.mem_filter.1 h
 obtain ⟨n, hn, rfl⟩ := List.mem_map.1 h1
 exact ⟨n, hn, rfl, of_decide_eq_true h2⟩
theorem rowOf_norm (s : SpM) : ∀ {r : List SpM}, NormL r → NormL (rowOf s r)
 | [], _ => NormL.nil
 | n :: r, h => by
  have ih := rowOf_norm s h.tail
  rw [rowOf_cons]
  split
  ·rename_i ht
   refine ⟨⟨Int.le_of_lt ht, fun u hu => ?_, ih.1⟩, fun u hu => ?_⟩
   ·obtain ⟨o, ho, rfl, _⟩ := rowOf_mem hu
    have := h.1.2.1 o ho
    show min s.t n.t < max s.f o.f
    omega
   ·rcases List.mem_cons.1 hu with rfl | hu
    ·exact ht
    ·exact ih.2 u hu
  ·exact ih
theorem rowOf_has (s : SpM) (x : Int) : ∀ {r : List SpM}, HasL (rowOf s r) x ↔ (s.f ≤ x ∧ x < s.t) ∧ HasL r x
 | [] => ⟨fun h => absurd h HasL.nil, fun h => absurd h.2 HasL.nil⟩
 | n :: r => by
  have ih := rowOf_has s x (r := r)
  rw [rowOf_cons, hasL_cons (s := n)]
  split
  ·rw [hasL_cons, ih]
   show (max s.f n.f ≤ x ∧ x < min s.t n.t) ∨ _ ↔ _
   constructor
   ·rintro (h | h)
    ·exact ⟨by omega, .inl (by omega)⟩
    ·exact ⟨h.1, .inr h.2⟩
   ·rintro ⟨h1, h2 | h2⟩
    ·exact .inl (by omega)
    ·exact .inr ⟨h1, h2⟩
  ·rename_i ht
   rw [ih]
   constructor
   ·rintro ⟨h1, h2⟩
    exact ⟨h1, .inr h2⟩
   ·rintro ⟨h1, h2 | h2⟩
    ·exact absurd (show max s.f n.f < min s.t n.t by omega) ht
    ·exact ⟨h1, h2⟩
theorem rowOf_set {P : Int → Prop} {s : SpM} {r : List SpM} (h : IsSet P r) : IsSet (fun x => (s.f ≤ x ∧ x < s.t) ∧ P x) (rowOf s r) :=
 ⟨rowOf_norm s h.1, fun x => (rowOf_has s x).trans (and_congr_right fun _ => h.2 x)⟩
theorem raw_perm {l m : List StM} (h : l.Perm m) (r : List SpM) : (rawS l r).Perm (rawS m r) := h.flatMap_right _
def IsCut (l : List StM) (P : Int → Prop) (m : List StM) : Prop := ∃ r, IsSet P r ∧ m.Perm (rawS l r) ∧ SortedS m
theorem IsCut.only {l a b : List StM} {P : Int → Prop} (ha : IsCut l P a) (hb : IsCut l P b) : a = b := by
 obtain ⟨r, h1, h2, h3⟩ := ha
 obtain ⟨q, k1, k2, k3⟩ := hb
 obtain rfl := h1.only k1
 exact sorted_only h3 k3 (h2.trans k2.symm)
theorem IsCut.congr {l a : List StM} {P Q : Int → Prop} (ha : IsCut l P a) (h : ∀ x, P x ↔ Q x) : IsCut l Q a := by
 obtain ⟨r, h1, h2, h3⟩ := ha
 exact ⟨r, h1.congr h, h2, h3⟩
theorem rowOf_le (s : SpM) (r : List SpM) : (rowOf s r).length ≤ r.length := by
 unfold rowOf
 exact Nat.le_trans (List.length_filter_le _ _) (by simp)
theorem pieces_le (x : StM) (r : List SpM) : (piecesS x r).length ≤ r.length := by
 unfold piecesS
 rw [List.length_map]
 exact rowOf_le _ _
theorem raw_le (r : List SpM) : ∀ l : List StM, (rawS l r).length ≤ l.length * r.length
 | [] => by simp [rawS]
 | x :: l => by
  have ih := raw_le r l
  have h1 := pieces_le x r
  have e : rawS (x :: l) r = piecesS x r ++ rawS l r := by simp [rawS]
  rw [e, List.length_append, List.length_cons, Nat.succ_mul]
  omega
theorem raw_take (l : List StM) (r : List SpM) (j : Nat) (h : j < l.length) : rawS (l.take (j + 1)) r = rawS (l.take j) r ++ piecesS l[j] r := by
 unfold rawS
 rw [List.take_succ_eq_append_getElem h, List.flatMap_append]
 simp
theorem rowOf_take (s : SpM) (r : List SpM) (j : Nat) (h : j < r.length) : rowOf s (r.take (j + 1)) = rowOf s (r.take j) ++ (if (meetS s r[j]).f < (meetS s r[j]).t then [meetS s r[j]] else []) := by
 unfold rowOf
 rw [List.take_succ_eq_append_getElem h, List.map_append, List.filter_append]
 congr 1
 by_cases h1 : (meetS s r[j]).f < (meetS s r[j]).t
 ·simp [tB, h1]
 ·simp [tB, h1]
theorem rowOf_none {s : SpM} {r : List SpM} (h : ∀ n ∈ r, ¬ (meetS s n).f < (meetS s n).t) : rowOf s r = [] := by
 unfold rowOf
 rw [List.filter_eq_nil_iff]
 intro m hm
 obtain ⟨n, hn, rfl⟩ := List.mem_map.1 hm
 simpa [tB] using h n hn
theorem rowOf_append (s : SpM) (a b : List SpM) : rowOf s (a ++ b) = rowOf s a ++ rowOf s b := by simp [rowOf]
theorem rowOf_drop {s : SpM} {r : List SpM} {k : Nat} (h : ∀ j (hj : j < r.length), j < k → r[j].t ≤ s.f) : rowOf s (r.drop k) = rowOf s r := by
 have h1 : rowOf s (r.take k) = [] := rowOf_none fun n hn => by
  obtain ⟨j, hj, hjk, rfl⟩ := mem_take_get hn
  have := h j hj hjk
  show ¬ max s.f r[j].f < min s.t r[j].t
  omega
 have h2 := rowOf_append s (r.take k) (r.drop k)
 rw [List.take_append_drop, h1, List.nil_append] at h2
 exact h2.symm
theorem rowOf_rest {s : SpM} {n : SpM} {r : List SpM} (hn : NormL (n :: r)) (ht : s.f < n.t) (h : ¬ (meetS s n).f < (meetS s n).t) : rowOf s (n :: r) = [] := by
 have h1 : ¬ max s.f n.f < min s.t n.t := h
 have h2 := hn.2 n (by simp)
 refine rowOf_none fun o ho => ?_
 show ¬ max s.f o.f < min s.t o.t
 rcases List.mem_cons.1 ho with rfl | ho
 ·exact h1
 ·have := hn.1.2.1 o ho
  omega
end Go.Proofs.YtapacckmgmdnoaaGreat
namespace Go.Proofs.YtapacckmgmdnoaaGreat
open Go.Lib
set_option linter.unusedVariables false
set_option maxRecDepth 100000
theorem cb_refl : ∀ a : List UInt8, compareBytes a a = 0
 | [] => rfl
 | x :: r => by unfold compareBytes; rw [if_neg (by simp), if_neg (by simp)]; exact cb_refl r
theorem cb_eq : ∀ a b : List UInt8, compareBytes a b = 0 → a = b
 | [], [], _ => rfl
 | [], _ :: _, h => by simp [compareBytes] at h
 | _ :: _, [], h => by simp [compareBytes] at h
 | x :: r, y :: s, h => by
  unfold compareBytes at h
  split at h
  ·simp at h
  ·split at h
   ·simp at h
   ·rename_i h1 h2
    have e : x = y := by
     rw [UInt8.lt_iff_toNat_lt] at h1 h2
     exact UInt8.toNat_inj.1 (by omega)
    rw [e, cb_eq r s h]
theorem cb_neg : ∀ a b : List UInt8, compareBytes b a = - compareBytes a b
 | [], [] => rfl
 | [], _ :: _ => rfl
 | _ :: _, [] => rfl
 | x :: r, y :: s => by
  unfold compareBytes
  simp only [UInt8.lt_iff_toNat_lt]
  by_cases h1 : x.toNat < y.toNat
  ·have h2 : ¬ y.toNat < x.toNat := by omega
   simp only [h1, h2, ↓reduceIte]; rfl
  ·by_cases h2 : y.toNat < x.toNat
   ·simp only [h1, h2, ↓reduceIte]
   ·simp only [h1, h2, ↓reduceIte]; exact cb_neg r s
theorem cb_trans : ∀ a b c : List UInt8, compareBytes a b < 0 → compareBytes b c < 0 → compareBytes a c < 0
 | [], [], _, h, _ => by simp [compareBytes] at h
 | _ :: _, [], _, h, _ => by simp [compareBytes] at h
 | _, _ :: _, [], _, h => by simp [compareBytes] at h
 | [], _ :: _, _ :: _, _, _ => by simp [compareBytes]
 | x :: r, y :: s, z :: t, h1, h2 => by
  unfold compareBytes at h1 h2 ⊢
  simp only [UInt8.lt_iff_toNat_lt] at h1 h2 ⊢
  by_cases a1 : x.toNat < y.toNat
  ·by_cases a2 : y.toNat < z.toNat
   ·rw [if_pos (by omega)]; omega
   ·rw [if_neg a2] at h2
    by_cases a3 : z.toNat < y.toNat
    ·rw [if_pos a3] at h2; omega
    ·rw [if_pos (by omega)]; omega
  ·rw [if_neg a1] at h1
   by_cases a3 : y.toNat < x.toNat
   ·rw [if_pos a3] at h1; omega
   ·rw [if_neg a3] at h1
    by_cases a2 : y.toNat < z.toNat
    ·rw [if_pos (by omega)]; omega
    ·rw [if_neg a2] at h2
     by_cases a4 : z.toNat < y.toNat
     ·rw [if_pos a4] at h2; omega
     ·rw [if_neg a4] at h2
      rw [if_neg (by omega), if_neg (by omega)]
      exact cb_trans r s t h1 h2
def isB (c : UInt8) : Bool := (97 ≤ c && c ≤ 122) || (48 ≤ c && c ≤ 57)
def isName (l : List UInt8) : Bool := decide (1 ≤ l.length) && decide (l.length ≤ 12) && l.all isB
theorem isB_eq (c : UInt8) : isB c = ((decide (97 ≤ (c.toNat : Int)) && decide ((c.toNat : Int) ≤ 122)) || (decide (48 ≤ (c.toNat : Int)) && decide ((c.toNat : Int) ≤ 57))) := by
 unfold isB
 simp only [UInt8.le_iff_toNat_le]
 rw [Bool.eq_iff_iff]
 simp
 omega
theorem all_take_succ (p : UInt8 → Bool) (s : ByteArray) (k : Nat) (h : k < s.size) (h1 : (s.data.toList.take k).all p = true) (h2 : p s[k] = true) : (s.data.toList.take (k + 1)).all p = true := by
 rw [List.take_succ_eq_append_getElem (by simpa using h), List.all_append, h1]
 simp only [List.all_cons, List.all_nil, Bool.and_true, Bool.true_and]
 exact h2
theorem all_false_of (p : UInt8 → Bool) (s : ByteArray) (k : Nat) (h : k < s.size) (h2 : p s[k] = false) : s.data.toList.all p = false := by
 rw [List.all_eq_false]
 exact ⟨s[k], by simp [ByteArray.getElem_eq_getElem_data], by simp [h2]⟩
theorem isName_short (s : ByteArray) (h : s.size < 1 ∨ 12 < s.size) : isName s.data.toList = false := by
 unfold isName
 have : s.data.toList.length = s.size := by simp
 rw [this]
 rcases h with h | h
 ·simp; omega
 ·simp; omega
theorem isName_all (s : ByteArray) (h1 : 1 ≤ s.size) (h2 : s.size ≤ 12) (k : Nat) (hk : s.size ≤ k) (h : (s.data.toList.take k).all isB = true) : isName s.data.toList = true := by
 unfold isName
 rw [List.take_of_length_le (by simpa using hk)] at h
 have : s.data.toList.length = s.size := by simp
 rw [this, h]
 simp
 omega
theorem isName_not (s : ByteArray) (k : Nat) (h : k < s.size) (h2 : isB s[k] = false) : isName s.data.toList = false := by
 unfold isName
 rw [all_false_of isB s k h h2]
 simp
theorem all_take_next (p : ByteArray → Bool) (l : List ByteArray) (k : Nat) (h : k < l.length) (h1 : (l.take k).all p = true) (h2 : p l[k] = true) : (l.take (k + 1)).all p = true := by
 rw [List.take_succ_eq_append_getElem h, List.all_append, h1]
 simp only [List.all_cons, List.all_nil, Bool.and_true, Bool.true_and]
 exact h2
theorem all_not_at (p : ByteArray → Bool) (l : List ByteArray) (k : Nat) (h : k < l.length) (h2 : p l[k] = false) : l.all p = false := by
 rw [List.all_eq_false]
 exact ⟨l[k], List.getElem_mem h, by simp [h2]⟩
theorem all_take_end (p : ByteArray → Bool) (l : List ByteArray) (k : Nat) (h : l.length ≤ k) (h1 : (l.take k).all p = true) : l.all p = true := by
 rwa [List.take_of_length_le h] at h1
end Go.Proofs.YtapacckmgmdnoaaGreat
namespace Go.Proofs.YtapacckmgmdnoaaGreat
open Go.RowKit
set_option linter.unusedVariables false
set_option maxRecDepth 100000
set_option maxRecDepth 100000
theorem size1 (w : World) (o : Obj) : (w.alloc o).heap.size = w.heap.size + 1 := by simp
def sps (l : List SpM) : List Value := l.flatMap fun s => [.int .i64 s.f, .int .i64 s.t]
theorem sps_cons (s : SpM) (l : List SpM) : sps (s :: l) = [.int .i64 s.f, .int .i64 s.t] ++ sps l := by simp [sps]
theorem sps_len (l : List SpM) : (sps l).length = l.length * 2 := by
 induction l with
 | nil => rfl
 | cons e l ih => rw [sps_cons, List.length_append, ih, List.length_cons]; simp only [List.length_cons, List.length_nil]; omega
theorem sps_snoc (l : List SpM) (x : SpM) : sps (l ++ [x]) = sps l ++ [.int .i64 x.f, .int .i64 x.t] := by simp [sps]
theorem sps_get (l : List SpM) : ∀ (k : Nat) (h : k < l.length), (sps l)[k * 2]? = some (.int .i64 l[k].f) ∧ (sps l)[k * 2 + 1]? = some (.int .i64 l[k].t) := by
 induction l with
 | nil => intro k h; exact absurd h (by simp)
 | cons x l ih =>
  intro k h
  rw [sps_cons]
  cases k with
  | zero => exact ⟨rfl, rfl⟩
  | succ k =>
   have := ih k (by simpa using h)
   rw [show (k + 1) * 2 = k * 2 + 1 + 1 by omega]
   simpa using this
def SpSl (w : World) (a : Option Addr) (l : List SpM) : Prop := ∀ k (h : k < l.length), ∃ b off, a = some ⟨b, off, none⟩ ∧ b < w.heap.size ∧
 w.cell? ⟨b, off + k * 2, none⟩ = some (.int .i64 l[k].f) ∧ w.cell? ⟨b, off + k * 2 + 1, none⟩ = some (.int .i64 l[k].t)
theorem SpSl.nil (w : World) (a : Option Addr) : SpSl w a [] := fun k h => absurd h (by simp)
theorem SpSl.below {w w' : World} {a : Option Addr} {l : List SpM} (h : SpSl w a l) (hb : Below w.heap.size w w') : SpSl w' a l := fun k hk => by
 obtain ⟨b, off, e, hlt, h0, h1⟩ := h k hk
 exact ⟨b, off, e, Nat.lt_of_lt_of_le hlt hb.size, (hb.cell (p := ⟨b, off + k * 2, none⟩) hlt).trans h0, (hb.cell (p := ⟨b, off + k * 2 + 1, none⟩) hlt).trans h1⟩
theorem SpSl.at_ {w : World} {a : Option Addr} {l : List SpM} (h : SpSl w a l) {k : Nat} (hk : k < l.length) : ∃ b off, a = some ⟨b, off, none⟩ ∧ b < w.heap.size ∧
  w.cell? ⟨b, off + k * 2, none⟩ = some (.int .i64 l[k].f) ∧ w.cell? ⟨b, off + k * 2 + 1, none⟩ = some (.int .i64 l[k].t) := h k hk
theorem SpSl.tail {w : World} {b off : Nat} {s : SpM} {l : List SpM} (h : SpSl w (some ⟨b, off, none⟩) (s :: l)) : SpSl w (some ⟨b, off + 2, none⟩) l := fun k hk => by
 obtain ⟨b', off', e, hlt, h0, h1⟩ := h (k + 1) (by simpa using hk)
 cases e
 exact ⟨b, off + 2, rfl, hlt, by rw [show off + 2 + k * 2 = off + (k + 1) * 2 by omega]; simpa using h0, by rw [show off + 2 + k * 2 + 1 = off + (k + 1) * 2 + 1 by omega]; simpa using h1⟩
theorem own_sp {w : World} {B e : Nat} {v : Value} {l : List SpM} (h : w.ownsRow B e 2 v l.length (sps l)) : ∃ a c, v = .slice a l.length c ∧ l.length ≤ c ∧ SpSl w a l := by
 rcases h.2 with ⟨rfl, hn⟩ | ⟨g, cap, cur, rfl, hg, hh, hn, hc, hsz, ht⟩
 ·have : l = [] := List.eq_nil_of_length_eq_zero hn
  subst this
  exact ⟨none, 0, rfl, Nat.le_refl _, SpSl.nil _ _⟩
 ·refine ⟨_, cap, rfl, hn, fun k hk => ⟨g, 0, rfl, ?_, ?_, ?_⟩⟩
  ·rcases Nat.lt_or_ge g w.heap.size with h1 | h1
   ·exact h1
   ·rw [Array.getElem?_eq_none h1] at hh; cases hh
  ·have hg := (sps_get l k hk).1
   rw [← ht, List.getElem?_take, if_pos (by omega), Array.getElem?_toList] at hg
   rw [cell_of_row w g _ cur e (0, 0) hh, Nat.zero_add, hg]
  ·have hg := (sps_get l k hk).2
   rw [← ht, List.getElem?_take, if_pos (by omega), Array.getElem?_toList] at hg
   rw [cell_of_row w g _ cur e (0, 0) hh, Nat.zero_add, hg]
theorem two_one (a b : Int) : ∀ u ∈ [Value.int .i64 a, .int .i64 b], u.oneCell' = true := by
 intro u hu
 simp only [List.mem_cons, List.mem_nil_iff, or_false] at hu
 rcases hu with rfl | rfl <;> rfl
theorem own_below {w w' : World} {B e k n : Nat} {v : Value} {xs : List Value} (h : w.ownsRow B e k v n xs) (hb : Below w.heap.size w w') : w'.ownsRow B e k v n xs := by
 refine ⟨h.1, ?_⟩
 rcases h.2 with h | ⟨g, cap, cur, r1, r2, r3, r4⟩
 ·exact .inl h
 ·refine .inr ⟨g, cap, cur, r1, r2, ?_, r4⟩
  rw [hb.block g ?_]
  ·exact r3
  ·rcases Nat.lt_or_ge g w.heap.size with h1 | h1
   ·exact h1
   ·rw [Array.getElem?_eq_none h1] at r3; cases r3
theorem app_below {B : Nat} {w W w' : World} {e k n : Nat} {v : Value} {xs : List Value} (hB : Below B w W) (hs : B ≤ W.heap.size) (ho : W.ownsRow B e k v n xs) (hg : W.grownBy w' v.ownBlock) : Below B w w' :=
 hB.grown hg hs (fun j hj => (ho.lt j hj).1)
theorem news_at (W : World) (xs : Array Value) (t : TypeId) (g : Nat) (hg : g = W.heap.size) : ∀ j u, xs.toList[j]? = some u → (W.alloc (.cells xs t)).cell? ((⟨g, 0, none⟩ : Addr).add j) = some u := by
 subst hg; exact Sl.cells (sl_lit W xs t)
theorem below_two (w : World) (o p : Obj) : Below w.heap.size w ((w.alloc o).alloc p) := ((Below.refl _ _).alloc (Nat.le_refl _) _).alloc (by rw [size1]; omega) _
theorem heap_lt {W : World} {G : Nat} {o : Obj} (h : W.heap[G]? = some o) : G < W.heap.size := (Array.getElem?_eq_some_iff.1 h).1
theorem infoSpan : (Tryz.prog.info? 90).map (fun i => (i.zero, i.size, i.bytes)) = some (some (.agg #[.int .i64 0, .int .i64 0]), 2, 16) := by kernel_rfl
theorem infoSpan2 : (Tryz.prog.info? 90).map (·.size) = some 2 := by kernel_rfl
theorem loadSp {W : World} {g : Nat} {a b : Value} {t : TypeId} (h : W.heap[g]? = some (.cells #[a, b] t (0, 0))) :
  (loadVar 90 ⟨g, 0, none⟩).run Tryz.prog W = .ok (.agg #[a, b]) W :=
 run_loadVar_mid (P := Tryz.prog) W g 0 90 [a, b] _ (fun j v hv => by
  rw [Nat.zero_add, cell_of_row _ _ _ _ _ (0, 0) h]
  simpa using hv) Tryz.underlying90 rfl infoSpan2
theorem heap_setCell_at {w : World} {p : Nat} {cur : Array Value} {t : TypeId} (h : w.heap[p]? = some (.cells cur t (0, 0))) (i : Nat) (v : Value) :
  (w.setCell ⟨p, i, none⟩ v).heap[p]? = some (.cells (cur.setIfInBounds i v) t (0, 0)) := by
 obtain ⟨hlt, hk⟩ := Array.getElem?_eq_some_iff.1 h
 show (w.heap.modify p _)[p]? = _
 rw [Array.getElem?_eq_getElem (by rw [Array.size_modify]; exact hlt), Array.getElem_modify_self, hk]
 rfl
theorem results_cell1 {fn : Func} {p : Tmp} {ty : TypeId} (h : fn.results = #[.cell p ty]) (tmps : Array Value) (P : Program) (w : World) :
  (results fn tmps).run P w = ((asAddr (tmps.getD p undef)).run P w).andThen fun a w₁ => (loadVar ty a).run P w₁ := by
 simp only [results, h]
 simp [Sem.run_bind, Result.andThen]
def spV (s : SpM) : Value := .agg #[.int .i64 s.f, .int .i64 s.t]
def I64 (n : Int) : Prop := -9223372036854775808 ≤ n ∧ n ≤ 9223372036854775807
theorem none_any (f t : Int) (w : World) : Calls Tryz.prog 108 #[.agg #[.int .i64 f, .int .i64 t]] w fun e w' => e = .returned (.bool (decide (t ≤ f))) ∧ Below w.heap.size w w' := by
 have HBB := Lib.hid (fun o => (Below.refl w.heap.size w).alloc (Nat.le_refl _) o)
 go_enter Tryz.func108, Tryz.ntmps108
 go_wp2
 go_ret
 exact ⟨retB (by simp), HBB.out _⟩
theorem shas_any (f t x : Int) (w : World) : Calls Tryz.prog 60 #[.agg #[.int .i64 f, .int .i64 t], .int .i64 x] w fun e w' => e = .returned (.bool (decide (f ≤ x) && decide (x < t))) ∧ Below w.heap.size w w' := by
 have HBB := Lib.hid (fun o => (Below.refl w.heap.size w).alloc (Nat.le_refl _) o)
 by_cases h : f ≤ x
 ·go_enter Tryz.func60, Tryz.ntmps60
  go_wp2
  go_ret
  exact ⟨retB (by simp [h]), HBB.out _⟩
 ·go_enter Tryz.func60, Tryz.ntmps60
  go_wp2
  go_ret
  exact ⟨retB (by simp; omega), HBB.out _⟩
set_option maxHeartbeats 1000000 in
theorem smeet_any (s o : SpM) (w : World) : Calls Tryz.prog 163 #[spV s, spV o] w fun e w' => e = .returned (spV (meetS s o)) ∧ Below w.heap.size w w' := by
 unfold spV meetS
 have HB3 : Hid (∀ o1 o2 o3, Below w.heap.size w (((w.alloc o1).alloc o2).alloc o3)) := fun o1 o2 o3 => (below_two w o1 o2).alloc (by rw [size1, size1]; omega) _
 have HL : Hid (∀ (o1 o2 : Obj) (a b : Value), (loadVar 90 ⟨w.heap.size + 1 + 1, 0, none⟩).run Tryz.prog (((w.alloc o1).alloc o2).alloc (.cells #[a, b] 90)) = .ok (.agg #[a, b]) (((w.alloc o1).alloc o2).alloc (.cells #[a, b] 90))) := fun o1 o2 a b => by
  have := heap_alloc_new ((w.alloc o1).alloc o2) (.cells #[a, b] 90)
  rw [size1, size1] at this
  exact loadSp this
 rcases Int.lt_or_le s.f o.f with h1 | h1 <;> rcases Int.lt_or_le o.t s.t with h2 | h2
 ·have e1 : max s.f o.f = o.f := by omega
  have e2 : min s.t o.t = o.t := by omega
  rw [e1, e2]
  go_enter Tryz.func163, Tryz.ntmps163
  go_wp2
  refine bodyPost_ret (v := .agg #[.int .i64 o.f, .int .i64 o.t]) ?_ rfl ?_
  ·rw [results_cell1 rfl]
   simp [asAddr, Result.andThen, HL.out]
  ·exact ⟨rfl, HB3.out _ _ _⟩
 ·have e1 : max s.f o.f = o.f := by omega
  have e2 : min s.t o.t = s.t := by omega
  rw [e1, e2]
  go_enter Tryz.func163, Tryz.ntmps163
  go_wp2
  refine bodyPost_ret (v := .agg #[.int .i64 o.f, .int .i64 s.t]) ?_ rfl ?_
  ·rw [results_cell1 rfl]
   simp [asAddr, Result.andThen, HL.out]
  ·exact ⟨rfl, HB3.out _ _ _⟩
 ·have e1 : max s.f o.f = s.f := by omega
  have e2 : min s.t o.t = o.t := by omega
  rw [e1, e2]
  go_enter Tryz.func163, Tryz.ntmps163
  go_wp2
  refine bodyPost_ret (v := .agg #[.int .i64 s.f, .int .i64 o.t]) ?_ rfl ?_
  ·rw [results_cell1 rfl]
   simp [asAddr, Result.andThen, HL.out]
  ·exact ⟨rfl, HB3.out _ _ _⟩
 ·have e1 : max s.f o.f = s.f := by omega
  have e2 : min s.t o.t = s.t := by omega
  rw [e1, e2]
  go_enter Tryz.func163, Tryz.ntmps163
  go_wp2
  refine bodyPost_ret (v := .agg #[.int .i64 s.f, .int .i64 s.t]) ?_ rfl ?_
  ·rw [results_cell1 rfl]
   simp [asAddr, Result.andThen, HL.out]
  ·exact ⟨rfl, HB3.out _ _ _⟩
def encT (s : StM) : List Value := [.int .i64 s.f, .int .i64 s.t, .int .i64 s.n, .int .i64 s.s]
def sts (l : List StM) : List Value := l.flatMap encT
theorem sts_cons (s : StM) (l : List StM) : sts (s :: l) = encT s ++ sts l := by simp [sts]
theorem sts_len (l : List StM) : (sts l).length = l.length * 4 := by
 induction l with
 | nil => rfl
 | cons e l ih => rw [sts_cons, List.length_append, ih, List.length_cons]; simp only [encT, List.length_cons, List.length_nil]; omega
theorem sts_append (l m : List StM) : sts (l ++ m) = sts l ++ sts m := by simp [sts]
theorem sts_snoc (l : List StM) (x : StM) : sts (l ++ [x]) = sts l ++ [.int .i64 x.f, .int .i64 x.t, .int .i64 x.n, .int .i64 x.s] := by simp [sts, encT]
theorem sts_take (l : List StM) (j : Nat) (h : j < l.length) : sts (l.take (j + 1)) = sts (l.take j) ++ [.int .i64 l[j].f, .int .i64 l[j].t, .int .i64 l[j].n, .int .i64 l[j].s] := by
 rw [List.take_succ_eq_append_getElem h]; exact sts_snoc _ _
theorem sts_get (l : List StM) : ∀ (k : Nat) (h : k < l.length), (sts l)[k * 4]? = some (.int .i64 l[k].f) ∧ (sts l)[k * 4 + 1]? = some (.int .i64 l[k].t) ∧ (sts l)[k * 4 + 2]? = some (.int .i64 l[k].n) ∧ (sts l)[k * 4 + 3]? = some (.int .i64 l[k].s) := by
 induction l with
 | nil => intro k h; exact absurd h (by simp)
 | cons x l ih =>
  intro k h
  rw [sts_cons]
  cases k with
  | zero => exact ⟨rfl, rfl, rfl, rfl⟩
  | succ k =>
   have := ih k (by simpa using h)
   rw [show (k + 1) * 4 = k * 4 + 1 + 1 + 1 + 1 by omega]
   simpa [encT] using this
def StSl (w : World) (a : Option Addr) (l : List StM) : Prop := ∀ k (h : k < l.length), ∃ b off, a = some ⟨b, off, none⟩ ∧ b < w.heap.size ∧
 w.cell? ⟨b, off + k * 4, none⟩ = some (.int .i64 l[k].f) ∧ w.cell? ⟨b, off + k * 4 + 1, none⟩ = some (.int .i64 l[k].t) ∧ w.cell? ⟨b, off + k * 4 + 2, none⟩ = some (.int .i64 l[k].n) ∧ w.cell? ⟨b, off + k * 4 + 3, none⟩ = some (.int .i64 l[k].s)
theorem StSl.nil (w : World) (a : Option Addr) : StSl w a [] := fun k h => absurd h (by simp)
theorem StSl.below {w w' : World} {a : Option Addr} {l : List StM} (h : StSl w a l) (hb : Below w.heap.size w w') : StSl w' a l := fun k hk => by
 obtain ⟨b, off, e, hlt, h0, h1, h2, h3⟩ := h k hk
 exact ⟨b, off, e, Nat.lt_of_lt_of_le hlt hb.size, (hb.cell (p := ⟨b, off + k * 4, none⟩) hlt).trans h0, (hb.cell (p := ⟨b, off + k * 4 + 1, none⟩) hlt).trans h1, (hb.cell (p := ⟨b, off + k * 4 + 2, none⟩) hlt).trans h2, (hb.cell (p := ⟨b, off + k * 4 + 3, none⟩) hlt).trans h3⟩
theorem StSl.at_ {w : World} {a : Option Addr} {l : List StM} (h : StSl w a l) {k : Nat} (hk : k < l.length) : ∃ b off, a = some ⟨b, off, none⟩ ∧ b < w.heap.size ∧
  w.cell? ⟨b, off + k * 4, none⟩ = some (.int .i64 l[k].f) ∧ w.cell? ⟨b, off + k * 4 + 1, none⟩ = some (.int .i64 l[k].t) ∧ w.cell? ⟨b, off + k * 4 + 2, none⟩ = some (.int .i64 l[k].n) ∧ w.cell? ⟨b, off + k * 4 + 3, none⟩ = some (.int .i64 l[k].s) := h k hk
theorem StSl.take {w : World} {a : Option Addr} {l : List StM} (h : StSl w a l) (n : Nat) : StSl w a (l.take n) := fun k hk => by
 have hk2 : k < l.length := by simp at hk; omega
 obtain ⟨b, off, e, hlt, h0, h1, h2, h3⟩ := h k hk2
 rw [List.getElem_take]
 exact ⟨b, off, e, hlt, h0, h1, h2, h3⟩
theorem StSl.drop {w : World} {b off : Nat} {l : List StM} (h : StSl w (some ⟨b, off, none⟩) l) (n : Nat) : StSl w (some ⟨b, off + n * 4, none⟩) (l.drop n) := fun k hk => by
 have hk2 : n + k < l.length := by simp at hk; omega
 obtain ⟨b', off', e, hlt, h0, h1, h2, h3⟩ := h (n + k) hk2
 cases e
 rw [List.getElem_drop]
 have e1 : off + n * 4 + k * 4 = off + (n + k) * 4 := by omega
 exact ⟨b, off + n * 4, rfl, hlt, by rw [e1]; exact h0, by rw [e1]; exact h1, by rw [e1]; exact h2, by rw [e1]; exact h3⟩
theorem StSl.cells {w : World} {a : Option Addr} {l : List StM} (h : StSl w a l) : ∀ ad, a = some ad → ∀ j u, (sts l)[j]? = some u → w.cell? (ad.add j) = some u := fun ad ha j u hu => by
 have hj : j < l.length * 4 := by rw [← sts_len]; exact (List.getElem?_eq_some_iff.1 hu).1
 have hk : j / 4 < l.length := by omega
 obtain ⟨b, off, e, _, h1, h2, h3, h4⟩ := h (j / 4) hk
 rw [ha] at e
 cases e
 obtain ⟨g1, g2, g3, g4⟩ := sts_get l (j / 4) hk
 have hadd : (⟨b, off, none⟩ : Addr).add j = ⟨b, off + j, none⟩ := by
  unfold Addr.add
  split
  ·rename_i h; subst h; rfl
  ·rfl
 rw [hadd]
 have hd : j = j / 4 * 4 ∨ j = j / 4 * 4 + 1 ∨ j = j / 4 * 4 + 2 ∨ j = j / 4 * 4 + 3 := by omega
 generalize j / 4 = k at *
 rcases hd with rfl | rfl | rfl | rfl
 ·rw [g1] at hu
  cases hu
  exact h1
 ·rw [g2] at hu
  cases hu
  exact h2
 ·rw [g3] at hu
  cases hu
  exact h3
 ·rw [g4] at hu
  cases hu
  exact h4
theorem four_one (a b c d : Int) : ∀ u ∈ [Value.int .i64 a, .int .i64 b, .int .i64 c, .int .i64 d], u.oneCell' = true := by
 intro u hu
 simp only [List.mem_cons, List.mem_nil_iff, or_false] at hu
 rcases hu with rfl | rfl | rfl | rfl <;> rfl
theorem sts_one (l : List StM) : ∀ u ∈ sts l, u.oneCell' = true := fun u hu => by
 unfold sts at hu
 obtain ⟨y, _, hy⟩ := List.mem_flatMap.1 hu
 exact four_one _ _ _ _ u hy
theorem own_st {w : World} {B e : Nat} {v : Value} {l : List StM} (h : w.ownsRow B e 4 v l.length (sts l)) : ∃ a c, v = .slice a l.length c ∧ l.length ≤ c ∧ c ≤ maxLen ∧ StSl w a l ∧ (a = none → c = 0) := by
 rcases h.2 with ⟨rfl, hn⟩ | ⟨g, cap, cur, rfl, hg, hh, hn, hc, hsz, ht⟩
 ·have : l = [] := List.eq_nil_of_length_eq_zero hn
  subst this
  exact ⟨none, 0, rfl, Nat.le_refl _, by unfold maxLen; omega, StSl.nil _ _, fun _ => rfl⟩
 ·have hlt : g < w.heap.size := by
   rcases Nat.lt_or_ge g w.heap.size with h1 | h1
   ·exact h1
   ·rw [Array.getElem?_eq_none h1] at hh; cases hh
  refine ⟨_, cap, rfl, hn, hc, fun k hk => ⟨g, 0, rfl, hlt, ?_, ?_, ?_, ?_⟩, fun e => by cases e⟩
  ·have hg := (sts_get l k hk).1
   rw [← ht, List.getElem?_take, if_pos (by omega), Array.getElem?_toList] at hg
   rw [cell_of_row w g _ cur e (0, 0) hh, Nat.zero_add, hg]
  ·have hg := (sts_get l k hk).2.1
   rw [← ht, List.getElem?_take, if_pos (by omega), Array.getElem?_toList] at hg
   rw [cell_of_row w g _ cur e (0, 0) hh, Nat.zero_add, hg]
  ·have hg := (sts_get l k hk).2.2.1
   rw [← ht, List.getElem?_take, if_pos (by omega), Array.getElem?_toList] at hg
   rw [cell_of_row w g _ cur e (0, 0) hh, Nat.zero_add, hg]
  ·have hg := (sts_get l k hk).2.2.2
   rw [← ht, List.getElem?_take, if_pos (by omega), Array.getElem?_toList] at hg
   rw [cell_of_row w g _ cur e (0, 0) hh, Nat.zero_add, hg]
theorem cells_st (W : World) (l : List StM) (xs : Array Value) (t : TypeId) (g : Nat) (hg : g = W.heap.size) (hx : xs.toList = sts l) : StSl (W.alloc (.cells xs t)) (some ⟨g, 0, none⟩) l := fun k hk => by
 subst hg
 obtain ⟨g1, g2, g3, g4⟩ := sts_get l k hk
 rw [← hx, Array.getElem?_toList] at g1 g2 g3 g4
 refine ⟨W.heap.size, 0, rfl, by rw [size1]; omega, ?_, ?_, ?_, ?_⟩
 ·rw [cell_of_row _ _ _ xs t (0, 0) (heap_alloc_new W _), Nat.zero_add, g1]
 ·rw [cell_of_row _ _ _ xs t (0, 0) (heap_alloc_new W _), Nat.zero_add, g2]
 ·rw [cell_of_row _ _ _ xs t (0, 0) (heap_alloc_new W _), Nat.zero_add, g3]
 ·rw [cell_of_row _ _ _ xs t (0, 0) (heap_alloc_new W _), Nat.zero_add, g4]
def stV (s : StM) : Value := .agg #[.int .i64 s.f, .int .i64 s.t, .int .i64 s.n, .int .i64 s.s]
theorem infoStay : (Tryz.prog.info? 111).map (fun i => (i.zero, i.size, i.bytes)) = some (some (.agg #[.int .i64 0, .int .i64 0, .int .i64 0, .int .i64 0]), 4, 32) := by kernel_rfl
theorem cells4 {g : Nat} {a b c d : Value} {t : TypeId} {W : World} (h : W.heap[g]? = some (.cells #[a, b, c, d] t (0, 0))) : W.cell? ⟨g, 0, none⟩ = some a ∧ W.cell? ⟨g, 1, none⟩ = some b ∧ W.cell? ⟨g, 2, none⟩ = some c ∧ W.cell? ⟨g, 3, none⟩ = some d :=
 ⟨cell_of_row _ _ _ _ _ _ h, cell_of_row _ _ _ _ _ _ h, cell_of_row _ _ _ _ _ _ h, cell_of_row _ _ _ _ _ _ h⟩
theorem wpList_append_st {P : Program} (w : World) {ops : Array Oper} {rest : List Oper} {o : Oper} {a : Act} {Q : Exit → Act → World → Prop} (hgd : o.guard = none) (s x : Operand) (t : TypeId)
  (ho : o.op = .call { callee := .builtin .append, args := #[s, x], argTypes := #[t, t] })
  (base : Nat) (e : TypeId) (i : TypeInfo) (z : Value) (ht : P.underlying t = some (.slice e)) (hi : P.info? e = some i) (hz : i.zero = some z)
  (hsize : i.size = 4) (hby : i.bytes = 32) (hzs : z.cells.size = 4)
  (v : Value) (l : List StM) (hs : a.eval s = v) (hown : w.ownsRow base e 4 v l.length (sts l))
  (A : Option Addr) (c : Nat) (m : List StM) (hx : a.eval x = .slice A m.length c) (hsl : StSl w A m) (hnil : A = none → c = 0)
  (hlen : l.length + m.length ≤ 1000000) (hbase : base ≤ w.heap.size)
  (h : ∀ v' w', w'.ownsRow base e 4 v' (l ++ m).length (sts (l ++ m)) → Below base w w' → wpList P ops Q rest (a.put o.dst v') w') : wpList P ops Q (o :: rest) a w := by
 rw [List.length_append, sts_append] at h
 cases A with
 | none =>
  have hc := hnil rfl
  subst hc
  have hm0 : m = [] := by
   cases m with
   | nil => rfl
   | cons y m => obtain ⟨_, _, e, _⟩ := hsl 0 (by simp); cases e
  subst hm0
  exact wpList_append_own_none hgd s x t ho base e i 4 ht hi v l.length (sts l) hs hown hx (h v w (by simpa [sts] using hown) (Below.refl _ _))
 | some ad =>
  exact wpList_append_own w hgd s x t ho base e i z 4 32 ht hi hz hsize hby hzs (by decide) v l.length (sts l) hs hown ad m.length c (sts m) hx (sts_len m) (hsl.cells ad rfl) (sts_one m) (by unfold maxLen; omega) (by omega) hbase (fun v' w' h2 h3 _ => h v' w' h2 (app_below (Below.refl _ _) hbase hown h3))
def ints (l : List Int) : List Value := l.map fun n => .int .i64 n
theorem ints_len (l : List Int) : (ints l).length = l.length := by simp [ints]
theorem ints_at {w : World} {a : Option Addr} {l : List Int} (h : Sl w a (ints l)) {k : Nat} (hk : k < l.length) : ∃ b off, a = some ⟨b, off, none⟩ ∧ b < w.heap.size ∧ w.cell? ⟨b, off + k, none⟩ = some (.int .i64 l[k]) := by
 obtain ⟨b, off, e, hlt, hc⟩ := h k (by rw [ints_len]; exact hk)
 exact ⟨b, off, e, hlt, by rw [hc]; simp [ints]⟩
theorem own_low {w : World} {B B' e k n : Nat} {v : Value} {xs : List Value} (h : w.ownsRow B e k v n xs) (hb : B' ≤ B) : w.ownsRow B' e k v n xs := by
 refine ⟨h.1, ?_⟩
 rcases h.2 with h0 | ⟨g, cap, cur, e0, hg, h1⟩
 ·exact .inl h0
 ·exact .inr ⟨g, cap, cur, e0, Nat.le_trans hb hg, h1⟩
end Go.Proofs.YtapacckmgmdnoaaGreat
namespace Go.Proofs.YtapacckmgmdnoaaGreat
open Go.RowKit
set_option linter.unusedVariables false
set_option maxRecDepth 100000
def putStep (s : ByteArray) (p : List ByteArray × Bool) (x : ByteArray) : List ByteArray × Bool :=
 if Lib.compareBytes s.data.toList x.data.toList == 0 then (p.1 ++ [x], true)
 else if decide (Lib.compareBytes s.data.toList x.data.toList < 0) && !p.2 then (p.1 ++ [s] ++ [x], true)
 else (p.1 ++ [x], p.2)
def putTo (l : List ByteArray) (s : ByteArray) (k : Nat) : List ByteArray × Bool := (l.take k).foldl (putStep s) ([], false)
def put (l : List ByteArray) (s : ByteArray) : List ByteArray := if (putTo l s l.length).2 then (putTo l s l.length).1 else (putTo l s l.length).1 ++ [s]
end Go.Proofs.YtapacckmgmdnoaaGreat
