/- What the law NamePairs keeps in memory, and what its calls leave of it. -/
import Derived.Test.YthcjkobopobokaaA8
import Derived.Test.YthcjkobopobokaaF1
import Derived.Deep.RegionHeld3
import Derived.RegionTactic
import Derived.IntWalk
import Derived.Deep.DeepCutAuto
import Derived.Lib.SmallJoins
namespace Go.Proofs.Ythcjkobopobokaa.namePairs
open Go.ChangeShapes Go.WideShapes Go.ChangeAt Go.RowKit
open Go.ChangeMaps (open_string shut_string)
set_option linter.unusedVariables false

/-- where the law keeps its pairs: p at N, q behind it, and their copies at g and h; all else is as it was -/
structure Boxes (w : World) (N g h : Nat) (a b c d : ByteArray) (W : World) : Prop where
  below : Below w.heap.size w W
  lt : N < W.heap.size ∧ N + 1 < W.heap.size ∧ g < W.heap.size ∧ h < W.heap.size
  p0 : W.cell? ⟨N, 0, none⟩ = some (.string a)
  p1 : W.cell? ⟨N, 1, none⟩ = some (.string b)
  q0 : W.cell? ⟨N + 1, 0, none⟩ = some (.string c)
  q1 : W.cell? ⟨N + 1, 1, none⟩ = some (.string d)
  g0 : W.cell? ⟨g, 0, none⟩ = some (.string a)
  g1 : W.cell? ⟨g, 1, none⟩ = some (.string b)
  h0 : W.cell? ⟨h, 0, none⟩ = some (.string c)
  h1 : W.cell? ⟨h, 1, none⟩ = some (.string d)

section
variable {w W W' : World} {N g h : Nat} {a b c d : ByteArray}
theorem Boxes.keep (x : Boxes w N g h a b c d W) (hb : Below W.heap.size W W') : Boxes w N g h a b c d W' where
  below := x.below.trans (hb.mono x.below.size)
  lt := by have := hb.size; have := x.lt; omega
  p0 := (hb.cell (p := ⟨N, 0, none⟩) x.lt.1).trans x.p0
  p1 := (hb.cell (p := ⟨N, 1, none⟩) x.lt.1).trans x.p1
  q0 := (hb.cell (p := ⟨N + 1, 0, none⟩) x.lt.2.1).trans x.q0
  q1 := (hb.cell (p := ⟨N + 1, 1, none⟩) x.lt.2.1).trans x.q1
  g0 := (hb.cell (p := ⟨g, 0, none⟩) x.lt.2.2.1).trans x.g0
  g1 := (hb.cell (p := ⟨g, 1, none⟩) x.lt.2.2.1).trans x.g1
  h0 := (hb.cell (p := ⟨h, 0, none⟩) x.lt.2.2.2).trans x.h0
  h1 := (hb.cell (p := ⟨h, 1, none⟩) x.lt.2.2.2).trans x.h1
theorem Boxes.drew (x : Boxes w N g h a b c d W) : Boxes w N g h a b c d W.drew := x.keep ((Below.refl _ _).drew)
theorem Boxes.cells (x : Boxes w N g h a b c d W) : W.cell? ⟨N, 0, none⟩ = some (.string a) ∧ W.cell? ⟨N, 1, none⟩ = some (.string b) ∧ W.cell? ⟨g, 0, none⟩ = some (.string a) ∧ W.cell? ⟨g, 1, none⟩ = some (.string b) ∧ W.cell? ⟨h, 0, none⟩ = some (.string c) ∧ W.cell? ⟨h, 1, none⟩ = some (.string d) :=
  ⟨x.p0, x.p1, x.g0, x.g1, x.h0, x.h1⟩
end

theorem cell_new (W : World) (xs : Array Value) (t : TypeId) (i g : Nat) (v : Value) (hg : g = W.heap.size) (h : xs[i]? = some v) : (W.alloc (.cells xs t)).cell? ⟨g, i, none⟩ = some v := by
  subst hg
  rw [cell_of_row _ _ _ xs t (0, 0) (heap_alloc_new W _), h]
theorem cell_old {W : World} {o : Obj} {i g : Nat} {v : Value} (hg : g < W.heap.size) (h : W.cell? ⟨g, i, none⟩ = some v) : (W.alloc o).cell? ⟨g, i, none⟩ = some v := by
  rw [World.cell?_alloc_lt _ _ _ hg]; exact h

theorem boxes1 (w : World) (a b c d : ByteArray) (s t u v : TypeId) : Boxes w w.heap.size (w.heap.size + 1 + 1) (w.heap.size + 1 + 1 + 1) a b c d
    ((((w.alloc (.cells #[.string a, .string b] s)).alloc (.cells #[.string c, .string d] t)).alloc (.cells #[.string a, .string b] u)).alloc (.cells #[.string c, .string d] v)).drew :=
  Boxes.drew ⟨((((Below.refl _ _).alloc (Nat.le_refl _) _).alloc (by first | rfl | (simp only [World.size_alloc]; done) | (simp only [World.size_alloc]; omega)) _).alloc (by first | rfl | (simp only [World.size_alloc]; done) | (simp only [World.size_alloc]; omega)) _).alloc (by first | rfl | (simp only [World.size_alloc]; done) | (simp only [World.size_alloc]; omega)) _, (by first | rfl | (simp only [World.size_alloc]; done) | (simp only [World.size_alloc]; omega)),
    cell_old (by first | rfl | (simp only [World.size_alloc]; done) | (simp only [World.size_alloc]; omega)) (cell_old (by first | rfl | (simp only [World.size_alloc]; done) | (simp only [World.size_alloc]; omega)) (cell_old (by first | rfl | (simp only [World.size_alloc]; done) | (simp only [World.size_alloc]; omega)) (cell_new _ _ _ _ _ _ (by first | rfl | (simp only [World.size_alloc]; done) | (simp only [World.size_alloc]; omega)) rfl))), cell_old (by first | rfl | (simp only [World.size_alloc]; done) | (simp only [World.size_alloc]; omega)) (cell_old (by first | rfl | (simp only [World.size_alloc]; done) | (simp only [World.size_alloc]; omega)) (cell_old (by first | rfl | (simp only [World.size_alloc]; done) | (simp only [World.size_alloc]; omega)) (cell_new _ _ _ _ _ _ (by first | rfl | (simp only [World.size_alloc]; done) | (simp only [World.size_alloc]; omega)) rfl))),
    cell_old (by first | rfl | (simp only [World.size_alloc]; done) | (simp only [World.size_alloc]; omega)) (cell_old (by first | rfl | (simp only [World.size_alloc]; done) | (simp only [World.size_alloc]; omega)) (cell_new _ _ _ _ _ _ (by first | rfl | (simp only [World.size_alloc]; done) | (simp only [World.size_alloc]; omega)) rfl)), cell_old (by first | rfl | (simp only [World.size_alloc]; done) | (simp only [World.size_alloc]; omega)) (cell_old (by first | rfl | (simp only [World.size_alloc]; done) | (simp only [World.size_alloc]; omega)) (cell_new _ _ _ _ _ _ (by first | rfl | (simp only [World.size_alloc]; done) | (simp only [World.size_alloc]; omega)) rfl)),
    cell_old (by first | rfl | (simp only [World.size_alloc]; done) | (simp only [World.size_alloc]; omega)) (cell_new _ _ _ _ _ _ (by first | rfl | (simp only [World.size_alloc]; done) | (simp only [World.size_alloc]; omega)) rfl), cell_old (by first | rfl | (simp only [World.size_alloc]; done) | (simp only [World.size_alloc]; omega)) (cell_new _ _ _ _ _ _ (by first | rfl | (simp only [World.size_alloc]; done) | (simp only [World.size_alloc]; omega)) rfl),
    cell_new _ _ _ _ _ _ (by first | rfl | (simp only [World.size_alloc]; done) | (simp only [World.size_alloc]; omega)) rfl, cell_new _ _ _ _ _ _ (by first | rfl | (simp only [World.size_alloc]; done) | (simp only [World.size_alloc]; omega)) rfl⟩
theorem boxes2 (w : World) (a b c d : ByteArray) (s t u v : TypeId) : Boxes w w.heap.size (w.heap.size + 1 + 1 + 1) (w.heap.size + 1 + 1) a b c d
    ((((w.alloc (.cells #[.string a, .string b] s)).alloc (.cells #[.string c, .string d] t)).alloc (.cells #[.string c, .string d] u)).alloc (.cells #[.string a, .string b] v)).drew :=
  Boxes.drew ⟨((((Below.refl _ _).alloc (Nat.le_refl _) _).alloc (by first | rfl | (simp only [World.size_alloc]; done) | (simp only [World.size_alloc]; omega)) _).alloc (by first | rfl | (simp only [World.size_alloc]; done) | (simp only [World.size_alloc]; omega)) _).alloc (by first | rfl | (simp only [World.size_alloc]; done) | (simp only [World.size_alloc]; omega)) _, (by first | rfl | (simp only [World.size_alloc]; done) | (simp only [World.size_alloc]; omega)),
    cell_old (by first | rfl | (simp only [World.size_alloc]; done) | (simp only [World.size_alloc]; omega)) (cell_old (by first | rfl | (simp only [World.size_alloc]; done) | (simp only [World.size_alloc]; omega)) (cell_old (by first | rfl | (simp only [World.size_alloc]; done) | (simp only [World.size_alloc]; omega)) (cell_new _ _ _ _ _ _ (by first | rfl | (simp only [World.size_alloc]; done) | (simp only [World.size_alloc]; omega)) rfl))), cell_old (by first | rfl | (simp only [World.size_alloc]; done) | (simp only [World.size_alloc]; omega)) (cell_old (by first | rfl | (simp only [World.size_alloc]; done) | (simp only [World.size_alloc]; omega)) (cell_old (by first | rfl | (simp only [World.size_alloc]; done) | (simp only [World.size_alloc]; omega)) (cell_new _ _ _ _ _ _ (by first | rfl | (simp only [World.size_alloc]; done) | (simp only [World.size_alloc]; omega)) rfl))),
    cell_old (by first | rfl | (simp only [World.size_alloc]; done) | (simp only [World.size_alloc]; omega)) (cell_old (by first | rfl | (simp only [World.size_alloc]; done) | (simp only [World.size_alloc]; omega)) (cell_new _ _ _ _ _ _ (by first | rfl | (simp only [World.size_alloc]; done) | (simp only [World.size_alloc]; omega)) rfl)), cell_old (by first | rfl | (simp only [World.size_alloc]; done) | (simp only [World.size_alloc]; omega)) (cell_old (by first | rfl | (simp only [World.size_alloc]; done) | (simp only [World.size_alloc]; omega)) (cell_new _ _ _ _ _ _ (by first | rfl | (simp only [World.size_alloc]; done) | (simp only [World.size_alloc]; omega)) rfl)),
    cell_new _ _ _ _ _ _ (by first | rfl | (simp only [World.size_alloc]; done) | (simp only [World.size_alloc]; omega)) rfl, cell_new _ _ _ _ _ _ (by first | rfl | (simp only [World.size_alloc]; done) | (simp only [World.size_alloc]; omega)) rfl,
    cell_old (by first | rfl | (simp only [World.size_alloc]; done) | (simp only [World.size_alloc]; omega)) (cell_new _ _ _ _ _ _ (by first | rfl | (simp only [World.size_alloc]; done) | (simp only [World.size_alloc]; omega)) rfl), cell_old (by first | rfl | (simp only [World.size_alloc]; done) | (simp only [World.size_alloc]; omega)) (cell_new _ _ _ _ _ _ (by first | rfl | (simp only [World.size_alloc]; done) | (simp only [World.size_alloc]; omega)) rfl)⟩

theorem cmpP_neg (a b c d : ByteArray) : cmpP c d a b = - cmpP a b c d := by
  unfold cmpP cmpS
  have h1 := cb_neg a.data.toList c.data.toList
  have h2 := cb_neg b.data.toList d.data.toList
  by_cases h : Lib.compareBytes a.data.toList c.data.toList = 0
  · rw [if_pos h, if_pos (by omega)]; exact h2
  · rw [if_neg h, if_neg (by omega)]; exact h1
theorem cmpP_range (a b c d : ByteArray) : cmpP a b c d = -1 ∨ cmpP a b c d = 0 ∨ cmpP a b c d = 1 := by
  unfold cmpP
  split
  · exact cb_range _ _
  · exact cb_range _ _

/-- a call that leaves what was there, met where the boxes stand -/
def Keeps (P : Program) (f : Nat) (args : Array Value) (v : Value) : Prop := ∀ (w : World) (N g h : Nat) (a b c d : ByteArray) (W : World), Boxes w N g h a b c d W → Calls P f args W fun e w' => e = .returned v ∧ Boxes w N g h a b c d w'
theorem Keeps.of {P : Program} {f : Nat} {args : Array Value} {v : Value} (h : ∀ W, Calls P f args W fun e w' => e = .returned v ∧ Below W.heap.size W w') : Keeps P f args v := fun w N g k a b c d W hx =>
  (h W).mono fun _ _ ⟨he, hb⟩ => ⟨he, hx.keep hb⟩
theorem Keeps.same {P : Program} {f : Nat} {args : Array Value} {v : Value} (h : ∀ W, Calls P f args W fun e w' => e = .returned v ∧ W = w') : Keeps P f args v := fun w N g k a b c d W hx =>
  (h W).mono fun _ _ ⟨he, hb⟩ => ⟨he, hb ▸ hx⟩

def sgn (n : Int) : Int := if n < 0 then -1 else 0
end Go.Proofs.Ythcjkobopobokaa.namePairs
