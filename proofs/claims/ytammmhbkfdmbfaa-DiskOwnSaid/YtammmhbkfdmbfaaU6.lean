/- Layer 5's laws: the program's disk and the document's, apart from each other; made. -/
import Derived.Test.YtammmhbkfdmbfaaT14
import Derived.Test.YtammmhbkfdmbfaaU5
namespace Go.Proofs.Ytammmhbkfdmbfaa
open Go.RowKit
set_option linter.unusedVariables false

/-- the program's disk d at p, the document's disk e with its row at a, and the blocks X of a law's own: all apart, all new since w0 -/
structure Duo (X : Nat → Prop) (w0 w : World) (p : Nat) (d e : DiskM) (a : Option Addr) : Prop where
  ex : ∃ S, DiskAt w p S d ∧ (∀ i, S i → w0.heap.size ≤ i) ∧ (∀ b o, a = some ⟨b, o, none⟩ → e.L ≠ [] → ¬ S b ∧ ¬ X b) ∧ ∀ i, X i → ¬ S i
  row : FiSl w a e.L
  ok : Ok d
  oke : Ok e
  box : ∀ i, X i → w0.heap.size ≤ i ∧ i < w.heap.size
  below : Below w0.heap.size w0 w
variable {X Y : Nat → Prop} {w0 w w' : World} {p : Nat} {d d' e e' : DiskM} {a a' : Option Addr}
theorem FiSl.lt {b o : Nat} {L : List FileM} (h : FiSl w (some ⟨b, o, none⟩) L) (hL : L ≠ []) : b < w.heap.size := by
  obtain ⟨b', off, e2, h1, _⟩ := h.at (k := 0) (List.length_pos_iff.2 hL)
  cases e2
  exact h1
theorem FiSl.setn {L : List FileM} (h : FiSl w a L) (g i : Nat) (v : Value) (hg : ∀ b o, a = some ⟨b, o, none⟩ → L ≠ [] → b ≠ g) : FiSl (w.setCell ⟨g, i, none⟩ v) a L := by
  cases L with
  | nil => intro k hk; exact absurd hk (by simp [fiC])
  | cons y L => exact h.set g i v (fun b o e => hg b o e (by simp))
theorem Duo.below_ (h : Duo X w0 w p d e a) (k : Below w.heap.size w w') : Duo X w0 w' p d e a := by
  obtain ⟨S, hS, h1, h2, h3⟩ := h.ex
  exact ⟨⟨S, hS.below k, h1, h2, h3⟩, h.row.below k, h.ok, h.oke, fun i hi => ⟨(h.box i hi).1, Nat.lt_of_lt_of_le (h.box i hi).2 k.size⟩, h.below.trans (k.mono h.below.size)⟩
theorem Duo.alloc (h : Duo X w0 w p d e a) (ob : Obj) : Duo (fun i => X i ∨ i = w.heap.size) w0 (w.alloc ob) p d e a := by
  have hb : Below w.heap.size w (w.alloc ob) := (Below.refl _ _).alloc (Nat.le_refl _) ob
  obtain ⟨S, hS, h1, h2, h3⟩ := h.ex
  refine ⟨⟨S, hS.below hb, h1, fun b o ea hL => ⟨(h2 b o ea hL).1, fun hx => ?_⟩, fun i hi hs => ?_⟩, h.row.below hb, h.ok, h.oke, fun i hi => ?_, h.below.trans (hb.mono h.below.size)⟩
  · rcases hx with hx | hx
    · exact (h2 b o ea hL).2 hx
    · subst ea
      have := h.row.lt hL
      omega
  · rcases hi with hi | hi
    · exact h3 i hi hs
    · have := hS.lt i hs
      omega
  · rw [size1]
    rcases hi with hi | hi
    · have := h.box i hi
      omega
    · have := h.below.size
      omega
theorem Duo.mono (h : Duo X w0 w p d e a) (hY : ∀ i, Y i → X i) : Duo Y w0 w p d e a := by
  obtain ⟨S, hS, h1, h2, h3⟩ := h.ex
  exact ⟨⟨S, hS, h1, fun b o ea hL => ⟨(h2 b o ea hL).1, fun hy => (h2 b o ea hL).2 (hY b hy)⟩, fun i hi => h3 i (hY i hi)⟩, h.row, h.ok, h.oke, fun i hi => h.box i (hY i hi), h.below⟩
theorem Duo.set (h : Duo X w0 w p d e a) {g : Nat} (hg : X g) (i : Nat) (v : Value) : Duo X w0 (w.setCell ⟨g, i, none⟩ v) p d e a := by
  obtain ⟨S, hS, h1, h2, h3⟩ := h.ex
  refine ⟨⟨S, hS.kept (Kept.of_grown (grownBy_setCell w g i v) (T := fun j => j = g) (fun j hj => by injection hj with hj; exact hj.symm)) (fun j hj hx => h3 g hg (hx ▸ hj)), h1, h2, h3⟩, h.row.setn g i v (fun b o ea hL hx => (h2 b o ea hL).2 (hx ▸ hg)), h.ok, h.oke, fun j hj => ?_, h.below.setCell (p := ⟨g, i, none⟩) (h.box g hg).1 v⟩
  have := h.box j hj
  exact ⟨this.1, by simp [World.setCell]; exact this.2⟩
/-- an op of the program's disk -/
theorem Duo.do_ (h : Duo X w0 w p d e a) (o : OpM) (ha : o.a.length ≤ maxLen) (hb : o.b.length ≤ maxLen) (hn : o.n ≤ 9223372036854775807) (keep : List Int) (ka : Option Addr) (kc : Nat) (hkc : keep.length ≤ kc) (hkm : kc ≤ maxLen) (hl : d.L.length ≤ 1000000) (hs : Sl w0 ka (intV keep)) :
    Calls Try.prog 17 #[pt p, opV o, .slice ka keep.length kc] w fun r w' => r = .returned (.int .i64 (stepM d o keep).2) ∧ Duo X w0 w' p (stepM d o keep).1 e a ∧ ∀ i, X i → w'.heap[i]? = w.heap[i]? := by
  obtain ⟨S, hS, h1, h2, h3⟩ := h.ex
  have hL : Liv (fun i => S i ∨ w.heap.size ≤ i) w w p d := ⟨fun i hi => .inr hi, ⟨S, hS, fun i hi => .inl hi⟩, Kept.refl _ _, h.ok⟩
  refine (do_gen o ha hb hn keep ka kc hkc hkm hL hl ?_).mono ?_
  · intro W T hB hT _ j hj
    obtain ⟨b, off, ea, q1, q2⟩ := hs j hj
    have hlt := Nat.lt_of_lt_of_le q1 h.below.size
    obtain ⟨b', off', ea', _, q3⟩ := (Sl.below (Sl.below hs h.below) hB) j hj
    cases ea.symm.trans ea'
    refine ⟨b, off, ea, Nat.lt_of_lt_of_le hlt hB.size, fun ht => ?_, q3⟩
    rcases hT b ht with hx | hx
    · have := h1 b hx; omega
    · omega
  · rintro r w' ⟨rfl, hL'⟩
    obtain ⟨T, hT, hTK⟩ := hL'.ex
    have hlow : Below w0.heap.size w w' := hL'.kept.below h.below.size (fun i hi => by
      rcases hi with hi | hi
      · exact h1 i hi
      · have := h.below.size; omega)
    refine ⟨rfl, ⟨⟨T, hT, fun i hi => ?_, fun b o' ea hne => ⟨fun ht => ?_, (h2 b o' ea hne).2⟩, fun i hi ht => ?_⟩, ?_, hL'.ok, h.oke, fun i hi => ⟨(h.box i hi).1, Nat.lt_of_lt_of_le (h.box i hi).2 hL'.kept.size⟩, h.below.trans hlow⟩, fun i hi => ?_⟩
    · rcases hTK i hi with hx | hx
      · exact h1 i hx
      · have := h.below.size; omega
    · rcases hTK b ht with hx | hx
      · exact (h2 b o' ea hne).1 hx
      · subst ea
        have := h.row.lt hne
        omega
    · rcases hTK i ht with hx | hx
      · exact h3 i hi hx
      · have := (h.box i hi).2; omega
    · intro k hk
      obtain ⟨b, off, ea, q1, q2⟩ := h.row k hk
      have hne : e.L ≠ [] := fun hx => by rw [hx] at hk; exact absurd hk (by simp [fiC])
      refine ⟨b, off, ea, Nat.lt_of_lt_of_le q1 hL'.kept.size, hL'.kept.cell q2 (fun hx => ?_)⟩
      rcases hx with hx | hx
      · exact (h2 b off ea hne).1 hx
      · omega
    · exact hL'.kept.block i (h.box i hi).2 (fun hx => by
        rcases hx with hx | hx
        · exact h3 i hi hx
        · have := (h.box i hi).2; omega)
/-- an op of the document's disk -/
theorem Duo.does_ (h : Duo X w0 w p d e a) (c : Nat) (o : OpM) (ha : o.a.length ≤ 140737488351232) (hb : o.b.length ≤ 140737488351232) (hn : o.n ≤ 9223372036854775807) (keep : List Int) (ka : Option Addr) (kc : Nat) (hkc : keep.length ≤ kc) (hkm : kc ≤ maxLen) (hl : e.L.length ≤ 1000000) (hs : Sl w0 ka (intV keep)) :
    Calls Try.prog 16 #[refV a c e, opV o, .slice ka keep.length kc] w fun r w' => ∃ a' c', r = .returned (.tuple #[refV a' c' (stepM e o keep).1, .int .i64 (stepM e o keep).2]) ∧ Duo X w0 w' p d (stepM e o keep).1 a' ∧ Below w.heap.size w w' := by
  refine (refDoes_any o a c e w ha hb hn h.row hl h.oke keep ka kc hkc hkm (Sl.below hs h.below)).mono ?_
  rintro r w' ⟨v, rfl, ⟨a', c', rfl, q1, q2⟩, hB⟩
  obtain ⟨S, hS, h1, h2, h3⟩ := h.ex
  refine ⟨a', c', rfl, ⟨⟨S, hS.below hB, h1, fun b o' ea hne => ?_, h3⟩, q1, h.ok, h.oke.step o hn keep, fun i hi => ⟨(h.box i hi).1, Nat.lt_of_lt_of_le (h.box i hi).2 hB.size⟩, h.below.trans (hB.mono h.below.size)⟩, hB⟩
  rcases q2 with ⟨rfl, q2⟩ | q2
  · exact h2 b o' ea (q2 ▸ hne)
  · have := q2 b o' ea
    exact ⟨fun hx => by have := hS.lt b hx; omega, fun hx => by have := (h.box b hx).2; omega⟩
/-- a new disk of the program's -/
theorem duo_new (n : Int) (w : World) : Calls Try.prog 13 #[.int .i64 n] w fun r w1 => ∃ p, r = .returned (.pointer (some ⟨p, 0, none⟩)) ∧ Calls Try.prog 14 #[.int .i64 n] w1 fun r w' => ∃ a c, r = .returned (refV a c (newM n)) ∧ Duo (fun _ => False) w w' p (newM n) (newM n) a ∧ Below w1.heap.size w1 w' := by
  refine (liv_new n w).mono ?_
  rintro r w1 ⟨p, rfl, hL⟩
  refine ⟨p, rfl, (refNew_any n w1).mono ?_⟩
  rintro r w' ⟨v, rfl, ⟨a, c, rfl, q1, q2⟩, hB⟩
  obtain ⟨S, hS, hK⟩ := hL.ex
  have hb1 : Below w.heap.size w w1 := hL.frame (Nat.le_refl _) (fun i hi hx => by unfold NewK at hx; omega)
  exact ⟨a, c, rfl, ⟨⟨S, hS.below hB, hK, fun b o ea hne => absurd rfl hne, fun i hi => hi.elim⟩, q1, Ok.new n, Ok.new n, fun i hi => hi.elim, hb1.trans (hB.mono hb1.size)⟩, hB⟩
end Go.Proofs.Ytammmhbkfdmbfaa
