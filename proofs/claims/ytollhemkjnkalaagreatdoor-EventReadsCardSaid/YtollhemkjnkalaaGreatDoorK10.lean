/- The frame of layer 6's laws: how an event, a frame, and a row of events, that came in is opened; what the rows list. -/
import Derived.Test.YtollhemkjnkalaaGreatDoorK9
import Derived.Test.YtollhemkjnkalaaGreatDoorF2
import Derived.Stop.LaidErr
import Derived.Lib.LaidTab
import Derived.Shelf.Unicode.PredsPay
import Derived.Lib.SmallJoins
import Derived.Deep.Slices
import Derived.ChangeSlices
namespace Go.Proofs.YtollhemkjnkalaaGreatDoor
open Go.ChangeShapes Go.WideShapes Go.ChangeAt Go.RowKit Go.Shelf
set_option linter.unusedVariables false
set_option maxRecDepth 100000

set_option maxRecDepth 100000 in
theorem laid_met (os : Os) (args : Array Value) : laidMetH Tryz.prog Rows.eventPacksRow.laid ((World.laidAll Tryz.prog os Rows.eventPacksRow.laid).forCall (fun _ _ => 0) ⟨#[], args, []⟩).memory := by
  rw [MakeChecks.laidMetH_plain _ _ _ (by kernel_rfl)]
  exact laidMet_laidAll _ (by kernel_rfl) (by kernel_rfl)
theorem max_is {W : World} (h : W.ShapedOpen Tryz.prog) : MaxIs W := Tryz.laysSplit.s1_3 W h


theorem pow10_is {W : World} (h : laidMetH Tryz.prog Rows.eventPacksRow.laid W) : Pow10 W := by
  rw [MakeChecks.laidMetH_plain _ _ _ (by kernel_rfl)] at h
  have h2 : laidMet Tryz.prog [("internal/strconv.uint64pow10", Lib.tabData .u64 Lib.pow10Tab), ("unicode/utf8.acceptRanges", Rows.laid_unicode_utf8_acceptRanges), ("unicode/utf8.first", Rows.laid_unicode_utf8_first)] W := h.tail.tail
  exact Lib.tabIs_of_head (g := Tryz.laysItoa_ren.g 17) (by kernel_rfl) (by kernel_rfl) Tryz.underlying143 Tryz.underlying137 (by kernel_rfl) (by kernel_rfl) h2
theorem wf64 {n : Int} (h : (Lit.int .i64 n).wf = true) : -9223372036854775808 ≤ n ∧ n ≤ 9223372036854775807 := by
  have e1 : IntKind.i64.min = -9223372036854775808 := by decide
  have e2 : IntKind.i64.max = 9223372036854775807 := by decide
  have h' : (decide (IntKind.i64.min ≤ n) && decide (n ≤ IntKind.i64.max)) = true := h
  rw [e1, e2, Bool.and_eq_true, decide_eq_true_eq, decide_eq_true_eq] at h'
  exact h'
/-- a frame that came in -/
theorem open_frame {H : Type} {enc : TypeId × Value → H} {W : World} {base : Nat} {v : Value} {d : DataW H} {p : List MemPlace}
    (hok : Value.okWide Tryz.prog W .any base 61 v) (h : DataW.Trod enc Tryz.prog W 0 (fun _ => true) true 61 v d p) :
    ∃ (k : UInt8) (b : ByteArray), v = .agg #[.int .u8 (k.toNat : Int), .string b] ∧ b.size ≤ maxLen := by
  obtain ⟨c0, c1, y0, y1, m, rfl, _, _, hy0, hy1⟩ := Go.Joins.open_agg2 Tryz.underlying61 (by kernel_rfl) (by kernel_rfl) hok h
  obtain ⟨n, e0, _, hw⟩ := DataW.trod_int Tryz.underlying5 hy0
  obtain ⟨b, e1, _, wb⟩ := DataW.trod_string Tryz.underlying9 hy1
  simp at e0 e1
  subst e0 e1
  obtain ⟨c, rfl, hc⟩ := wf8 hw
  refine ⟨c.toUInt8, b, ?_, wb⟩
  have : c.toUInt8.toNat = c := by simp; omega
  rw [this]

theorem array6 {α : Type} {cs : Array α} (h : cs.size = 6) : ∃ c0 c1 c2 c3 c4 c5, cs = #[c0, c1, c2, c3, c4, c5] := by
  obtain ⟨l⟩ := cs
  match l, h with
  | [c0, c1, c2, c3, c4, c5], _ => exact ⟨c0, c1, c2, c3, c4, c5, rfl⟩
section
variable {H : Type} {enc : TypeId × Value → H} {P : Program} {w : World} {base : Nat} {spare : Nat → Bool} {held : Bool}
/-- a struct of six fields, one cell each -/
theorem trod_six {e : TypeId} {f0 f1 f2 f3 f4 f5 : Field} {fuel : Nat} {v0 v1 v2 v3 v4 v5 : Value} {x : DataW H × List MemPlace} (he : P.underlying e = some (.struct #[f0, f1, f2, f3, f4, f5]))
    (o0 : f0.offset = 0) (o1 : f1.offset = 1) (o2 : f2.offset = 2) (o3 : f3.offset = 3) (o4 : f4.offset = 4) (o5 : f5.offset = 5) (c0 : P.cellsOf f0.type = 1) (c1 : P.cellsOf f1.type = 1) (c2 : P.cellsOf f2.type = 1) (c3 : P.cellsOf f3.type = 1) (c4 : P.cellsOf f4.type = 1) (c5 : P.cellsOf f5.type = 1)
    (h : DataW.trod enc P w base spare held fuel e [v0, v1, v2, v3, v4, v5] = some x) :
    ∃ (y0 y1 y2 y3 y4 y5 : DataW H × List MemPlace) (n : Nat), x.1 = .agg [y0.1, y1.1, y2.1, y3.1, y4.1, y5.1] ∧ DataW.trod enc P w base spare held n f0.type [v0] = some y0 ∧ DataW.trod enc P w base spare held n f1.type [v1] = some y1 ∧ DataW.trod enc P w base spare held n f2.type [v2] = some y2 ∧ DataW.trod enc P w base spare held n f3.type [v3] = some y3 ∧ DataW.trod enc P w base spare held n f4.type [v4] = some y4 ∧ DataW.trod enc P w base spare held n f5.type [v5] = some y5 := by
  obtain ⟨xs, k, _, rfl, _, hxl, hf⟩ := DataW.trod_struct he h
  match xs, hxl with
  | [y0, y1, y2, y3, y4, y5], _ =>
    have g0 := hf 0 f0 rfl
    have g1 := hf 1 f1 rfl
    have g2 := hf 2 f2 rfl
    have g3 := hf 3 f3 rfl
    have g4 := hf 4 f4 rfl
    have g5 := hf 5 f5 rfl
    simp [o0, c0, o1, c1, o2, c2, o3, c3, o4, c4, o5, c5] at g0 g1 g2 g3 g4 g5
    exact ⟨y0, y1, y2, y3, y4, y5, k, rfl, g0, g1, g2, g3, g4, g5⟩
end
theorem evFields : ∃ f0 f1 f2 f3 f4 f5 : Field, Tryz.prog.underlying 29 = some (.struct #[f0, f1, f2, f3, f4, f5]) ∧ f0.offset = 0 ∧ f1.offset = 1 ∧ f2.offset = 2 ∧ f3.offset = 3 ∧ f4.offset = 4 ∧ f5.offset = 5 ∧ f0.type = 3 ∧ f1.type = 3 ∧ f2.type = 9 ∧ f3.type = 9 ∧ f4.type = 3 ∧ f5.type = 3 := ⟨_, _, _, _, _, _, Tryz.underlying29, rfl, rfl, rfl, rfl, rfl, rfl, rfl, rfl, rfl, rfl, rfl, rfl⟩
/-- six cells that read as an event -/
theorem six_event {H : Type} {enc : TypeId × Value → H} {W : World} {base : Nat} {spare : Nat → Bool} {held : Bool} {fuel : Nat} {v0 v1 v2 v3 v4 v5 : Value} {x : DataW H × List MemPlace}
    (h : DataW.trod enc Tryz.prog W base spare held fuel 29 [v0, v1, v2, v3, v4, v5] = some x) :
    ∃ e : EvM, [v0, v1, v2, v3, v4, v5] = evc e ∧ EFits e ∧ EInts e := by
  obtain ⟨f0, f1, f2, f3, f4, f5, he, o0, o1, o2, o3, o4, o5, t0, t1, t2, t3, t4, t5⟩ := evFields
  have ci : Tryz.prog.cellsOf 3 = 1 := by kernel_rfl
  have cs : Tryz.prog.cellsOf 9 = 1 := by kernel_rfl
  obtain ⟨y0, y1, y2, y3, y4, y5, n, hx, g0, g1, g2, g3, g4, g5⟩ := trod_six he o0 o1 o2 o3 o4 o5 (by rw [t0]; exact ci) (by rw [t1]; exact ci) (by rw [t2]; exact cs) (by rw [t3]; exact cs) (by rw [t4]; exact ci) (by rw [t5]; exact ci) h
  rw [t0] at g0
  rw [t1] at g1
  rw [t2] at g2
  rw [t3] at g3
  rw [t4] at g4
  rw [t5] at g5
  obtain ⟨z0, e0, _, w0⟩ := DataW.trod_int Tryz.underlying3 g0
  obtain ⟨z1, e1, _, w1⟩ := DataW.trod_int Tryz.underlying3 g1
  obtain ⟨z2, e2, _, w2⟩ := DataW.trod_string Tryz.underlying9 g2
  obtain ⟨z3, e3, _, w3⟩ := DataW.trod_string Tryz.underlying9 g3
  obtain ⟨z4, e4, _, w4⟩ := DataW.trod_int Tryz.underlying3 g4
  obtain ⟨z5, e5, _, w5⟩ := DataW.trod_int Tryz.underlying3 g5
  simp at e0 e1 e2 e3 e4 e5
  subst e0 e1 e2 e3 e4 e5
  exact ⟨⟨z0, z1, z2, z3, z4, z5⟩, rfl, ⟨w2, w3⟩, ⟨wf64 w1, wf64 w4, wf64 w5⟩⟩
/-- an event that came in -/
theorem open_event {H : Type} {enc : TypeId × Value → H} {W : World} {base : Nat} {v : Value} {d : DataW H} {p : List MemPlace}
    (hok : Value.okWide Tryz.prog W .any base 29 v) (h : DataW.Trod enc Tryz.prog W 0 (fun _ => true) true 29 v d p) :
    ∃ e : EvM, v = evV e ∧ EFits e ∧ EInts e := by
  obtain ⟨f0, f1, f2, f3, f4, f5, he, _⟩ := evFields
  obtain ⟨cs, rfl, hsz⟩ := okWide_struct he hok
  obtain ⟨c0, c1, c2, c3, c4, c5, rfl⟩ := array6 (hsz.trans (by kernel_rfl))
  obtain ⟨fuel, hf⟩ := h
  obtain ⟨e, hc, h1, h2⟩ := six_event (x := (d, p)) (by simpa [Value.cells] using hf)
  refine ⟨e, ?_, h1, h2⟩
  unfold evc at hc
  simp only [List.cons.injEq] at hc
  obtain ⟨rfl, rfl, rfl, rfl, rfl, rfl, _⟩ := hc
  rfl

set_option maxRecDepth 100000 in
/-- a row of events that came in -/
theorem open_events {H : Type} {enc : TypeId × Value → H} {W : World} {base : Nat} {v : Value} {d : DataW H} {p : List MemPlace}
    (hok : Value.okWide Tryz.prog W .any base 22 v) (h : DataW.Trod enc Tryz.prog W 0 (fun _ => true) true 22 v d p) :
    ∃ (a : Option Addr) (c : Nat) (l : List EvM), v = .slice a l.length c ∧ EvSl W a l ∧ FitsE l ∧ l.length ≤ c ∧ c ≤ maxLen ∧ (a = none → c = 0) := by
  obtain ⟨a0, len, cap, rfl⟩ := okWide_slice Tryz.underlying22 hok
  obtain ⟨fuel, hf⟩ := h
  have ce : Tryz.prog.cellsOf 29 = 6 := by kernel_rfl
  rcases Go.Deep.open_slice Tryz.underlying22 hf with ⟨hcs, _⟩ | ⟨a, len', cap', m, n, D, Pl, hcs, hb, hl, hm, hmm, hd, hx⟩
  · simp [Value.cells] at hcs
    obtain ⟨rfl, rfl, rfl⟩ := hcs
    exact ⟨none, 0, [], rfl, EvSl.nil _ _, fun o ho => by (cases ho), by simp, by decide, fun _ => rfl⟩
  · simp [Value.cells] at hcs
    obtain ⟨rfl, rfl, rfl⟩ := hcs
    have hlm : len ≤ m := by rw [hmm]; split <;> omega
    have each : ∀ i, i < len → ∃ x : EvM, (∀ j, j < 6 → W.cell? (a.add (i * 6 + j)) = (evc x)[j]?) ∧ EFits x ∧ EInts x := fun i hi => by
      obtain ⟨cs', h1, h2⟩ := hx i (by omega)
      rw [ce] at h1
      obtain ⟨_, hlen, hcell⟩ := World.cells?_some h1
      match cs', hlen with
      | [v0, v1, v2, v3, v4, v5], _ =>
        obtain ⟨x, hc, q1, q2⟩ := six_event h2
        refine ⟨x, fun j hj => ?_, q1, q2⟩
        have := hcell j (by omega)
        rw [Go.Deep.add_add] at this
        rw [this, ← hc]
    have some_x : ∃ f : Nat → EvM, ∀ i, i < len → (∀ j, j < 6 → W.cell? (a.add (i * 6 + j)) = (evc (f i))[j]?) ∧ EFits (f i) ∧ EInts (f i) := by
      refine ⟨fun i => if h : i < len then (each i h).choose else ⟨0, 0, ⟨#[]⟩, ⟨#[]⟩, 0, 0⟩, fun i hi => ?_⟩
      simp only [hi, ↓reduceDIte]
      exact (each i hi).choose_spec
    obtain ⟨f, hf2⟩ := some_x
    have hlen : ((List.range len).map f).length = len := by simp
    refine ⟨some a, cap, (List.range len).map f, by rw [hlen], fun k hk => ?_, fun x hxm => ?_, by omega, hm, fun h => by cases h⟩
    · rw [hlen] at hk
      obtain ⟨b, off, spot⟩ := a
      have h0 := (hf2 0 (by omega)).1 0 (by omega)
      have hspot : spot = none := by
        have h1 : W.cell? ((⟨b, off, spot⟩ : Addr).add 0) = some (.int .i64 (f 0).kind) := h0
        simpa [Addr.add] using World.cell?_spot h1
      subst hspot
      have g := (hf2 k hk).1
      refine ⟨b, off, rfl, ?_, fun i hi => ?_⟩
      · have h1 := g 0 (by omega)
        rw [Go.WideShapes.add_plain] at h1
        exact World.block_lt_of_cell? W ⟨b, off + (k * 6 + 0), none⟩ (h1.trans rfl)
      · have h1 := g i hi
        rw [Go.WideShapes.add_plain] at h1
        rw [Nat.add_assoc, h1]
        simp only [List.getElem_map, List.getElem_range]
    · obtain ⟨i, hi, rfl⟩ := List.mem_map.1 hxm
      exact (hf2 i (List.mem_range.1 hi)).2
/-- these blocks, and all that was there -/
def Keeps (w : World) (L : List (Nat × Obj)) (W : World) : Prop := (∀ p ∈ L, W.heap[p.1]? = some p.2) ∧ Below w.heap.size w W
theorem Keeps.below {w W W' : World} {L : List (Nat × Obj)} (h : Keeps w L W) (q : Below W.heap.size W W') : Keeps w L W' :=
  ⟨fun p hp => (q.block _ (heap_lt (h.1 p hp))).trans (h.1 p hp), h.2.trans (q.mono h.2.size)⟩
theorem Keeps.push {w W : World} {L : List (Nat × Obj)} (h : Keeps w L W) (o : Obj) (cs : Array Value) (t : TypeId) (ho : o = .cells cs t) : Keeps w ((W.heap.size, .cells cs t (0, 0)) :: L) (W.alloc o) := by
  subst ho
  refine ⟨fun p hp => ?_, (h.below ((Below.refl _ _).alloc (Nat.le_refl _) _)).2⟩
  rcases List.mem_cons.1 hp with rfl | hp
  · exact heap_alloc_new W _
  · exact (h.below ((Below.refl _ _).alloc (Nat.le_refl _) _)).1 p hp
theorem Keeps.start (w : World) : Keeps w [] w := ⟨fun p hp => (by cases hp), Below.refl _ _⟩
theorem Keeps.h0 {w W : World} {g : Nat} {o : Obj} {L : List (Nat × Obj)} (h : Keeps w ((g, o) :: L) W) : W.heap[g]? = some o := h.1 (g, o) (.head _)
theorem Keeps.h1 {w W : World} {g : Nat} {o : Obj} {a : Nat × Obj} {L : List (Nat × Obj)} (h : Keeps w (a :: (g, o) :: L) W) : W.heap[g]? = some o := h.1 (g, o) (.tail _ (.head _))
theorem Keeps.h2 {w W : World} {g : Nat} {o : Obj} {a b : Nat × Obj} {L : List (Nat × Obj)} (h : Keeps w (a :: b :: (g, o) :: L) W) : W.heap[g]? = some o := h.1 (g, o) (.tail _ (.tail _ (.head _)))
theorem Keeps.h3 {w W : World} {g : Nat} {o : Obj} {a b c : Nat × Obj} {L : List (Nat × Obj)} (h : Keeps w (a :: b :: c :: (g, o) :: L) W) : W.heap[g]? = some o := h.1 (g, o) (.tail _ (.tail _ (.tail _ (.head _))))
theorem ofE_zero : ofE 0 ⟨#[]⟩ = zeroE := ofE_no isF_zero
theorem u8_lt (c : UInt8) : 0 ≤ (c.toNat : Int) ∧ (c.toNat : Int) ≤ 255 := ⟨by omega, by have := c.toNat_lt; omega⟩
end Go.Proofs.YtollhemkjnkalaaGreatDoor
