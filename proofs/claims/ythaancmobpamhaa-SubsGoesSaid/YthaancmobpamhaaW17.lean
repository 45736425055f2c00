/- The frame of layer 7's laws: how a span, and a row of spans, that came in is opened. -/
import Derived.Test.YthaancmobpamhaaW1
import Derived.Test.YthaancmobpamhaaF4
import Derived.Deep.SlicePairs
import Derived.Lib.SmallJoins
namespace Go.Proofs.Ythaancmobpamhaa
open Go.ChangeShapes Go.WideShapes Go.ChangeAt Go.RowKit
set_option linter.unusedVariables false
set_option maxRecDepth 100000
set_option maxRecDepth 100000

theorem wf64 {n : Int} (h : (Lit.int .i64 n).wf = true) : I64 n := by
  have e1 : IntKind.i64.min = -9223372036854775808 := by decide
  have e2 : IntKind.i64.max = 9223372036854775807 := by decide
  have h' : (decide (IntKind.i64.min ≤ n) && decide (n ≤ IntKind.i64.max)) = true := h
  rw [e1, e2, Bool.and_eq_true, decide_eq_true_eq, decide_eq_true_eq] at h'
  exact h'
/-- a span that came in -/
theorem open_span {H : Type} {enc : TypeId × Value → H} {W : World} {base : Nat} {v : Value} {d : DataW H} {p : List MemPlace}
    (hok : Value.okWide Try.prog W .any base 70 v) (h : DataW.Trod enc Try.prog W 0 (fun _ => true) true 70 v d p) :
    ∃ s : SpM, v = .agg #[.int .i64 s.f, .int .i64 s.t] ∧ I64 s.f ∧ I64 s.t := by
  obtain ⟨c0, c1, y0, y1, m, rfl, _, _, hy0, hy1⟩ := Go.Joins.open_agg2 Try.underlying70 (by kernel_rfl) (by kernel_rfl) hok h
  obtain ⟨n, e0, _, hw⟩ := DataW.trod_int Try.underlying3 hy0
  obtain ⟨k, e1, _, hk⟩ := DataW.trod_int Try.underlying3 hy1
  simp at e0 e1
  subst e0 e1
  exact ⟨⟨n, k⟩, rfl, wf64 hw, wf64 hk⟩
/-- a row of spans, out of its cell -/
theorem read_spans {H : Type} {enc : TypeId × Value → H} {W : World} {n : Nat} {cs : List Value} {x : DataW H × List MemPlace}
    (hf : DataW.trod enc Try.prog W 0 (fun _ => true) true n 40 cs = some x) :
    ∃ (a : Option Addr) (c : Nat) (l : List SpM), cs = [.slice a l.length c] ∧ SpSl W a l ∧ FitsS l ∧ l.length ≤ c ∧ c ≤ maxLen ∧ (a = none → c = 0) := by
  rcases Go.Deep.open_slice_pairs Try.underlying40 Try.underlying70 (by kernel_rfl) rfl rfl (by kernel_rfl) (by kernel_rfl) hf with ⟨hcs, _⟩ | ⟨a, len, cap, m, n, V0, V1, D0, D1, P0, P1, hcs, _, hl, hm, hmm, _, hx⟩
  · subst hcs
    exact ⟨none, 0, [], rfl, (fun k hk => absurd hk (by simp)), (fun s hs => by cases hs), by simp, by decide, fun _ => rfl⟩
  · subst hcs
    simp only [↓reduceIte] at hmm
    subst hmm
    have each : ∀ i, i < m → ∃ x : SpM, W.cell? (a.add (i * 2)) = some (.int .i64 x.f) ∧ W.cell? (a.add (i * 2 + 1)) = some (.int .i64 x.t) ∧ I64 x.f ∧ I64 x.t := fun i hi => by
      obtain ⟨h0, h1, h2, h3⟩ := hx i hi
      obtain ⟨n, e0, _, hw⟩ := DataW.trod_int Try.underlying3 h2
      obtain ⟨k, e1, _, hk⟩ := DataW.trod_int Try.underlying3 h3
      simp at e0 e1
      exact ⟨⟨n, k⟩, by rw [h0, e0], by rw [h1, e1], wf64 hw, wf64 hk⟩
    have some_x : ∃ f : Nat → SpM, ∀ i, i < m → W.cell? (a.add (i * 2)) = some (.int .i64 (f i).f) ∧ W.cell? (a.add (i * 2 + 1)) = some (.int .i64 (f i).t) ∧ I64 (f i).f ∧ I64 (f i).t := by
      refine ⟨fun i => if h : i < m then (each i h).choose else ⟨0, 0⟩, fun i hi => ?_⟩
      simp only [hi, ↓reduceDIte]
      exact (each i hi).choose_spec
    obtain ⟨f, hf2⟩ := some_x
    have hlen : ((List.range len).map f).length = len := by simp
    refine ⟨some a, m, (List.range len).map f, by rw [hlen], fun k hk => ?_, fun x hxm => ?_, by omega, hm, fun h => by cases h⟩
    · rw [hlen] at hk
      obtain ⟨b, off, spot⟩ := a
      have h0 := (hf2 0 (by omega)).1
      have hspot : spot = none := by simpa [Addr.add] using World.cell?_spot h0
      subst hspot
      obtain ⟨g0, g1, _⟩ := hf2 k (by omega)
      rw [Go.WideShapes.add_plain] at g0 g1
      simp only [List.getElem_map, List.getElem_range]
      exact ⟨b, off, rfl, World.block_lt_of_cell? W ⟨b, off + k * 2, none⟩ g0, g0, g1⟩
    · obtain ⟨i, hi, rfl⟩ := List.mem_map.1 hxm
      exact (hf2 i (by have := List.mem_range.1 hi; omega)).2.2
/-- a row of spans that came in -/
theorem open_spans {H : Type} {enc : TypeId × Value → H} {W : World} {base : Nat} {v : Value} {d : DataW H} {p : List MemPlace}
    (hok : Value.okWide Try.prog W .any base 40 v) (h : DataW.Trod enc Try.prog W 0 (fun _ => true) true 40 v d p) :
    ∃ (a : Option Addr) (c : Nat) (l : List SpM), v = .slice a l.length c ∧ SpSl W a l ∧ FitsS l ∧ l.length ≤ c ∧ c ≤ maxLen ∧ (a = none → c = 0) := by
  obtain ⟨a0, len, cap, rfl⟩ := okWide_slice Try.underlying40 hok
  obtain ⟨fuel, hf⟩ := h
  obtain ⟨a, c, l, e, h1⟩ := read_spans hf
  exact ⟨a, c, l, List.singleton_inj.1 e, h1⟩
end Go.Proofs.Ythaancmobpamhaa
