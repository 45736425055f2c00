/- The frame of layer 4's laws: how a frame, and a row of frames, that came in is opened. -/
import Derived.Test.YtkfddmbhokeofaaI7
import Derived.Test.YtkfddmbhokeofaaF3
import Derived.Deep.SlicePairs
import Derived.Lib.SmallJoins
namespace Go.Proofs.Ytkfddmbhokeofaa
open Go.ChangeShapes Go.WideShapes Go.ChangeAt Go.RowKit
set_option linter.unusedVariables false

/-- a frame that came in -/
theorem open_frame {H : Type} {enc : TypeId × Value → H} {W : World} {base : Nat} {v : Value} {d : DataW H} {p : List MemPlace}
    (hok : Value.okWide Try.prog W .any base 23 v) (h : DataW.Trod enc Try.prog W 0 (fun _ => true) true 23 v d p) :
    ∃ (k : UInt8) (b : ByteArray), v = .agg #[.int .u8 (k.toNat : Int), .string b] ∧ b.size ≤ maxLen := by
  obtain ⟨c0, c1, y0, y1, m, rfl, _, _, hy0, hy1⟩ := Go.Joins.open_agg2 Try.underlying23 (by kernel_rfl) (by kernel_rfl) hok h
  obtain ⟨n, e0, _, hw⟩ := DataW.trod_int Try.underlying5 hy0
  obtain ⟨b, e1, _, wb⟩ := DataW.trod_string Try.underlying9 hy1
  simp at e0 e1
  subst e0 e1
  obtain ⟨c, rfl, hc⟩ := wf8 hw
  refine ⟨c.toUInt8, b, ?_, wb⟩
  have : c.toUInt8.toNat = c := by simp; omega
  rw [this]
/-- a row of frames that came in -/
theorem open_frames {H : Type} {enc : TypeId × Value → H} {W : World} {base : Nat} {v : Value} {d : DataW H} {p : List MemPlace}
    (hok : Value.okWide Try.prog W .any base 39 v) (h : DataW.Trod enc Try.prog W 0 (fun _ => true) true 39 v d p) :
    ∃ (a : Option Addr) (c : Nat) (l : List Fr), v = .slice a l.length c ∧ FrSl W a l ∧ FitsF l ∧ l.length ≤ c ∧ c ≤ maxLen ∧ (a = none → c = 0) := by
  obtain ⟨a0, len, cap, rfl⟩ := okWide_slice Try.underlying39 hok
  obtain ⟨fuel, hf⟩ := h
  rcases Go.Deep.open_slice_pairs Try.underlying39 Try.underlying23 (by kernel_rfl) rfl rfl (by kernel_rfl) (by kernel_rfl) hf with ⟨hcs, _⟩ | ⟨a, len', cap', m, n, V0, V1, D0, D1, P0, P1, hcs, _, hl, hm, hmm, _, hx⟩
  · simp [Value.cells] at hcs
    obtain ⟨rfl, rfl, rfl⟩ := hcs
    exact ⟨none, 0, [], rfl, fun k hk => absurd hk (by simp), ⟨by decide, by simp⟩, by simp, by decide, fun _ => rfl⟩
  · simp [Value.cells] at hcs
    obtain ⟨rfl, rfl, rfl⟩ := hcs
    simp only [↓reduceIte] at hmm
    subst hmm
    have each : ∀ i, i < m → ∃ x : Fr, W.cell? (a.add (i * 2)) = some (.int .u8 (x.1.toNat : Int)) ∧ W.cell? (a.add (i * 2 + 1)) = some (.string (tx x.2)) ∧ x.2.length ≤ maxLen := fun i hi => by
      obtain ⟨h0, h1, h2, h3⟩ := hx i hi
      obtain ⟨n, e0, _, hw⟩ := DataW.trod_int Try.underlying5 h2
      obtain ⟨b, e1, _, wb⟩ := DataW.trod_string Try.underlying9 h3
      simp at e0 e1
      obtain ⟨c, rfl, hc⟩ := wf8 hw
      have hcc : c.toUInt8.toNat = c := by simp; omega
      refine ⟨(c.toUInt8, toL b), ?_, ?_, by rw [toL_length]; exact wb⟩
      · rw [h0, e0]; simp only [hcc]
      · rw [h1, e1, tx_toL]
    have some_x : ∃ f : Nat → Fr, ∀ i, i < m → W.cell? (a.add (i * 2)) = some (.int .u8 ((f i).1.toNat : Int)) ∧ W.cell? (a.add (i * 2 + 1)) = some (.string (tx (f i).2)) ∧ (f i).2.length ≤ maxLen := by
      refine ⟨fun i => if h : i < m then (each i h).choose else (0, []), fun i hi => ?_⟩
      simp only [hi, ↓reduceDIte]
      exact (each i hi).choose_spec
    obtain ⟨f, hf2⟩ := some_x
    have hlen : ((List.range len).map f).length = len := by simp
    refine ⟨some a, m, (List.range len).map f, by rw [hlen], fun k hk => ?_, ⟨by omega, fun x hxm => ?_⟩, by omega, hm, fun h => by cases h⟩
    · rw [hlen] at hk
      obtain ⟨b, off, spot⟩ := a
      have h0 := (hf2 0 (by omega)).1
      have hspot : spot = none := by simpa [Addr.add] using World.cell?_spot h0
      subst hspot
      obtain ⟨g0, g1, _⟩ := hf2 k (by omega)
      rw [Go.WideShapes.add_plain] at g0 g1
      simp only [List.getElem_map, List.getElem_range]
      exact ⟨b, off, rfl, World.block_lt_of_cell? W ⟨b, off + k * 2, none⟩ g0, g0, g1⟩
    · obtain ⟨i, hi, rfl⟩ := List.mem_map.1 hxm
      exact (hf2 i (by have := List.mem_range.1 hi; omega)).2.2
end Go.Proofs.Ytkfddmbhokeofaa
