/- The frame of layer 5's laws: how a row of ops, and a row of numbers, that came in is opened. -/
import Derived.Test.YtammmhbkfdmbfaaU3
import Derived.Test.YtammmhbkfdmbfaaF5
import Derived.Deep.Slices
import Derived.ChangeSlices
import Derived.SizedLaws
namespace Go.Proofs.Ytammmhbkfdmbfaa
open Go.ChangeShapes Go.WideShapes Go.ChangeAt Go.RowKit
set_option linter.unusedVariables false

section
variable {H : Type} {enc : TypeId × Value → H} {P : Program} {w : World} {base : Nat} {spare : Nat → Bool} {held : Bool}
/-- a row of structs of four fields, one cell each -/
theorem open_quads {t e : TypeId} {f0 f1 f2 f3 : Field} {fuel : Nat} {cs : List Value} {x : DataW H × List MemPlace} (ht : P.underlying t = some (.slice e)) (he : P.underlying e = some (.struct #[f0, f1, f2, f3]))
    (ce : P.cellsOf e = 4) (o0 : f0.offset = 0) (o1 : f1.offset = 1) (o2 : f2.offset = 2) (o3 : f3.offset = 3) (c0 : P.cellsOf f0.type = 1) (c1 : P.cellsOf f1.type = 1) (c2 : P.cellsOf f2.type = 1) (c3 : P.cellsOf f3.type = 1)
    (h : DataW.trod enc P w base spare held fuel t cs = some x) :
    (cs = [.slice none 0 0] ∧ x = (.nil, [])) ∨
    ∃ (a : Addr) (len cap : Nat) (elems rest : List (DataW H)), cs = [.slice (some a) len cap] ∧ len ≤ cap ∧ cap ≤ maxLen ∧ elems.length = len ∧ x.1 = .slice elems rest ∧
      ∀ i, i < len → ∃ (v0 v1 v2 v3 : Value) (y0 y1 y2 y3 : DataW H × List MemPlace) (n : Nat), w.cell? (a.add (i * 4)) = some v0 ∧ w.cell? (a.add (i * 4 + 1)) = some v1 ∧ w.cell? (a.add (i * 4 + 2)) = some v2 ∧ w.cell? (a.add (i * 4 + 3)) = some v3 ∧
        DataW.trod enc P w base spare held n f0.type [v0] = some y0 ∧ DataW.trod enc P w base spare held n f1.type [v1] = some y1 ∧ DataW.trod enc P w base spare held n f2.type [v2] = some y2 ∧ DataW.trod enc P w base spare held n f3.type [v3] = some y3 ∧
        DataW.agg [y0.1, y1.1, y2.1, y3.1] ∈ elems := by
  rcases Go.Deep.open_slice ht h with h0 | ⟨a, len, cap, m, n, D, Pl, rfl, hb, hl, hm, hmm, rfl, hx⟩
  · exact Or.inl h0
  right
  have hlm : len ≤ m := by rw [hmm]; split <;> omega
  refine ⟨a, len, cap, _, _, rfl, hl, hm, by simp, rfl, fun i hi => ?_⟩
  obtain ⟨cs', h1, h2⟩ := hx i (by omega)
  rw [ce] at h1
  obtain ⟨_, hlen, hcell⟩ := World.cells?_some h1
  obtain ⟨xs, k, hk, hxy, _, hxl, hf⟩ := DataW.trod_struct he h2
  match xs, hxl, cs', hlen with
  | [y0, y1, y2, y3], _, [v0, v1, v2, v3], _ =>
    have g0 := hf 0 f0 rfl
    have g1 := hf 1 f1 rfl
    have g2 := hf 2 f2 rfl
    have g3 := hf 3 f3 rfl
    simp [o0, o1, o2, o3, c0, c1, c2, c3] at g0 g1 g2 g3
    have e0 := hcell 0 (by omega)
    have e1 := hcell 1 (by omega)
    have e2 := hcell 2 (by omega)
    have e3 := hcell 3 (by omega)
    rw [Go.Deep.add_add] at e0 e1 e2 e3
    simp only [Prod.mk.injEq] at hxy
    refine ⟨v0, v1, v2, v3, y0, y1, y2, y3, k, by simpa using e0, by simpa using e1, by simpa using e2, by simpa using e3, g0, g1, g2, g3, ?_⟩
    have : DataW.agg [y0.1, y1.1, y2.1, y3.1] = D i := by rw [hxy.1]; rfl
    rw [this]
    exact List.mem_map.2 ⟨i, List.mem_range.2 hi, rfl⟩
theorem weightsAll_mem {e : TypeId} {d : DataW H} {n : Nat} (hn : n ∈ d.weights P e) : ∀ {l : List (DataW H)}, d ∈ l → n ∈ DataW.weightsAll P e l
  | x :: r, h => by
    simp only [DataW.weightsAll, List.mem_append]
    rcases List.mem_cons.1 h with rfl | h
    · exact Or.inl hn
    · exact Or.inr (weightsAll_mem hn h)
end

theorem wf64 {n : Int} (h : (Lit.int .i64 n).wf = true) : -9223372036854775808 ≤ n ∧ n ≤ 9223372036854775807 := by
  have e1 : IntKind.i64.min = -9223372036854775808 := by decide
  have e2 : IntKind.i64.max = 9223372036854775807 := by decide
  have h' : (decide (IntKind.i64.min ≤ n) && decide (n ≤ IntKind.i64.max)) = true := h
  rw [e1, e2, Bool.and_eq_true, decide_eq_true_eq, decide_eq_true_eq] at h'
  exact h'
theorem opFields : ∃ f0 f1 f2 f3 : Field, Try.prog.underlying 34 = some (.struct #[f0, f1, f2, f3]) ∧ f0.offset = 0 ∧ f1.offset = 1 ∧ f2.offset = 2 ∧ f3.offset = 3 ∧ f0.type = 3 ∧ f1.type = 9 ∧ f2.type = 9 ∧ f3.type = 3 := ⟨_, _, _, _, Try.underlying34, rfl, rfl, rfl, rfl, rfl, rfl, rfl, rfl⟩

set_option maxRecDepth 100000 in
/-- a row of ops that came in -/
theorem open_ops {H : Type} {enc : TypeId × Value → H} {W : World} {base : Nat} {v : Value} {d : DataW H} {p : List MemPlace}
    (hok : Value.okWide Try.prog W .any base 22 v) (h : DataW.Trod enc Try.prog W 0 (fun _ => true) true 22 v d p)
    (hw : ∀ n ∈ d.weights Try.prog 22, n ≤ 140737488351232) :
    ∃ (a : Option Addr) (c : Nat) (l : List OpM), v = .slice a l.length c ∧ OpSl W a l ∧ FitO l ∧ l.length ≤ maxLen := by
  obtain ⟨a0, len, cap, rfl⟩ := okWide_slice Try.underlying22 hok
  obtain ⟨fuel, hf⟩ := h
  obtain ⟨f0, f1, f2, f3, he, o0, o1, o2, o3, t0, t1, t2, t3⟩ := opFields
  have ci : Try.prog.cellsOf 3 = 1 := by kernel_rfl
  have cs : Try.prog.cellsOf 9 = 1 := by kernel_rfl
  rcases open_quads Try.underlying22 he (by kernel_rfl) o0 o1 o2 o3 (by rw [t0]; exact ci) (by rw [t1]; exact cs) (by rw [t2]; exact cs) (by rw [t3]; exact ci) hf with ⟨hcs, _⟩ | ⟨a, len', cap', elems, rest, hcs, hl, hm, hel, hd, hx⟩
  · simp [Value.cells] at hcs
    obtain ⟨rfl, rfl, rfl⟩ := hcs
    exact ⟨none, 0, [], rfl, fun k hk => absurd hk (by simp [opC]), fun o ho => by (cases ho), by decide⟩
  · simp [Value.cells] at hcs
    obtain ⟨rfl, rfl, rfl⟩ := hcs
    simp only at hd
    subst hd
    have each : ∀ i, i < len → ∃ x : OpM, W.cell? (a.add (i * 4)) = some (.int .i64 x.kind) ∧ W.cell? (a.add (i * 4 + 1)) = some (.string (tx x.a)) ∧ W.cell? (a.add (i * 4 + 2)) = some (.string (tx x.b)) ∧ W.cell? (a.add (i * 4 + 3)) = some (.int .i64 x.n) ∧ x.a.length ≤ 140737488351232 ∧ x.b.length ≤ 140737488351232 ∧ x.n ≤ 9223372036854775807 := fun i hi => by
      obtain ⟨v0, v1, v2, v3, y0, y1, y2, y3, n, k0, k1, k2, k3, g0, g1, g2, g3, hmem⟩ := hx i hi
      rw [t0] at g0
      rw [t1] at g1
      rw [t2] at g2
      rw [t3] at g3
      obtain ⟨z0, e0, _, _⟩ := DataW.trod_int Try.underlying3 g0
      obtain ⟨z1, e1, d1, _⟩ := DataW.trod_string Try.underlying9 g1
      obtain ⟨z2, e2, d2, _⟩ := DataW.trod_string Try.underlying9 g2
      obtain ⟨z3, e3, _, w3⟩ := DataW.trod_int Try.underlying3 g3
      simp at e0 e1 e2 e3
      subst e0 e1 e2 e3 d1 d2
      have hall : ∀ m ∈ (DataW.agg [y0.1, DataW.lit (.string z1.data.toList), DataW.lit (.string z2.data.toList), y3.1] : DataW H).weights Try.prog 34, m ≤ 140737488351232 := fun m hm => by
        refine hw m ?_
        simp only [DataW.weights, Try.underlying22, List.mem_cons, List.mem_append]
        exact Or.inr (Or.inl (weightsAll_mem hm hmem))
      have hin : ∀ (j : Nat) (z : ByteArray), [f0.type, f1.type, f2.type, f3.type][j]? = some 9 → [y0.1, DataW.lit (.string z1.data.toList), DataW.lit (.string z2.data.toList), y3.1][j]? = some (DataW.lit (.string z.data.toList)) → z.data.toList.length ≤ 140737488351232 := fun j z q1 q2 => by
        refine hall _ ?_
        simp only [DataW.weights, he]
        exact DataW.weights_mem_each q1 q2 _ (by simp [DataW.weights])
      refine ⟨⟨z0, toL z1, toL z2, z3⟩, k0, by rw [tx_toL]; exact k1, by rw [tx_toL]; exact k2, k3, hin 1 z1 (by simp [t1]) rfl, hin 2 z2 (by simp [t2]) rfl, (wf64 w3).2⟩
    have some_x : ∃ f : Nat → OpM, ∀ i, i < len → W.cell? (a.add (i * 4)) = some (.int .i64 (f i).kind) ∧ W.cell? (a.add (i * 4 + 1)) = some (.string (tx (f i).a)) ∧ W.cell? (a.add (i * 4 + 2)) = some (.string (tx (f i).b)) ∧ W.cell? (a.add (i * 4 + 3)) = some (.int .i64 (f i).n) ∧ (f i).a.length ≤ 140737488351232 ∧ (f i).b.length ≤ 140737488351232 ∧ (f i).n ≤ 9223372036854775807 := by
      refine ⟨fun i => if h : i < len then (each i h).choose else ⟨0, [], [], 0⟩, fun i hi => ?_⟩
      simp only [hi, ↓reduceDIte]
      exact (each i hi).choose_spec
    obtain ⟨f, hf2⟩ := some_x
    have hlen : ((List.range len).map f).length = len := by simp
    refine ⟨some a, cap, (List.range len).map f, by rw [hlen], fun k hk => ?_, fun x hxm => ?_, by omega⟩
    · rw [opC_len, hlen] at hk
      obtain ⟨b, off, spot⟩ := a
      have h0 := (hf2 0 (by omega)).1
      have hspot : spot = none := by simpa [Addr.add] using World.cell?_spot h0
      subst hspot
      obtain ⟨g0, g1, g2, g3⟩ := opC_get ((List.range len).map f) (k / 4) (by rw [hlen]; omega)
      simp only [List.getElem_map, List.getElem_range] at g0 g1 g2 g3
      obtain ⟨r0, r1, r2, r3, _⟩ := hf2 (k / 4) (by omega)
      rw [Go.WideShapes.add_plain] at r0 r1 r2 r3
      have hkk : k = k / 4 * 4 ∨ k = k / 4 * 4 + 1 ∨ k = k / 4 * 4 + 2 ∨ k = k / 4 * 4 + 3 := by omega
      have key : ∀ j u, (opC ((List.range len).map f))[j]? = some u → W.cell? ⟨b, off + j, none⟩ = some u → ∀ hj : j < (opC ((List.range len).map f)).length, ∃ b' off', some (⟨b, off, none⟩ : Addr) = some ⟨b', off', none⟩ ∧ b' < W.heap.size ∧ W.cell? ⟨b', off' + j, none⟩ = some (opC ((List.range len).map f))[j] := fun j u q1 q2 hj => by
        rw [List.getElem?_eq_getElem hj] at q1
        refine ⟨b, off, rfl, World.block_lt_of_cell? W ⟨b, off + j, none⟩ q2, ?_⟩
        rw [q2, Option.some.inj q1]
      have hkl : k < (opC ((List.range len).map f)).length := by rw [opC_len, hlen]; omega
      generalize k / 4 = kq at *
      rcases hkk with q | q | q | q
      · exact key k _ (by rw [q]; exact g0) (by rw [q]; exact r0) hkl
      · exact key k _ (by rw [q]; exact g1) (by rw [q, ← Nat.add_assoc]; exact r1) hkl
      · exact key k _ (by rw [q]; exact g2) (by rw [q, ← Nat.add_assoc]; exact r2) hkl
      · exact key k _ (by rw [q]; exact g3) (by rw [q, ← Nat.add_assoc]; exact r3) hkl
    · obtain ⟨i, hi, rfl⟩ := List.mem_map.1 hxm
      exact (hf2 i (by have := List.mem_range.1 hi; omega)).2.2.2.2
set_option maxRecDepth 100000 in
/-- a row of numbers that came in -/
theorem open_nums {H : Type} {enc : TypeId × Value → H} {W : World} {base : Nat} {v : Value} {d : DataW H} {p : List MemPlace}
    (hok : Value.okWide Try.prog W .any base 23 v) (h : DataW.Trod enc Try.prog W 0 (fun _ => true) true 23 v d p) :
    ∃ (a : Option Addr) (c : Nat) (l : List Int), v = .slice a l.length c ∧ Sl W a (intV l) ∧ l.length ≤ c ∧ c ≤ maxLen := by
  obtain ⟨a0, len, cap, rfl⟩ := okWide_slice Try.underlying23 hok
  obtain ⟨fuel, hf⟩ := h
  rcases Go.ChangeShapes.open_ints Try.underlying23 Try.underlying3 (by kernel_rfl) hf with ⟨hcs, _⟩ | ⟨a, len', cap', zs, hcs, _, hl, hm, hz, _, hcell, _⟩
  · simp [Value.cells] at hcs
    obtain ⟨rfl, rfl, rfl⟩ := hcs
    exact ⟨none, 0, [], rfl, Sl.nil _ _, by simp, by decide⟩
  · simp [Value.cells] at hcs
    obtain ⟨rfl, rfl, rfl⟩ := hcs
    simp only [↓reduceIte] at hz
    have hlen : (zs.take len).length = len := by rw [List.length_take]; omega
    refine ⟨some a, cap, zs.take len, by rw [hlen], fun k hk => ?_, by omega, hm⟩
    rw [intV_len, hlen] at hk
    obtain ⟨b, off, spot⟩ := a
    have h0 := hcell 0 (by omega)
    have hspot : spot = none := by simpa [Addr.add] using World.cell?_spot h0
    subst hspot
    have hc := hcell k (by omega)
    rw [Go.WideShapes.add_plain] at hc
    refine ⟨b, off, rfl, World.block_lt_of_cell? W ⟨b, off + k, none⟩ hc, ?_⟩
    rw [hc]
    simp [intV, List.getElem_take, List.getD_eq_getElem?_getD, List.getElem?_eq_getElem (show k < zs.length by omega)]
end Go.Proofs.Ytammmhbkfdmbfaa
