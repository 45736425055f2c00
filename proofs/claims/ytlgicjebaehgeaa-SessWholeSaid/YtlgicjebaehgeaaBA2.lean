/- The frame of layer 10's laws: how open sessions, rows of them, two of these, and a row of times, that came in are opened. -/
import Derived.Test.YtlgicjebaehgeaaBA14
import Derived.Test.YtlgicjebaehgeaaZ19
import Derived.Test.YtlgicjebaehgeaaW5
namespace Go.Proofs.Ytlgicjebaehgeaa
open Go.ChangeShapes Go.WideShapes Go.ChangeAt Go.RowKit
set_option linter.unusedVariables false
set_option maxRecDepth 100000

theorem opFields : ∃ f0 f1 f2 f3 : Field, Try.prog.underlying 24 = some (.struct #[f0, f1, f2, f3]) ∧ f0.offset = 0 ∧ f1.offset = 1 ∧ f2.offset = 2 ∧ f3.offset = 3 ∧ f0.type = 3 ∧ f1.type = 9 ∧ f2.type = 3 ∧ f3.type = 3 := ⟨_, _, _, _, Try.underlying24, rfl, rfl, rfl, rfl, rfl, rfl, rfl, rfl⟩
theorem whFields : ∃ f0 f1 f2 f3 : Field, Try.prog.underlying 40 = some (.struct #[f0, f1, f2, f3]) ∧ f0.offset = 0 ∧ f1.offset = 1 ∧ f2.offset = 2 ∧ f3.offset = 3 ∧ f0.type = 3 ∧ f1.type = 9 ∧ f2.type = 3 ∧ f3.type = 3 := ⟨_, _, _, _, Try.underlying40, rfl, rfl, rfl, rfl, rfl, rfl, rfl, rfl⟩
/-- a row of entries, out of its cell -/
theorem read_sess {H : Type} {enc : TypeId × Value → H} {W : World} {n : Nat} {cs : List Value} {x : DataW H × List MemPlace}
    (h : DataW.trod enc Try.prog W 0 (fun _ => true) true n 22 cs = some x) :
    ∃ (a : Option Addr) (c : Nat) (l : List OpM), cs = [.slice a l.length c] ∧ OpSl W a l ∧ SzO l ∧ l.length ≤ c ∧ c ≤ maxLen ∧ (a = none → c = 0) := by
  obtain ⟨f0, f1, f2, f3, he, o0, o1, o2, o3, t0, t1, t2, t3⟩ := opFields
  have ci : Try.prog.cellsOf 3 = 1 := by kernel_rfl
  have cs' : Try.prog.cellsOf 9 = 1 := by kernel_rfl
  rcases open_quads Try.underlying22 he (by kernel_rfl) o0 o1 o2 o3 (by rw [t0]; exact ci) (by rw [t1]; exact cs') (by rw [t2]; exact ci) (by rw [t3]; exact ci) h with ⟨rfl, _⟩ | ⟨a, len, cap, rfl, hl, hm, hx⟩
  · exact ⟨none, 0, [], rfl, OpSl.nil _ _, (fun s hs => by cases hs), by simp, by decide, fun _ => rfl⟩
  · have each : ∀ i, i < len → ∃ x : OpM, W.cell? (a.add (i * 4)) = some (.int .i64 x.n) ∧ W.cell? (a.add (i * 4 + 1)) = some (.string x.u) ∧ W.cell? (a.add (i * 4 + 2)) = some (.int .i64 x.s) ∧ W.cell? (a.add (i * 4 + 3)) = some (.int .i64 x.f) ∧ x.u.size ≤ maxLen := fun i hi => by
      obtain ⟨v0, v1, v2, v3, y0, y1, y2, y3, n, k0, k1, k2, k3, g0, g1, g2, g3⟩ := hx i hi
      rw [t0] at g0
      rw [t1] at g1
      rw [t2] at g2
      rw [t3] at g3
      obtain ⟨z0, e0, _, w0⟩ := DataW.trod_int Try.underlying3 g0
      obtain ⟨z1, e1, _, w1⟩ := DataW.trod_string Try.underlying9 g1
      obtain ⟨z2, e2, _, w2⟩ := DataW.trod_int Try.underlying3 g2
      obtain ⟨z3, e3, _, w3⟩ := DataW.trod_int Try.underlying3 g3
      simp at e0 e1 e2 e3
      exact ⟨⟨z0, z1, z2, z3⟩, by rw [k0, e0], by rw [k1, e1], by rw [k2, e2], by rw [k3, e3], w1⟩
    have some_x : ∃ f : Nat → OpM, ∀ i, i < len → W.cell? (a.add (i * 4)) = some (.int .i64 (f i).n) ∧ W.cell? (a.add (i * 4 + 1)) = some (.string (f i).u) ∧ W.cell? (a.add (i * 4 + 2)) = some (.int .i64 (f i).s) ∧ W.cell? (a.add (i * 4 + 3)) = some (.int .i64 (f i).f) ∧ (f i).u.size ≤ maxLen := by
      refine ⟨fun i => if h : i < len then (each i h).choose else opZ, fun i hi => ?_⟩
      simp only [hi, ↓reduceDIte]
      exact (each i hi).choose_spec
    obtain ⟨f, hf2⟩ := some_x
    have hlen : ((List.range len).map f).length = len := by simp
    refine ⟨some a, cap, (List.range len).map f, by rw [hlen], fun k hk => ?_, fun x hxm => ?_, by omega, hm, fun h => by cases h⟩
    · rw [hlen] at hk
      obtain ⟨b, off, spot⟩ := a
      have h0 := (hf2 0 (by omega)).1
      have hspot : spot = none := by simpa [Addr.add] using World.cell?_spot h0
      subst hspot
      obtain ⟨g0, g1, g2, g3, _⟩ := hf2 k (by omega)
      rw [Go.WideShapes.add_plain] at g0 g1 g2 g3
      simp only [List.getElem_map, List.getElem_range]
      exact ⟨b, off, rfl, World.block_lt_of_cell? W ⟨b, off + k * 4, none⟩ g0, g0, g1, g2, g3⟩
    · obtain ⟨i, hi, rfl⟩ := List.mem_map.1 hxm
      exact (hf2 i (by have := List.mem_range.1 hi; omega)).2.2.2.2
/-- a row of entries that came in -/
theorem open_sess {H : Type} {enc : TypeId × Value → H} {W : World} {base : Nat} {v : Value} {d : DataW H} {p : List MemPlace}
    (hok : Value.okWide Try.prog W .any base 22 v) (h : DataW.Trod enc Try.prog W 0 (fun _ => true) true 22 v d p) :
    ∃ (a : Option Addr) (c : Nat) (l : List OpM), v = .slice a l.length c ∧ OpSl W a l ∧ SzO l ∧ l.length ≤ c ∧ c ≤ maxLen ∧ (a = none → c = 0) := by
  obtain ⟨a0, len, cap, rfl⟩ := okWide_slice Try.underlying22 hok
  obtain ⟨fuel, hf⟩ := h
  obtain ⟨a, c, l, e, h1⟩ := read_sess hf
  exact ⟨a, c, l, List.singleton_inj.1 e, h1⟩
/-- an open session that came in -/
theorem open_sess1 {H : Type} {enc : TypeId × Value → H} {W : World} {base : Nat} {v : Value} {d : DataW H} {p : List MemPlace}
    (hok : Value.okWide Try.prog W .any base 24 v) (h : DataW.Trod enc Try.prog W 0 (fun _ => true) true 24 v d p) :
    ∃ s : OpM, v = .agg #[.int .i64 s.n, .string s.u, .int .i64 s.s, .int .i64 s.f] ∧ s.u.size ≤ maxLen := by
  obtain ⟨cs, rfl, hsz⟩ := okWide_struct Try.underlying24 hok
  obtain ⟨fuel, hf⟩ := h
  obtain ⟨f0, f1, f2, f3, he, o0, o1, o2, o3, t0, t1, t2, t3⟩ := opFields
  have ci : Try.prog.cellsOf 3 = 1 := by kernel_rfl
  have cs' : Try.prog.cellsOf 9 = 1 := by kernel_rfl
  obtain ⟨xs, k, hk, hxy, _, hxl, hf⟩ := DataW.trod_struct he hf
  have hln : cs.toList.length = 4 := by rw [Array.length_toList, hsz]; kernel_rfl
  have hcs : (Value.agg cs).cells.toList = cs.toList := rfl
  rw [hcs] at hf
  generalize hcl : cs.toList = cl at *
  match xs, hxl, cl, hln with
  | [y0, y1, y2, y3], _, [v0, v1, v2, v3], _ =>
    have g0 := hf 0 f0 rfl
    have g1 := hf 1 f1 rfl
    have g2 := hf 2 f2 rfl
    have g3 := hf 3 f3 rfl
    simp [o0, o1, o2, o3, t0, t1, t2, t3, ci, cs'] at g0 g1 g2 g3
    obtain ⟨z0, e0, _, w0⟩ := DataW.trod_int Try.underlying3 g0
    obtain ⟨z1, e1, _, w1⟩ := DataW.trod_string Try.underlying9 g1
    obtain ⟨z2, e2, _, w2⟩ := DataW.trod_int Try.underlying3 g2
    obtain ⟨z3, e3, _, w3⟩ := DataW.trod_int Try.underlying3 g3
    simp at e0 e1 e2 e3
    subst e0 e1 e2 e3
    exact ⟨⟨z0, z1, z2, z3⟩, congrArg Value.agg (Array.toList_inj.1 hcl), w1⟩
/-- a session, a user, a status, a time that came in -/
theorem open_which {H : Type} {enc : TypeId × Value → H} {W : World} {base : Nat} {v : Value} {d : DataW H} {p : List MemPlace}
    (hok : Value.okWide Try.prog W .any base 40 v) (h : DataW.Trod enc Try.prog W 0 (fun _ => true) true 40 v d p) :
    ∃ s : OpM, v = .agg #[.int .i64 s.n, .string s.u, .int .i64 s.s, .int .i64 s.f] ∧ s.u.size ≤ maxLen := by
  obtain ⟨cs, rfl, hsz⟩ := okWide_struct Try.underlying40 hok
  obtain ⟨fuel, hf⟩ := h
  obtain ⟨f0, f1, f2, f3, he, o0, o1, o2, o3, t0, t1, t2, t3⟩ := whFields
  have ci : Try.prog.cellsOf 3 = 1 := by kernel_rfl
  have cs' : Try.prog.cellsOf 9 = 1 := by kernel_rfl
  obtain ⟨xs, k, hk, hxy, _, hxl, hf⟩ := DataW.trod_struct he hf
  have hln : cs.toList.length = 4 := by rw [Array.length_toList, hsz]; kernel_rfl
  have hcs : (Value.agg cs).cells.toList = cs.toList := rfl
  rw [hcs] at hf
  generalize hcl : cs.toList = cl at *
  match xs, hxl, cl, hln with
  | [y0, y1, y2, y3], _, [v0, v1, v2, v3], _ =>
    have g0 := hf 0 f0 rfl
    have g1 := hf 1 f1 rfl
    have g2 := hf 2 f2 rfl
    have g3 := hf 3 f3 rfl
    simp [o0, o1, o2, o3, t0, t1, t2, t3, ci, cs'] at g0 g1 g2 g3
    obtain ⟨z0, e0, _, w0⟩ := DataW.trod_int Try.underlying3 g0
    obtain ⟨z1, e1, _, w1⟩ := DataW.trod_string Try.underlying9 g1
    obtain ⟨z2, e2, _, w2⟩ := DataW.trod_int Try.underlying3 g2
    obtain ⟨z3, e3, _, w3⟩ := DataW.trod_int Try.underlying3 g3
    simp at e0 e1 e2 e3
    subst e0 e1 e2 e3
    exact ⟨⟨z0, z1, z2, z3⟩, congrArg Value.agg (Array.toList_inj.1 hcl), w1⟩
/-- two rows that came in -/
theorem open_sess2 {H : Type} {enc : TypeId × Value → H} {W : World} {base : Nat} {v : Value} {d : DataW H} {p : List MemPlace}
    (hok : Value.okWide Try.prog W .any base 59 v) (h : DataW.Trod enc Try.prog W 0 (fun _ => true) true 59 v d p) :
    ∃ (a b : Option Addr) (c q : Nat) (l m : List OpM), v = .agg #[.slice a l.length c, .slice b m.length q] ∧ (OpSl W a l ∧ SzO l ∧ l.length ≤ c ∧ c ≤ maxLen ∧ (a = none → c = 0)) ∧ (OpSl W b m ∧ SzO m ∧ m.length ≤ q ∧ q ≤ maxLen ∧ (b = none → q = 0)) := by
  obtain ⟨cs, rfl, hsz⟩ := okWide_arr Try.underlying59 hok
  obtain ⟨fuel, hf⟩ := h
  obtain ⟨xs, k, _, _, hl, hx, hi⟩ := DataW.trod_array Try.underlying59 hf
  have c2 : Try.prog.cellsOf 59 = 2 := by kernel_rfl
  have ce : Try.prog.cellsOf 22 = 1 := by kernel_rfl
  obtain ⟨v0, v1, rfl⟩ := Go.Joins.array2 (hsz.trans c2)
  rw [ce] at hi
  have h0 := hi 0 (by decide)
  have h1 := hi 1 (by decide)
  match xs, hx with
  | [y0, y1], _ =>
    obtain ⟨a, c, l, ea, ha⟩ := read_sess (cs := [v0]) (by simpa [Value.cells] using h0)
    obtain ⟨b, q, m, eb, hb⟩ := read_sess (cs := [v1]) (by simpa [Value.cells] using h1)
    obtain rfl := List.singleton_inj.1 ea
    obtain rfl := List.singleton_inj.1 eb
    exact ⟨a, b, c, q, l, m, rfl, ha, hb⟩
/-- a row of times that came in -/
theorem open_times {H : Type} {enc : TypeId × Value → H} {W : World} {base : Nat} {v : Value} {d : DataW H} {p : List MemPlace}
    (hok : Value.okWide Try.prog W .any base 74 v) (h : DataW.Trod enc Try.prog W 0 (fun _ => true) true 74 v d p) :
    ∃ (a : Option Addr) (c : Nat) (l : List Int), v = .slice a l.length c ∧ Sl W a (ints l) ∧ l.length ≤ c ∧ c ≤ maxLen := by
  obtain ⟨a0, len, cap, rfl⟩ := okWide_slice Try.underlying74 hok
  obtain ⟨fuel, hf⟩ := h
  rcases Go.ChangeShapes.open_ints Try.underlying74 Try.underlying3 (by kernel_rfl) hf with ⟨hcs, _⟩ | ⟨a, len', cap', zs, hcs, _, hl, hm, hz, _, hcell, _⟩
  · simp [Value.cells] at hcs
    obtain ⟨rfl, rfl, rfl⟩ := hcs
    exact ⟨none, 0, [], rfl, Sl.nil _ _, by simp, by decide⟩
  · simp [Value.cells] at hcs
    obtain ⟨rfl, rfl, rfl⟩ := hcs
    simp only [↓reduceIte] at hz
    have hlen : (zs.take len).length = len := by rw [List.length_take]; omega
    refine ⟨some a, cap, zs.take len, by rw [hlen], fun k hk => ?_, by omega, hm⟩
    rw [ints_len, hlen] at hk
    obtain ⟨b, off, spot⟩ := a
    have h0 := hcell 0 (by omega)
    have hspot : spot = none := by simpa [Addr.add] using World.cell?_spot h0
    subst hspot
    have hc := hcell k (by omega)
    rw [Go.WideShapes.add_plain] at hc
    refine ⟨b, off, rfl, World.block_lt_of_cell? W ⟨b, off + k, none⟩ hc, ?_⟩
    rw [hc]
    simp [ints, List.getElem_take, List.getD_eq_getElem?_getD, List.getElem?_eq_getElem (show k < zs.length by omega)]
end Go.Proofs.Ytlgicjebaehgeaa
