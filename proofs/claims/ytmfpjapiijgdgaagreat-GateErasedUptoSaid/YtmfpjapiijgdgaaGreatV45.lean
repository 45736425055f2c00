/- Texts of mine, one behind the other, of each what is wanted. -/
import Derived.Test.YtmfpjapiijgdgaaGreatV00
import Derived.Test.YtmfpjapiijgdgaaGreatShelf
import Derived.Test.YtmfpjapiijgdgaaGreatRows
import Derived.Test.YtmfpjapiijgdgaaGreatV01
import Derived.Test.YtmfpjapiijgdgaaGreatV03
import Derived.Test.YtmfpjapiijgdgaaGreatV06
import Derived.Test.YtmfpjapiijgdgaaGreatV07
import Derived.Test.YtmfpjapiijgdgaaGreatV20
import Derived.Test.YtmfpjapiijgdgaaGreatV24
import Derived.Test.YtmfpjapiijgdgaaGreatV28
namespace Go.Proofs.YtmfpjapiijgdgaaGreat
open Go.ChangeShapes Go.WideShapes Go.ChangeAt Go.RowKit Go.Proofs
set_option linter.unusedVariables false
set_option maxRecDepth 100000
theorem infoAskP : (Tryz.prog.info? 92).map (fun i => i.size) = some 5 := by kernel_rfl
theorem loadAsk {W : World} {g : Nat} {q : AskM} {t : TypeId} (h : W.heap[g]? = some (.cells (askC q) t (0, 0))) : (loadVar 92 ⟨g, 0, none⟩).run Tryz.prog W = .ok (askV q) W :=
 run_loadVar_mid (P := Tryz.prog) W g 0 92 (askC q).toList _ (fun j v hv => by
  rw [Nat.zero_add, cell_of_row _ _ _ _ _ (0, 0) h]
  rw [Array.getElem?_toList] at hv
  exact hv) Tryz.underlying92 rfl infoAskP
set_option maxHeartbeats 2000000 in
theorem gnew_any (q : AskM) (w : World) : Calls Tryz.prog 49 #[askV q] w fun e w' => e = .returned (askV q) ∧ Below w.heap.size w w' := by
 have HL : Hid (∀ o1 : Obj, (loadVar 92 ⟨w.heap.size + 1, 0, none⟩).run Tryz.prog ((w.alloc o1).alloc (.cells (askC q) 92)) = .ok (askV q) ((w.alloc o1).alloc (.cells (askC q) 92))) := Lib.hid fun o1 => by
  have := heap_alloc_new (w.alloc o1) (.cells (askC q) 92)
  rw [size1] at this
  exact loadAsk this
 have HB : Hid (∀ o p, Below w.heap.size w ((w.alloc o).alloc p)) := fun o p => ((Below.refl _ _).alloc (Nat.le_refl _) _).alloc (by simp) _
 obtain ⟨qw, qu, qf, qt, qn⟩ := q
 unfold askV askC at *
 dsimp only at *
 go_enter Tryz.func49, Tryz.ntmps49
 go_wp2
 refine bodyPost_ret (v := .agg #[.string qw, .string qu, .int .i64 qf, .int .i64 qt, .int .i64 qn]) ?_ rfl ?_
 ·rw [results_cell1 rfl]
  simp [asAddr, Result.andThen, HL.out]
 ·exact ⟨rfl, HB.out _ _⟩
theorem array5 {α : Type} {cs : Array α} (h : cs.size = 5) : ∃ c0 c1 c2 c3 c4, cs = #[c0, c1, c2, c3, c4] := by
 obtain ⟨l⟩ := cs
 match l, h with
 | [c0, c1, c2, c3, c4], _ => exact ⟨c0, c1, c2, c3, c4, rfl⟩
theorem open_ask {H : Type} {enc : TypeId × Value → H} {W : World} {base : Nat} {v : Value} {d : DataW H} {p : List MemPlace}
  (hok : Value.okWide Tryz.prog W .any base 86 v) (h : DataW.Trod enc Tryz.prog W 0 (fun _ => true) true 86 v d p) :
  ∃ q : AskM, v = askV q ∧ q.w.size ≤ maxLen ∧ q.u.size ≤ maxLen ∧ (I64 q.f ∧ I64 q.t ∧ I64 q.n) := by
 obtain ⟨f0, f1, f2, f3, f4, he, o0, o1, o2, o3, o4, t0, t1, t2, t3, t4⟩ : ∃ f0 f1 f2 f3 f4 : Field, Tryz.prog.underlying 86 = some (.struct #[f0, f1, f2, f3, f4]) ∧ f0.offset = 0 ∧ f1.offset = 1 ∧ f2.offset = 2 ∧ f3.offset = 3 ∧ f4.offset = 4 ∧ f0.type = 9 ∧ f1.type = 9 ∧ f2.type = 3 ∧ f3.type = 3 ∧ f4.type = 3 := ⟨_, _, _, _, _, Tryz.underlying86, rfl, rfl, rfl, rfl, rfl, rfl, rfl, rfl, rfl, rfl⟩
 obtain ⟨cs, rfl, hsz⟩ := okWide_struct he hok
 obtain ⟨v0, v1, v2, v3, v4, rfl⟩ := array5 (hsz.trans (by kernel_rfl))
 obtain ⟨fuel, hf⟩ := h
 have hf' : DataW.trod enc Tryz.prog W 0 (fun _ => true) true fuel 86 [v0, v1, v2, v3, v4] = some (d, p) := by simpa [Value.cells] using hf
 have ci : Tryz.prog.cellsOf 3 = 1 := by kernel_rfl
 have cs : Tryz.prog.cellsOf 9 = 1 := by kernel_rfl
 obtain ⟨xs, k, _, _, _, hxl, hg⟩ := DataW.trod_struct he hf'
 match xs, hxl with
 | [y0, y1, y2, y3, y4], _ =>
  have g0 := hg 0 f0 rfl
  have g1 := hg 1 f1 rfl
  have g2 := hg 2 f2 rfl
  have g3 := hg 3 f3 rfl
  have g4 := hg 4 f4 rfl
  simp [o0, o1, o2, o3, o4, t0, t1, t2, t3, t4, ci, cs] at g0 g1 g2 g3 g4
  obtain ⟨z0, e0, _, w0⟩ := DataW.trod_string Tryz.underlying9 g0
  obtain ⟨z1, e1, _, w1⟩ := DataW.trod_string Tryz.underlying9 g1
  obtain ⟨z2, e2, _, w2⟩ := DataW.trod_int Tryz.underlying3 g2
  obtain ⟨z3, e3, _, w3⟩ := DataW.trod_int Tryz.underlying3 g3
  obtain ⟨z4, e4, _, w4⟩ := DataW.trod_int Tryz.underlying3 g4
  simp at e0 e1 e2 e3 e4
  subst e0 e1 e2 e3 e4
  exact ⟨⟨z0, z1, z2, z3, z4⟩, rfl, w0, w1, wf64 w2, wf64 w3, wf64 w4⟩
end Go.Proofs.YtmfpjapiijgdgaaGreat
