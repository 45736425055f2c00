/- Texts of mine, one behind the other, of each what is wanted. -/
import Derived.Test.YtapacckmgmdnoaaGreatU00
import Derived.Test.YtapacckmgmdnoaaGreatRows
import Derived.Test.YtapacckmgmdnoaaGreatShelf
import Derived.Test.YtapacckmgmdnoaaGreatU01
import Derived.Test.YtapacckmgmdnoaaGreatU02
import Derived.Test.YtapacckmgmdnoaaGreatU04
import Derived.Test.YtapacckmgmdnoaaGreatU07
import Derived.Test.YtapacckmgmdnoaaGreatU09
import Derived.Test.YtapacckmgmdnoaaGreatU11
import Derived.Test.YtapacckmgmdnoaaGreatU16
import Derived.Test.YtapacckmgmdnoaaGreatU23
import Derived.Test.YtapacckmgmdnoaaGreatU35
import Derived.Test.YtapacckmgmdnoaaGreatU45
namespace Go.Proofs.YtapacckmgmdnoaaGreat
set_option linter.unusedVariables false
set_option maxRecDepth 100000
theorem IsCut.twice {l a b : List StM} {P Q : Int → Prop} {z : List SpM} (ha : IsCut l P a) (hb : IsCut a Q b) (hz : IsSet (fun x => P x ∧ Q x) z) : IsCut l (fun x => P x ∧ Q x) b := by
 obtain ⟨r, h1, h2, h3⟩ := ha
 obtain ⟨q, k1, k2, k3⟩ := hb
 refine ⟨z, hz, ?_, k3⟩
 rw [← raw_twice h1 k1 hz l]
 exact k2.trans (raw_perm h2 q)
theorem range_narrow {s : SaM} {w u : ByteArray} {f t f' t' now : Int} {a b c : List StM} (hf : f ≤ f') (ht : t' ≤ t) (ha : IsRange s w u f t now a) (hb : IsRange s w u f' t' now b) (hc : IsCut a (fun x => f' ≤ x ∧ x < t') c) : b = c := by
 obtain ⟨r, h1, h2, h3⟩ := hb
 have he : ∀ x, gateP s w u f' t' x ↔ gateP s w u f t x ∧ f' ≤ x ∧ x < t' := fun x => by
  unfold gateP
  constructor
  ·rintro ⟨k1, k2, k3⟩; exact ⟨⟨k1, ⟨by omega, by omega⟩, k3⟩, k2⟩
  ·rintro ⟨⟨k1, k2, k3⟩, k4⟩; exact ⟨k1, k4, k3⟩
 have h4 := IsCut.twice ha hc (h1.congr he)
 exact IsCut.only (⟨r, h1, h2, h3⟩ : IsCut _ _ b) (h4.congr fun x => (he x).symm)
end Go.Proofs.YtapacckmgmdnoaaGreat
namespace Go.Proofs.YtapacckmgmdnoaaGreat
open Go.ChangeShapes Go.WideShapes Go.ChangeAt Go.RowKit
set_option linter.unusedVariables false
set_option maxRecDepth 100000
set_option maxRecDepth 100000
theorem okWide_arr {P : Program} {w : World} {r : Reach} {base : Nat} {t e : TypeId} {n : Nat} {v : Value} (ht : P.underlying t = some (.array n e)) (h : Value.okWide P w r base t v) : ∃ cs, v = .agg cs ∧ cs.size = P.cellsOf t := by
 simp only [Value.okWide, ht] at h
 obtain ⟨cs, h1, h2, _⟩ := h
 exact ⟨cs, h1, h2⟩
section
variable {H : Type} {enc : TypeId × Value → H} {P : Program} {w : World} {base : Nat} {spare : Nat → Bool} {held : Bool}
end
end Go.Proofs.YtapacckmgmdnoaaGreat
namespace Go.Proofs.YtapacckmgmdnoaaGreat
set_option maxRecDepth 100000
theorem closedGateNarrows : joinedFacts Tryz.pinned.checked.prog 16 Tryz.f16 (Rows.OpenSpec.upto Rows.gateNarrowsSpec).bare Rows.gateNarrowsUptoRow = true := by
 unfold joinedFacts
 rw [pf_heard, pf_maps, pf_laid, pf_keys, pf_lift, pf_enter]
 kernel_rfl
end Go.Proofs.YtapacckmgmdnoaaGreat
namespace Go.Proofs.YtapacckmgmdnoaaGreat
open Go.RowKit Go.Proofs
set_option linter.unusedVariables false
set_option maxRecDepth 100000
section
variable {P Q : Nat → Prop} {y : SaL} {T T' : World}
end
section
variable {w W : World} {g : Nat} {T : TypeId} {q : AskM}
end
section
variable {w W W' : World} {x y : SaL} {q a : AskM} {ga gb hi : Nat} {ob : Option Obj}
end
def by3 (a b : Int) : Obj := .cells #[.int .i64 a, .int .i64 b] 123 (0, 0)
theorem SQE.new3 (w : World) {x : SaL} (q : AskM) (h : SaAt w x) (a b : Int) : SQE w x q (w.heap.size + 1 + 1 + 1) (some (by3 a b)) (((w.alloc (.cells (saC x) 27)).alloc (.cells (askC q) 86)).alloc (.cells #[.int .i64 a, .int .i64 b] 123)) := by
 have S := (SQ.new w q h 27 86)
 have e : (((w.alloc (.cells (saC x) 27)).alloc (.cells (askC q) 86)).alloc (.cells #[.int .i64 a, .int .i64 b] 123)).heap[w.heap.size + 1 + 1]? = some (by3 a b) := by
  have := heap_alloc_new ((w.alloc (.cells (saC x) 27)).alloc (.cells (askC q) 86)) (.cells #[.int .i64 a, .int .i64 b] 123)
  rw [size1, size1] at this
  exact this
 exact ⟨h, S.below (below_one _ _), by omega, by rw [size1, size1, size1]; exact Nat.le_refl _, fun o k => by injection k with k; subst k; exact ⟨Nat.lt_succ_self _, e⟩⟩
theorem SQE.cells3 {w W : World} {x : SaL} {q : AskM} {hi : Nat} {a b : Int} (h : SQE w x q hi (some (by3 a b)) W) : W.cell? ⟨w.heap.size, 0, none⟩ = some (.int .i64 x.now) ∧ W.cell? ⟨w.heap.size, 1, none⟩ = some (.int .i64 x.hor) ∧ W.cell? ⟨w.heap.size, 2, none⟩ = some (.slice x.oa x.op.length x.oc) ∧ W.cell? ⟨w.heap.size, 3, none⟩ = some (.slice x.ua x.us.length x.uc) ∧ W.cell? ⟨w.heap.size, 4, none⟩ = some (.slice x.sa x.su.length x.sc) ∧ W.cell? ⟨w.heap.size, 5, none⟩ = some (.slice x.ta x.tb.length x.tc) ∧ W.cell? ⟨w.heap.size + 1, 0, none⟩ = some (.string q.w) ∧ W.cell? ⟨w.heap.size + 1, 1, none⟩ = some (.string q.u) ∧ W.cell? ⟨w.heap.size + 1, 2, none⟩ = some (.int .i64 q.f) ∧ W.cell? ⟨w.heap.size + 1, 3, none⟩ = some (.int .i64 q.t) ∧ W.cell? ⟨w.heap.size + 1, 4, none⟩ = some (.int .i64 q.n) ∧ W.cell? ⟨w.heap.size + 1 + 1, 0, none⟩ = some (.int .i64 a) ∧ W.cell? ⟨w.heap.size + 1 + 1, 1, none⟩ = some (.int .i64 b) :=
 have e := (h.e _ rfl).2
 ⟨h.k.s.cells.1, h.k.s.cells.2.1, h.k.s.cells.2.2.1, h.k.s.cells.2.2.2.1, h.k.s.cells.2.2.2.2.1, h.k.s.cells.2.2.2.2.2, h.k.q.cells.1, h.k.q.cells.2.1, h.k.q.cells.2.2.1, h.k.q.cells.2.2.2.1, h.k.q.cells.2.2.2.2, cell_of_row _ _ _ _ _ _ e, cell_of_row _ _ _ _ _ _ e⟩
section
variable {w W W' : World} {x y : SaL} {q a : AskM} {ga gb hi : Nat} {ob : Option Obj}
end
theorem open_int2 {H : Type} {enc : TypeId × Value → H} {W : World} {base : Nat} {v : Value} {d : DataW H} {p : List MemPlace}
  (hok : Value.okWide Tryz.prog W .any base 123 v) (h : DataW.Trod enc Tryz.prog W 0 (fun _ => true) true 123 v d p) :
  ∃ (a b : Int), v = .agg #[.int .i64 a, .int .i64 b] ∧ I64 a ∧ I64 b := by
 obtain ⟨cs, rfl, hsz⟩ := okWide_arr Tryz.underlying123 hok
 obtain ⟨fuel, hf⟩ := h
 obtain ⟨xs, k, _, _, hl, hx, hi⟩ := DataW.trod_array Tryz.underlying123 hf
 have c2 : Tryz.prog.cellsOf 123 = 2 := by kernel_rfl
 have ce : Tryz.prog.cellsOf 3 = 1 := by kernel_rfl
 obtain ⟨v0, v1, rfl⟩ := Go.Joins.array2 (hsz.trans c2)
 rw [ce] at hi
 have h0 := hi 0 (by decide)
 have h1 := hi 1 (by decide)
 match xs, hx with
 | [y0, y1], _ =>
  obtain ⟨z0, e0, _, w0⟩ := DataW.trod_int (cs := [v0]) Tryz.underlying3 (by simpa [Value.cells] using h0)
  obtain ⟨z1, e1, _, w1⟩ := DataW.trod_int (cs := [v1]) Tryz.underlying3 (by simpa [Value.cells] using h1)
  simp at e0 e1
  subst e0 e1
  exact ⟨z0, z1, rfl, wf64 w0, wf64 w1⟩
end Go.Proofs.YtapacckmgmdnoaaGreat
