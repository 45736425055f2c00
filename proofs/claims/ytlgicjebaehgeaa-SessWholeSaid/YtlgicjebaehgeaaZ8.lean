/- Layer 8: rows of stays, one behind the other: contracts. -/
import Derived.Test.YtlgicjebaehgeaaZ5
import Derived.Shelf.Spec.SlicesGrow
namespace Go.Proofs.Ytlgicjebaehgeaa
open Go.RowKit Go.Sort Go.Proofs
set_option linter.unusedVariables false
set_option maxRecDepth 100000
set_option maxRecDepth 100000

/-- a row of stays in memory: where, which, and its capacity -/
structure StR where
  a : Option Addr
  l : List StM
  c : Nat
def strV (r : StR) : Value := .slice r.a r.l.length r.c
def catS (R : List StR) : List StM := R.flatMap (·.l)
theorem catS_take (R : List StR) (j : Nat) (h : j < R.length) : catS (R.take (j + 1)) = catS (R.take j) ++ R[j].l := by
  unfold catS
  rw [List.take_succ_eq_append_getElem h, List.flatMap_append]
  simp
theorem catS_le (R : List StR) (j : Nat) : (catS (R.take j)).length ≤ (catS R).length := by
  have : catS R = catS (R.take j) ++ catS (R.drop j) := by
    unfold catS
    rw [← List.flatMap_append, List.take_append_drop]
  rw [this, List.length_append]
  omega
def StRAt (w : World) (r : StR) : Prop := StSl w r.a r.l ∧ (r.a = none → r.c = 0)
theorem srows_at {w : World} {a : Option Addr} {R : List StR} (h : Sl w a (R.map strV)) {k : Nat} (hk : k < R.length) : ∃ b off, a = some ⟨b, off, none⟩ ∧ b < w.heap.size ∧ w.cell? ⟨b, off + k, none⟩ = some (strV R[k]) := by
  obtain ⟨b, off, e, hlt, hc⟩ := h k (by simpa using hk)
  exact ⟨b, off, e, hlt, by rw [hc]; simp⟩

theorem own_empty8 (w : World) (e : TypeId) (k B : Nat) (hB : B ≤ w.heap.size) : (w.alloc (.cells #[] e)).ownsRow B e k (.slice (some ⟨w.heap.size, 0, none⟩) 0 0) 0 [] :=
  ⟨by simp, .inr ⟨w.heap.size, 0, #[], rfl, hB, heap_alloc_new w _, Nat.le_refl _, by unfold maxLen; omega, by simp, by simp⟩⟩

end Go.Proofs.Ytlgicjebaehgeaa
