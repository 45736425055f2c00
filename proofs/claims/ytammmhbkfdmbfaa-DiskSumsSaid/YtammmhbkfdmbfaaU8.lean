/- Layer 5's laws: what they share. -/
import Derived.Test.YtammmhbkfdmbfaaU4
import Derived.Test.YtammmhbkfdmbfaaU7
namespace Go.Proofs.Ytammmhbkfdmbfaa
open Go.RowKit
set_option linter.unusedVariables false

theorem bytesLess_lt : ∀ a b : Nm, Op.bytesLess a b = decide (a < b)
  | [], [] => rfl
  | _ :: _, [] => by simp [Op.bytesLess]
  | [], _ :: _ => by simp [Op.bytesLess]
  | a :: x, b :: y => by
    unfold Op.bytesLess
    rw [bytesLess_lt x y]
    by_cases h1 : a < b
    · have h2 : a :: x < b :: y := List.Lex.rel h1
      simp [h1, h2]
    · by_cases h2 : a = b
      · subst h2
        simp [h1]
      · simp [h1, h2, List.cons_lt_cons_iff]
variable {K X : Nat → Prop} {w0 w : World} {p : Nat} {d e : DiskM} {a : Option Addr}
theorem Duo.liv (h : Duo X w0 w p d e a) : Liv (NewK w0) w0 w p d := by
  obtain ⟨S, hS, h1, _, _⟩ := h.ex
  exact ⟨fun i hi => hi, ⟨S, hS, h1⟩, Kept.of_below h.below _, h.ok⟩
theorem liv_sizeB (s : ByteArray) (hs : s.size ≤ maxLen) (h : Liv K w0 w p d) : Calls Try.prog 22 #[pt p, .string s] w fun e w' => e = .returned (.tuple #[.int .i64 (sizeN d.L (toL s) : Int), .bool (hasL d.L (toL s))]) ∧ Below w.heap.size w w' := by
  obtain ⟨S, hS, _⟩ := h.ex
  exact size_any s hs w p S d hS
theorem liv_looseB (s : ByteArray) (hs : s.size ≤ maxLen) (h : Liv K w0 w p d) : Calls Try.prog 26 #[pt p, .string s] w fun e w' => e = .returned (.int .i64 (looseN d.L (toL s) : Int)) ∧ Below w.heap.size w w' := by
  obtain ⟨S, hS, _⟩ := h.ex
  exact loose_any s hs w p S d hS
/-- what is told of a file that is there -/
theorem Ok.told (h : Ok d) {k : Nat} (hk : k < d.L.length) : hasL d.L d.L[k].name = true ∧ sizeN d.L d.L[k].name = d.L[k].bytes.length ∧ looseN d.L d.L[k].name = d.L[k].loose.length ∧ textL d.L d.L[k].name = d.L[k].bytes := by
  have hg := h.rise.get (List.getElem_mem hk)
  refine ⟨hasL_get hg, ?_, ?_, ?_⟩
  · unfold sizeN; rw [hg]
  · unfold looseN; rw [hg]
  · unfold textL; rw [hg]
theorem name_at {L : List FileM} {k : Nat} (hk : k < L.length) {w : World} {a : Option Addr} (h : Sl w a (nameV L)) : ∃ b off, a = some ⟨b, off, none⟩ ∧ b < w.heap.size ∧ w.cell? ⟨b, off + k, none⟩ = some (.string (tx L[k].name)) := by
  obtain ⟨b, off, ea, h1, h2⟩ := h k (by simpa [nameV] using hk)
  refine ⟨b, off, ea, h1, ?_⟩
  rw [h2]
  simp [nameV]
theorem used_succ {L : List FileM} {k : Nat} (hk : k < L.length) : usedL (L.take (k + 1)) = usedL (L.take k) + L[k].bytes.length := by
  unfold usedL
  rw [List.take_add_one, List.getElem?_eq_getElem hk, List.map_append, List.sum_append]
  simp
end Go.Proofs.Ytammmhbkfdmbfaa
