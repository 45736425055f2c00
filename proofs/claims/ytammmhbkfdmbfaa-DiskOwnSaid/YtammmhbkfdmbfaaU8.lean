/- Layer 5's laws: what they share. -/
import Derived.Test.YtammmhbkfdmbfaaU4
import Derived.Test.YtammmhbkfdmbfaaU7
namespace Go.Proofs.Ytammmhbkfdmbfaa
open Go.RowKit
set_option linter.unusedVariables false

theorem bytesLess_lt : ∀ a b : Nm, Op.bytesLess a b = decide (a < b)
  | [], [] => rfl
  | _ :: _, [] => by simp [Op.bytesLess]
  | [], _ :: _ => by simp [Op.bytesLess]
  | a :: x, b :: y => by
    unfold Op.bytesLess
    rw [bytesLess_lt x y]
    by_cases h1 : a < b
    · have h2 : a :: x < b :: y := List.Lex.rel h1
      simp [h1, h2]
    · by_cases h2 : a = b
      · subst h2
        simp [h1]
      · simp [h1, h2, List.cons_lt_cons_iff]
variable {K X : Nat → Prop} {w0 w : World} {p : Nat} {d e : DiskM} {a : Option Addr}
theorem Duo.liv (h : Duo X w0 w p d e a) : Liv (NewK w0) w0 w p d := by
  obtain ⟨S, hS, h1, _, _⟩ := h.ex
  exact ⟨fun i hi => hi, ⟨S, hS, h1⟩, Kept.of_below h.below _, h.ok⟩
theorem liv_sizeB (s : ByteArray) (hs : s.size ≤ maxLen) (h : Liv K w0 w p d) : Calls Try.prog 22 #[pt p, .string s] w fun e w' => e = .returned (.tuple #[.int .i64 (sizeN d.L (toL s) : Int), .bool (hasL d.L (toL s))]) ∧ Below w.heap.size w w' := by
  obtain ⟨S, hS, _⟩ := h.ex
  exact size_any s hs w p S d hS
theorem liv_looseB (s : ByteArray) (hs : s.size ≤ maxLen) (h : Liv K w0 w p d) : Calls Try.prog 26 #[pt p, .string s] w fun e w' => e = .returned (.int .i64 (looseN d.L (toL s) : Int)) ∧ Below w.heap.size w w' := by
  obtain ⟨S, hS, _⟩ := h.ex
  exact loose_any s hs w p S d hS
/-- whatever is called on the program's disk alone -/
theorem Duo.step (h : Duo X w0 w p d e a) {f : FuncId} {args : Array Value} {r : Value} {d' : DiskM}
    (hc : ∀ K, Liv K w w p d → Calls Try.prog f args w fun r' w' => r' = .returned r ∧ Liv K w w' p d') :
    Calls Try.prog f args w fun r' w' => r' = .returned r ∧ Duo X w0 w' p d' e a ∧ ∀ i, X i → w'.heap[i]? = w.heap[i]? := by
  obtain ⟨S, hS, h1, h2, h3⟩ := h.ex
  have hL : Liv (fun i => S i ∨ w.heap.size ≤ i) w w p d := ⟨fun i hi => .inr hi, ⟨S, hS, fun i hi => .inl hi⟩, Kept.refl _ _, h.ok⟩
  refine (hc _ hL).mono ?_
  rintro r w' ⟨rfl, hL'⟩
  obtain ⟨T, hT, hTK⟩ := hL'.ex
  have hlow : Below w0.heap.size w w' := hL'.kept.below h.below.size (fun i hi => by
    rcases hi with hi | hi
    · exact h1 i hi
    · have := h.below.size; omega)
  refine ⟨rfl, ⟨⟨T, hT, fun i hi => ?_, fun b o' ea hne => ⟨fun ht => ?_, (h2 b o' ea hne).2⟩, fun i hi ht => ?_⟩, ?_, hL'.ok, h.oke, fun i hi => ⟨(h.box i hi).1, Nat.lt_of_lt_of_le (h.box i hi).2 hL'.kept.size⟩, h.below.trans hlow⟩, fun i hi => ?_⟩
  · rcases hTK i hi with hx | hx
    · exact h1 i hx
    · have := h.below.size; omega
  · rcases hTK b ht with hx | hx
    · exact (h2 b o' ea hne).1 hx
    · subst ea
      have := h.row.lt hne
      omega
  · rcases hTK i ht with hx | hx
    · exact h3 i hi hx
    · have := (h.box i hi).2; omega
  · intro k hk
    obtain ⟨b, off, ea, q1, q2⟩ := h.row k hk
    have hne : e.L ≠ [] := fun hx => by rw [hx] at hk; exact absurd hk (by simp [fiC])
    refine ⟨b, off, ea, Nat.lt_of_lt_of_le q1 hL'.kept.size, hL'.kept.cell q2 (fun hx => ?_)⟩
    rcases hx with hx | hx
    · exact (h2 b off ea hne).1 hx
    · omega
  · exact hL'.kept.block i (h.box i hi).2 (fun hx => by
      rcases hx with hx | hx
      · exact h3 i hi hx
      · have := (h.box i hi).2; omega)
theorem Duo.read_ (h : Duo X w0 w p d e a) (s : ByteArray) (hs : s.size ≤ maxLen) (x : Int) :
    Calls Try.prog 20 #[pt p, .string s, .int .i64 x] w fun r w' => r = .returned (.tuple #[.string (tx (readT d (toL s) x)), .int .i64 (readE d (toL s) x)]) ∧ Duo X w0 w' p (readD d (toL s) x) e a ∧ ∀ i, X i → w'.heap[i]? = w.heap[i]? :=
  h.step fun K hL => liv_read s hs x hL
/-- what is told of a file that is there -/
theorem Ok.told (h : Ok d) {k : Nat} (hk : k < d.L.length) : hasL d.L d.L[k].name = true ∧ sizeN d.L d.L[k].name = d.L[k].bytes.length ∧ looseN d.L d.L[k].name = d.L[k].loose.length ∧ textL d.L d.L[k].name = d.L[k].bytes := by
  have hg := h.rise.get (List.getElem_mem hk)
  refine ⟨hasL_get hg, ?_, ?_, ?_⟩
  · unfold sizeN; rw [hg]
  · unfold looseN; rw [hg]
  · unfold textL; rw [hg]
theorem name_at {L : List FileM} {k : Nat} (hk : k < L.length) {w : World} {a : Option Addr} (h : Sl w a (nameV L)) : ∃ b off, a = some ⟨b, off, none⟩ ∧ b < w.heap.size ∧ w.cell? ⟨b, off + k, none⟩ = some (.string (tx L[k].name)) := by
  obtain ⟨b, off, ea, h1, h2⟩ := h k (by simpa [nameV] using hk)
  refine ⟨b, off, ea, h1, ?_⟩
  rw [h2]
  simp [nameV]
theorem used_succ {L : List FileM} {k : Nat} (hk : k < L.length) : usedL (L.take (k + 1)) = usedL (L.take k) + L[k].bytes.length := by
  unfold usedL
  rw [List.take_add_one, List.getElem?_eq_getElem hk, List.map_append, List.sum_append]
  simp
end Go.Proofs.Ytammmhbkfdmbfaa
