/- Layer 5's laws: the program's disk and the document's, apart: a crash, a file's bytes. -/
import Derived.Test.YtammmhbkfdmbfaaU8
namespace Go.Proofs.Ytammmhbkfdmbfaa
open Go.RowKit
set_option linter.unusedVariables false

variable {K X : Nat → Prop} {w0 w : World} {p : Nat} {d e : DiskM} {a : Option Addr}
/-- whatever is called on the program's disk alone, in its own blocks -/
theorem Duo.stepE (h : Duo X w0 w p d e a) {f : FuncId} {args : Array Value} {r : Value} {P : DiskM → Prop}
    (hc : ∀ K, (∀ i, K i → w0.heap.size ≤ i) → Liv K w w p d → Calls Try.prog f args w fun r' w' => r' = .returned r ∧ ∃ d', P d' ∧ Liv K w w' p d') :
    Calls Try.prog f args w fun r' w' => r' = .returned r ∧ ∃ d', P d' ∧ Duo X w0 w' p d' e a ∧ ∀ i, X i → w'.heap[i]? = w.heap[i]? := by
  obtain ⟨S, hS, h1, h2, h3⟩ := h.ex
  have hL : Liv (fun i => S i ∨ w.heap.size ≤ i) w w p d := ⟨fun i hi => .inr hi, ⟨S, hS, fun i hi => .inl hi⟩, Kept.refl _ _, h.ok⟩
  have hKB : ∀ i, (S i ∨ w.heap.size ≤ i) → w0.heap.size ≤ i := fun i hi => by
    rcases hi with hi | hi
    · exact h1 i hi
    · have := h.below.size; omega
  refine (hc _ hKB hL).mono ?_
  rintro r w' ⟨rfl, d', hp, hL'⟩
  obtain ⟨T, hT, hTK⟩ := hL'.ex
  have hlow : Below w0.heap.size w w' := hL'.kept.below h.below.size hKB
  refine ⟨rfl, d', hp, ⟨⟨T, hT, fun i hi => hKB i (hTK i hi), fun b o' ea hne => ⟨fun ht => ?_, (h2 b o' ea hne).2⟩, fun i hi ht => ?_⟩, ?_, hL'.ok, h.oke, fun i hi => ⟨(h.box i hi).1, Nat.lt_of_lt_of_le (h.box i hi).2 hL'.kept.size⟩, h.below.trans hlow⟩, fun i hi => ?_⟩
  · rcases hTK b ht with hx | hx
    · exact (h2 b o' ea hne).1 hx
    · subst ea
      have := h.row.lt hne
      omega
  · rcases hTK i ht with hx | hx
    · exact h3 i hi hx
    · have := (h.box i hi).2; omega
  · intro k hk
    obtain ⟨b, off, ea, q1, q2⟩ := h.row k hk
    have hne : e.L ≠ [] := fun hx => by rw [hx] at hk; exact absurd hk (by simp [fiC])
    refine ⟨b, off, ea, Nat.lt_of_lt_of_le q1 hL'.kept.size, hL'.kept.cell q2 (fun hx => ?_)⟩
    rcases hx with hx | hx
    · exact (h2 b off ea hne).1 hx
    · omega
  · exact hL'.kept.block i (h.box i hi).2 (fun hx => by
      rcases hx with hx | hx
      · exact h3 i hi hx
      · have := (h.box i hi).2; omega)
theorem Duo.crash_ (h : Duo X w0 w p d e a) (keep : List Int) (ka : Option Addr) (kc : Nat) (hkc : keep.length ≤ kc) (hkm : kc ≤ maxLen) (hl : d.L.length ≤ 1000000) (hs : Sl w0 ka (intV keep)) :
    Calls Try.prog 28 #[pt p, .slice ka keep.length kc] w fun r w' => r = .returned (.tuple #[]) ∧ ∃ d', d' = crashM d keep ∧ Duo X w0 w' p d' e a ∧ ∀ i, X i → w'.heap[i]? = w.heap[i]? :=
  h.stepE fun K hK hL => (liv_crash keep ka kc hkc hkm hL hl (fun S hS _ j hj => by
    obtain ⟨b, off, ea, q1, q2⟩ := hs j hj
    obtain ⟨b', off', ea', q4, q3⟩ := (Sl.below hs h.below) j hj
    cases ea.symm.trans ea'
    exact ⟨b, off, ea, q4, fun hx => by have := hK b (hS b hx).1; omega, q3⟩)).mono fun r w' ⟨h1, h2⟩ => ⟨h1, _, rfl, h2⟩
theorem Duo.bytes_ (h : Duo X w0 w p d e a) (n : Nm) (hn : n.length ≤ 140737488351232) (hd : d.down = false) :
    Calls Try.prog 31 #[pt p, .string (tx n)] w fun r w' => r = .returned (.tuple #[.string (tx (textL d.L n)), .bool (hasL d.L n)]) ∧ ∃ d', (∃ rd, d' = { d with reads := rd }) ∧ Duo X w0 w' p d' e a ∧ ∀ i, X i → w'.heap[i]? = w.heap[i]? :=
  h.stepE fun K hK hL => (bytes_any n hn hd hL).mono fun r w' ⟨h1, rd, h2⟩ => ⟨h1, _, ⟨rd, rfl⟩, h2⟩
/-- a file behind a crash: a beginning of what it was, with all that was safe -/
theorem crash_get : ∀ (L : List FileM) (keep : List Int) (k : Nat) (hk : k < L.length), ∃ (h : k < (crashL L keep).length) (m : Nat), m ≤ L[k].loose.length ∧ (crashL L keep)[k].name = L[k].name ∧ (crashL L keep)[k].loose = [] ∧ (crashL L keep)[k].safe = L[k].safe ++ L[k].loose.take m
  | f :: r, keep, 0, _ => by
    by_cases hf : f.loose = []
    · have e : crashL (f :: r) keep = f :: crashL r keep := by rw [crashL, if_pos hf]
      simp only [e]
      exact ⟨by simp, 0, Nat.zero_le _, rfl, hf, by simp⟩
    · have e : crashL (f :: r) keep = settleF f (keep.headD 0) :: crashL r keep.tail := by rw [crashL, if_neg hf]
      simp only [e]
      exact ⟨by simp, kept (keep.headD 0) f.loose.length, by unfold kept; exact Nat.min_le_right _ _, rfl, rfl, rfl⟩
  | f :: r, keep, k + 1, hk => by
    by_cases hf : f.loose = []
    · have e : crashL (f :: r) keep = f :: crashL r keep := by rw [crashL, if_pos hf]
      simp only [e]
      obtain ⟨q, m, h1⟩ := crash_get r keep k (by simpa using hk)
      exact ⟨by simpa using q, m, by simpa using h1⟩
    · have e : crashL (f :: r) keep = settleF f (keep.headD 0) :: crashL r keep.tail := by rw [crashL, if_neg hf]
      simp only [e]
      obtain ⟨q, m, h1⟩ := crash_get r keep.tail k (by simpa using hk)
      exact ⟨by simpa using q, m, by simpa using h1⟩
theorem crash_none : ∀ (L : List FileM) (keep : List Int), (∀ f ∈ L, f.loose = []) → crashL L keep = L
  | [], _, _ => rfl
  | f :: r, keep, h => by rw [crashL, if_pos (h f (by simp)), crash_none r keep (fun g hg => h g (List.mem_cons_of_mem _ hg))]
theorem crash_all (L : List FileM) (keep : List Int) : ∀ f ∈ crashL L keep, f.loose = [] := fun f hf => by
  obtain ⟨k, hk, rfl⟩ := List.mem_iff_getElem.1 hf
  obtain ⟨_, m, _, _, h, _⟩ := crash_get L keep k (by rw [crashL_len] at hk; exact hk)
  exact h
/-- what is told of a file behind a crash -/
theorem crash_told {d : DiskM} (h : Ok d) (keep : List Int) {k : Nat} (hk : k < d.L.length) : ∃ m, m ≤ d.L[k].loose.length ∧ hasL (crashM d keep).L d.L[k].name = true ∧ looseN (crashM d keep).L d.L[k].name = 0 ∧ textL (crashM d keep).L d.L[k].name = d.L[k].safe ++ d.L[k].loose.take m := by
  obtain ⟨q, m, h1, h2, h3, h4⟩ := crash_get d.L keep k hk
  obtain ⟨t1, _, t3, t4⟩ := (h.crash keep).told (k := k) q
  refine ⟨m, h1, ?_⟩
  have e : (crashM d keep).L[k].name = d.L[k].name := h2
  rw [e] at t1 t3 t4
  refine ⟨t1, ?_, ?_⟩
  · rw [t3]
    show (crashL d.L keep)[k].loose.length = 0
    rw [h3]; rfl
  · rw [t4]
    show (crashL d.L keep)[k].safe ++ (crashL d.L keep)[k].loose = _
    rw [h3, h4, List.append_nil]
end Go.Proofs.Ytammmhbkfdmbfaa
