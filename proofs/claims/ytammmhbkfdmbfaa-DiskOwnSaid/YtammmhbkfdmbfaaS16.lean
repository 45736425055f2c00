/- Contracts of layer 5: Crash. -/
import Derived.Test.YtammmhbkfdmbfaaS15
namespace Go.Proofs.Ytammmhbkfdmbfaa
open Go.RowKit
set_option linter.unusedVariables false

/-! ### rows that are no part of a disk -/
def Out (S : Nat → Prop) (w : World) (a : Option Addr) (xs : List Value) : Prop :=
  ∀ k (h : k < xs.length), ∃ b off, a = some ⟨b, off, none⟩ ∧ b < w.heap.size ∧ ¬ S b ∧ w.cell? ⟨b, off + k, none⟩ = some xs[k]
theorem Out.sl {S : Nat → Prop} {w : World} {a : Option Addr} {xs : List Value} (h : Out S w a xs) : Sl w a xs := fun k hk => by
  obtain ⟨b, off, e, h1, _, h2⟩ := h k hk
  exact ⟨b, off, e, h1, h2⟩
theorem Out.kept {S T : Nat → Prop} {w w' : World} {a : Option Addr} {xs : List Value} (h : Out S w a xs) (k : Kept T w w') (hT : ∀ i, T i → S i) : Out S w' a xs := fun j hj => by
  obtain ⟨b, off, e, h1, h2, h3⟩ := h j hj
  exact ⟨b, off, e, Nat.lt_of_lt_of_le h1 k.size, h2, k.cell h3 (fun e => h2 (hT b e))⟩
theorem Out.below {S : Nat → Prop} {w w' : World} {a : Option Addr} {xs : List Value} (h : Out S w a xs) (k : Below w.heap.size w w') : Out S w' a xs := h.kept (Kept.of_below k S) (fun _ e => e)
theorem Out.grow {S : Nat → Prop} {w w' : World} {a : Option Addr} {xs : List Value} (h : Out S w a xs) (k : Kept S w w') : Out (Grow S w w') w' a xs := fun j hj => by
  obtain ⟨b, off, e, h1, h2, h3⟩ := h j hj
  exact ⟨b, off, e, Nat.lt_of_lt_of_le h1 k.size, fun g => by rcases g with g | g; exact h2 g; omega, k.cell h3 h2⟩
theorem Out.nil (S : Nat → Prop) (w : World) (a : Option Addr) : Out S w a [] := fun k hk => absurd hk (by simp)
theorem Out.of_sl {S : Nat → Prop} {w : World} {a : Option Addr} {xs : List Value} (h : Sl w a xs) (hS : ∀ b o, a = some ⟨b, o, none⟩ → ¬ S b) : Out S w a xs := fun k hk => by
  obtain ⟨b, off, e, h1, h2⟩ := h k hk
  exact ⟨b, off, e, h1, hS b off e, h2⟩
/-- a row that a call has made -/
theorem Out.of_own {S : Nat → Prop} {w0 w : World} {e n : Nat} {v : Value} {xs : List Value} (h : w.ownsRow w0.heap.size e 1 v n xs) (hS : ∀ i, S i → i < w0.heap.size) : ∃ a c, v = .slice a n c ∧ n ≤ c ∧ c ≤ maxLen ∧ Out S w a xs ∧ (a = none → c = 0) := by
  obtain ⟨a, c, h1, h2, h3, h4, h5, h6⟩ := own_slice h
  exact ⟨a, c, h1, h2, h3, Out.of_sl h4 (fun b o e g => by have := h5 b o e; have := hS b g; omega), h6⟩
theorem Out.mono {S S' : Nat → Prop} {w : World} {a : Option Addr} {xs : List Value} (h : Out S w a xs) (hS : ∀ i, S' i → S i) : Out S' w a xs := fun k hk => by
  obtain ⟨b, off, e, h1, h2, h3⟩ := h k hk
  exact ⟨b, off, e, h1, fun g => h2 (hS b g), h3⟩
theorem Out.tail {S : Nat → Prop} {w : World} {b off : Nat} {x : Value} {xs : List Value} (h : Out S w (some ⟨b, off, none⟩) (x :: xs)) : Out S w (some ⟨b, off + 1, none⟩) xs := fun k hk => by
  obtain ⟨b', off', e, h1, h2, h3⟩ := h (k + 1) (by rw [List.length_cons]; omega)
  cases e
  exact ⟨b, off + 1, rfl, h1, h2, by rw [Nat.add_assoc, Nat.add_comm 1 k, h3]; rfl⟩

def intV (l : List Int) : List Value := l.map (.int .i64)
theorem intV_len (l : List Int) : (intV l).length = l.length := by simp [intV]
theorem sizeI (W : World) : (sizeOf (Try.prog.elem 23)).run Try.prog W = .ok 1 W := by kernel_rfl
theorem keep_tail {S : Nat → Prop} {w : World} {b off c : Nat} {x : Int} {r : List Int} (h : Out S w (some ⟨b, off, none⟩) (intV (x :: r))) (hc : r.length + 1 ≤ c) :
    ∃ a2 c2, (∀ W : World, (Instr.slice 23 (.slice (some ⟨b, off, none⟩) (r.length + 1) c) (some (.int .i64 1)) none none).run Try.prog W = .ok (.slice a2 r.length c2) W) ∧ Out S w a2 (intV r) ∧ r.length ≤ c2 ∧ c2 ≤ c := by
  refine ⟨if c = 1 then some ⟨b, off, none⟩ else some ⟨b, off + 1, none⟩, c - 1, fun W => ?_, ?_, by omega, by omega⟩
  · rw [run_slice_l W 23 (some ⟨b, off, none⟩) (r.length + 1) c (by kernel_rfl) .i64 1 (by omega) (by omega), sizeI]
    show Result.ok (sliced (some ⟨b, off, none⟩) 1 (r.length + 1) c 1) W = _
    unfold sliced
    rw [Nat.add_sub_cancel]
    congr 2
  · split
    · have : r = [] := List.eq_nil_of_length_eq_zero (by omega)
      subst this
      exact Out.nil _ _ _
    · exact h.tail

/-! ### the files of a disk that crashes, one by one -/
/-- what the first j files have become -/
def Half (L : List FileM) (keep : List Int) (j : Nat) (pre : List FileM) (r : List Int) : Prop := crashL L keep = pre ++ crashL (L.drop j) r ∧ pre.map (·.name) = (L.take j).map (·.name)
theorem Half.start (L : List FileM) (keep : List Int) : Half L keep 0 [] keep := ⟨by simp, by simp⟩
theorem Half.skip {L : List FileM} {keep : List Int} {j : Nat} {pre : List FileM} {r : List Int} (h : Half L keep j pre r) (hj : j < L.length) (hl : L[j].loose = []) : Half L keep (j + 1) (pre ++ [L[j]]) r := by
  refine ⟨?_, ?_⟩
  · rw [h.1, List.drop_eq_getElem_cons hj, crashL, if_pos hl]
    simp
  · rw [List.map_append, h.2, List.take_add_one, List.getElem?_eq_getElem hj, List.map_append]
    rfl
theorem Half.settle {L : List FileM} {keep : List Int} {j : Nat} {pre : List FileM} {r : List Int} (h : Half L keep j pre r) (hj : j < L.length) (hl : L[j].loose ≠ []) : Half L keep (j + 1) (pre ++ [settleF L[j] (r.headD 0)]) r.tail := by
  refine ⟨?_, ?_⟩
  · rw [h.1, List.drop_eq_getElem_cons hj, crashL, if_neg hl]
    simp
  · rw [List.map_append, h.2, List.take_add_one, List.getElem?_eq_getElem hj, List.map_append]
    rfl
theorem Half.all {L : List FileM} {keep : List Int} {pre : List FileM} {r : List Int} (h : Half L keep L.length pre r) : crashL L keep = pre := by
  rw [h.1, List.drop_length]; simp [crashL]
theorem Half.names {L : List FileM} {keep : List Int} {j : Nat} {pre : List FileM} {r : List Int} (h : Half L keep j pre r) : (pre ++ L.drop j).map (·.name) = L.map (·.name) := by
  rw [List.map_append, h.2, ← List.map_append, List.take_append_drop]
theorem Half.rise {L : List FileM} {keep : List Int} {j : Nat} {pre : List FileM} {r : List Int} (h : Half L keep j pre r) (hr : Rise L) : Rise (pre ++ L.drop j) := rise_names hr h.names
theorem mid_get {pre rest : List FileM} {f : FileM} (h : Rise (pre ++ f :: rest)) : getL (pre ++ f :: rest) f.name = some f := h.get (by simp)
theorem mid_wo {pre rest : List FileM} {f : FileM} (h : Rise (pre ++ f :: rest)) : wo (pre ++ f :: rest) f.name = pre ++ rest := by
  unfold Rise at h
  rw [List.pairwise_append, List.pairwise_cons] at h
  obtain ⟨_, ⟨h2, _⟩, h3⟩ := h
  unfold wo
  rw [List.filter_append, List.filter_cons]
  simp only [bne_self_eq_false, Bool.false_eq_true, if_false]
  congr 1
  · rw [List.filter_eq_self]
    intro g hg
    have := nm_ne (h3 g hg f (by simp))
    simpa using this
  · rw [List.filter_eq_self]
    intro g hg
    have := nm_ne (h2 g hg)
    simpa using fun e => this e.symm
theorem settle_used (f : FileM) (x : Int) : f.bytes.length = (settleF f x).bytes.length + (f.loose.length - kept x f.loose.length) := by
  have hk : kept x f.loose.length ≤ f.loose.length := by unfold kept; omega
  rw [settle_bytes, List.length_take]
  have : f.loose.length ≤ f.bytes.length := by simp [FileM.bytes]
  omega
end Go.Proofs.Ytammmhbkfdmbfaa
