/- Layer 3: words for the laws: the table that a law keeps beside its calls; bytes and sums that came in. -/
import Derived.Test.YtmcjpncipinlkaaC8
import Derived.IntWalk
namespace Go.Proofs.Ytmcjpncipinlkaa
open Go.RowKit
set_option linter.unusedVariables false

/-- the table lies at tb; what was there at the beginning is as it was -/
def TabKs (w : World) (tb : Nat) (w' : World) : Prop := TabAt w' tb ∧ Below w.heap.size w w'
theorem TabKs.below {w w1 w2 : World} {tb : Nat} (h : TabKs w tb w1) (hb : Below w1.heap.size w1 w2) : TabKs w tb w2 := ⟨h.1.below hb, h.2.trans (hb.mono h.2.size)⟩
theorem TabKs.drew {w w1 : World} {tb : Nat} (h : TabKs w tb w1) : TabKs w tb w1.drew := h.below ((Below.refl _ _).drew)
theorem TabKs.new {w w1 : World} (h : Below w.heap.size w w1) : TabKs w w1.heap.size (w1.alloc (.cells tab 23)) := ⟨TabAt.new w1, h.alloc h.size _⟩
theorem TabKs.belowH {w w1 w2 : World} {tb : Nat} {p : Prop} (h : p ∧ TabKs w tb w1) (hb : Below w1.heap.size w1 w2) : TabKs w tb w2 := h.2.below hb
theorem TabKs.belowH4 {w w1 w2 : World} {tb : Nat} {p q r s : Prop} (h : p ∧ q ∧ r ∧ s ∧ TabKs w tb w1) (hb : Below w1.heap.size w1 w2) : TabKs w tb w2 := h.2.2.2.2.below hb
theorem wf8 {n : Int} (h : (Lit.int .u8 n).wf = true) : ∃ c : Nat, n = c ∧ c < 256 := by
  have e1 : IntKind.u8.min = 0 := by decide
  have e2 : IntKind.u8.max = 255 := by decide
  have h' : (decide (IntKind.u8.min ≤ n) && decide (n ≤ IntKind.u8.max)) = true := h
  rw [e1, e2, Bool.and_eq_true, decide_eq_true_eq, decide_eq_true_eq] at h'
  exact ⟨n.toNat, by omega, by omega⟩
theorem wf32 {n : Int} (h : (Lit.int .u32 n).wf = true) : ∃ c : Nat, n = c ∧ c < 4294967296 := by
  have e1 : IntKind.u32.min = 0 := by decide
  have e2 : IntKind.u32.max = 4294967295 := by decide
  have h' : (decide (IntKind.u32.min ≤ n) && decide (n ≤ IntKind.u32.max)) = true := h
  rw [e1, e2, Bool.and_eq_true, decide_eq_true_eq, decide_eq_true_eq] at h'
  exact ⟨n.toNat, by omega, by omega⟩
/-- an operation under a guard that lets it by is walked as if it had none -/
theorem wpList_unguard {P : Program} {ops : Array Oper} {Q : Exit → Act → World → Prop} {a : Act} {w : World} {rest : List Oper} {o : Oper} (hw : Region.wanted o (yielded ops a.tmps) = true)
    (h : wpList P ops Q ({ o with guard := none } :: rest) a w) : wpList P ops Q (o :: rest) a w := by
  unfold wpList at h ⊢
  rw [if_pos hw]
  rw [if_pos (show Region.wanted { o with guard := none } (yielded ops a.tmps) = true from rfl)] at h
  exact h
theorem strs_one (l : List ByteArray) : ∀ u ∈ strs l, u.oneCell' = true := by
  intro u hu
  simp [strs] at hu
  obtain ⟨a, _, rfl⟩ := hu
  rfl
theorem own_empty (w : World) (e : TypeId) (g : Nat) (hg : g = w.heap.size) : (w.alloc (.cells #[] e)).ownsRow w.heap.size e 1 (.slice (some ⟨g, 0, none⟩) 0 0) 0 [] := by
  subst hg; exact World.ownsRow_made w #[] 0 (Nat.le_refl _) (by decide) (by simp)

/-- the sum, and the digits, of one text that has just been laid into a row -/
theorem sum_one (W : World) (g : Nat) (s : ByteArray) (hs : s.size ≤ maxLen) (hg : g = W.heap.size) :
    Calls Try.prog 15 #[.slice (some ⟨g, 0, none⟩) 1 1] (W.alloc (.cells #[.string s] 9)) fun e w' => e = .returned (.int .u32 (sumN (toL s) : Int)) ∧ Below W.heap.size W w' := by
  subst hg
  have h := sum_any (some ⟨W.heap.size, 0, none⟩) 1 [s] (W.alloc (.cells #[.string s] 9)) (sl_lit W #[.string s] 9) ⟨(by simp [maxLen]), fun t ht => by rw [List.mem_singleton] at ht; rw [ht]; exact hs⟩
  rw [flat_one] at h
  refine h.mono fun e w' ⟨h1, h2⟩ => ⟨h1, ((Below.refl _ _).alloc (Nat.le_refl _) _).trans (h2.mono (by rw [size1]; omega))⟩
theorem text_one (W : World) (g : Nat) (s : ByteArray) (hs : s.size ≤ maxLen) (hg : g = W.heap.size) :
    Calls Try.prog 16 #[.slice (some ⟨g, 0, none⟩) 1 1] (W.alloc (.cells #[.string s] 9)) fun e w' => e = .returned (.string (textN (sumN (toL s)))) ∧ Below W.heap.size W w' := by
  subst hg
  have h := text_any (some ⟨W.heap.size, 0, none⟩) 1 [s] (W.alloc (.cells #[.string s] 9)) (sl_lit W #[.string s] 9) ⟨(by simp [maxLen]), fun t ht => by rw [List.mem_singleton] at ht; rw [ht]; exact hs⟩
  rw [flat_one] at h
  refine h.mono fun e w' ⟨h1, h2⟩ => ⟨h1, ((Below.refl _ _).alloc (Nat.le_refl _) _).trans (h2.mono (by rw [size1]; omega))⟩
theorem sum_two (W : World) (g : Nat) (s t : ByteArray) (hs : s.size ≤ maxLen) (ht : t.size ≤ maxLen) (hg : g = W.heap.size) :
    Calls Try.prog 15 #[.slice (some ⟨g, 0, none⟩) 2 2] (W.alloc (.cells #[.string s, .string t] 9)) fun e w' => e = .returned (.int .u32 (sumN (toL s ++ toL t) : Int)) ∧ Below W.heap.size W w' := by
  subst hg
  have h := sum_any (some ⟨W.heap.size, 0, none⟩) 2 [s, t] (W.alloc (.cells #[.string s, .string t] 9)) (sl_lit W #[.string s, .string t] 9) ⟨(by simp [maxLen]), fun u hu => by
    rcases List.mem_cons.1 hu with h | h
    · rw [h]; exact hs
    · rw [List.mem_singleton.1 h]; exact ht⟩
  rw [flat_two] at h
  refine h.mono fun e w' ⟨h1, h2⟩ => ⟨h1, ((Below.refl _ _).alloc (Nat.le_refl _) _).trans (h2.mono (by rw [size1]; omega))⟩
theorem sum_nil (W : World) : Calls Try.prog 15 #[.slice none 0 0] W fun e w' => e = .returned (.int .u32 0) ∧ Below W.heap.size W w' := by
  have h := sum_any none 0 [] W (Sl.nil _ _) ⟨by decide, by simp⟩
  rw [show sumN (flat []) = 0 by decide +kernel] at h
  exact h
theorem ones_ones (n : Nat) : 4294967295 ^^^ (4294967295 ^^^ n) = n := by rw [← Nat.xor_assoc, Nat.xor_self, Nat.zero_xor]
theorem sumN_snoc (l : List UInt8) (c : UInt8) : sumN (l ++ [c]) = 4294967295 ^^^ stepN (4294967295 ^^^ sumN l) c.toNat := by
  unfold sumN
  rw [goN_snoc, ones_ones]
end Go.Proofs.Ytmcjpncipinlkaa
