/- Words for the laws: bytes and sums that came in, operations under a guard, rows that have just been laid; the sum of texts that have just been laid into a row. -/
import Derived.Test.YtollhemkjnkalaaGreatDoorCA
import Derived.IntWalk
namespace Go.Proofs.YtollhemkjnkalaaGreatDoor
open Go.RowKit
set_option linter.unusedVariables false
set_option maxRecDepth 100000

theorem sl_lit_drew (w : World) (xs : Array Value) (t : TypeId) : Sl (w.alloc (.cells xs t)).drew (some ⟨w.heap.size, 0, none⟩) xs.toList := sl_lit w xs t
theorem wf8 {n : Int} (h : (Lit.int .u8 n).wf = true) : ∃ c : Nat, n = c ∧ c < 256 := by
  have e1 : IntKind.u8.min = 0 := by decide
  have e2 : IntKind.u8.max = 255 := by decide
  have h' : (decide (IntKind.u8.min ≤ n) && decide (n ≤ IntKind.u8.max)) = true := h
  rw [e1, e2, Bool.and_eq_true, decide_eq_true_eq, decide_eq_true_eq] at h'
  exact ⟨n.toNat, by omega, by omega⟩
theorem wf32 {n : Int} (h : (Lit.int .u32 n).wf = true) : ∃ c : Nat, n = c ∧ c < 4294967296 := by
  have e1 : IntKind.u32.min = 0 := by decide
  have e2 : IntKind.u32.max = 4294967295 := by decide
  have h' : (decide (IntKind.u32.min ≤ n) && decide (n ≤ IntKind.u32.max)) = true := h
  rw [e1, e2, Bool.and_eq_true, decide_eq_true_eq, decide_eq_true_eq] at h'
  exact ⟨n.toNat, by omega, by omega⟩
/-- an operation under a guard that lets it by is walked as if it had none -/
theorem wpList_unguard {P : Program} {ops : Array Oper} {Q : Exit → Act → World → Prop} {a : Act} {w : World} {rest : List Oper} {o : Oper} (hw : Region.wanted o (yielded ops a.tmps) = true)
    (h : wpList P ops Q ({ o with guard := none } :: rest) a w) : wpList P ops Q (o :: rest) a w := by
  unfold wpList at h ⊢
  rw [if_pos hw]
  rw [if_pos (show Region.wanted { o with guard := none } (yielded ops a.tmps) = true from rfl)] at h
  exact h
theorem strs_one (l : List ByteArray) : ∀ u ∈ strs l, u.oneCell' = true := by
  intro u hu
  simp [strs] at hu
  obtain ⟨a, _, rfl⟩ := hu
  rfl
theorem own_empty (w : World) (e : TypeId) (g : Nat) (hg : g = w.heap.size) : (w.alloc (.cells #[] e)).ownsRow w.heap.size e 1 (.slice (some ⟨g, 0, none⟩) 0 0) 0 [] := by
  subst hg; exact World.ownsRow_made w #[] 0 (Nat.le_refl _) (by decide) (by simp)

/-- the sum, and the digits, of one text that has just been laid into a row -/
theorem sum_one (W : World) (g : Nat) (s : ByteArray) (hs : s.size ≤ maxLen) (hg : g = W.heap.size) :
    Calls Tryz.prog 64 #[.slice (some ⟨g, 0, none⟩) 1 1] (W.alloc (.cells #[.string s] 9)) fun e w' => e = .returned (.int .u32 (sumN (toL s) : Int)) ∧ Below W.heap.size W w' := by
  subst hg
  have h := sum_any (some ⟨W.heap.size, 0, none⟩) 1 [s] (W.alloc (.cells #[.string s] 9)) (sl_lit W #[.string s] 9) ⟨(by simp [maxLen]), fun t ht => by rw [List.mem_singleton] at ht; rw [ht]; exact hs⟩
  rw [flat_one] at h
  refine h.mono fun e w' ⟨h1, h2⟩ => ⟨h1, ((Below.refl _ _).alloc (Nat.le_refl _) _).trans (h2.mono (by rw [size1]; omega))⟩
theorem text_one (W : World) (g : Nat) (s : ByteArray) (hs : s.size ≤ maxLen) (hg : g = W.heap.size) :
    Calls Tryz.prog 42 #[.slice (some ⟨g, 0, none⟩) 1 1] (W.alloc (.cells #[.string s] 9)) fun e w' => e = .returned (.string (textN (sumN (toL s)))) ∧ Below W.heap.size W w' := by
  subst hg
  have h := text_any (some ⟨W.heap.size, 0, none⟩) 1 [s] (W.alloc (.cells #[.string s] 9)) (sl_lit W #[.string s] 9) ⟨(by simp [maxLen]), fun t ht => by rw [List.mem_singleton] at ht; rw [ht]; exact hs⟩
  rw [flat_one] at h
  refine h.mono fun e w' ⟨h1, h2⟩ => ⟨h1, ((Below.refl _ _).alloc (Nat.le_refl _) _).trans (h2.mono (by rw [size1]; omega))⟩
theorem sum_two (W : World) (g : Nat) (s t : ByteArray) (hs : s.size ≤ maxLen) (ht : t.size ≤ maxLen) (hg : g = W.heap.size) :
    Calls Tryz.prog 64 #[.slice (some ⟨g, 0, none⟩) 2 2] (W.alloc (.cells #[.string s, .string t] 9)) fun e w' => e = .returned (.int .u32 (sumN (toL s ++ toL t) : Int)) ∧ Below W.heap.size W w' := by
  subst hg
  have h := sum_any (some ⟨W.heap.size, 0, none⟩) 2 [s, t] (W.alloc (.cells #[.string s, .string t] 9)) (sl_lit W #[.string s, .string t] 9) ⟨(by simp [maxLen]), fun u hu => by
    rcases List.mem_cons.1 hu with h | h
    · rw [h]; exact hs
    · rw [List.mem_singleton.1 h]; exact ht⟩
  rw [flat_two] at h
  refine h.mono fun e w' ⟨h1, h2⟩ => ⟨h1, ((Below.refl _ _).alloc (Nat.le_refl _) _).trans (h2.mono (by rw [size1]; omega))⟩
theorem sum_nil (W : World) : Calls Tryz.prog 64 #[.slice none 0 0] W fun e w' => e = .returned (.int .u32 0) ∧ Below W.heap.size W w' := by
  have h := sum_any none 0 [] W (Sl.nil _ _) ⟨by decide, by simp⟩
  rw [show sumN (flat []) = 0 by decide +kernel] at h
  exact h
end Go.Proofs.YtollhemkjnkalaaGreatDoor
