/- Contracts of pairs: both names, how two compare, whom they have. -/
import Derived.Test.YthaancmobpamhaaAA1
import Derived.Test.YthaancmobpamhaaAB0
namespace Go.Proofs.Ythaancmobpamhaa
open Go.RowKit
set_option linter.unusedVariables false

set_option maxHeartbeats 400000 in
theorem all_any (a : Option Addr) (c : Nat) (l : List ByteArray) (w : World) (hr : Sl w a (strs l)) (hf : Fits l) :
    Calls Try.prog 51 #[.slice a l.length c] w fun e w' => e = .returned (.bool (l.all nameB)) ∧ w = w' := by
  have hm := hf.1
  unfold maxLen at hm
  have HR := Lib.hid hr
  have HF := Lib.hid hf
  clear hr hf
  go_enter Try.func51, Try.ntmps51
  go_wp2
  go_loop [7] (fun i => ∃ k : Nat, k ≤ l.length ∧ i = .int .i64 k ∧ Hid ((l.take k).all nameB = true)) (fun i => l.length - (intOf i).toNat)
  case atStart => exact ⟨0, by omega, rfl, by simp [Hid]⟩
  case round =>
    obtain ⟨k, hk, rfl, H⟩ := hrel
    by_cases hlt : k < l.length
    · obtain ⟨b, off, rfl, hbl, hcell⟩ := HR.out.str hlt
      have hsz : l[k].size ≤ maxLen := HF.out.2 _ (List.getElem_mem hlt)
      cases hB : isName l[k].data.toList
      · have HB := Lib.hid (all_not_at nameB l k hlt hB)
        go_wp2_with (go_at_call 65; refine (right_any _ _ hsz).mono ?_; rintro e w' ⟨rfl, rfl⟩)
        go_ret
        exact ⟨retB HB.out.symm, rfl⟩
      · have HB := Lib.hid (all_take_next nameB l k hlt H.out hB)
        go_wp2_with (go_at_call 65; refine (right_any _ _ hsz).mono ?_; rintro e w' ⟨rfl, rfl⟩)
        go_round
        case rel => exact ⟨k + 1, by omega, by go_num, HB⟩
        case measure => simp [intOf]; omega
    · have HB := Lib.hid (all_take_end nameB l k (by omega) H.out)
      go_wp2
      go_ret
      exact ⟨retB HB.out.symm, rfl⟩

def pr (a b : ByteArray) : Value := .agg #[.string a, .string b]
theorem sl_two (w : World) (x y : Value) (t : TypeId) : Sl (w.alloc (.cells #[x, y] t)) (some ⟨w.heap.size, 0, none⟩) [x, y] := fun k hk => by
  refine ⟨_, _, rfl, by simp, ?_⟩
  match k, hk with
  | 0, _ => simp
  | 1, _ => simp

set_option maxHeartbeats 400000 in
theorem pairRight_any (a b : ByteArray) (w : World) (ha : a.size ≤ maxLen) (hb : b.size ≤ maxLen) :
    Calls Try.prog 31 #[pr a b] w fun e w' => e = .returned (.bool (nameB a && nameB b)) ∧ Below w.heap.size w w' := by
  have hall : ∀ t (W : World) (g : Nat), g = W.heap.size → Calls Try.prog 51 #[.slice (some ⟨g, 0, none⟩) 2 2] (W.alloc (.cells #[.string a, .string b] t)) fun e w' => e = .returned (.bool (nameB a && nameB b)) ∧ (W.alloc (.cells #[.string a, .string b] t)) = w' := fun t W g hg => by
    subst hg
    have h := all_any (some ⟨W.heap.size, 0, none⟩) 2 [a, b] _ (sl_two W (.string a) (.string b) t) ⟨by simp [maxLen], by simp [ha, hb]⟩
    simpa using h
  have HA := Lib.hid hall
  clear hall
  unfold pr
  go_enter Try.func31, Try.ntmps31
  go_wp2_with (go_at_call 51; refine (HA.out _ _ _ (by simp)).mono ?_; rintro e w' ⟨rfl, rfl⟩)
  go_ret
  exact ⟨rfl, ((Below.refl _ _).alloc (Nat.le_refl _) _).alloc (by simp) _⟩

set_option maxHeartbeats 400000 in
theorem pairCmp_any (a b c d : ByteArray) (w : World) :
    Calls Try.prog 56 #[pr a b, pr c d] w fun e w' => e = .returned (.int .i64 (cmpP a b c d)) ∧ Below w.heap.size w w' := by
  unfold pr
  have HB : Hid (∀ o o', Below w.heap.size w ((w.alloc o).alloc o')) := fun o o' => ((Below.refl _ _).alloc (Nat.le_refl _) _).alloc (by simp) _
  have hcm : ∀ x y W, Calls Try.prog 68 #[.string x, .string y] W fun e w' => e = .returned (.int .i64 (cmpS x y)) ∧ W = w' := fun x y W => cmp_any x y W
  have HC := Lib.hid hcm
  clear hcm
  cases h : (cmpS a c != 0)
  · have HE : Hid (cmpP a b c d = cmpS b d) := if_pos (by simpa using h)
    go_enter Try.func56, Try.ntmps56
    go_wp2_with (go_at_call 68; refine (HC.out _ _ _).mono ?_; rintro e w' ⟨rfl, rfl⟩)
    go_ret
    exact ⟨retI HE.out.symm, HB.out _ _⟩
  · have HE : Hid (cmpP a b c d = cmpS a c) := if_neg (by simpa using h)
    go_enter Try.func56, Try.ntmps56
    go_wp2_with (go_at_call 68; refine (HC.out _ _ _).mono ?_; rintro e w' ⟨rfl, rfl⟩)
    go_ret
    exact ⟨retI HE.out.symm, HB.out _ _⟩

/-- two texts are the same, as the model asks it -/
def eqS (a b : ByteArray) : Bool := a.toList == b.toList
theorem eqS_iff (a b : ByteArray) : eqS a b = true ↔ a = b := by
  unfold eqS
  rw [beq_iff_eq, ByteArray.toList_eq, ByteArray.toList_eq]
  constructor
  · intro h
    cases a; cases b
    simp at h
    rw [h]
  · intro h; rw [h]

set_option maxHeartbeats 400000 in
theorem pairHas_any (a b s : ByteArray) (w : World) :
    Calls Try.prog 46 #[pr a b, .string s] w fun e w' => e = .returned (.bool (eqS s a || eqS s b)) ∧ Below w.heap.size w w' := by
  unfold pr
  have HB : Hid (∀ o, Below w.heap.size w (w.alloc o)) := fun o => (Below.refl _ _).alloc (Nat.le_refl _) _
  cases h : (s.toList == a.toList)
  · have HE : Hid ((s.toList == b.toList) = (eqS s a || eqS s b)) := by unfold Hid eqS; rw [h]; rfl
    go_enter Try.func46, Try.ntmps46
    go_wp2
    go_ret
    exact ⟨retB HE.out, HB.out _⟩
  · have HE : Hid (true = (eqS s a || eqS s b)) := by unfold Hid eqS; rw [h]; rfl
    go_enter Try.func46, Try.ntmps46
    go_wp2
    go_ret
    exact ⟨retB HE.out, HB.out _⟩

end Go.Proofs.Ythaancmobpamhaa
