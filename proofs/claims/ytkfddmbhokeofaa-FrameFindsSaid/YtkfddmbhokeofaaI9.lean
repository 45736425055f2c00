/- Layer 4's laws, plain mathematics: frames that are cut off, and found; one text of two rows; how many Marks. -/
import Derived.Test.YtkfddmbhokeofaaI8
namespace Go.Proofs.Ytkfddmbhokeofaa
open Go.RowKit
set_option linter.unusedVariables false

/-! ### a text of nothing -/
theorem nextL_nil : nextL [] = .err 43 := by
  have hG : G 0 0 6 [] = 43 := rfl
  have hb : bodyE [] = 43 := by unfold bodyE; rw [hG]; rfl
  rw [nextL_head _ (by omega), hb]

/-! ### frames, one behind the other, cut off -/
theorem flatP_cons (x : Fr) (l : List Fr) : flatP (x :: l) = packT x.1 x.2 ++ flatP l := by simp [flatP]
/-- how many are whole: l.take n is, and the next one is not -/
def Whole (l : List Fr) (cut n : Nat) : Prop := n ≤ l.length ∧ (flatP (l.take n)).length ≤ cut ∧ (n < l.length → cut < (flatP (l.take (n + 1))).length)
theorem Whole.tail {x : Fr} {l : List Fr} {cut n : Nat} (h : Whole (x :: l) cut (n + 1)) : (packT x.1 x.2).length ≤ cut ∧ Whole l (cut - (packT x.1 x.2).length) n := by
  obtain ⟨h1, h2, h3⟩ := h
  rw [List.take_succ_cons, flatP_cons, List.length_append] at h2
  refine ⟨by omega, by simpa using h1, by omega, fun hn => ?_⟩
  have := h3 (by simpa using hn)
  rw [List.take_succ_cons, flatP_cons, List.length_append] at this
  omega
theorem take_over (a b : List UInt8) (n : Nat) (h : a.length ≤ n) : (a ++ b).take n = a ++ b.take (n - a.length) := by
  rw [List.take_append, List.take_of_length_le h]
theorem take_under (a b : List UInt8) (n : Nat) (h : n ≤ a.length) : (a ++ b).take n = a.take n := by
  rw [List.take_append_of_le_length h]
theorem scans_cut : ∀ (l : List Fr) (cut n : Nat), (∀ x ∈ l, packE x.1 x.2 = 0) → cut ≤ (flatP l).length → Whole l cut n → Scans ((flatP l).take cut) (l.take n) (flatP (l.take n)).length
  | [], cut, n, _, hc, h => by
    have : cut = 0 := by simpa [flatP] using hc
    subst this
    simp [flatP]
    exact .done nextL_nil
  | x :: l, cut, 0, hp, hc, h => by
    have h3 := h.2.2 (by simp)
    rw [List.take_succ_cons, List.take_zero, flatP_cons, show flatP [] = [] from rfl, List.append_nil] at h3
    rw [List.take_zero, show flatP [] = [] from rfl, flatP_cons, take_under _ _ _ (by omega)]
    exact .done (nextL_cut (hp x (by simp)) cut (by rw [packT_len] at h3; exact h3))
  | x :: l, cut, n + 1, hp, hc, h => by
    obtain ⟨h1, h2⟩ := h.tail
    rw [flatP_cons, List.length_append] at hc
    have ih := scans_cut l (cut - (packT x.1 x.2).length) n (fun y hy => hp y (by simp [hy])) (by omega) h2
    rw [List.take_succ_cons, flatP_cons, flatP_cons, take_over _ _ _ h1, List.length_append, packT_len]
    refine .step (nextL_pack (hp x (by simp)) _) ?_
    rw [List.drop_left' (packT_len _ _), ← packT_len x.1 x.2]
    exact ih

/-! ### a Mark stands in front alone -/
def noMark (c : UInt8) : Bool := c != 254
theorem noMark_of (p : UInt8 → Bool) (h : ∀ c, p c = true → c ≠ 254) (l : List UInt8) (hl : l.all p = true) : l.all noMark = true := by
  rw [List.all_eq_true] at hl ⊢
  intro c hc
  unfold noMark
  simpa using h c (hl c hc)
theorem packT_marks {k : UInt8} {b : List UInt8} (h : packE k b = 0) : ((packT k b).drop 1).all noMark = true := by
  obtain ⟨h1, h2, h3⟩ := packE_zero h
  have hd : ∀ c : UInt8, isDigB c = true → c ≠ 254 := by intro c hc e; subst e; revert hc; decide
  have hb : ∀ c : UInt8, inBodyB c = true → c ≠ 254 := by intro c hc e; subst e; revert hc; decide
  have hk : noMark k = true := by
    unfold noMark
    have : k ≠ 254 := by intro e; subst e; revert h1; decide
    simpa using this
  rw [pack_parts, show (254 :: midT k b ++ sumT (midT k b)).drop 1 = midT k b ++ sumT (midT k b) by simp]
  unfold midT
  rw [List.all_append, List.all_cons, List.all_append, hk, noMark_of _ hd _ (hexL_dig _ _), noMark_of _ hb _ h3, noMark_of _ hd _ (sumT_dig _)]
  rfl
theorem findTo_add (s : List UInt8) (n : Nat) : ∀ m, findTo s (n + m) = findTo s n ++ findTo (s.drop n) m
  | 0 => by simp [findTo]
  | m + 1 => by
    rw [← Nat.add_assoc, findTo, findTo_add s n m, findTo, List.drop_drop, List.append_assoc]
theorem findTo_none (s : List UInt8) : ∀ n, n ≤ s.length → (s.take n).all noMark = true → findTo s n = []
  | 0, _, _ => rfl
  | n + 1, hn, h => by
    have hlt : n < s.length := by omega
    rw [List.take_add_one, List.getElem?_eq_getElem hlt, List.all_append, Bool.and_eq_true] at h
    have hm : s[n] ≠ 254 := by simpa [noMark] using h.2
    rw [findTo, findTo_none s n (by omega) h.1, List.drop_eq_getElem_cons hlt, mark_next _ _ hm]; rfl
theorem findTo_one {s : List UInt8} {k : UInt8} {b : List UInt8} (h : nextL s = .ok k b) : findTo s 1 = [(k, b)] := by
  rw [findTo, findTo, List.drop_zero, h]; rfl
theorem findTo_pack {k : UInt8} {b : List UInt8} (h : packE k b = 0) (r : List UInt8) : findTo (packT k b ++ r) (14 + b.length) = [(k, b)] := by
  rw [show 14 + b.length = 1 + (13 + b.length) by omega, findTo_add, findTo_one (nextL_pack h r)]
  have hl : ((packT k b ++ r).drop 1).take (13 + b.length) = (packT k b).drop 1 := by
    rw [List.drop_append_of_le_length (by rw [packT_len]; omega), List.take_left' (by rw [List.length_drop, packT_len]; omega)]
  rw [findTo_none _ _ (by rw [List.length_drop, List.length_append, packT_len]; omega) (by rw [hl]; exact packT_marks h)]
  rfl
theorem findTo_short {k : UInt8} {b : List UInt8} (h : packE k b = 0) (c : Nat) (hc : c < 14 + b.length) : findTo ((packT k b).take c) c = [] := by
  cases c with
  | zero => rfl
  | succ c =>
    have hl : ((packT k b).take (c + 1)).length = c + 1 := by rw [List.length_take, packT_len]; omega
    rw [show c + 1 = 1 + c by omega, findTo_add, ← show c + 1 = 1 + c by omega]
    have e1 : findTo ((packT k b).take (c + 1)) 1 = [] := by
      rw [findTo, findTo, List.drop_zero, nextL_cut h (c + 1) hc]; rfl
    have hm := packT_marks h
    rw [e1, findTo_none _ _ (by rw [List.length_drop, hl]; omega) ?_]
    · rfl
    · rw [List.all_eq_true] at hm ⊢
      intro x hx
      have := List.mem_of_mem_take hx
      rw [List.drop_take] at this
      exact hm x (List.mem_of_mem_take this)
theorem find_cut : ∀ (l : List Fr) (cut n : Nat), (∀ x ∈ l, packE x.1 x.2 = 0) → cut ≤ (flatP l).length → Whole l cut n → findTo ((flatP l).take cut) cut = l.take n
  | [], cut, n, _, hc, h => by
    have : cut = 0 := by simpa [flatP] using hc
    subst this
    simp [findTo]
  | x :: l, cut, 0, hp, hc, h => by
    have h3 := h.2.2 (by simp)
    rw [List.take_succ_cons, List.take_zero, flatP_cons, show flatP [] = [] from rfl, List.append_nil, packT_len] at h3
    rw [List.take_zero, flatP_cons, take_under _ _ _ (by rw [packT_len]; omega)]
    exact findTo_short (hp x (by simp)) cut h3
  | x :: l, cut, n + 1, hp, hc, h => by
    obtain ⟨h1, h2⟩ := h.tail
    rw [flatP_cons, List.length_append] at hc
    have ih := find_cut l (cut - (packT x.1 x.2).length) n (fun y hy => hp y (by simp [hy])) (by omega) h2
    have e : cut = 14 + x.2.length + (cut - (packT x.1 x.2).length) := by rw [packT_len] at h1 ⊢; omega
    rw [List.take_succ_cons, flatP_cons, take_over _ _ _ h1]
    generalize cut - (packT x.1 x.2).length = c at *
    rw [e, findTo_add, findTo_pack (hp x (by simp)), List.drop_left' (packT_len _ _), ih]
    rfl
theorem whole_all (l : List Fr) : Whole l (flatP l).length l.length := ⟨Nat.le_refl _, by rw [List.take_of_length_le (Nat.le_refl _)]; exact Nat.le_refl _, fun h => absurd h (by omega)⟩
theorem find_all (l : List Fr) (hp : ∀ x ∈ l, packE x.1 x.2 = 0) : findTo (flatP l) (flatP l).length = l := by
  have := find_cut l (flatP l).length l.length hp (Nat.le_refl _) (whole_all l)
  rwa [List.take_of_length_le (Nat.le_refl _), List.take_of_length_le (Nat.le_refl _)] at this

/-! ### two rows have one text just if they are the same -/
theorem flatP_inj : ∀ (l m : List Fr), (∀ x ∈ l, packE x.1 x.2 = 0) → (∀ x ∈ m, packE x.1 x.2 = 0) → flatP l = flatP m → l = m := fun l m hl hm h => by
  rw [← find_all l hl, ← find_all m hm, h]

/-! ### how many Marks -/
def marks (l : List UInt8) : Nat := (l.filter (fun c => c == 254)).length
theorem marks_none (l : List UInt8) (h : l.all noMark = true) : marks l = 0 := by
  unfold marks
  rw [List.filter_eq_nil_iff.2]
  · rfl
  · intro c hc
    rw [List.all_eq_true] at h
    have := h c hc
    simpa [noMark] using this
theorem marks_pack {k : UInt8} {b : List UInt8} (h : packE k b = 0) : marks (packT k b) = 1 := by
  have e : packT k b = 254 :: (packT k b).drop 1 := by rw [pack_parts]; rfl
  have h0 := marks_none _ (packT_marks h)
  rw [e]
  unfold marks at h0 ⊢
  rw [List.filter_cons_of_pos (by rfl), List.length_cons, h0]
theorem marks_take (l : List UInt8) (j : Nat) (h : j < l.length) : marks (l.take (j + 1)) = marks (l.take j) + (if l[j] = 254 then 1 else 0) := by
  rw [List.take_add_one, List.getElem?_eq_getElem h]
  unfold marks
  rw [List.filter_append, List.length_append]
  congr 1
  simp only [Option.toList]
  by_cases e : l[j] = 254
  · rw [if_pos e, e]; rfl
  · rw [if_neg e, List.filter_cons_of_neg (by simpa using e)]; rfl
theorem marks_le (l : List UInt8) : marks l ≤ l.length := List.length_filter_le _ _

theorem same_self (a b : Option Addr) (ca cb : Nat) (l : List Fr) (w : World) (ha : FrSl w a l) (hb : FrSl w b l) (hla : l.length ≤ maxLen) :
    Calls Try.prog 18 #[.slice a l.length ca, .slice b l.length cb] w fun e w' => e = .returned (.bool true) ∧ Below w.heap.size w w' :=
  (same_any a b ca cb l l w ha hb hla hla).mono fun e w' ⟨h1, h2⟩ => ⟨by rw [h1, decide_eq_true (Eq.refl l)], h2⟩

/-! ### a beginning of a row; the ends of frames -/
theorem sizeFr (W : World) : (sizeOf (Try.prog.elem 39)).run Try.prog W = .ok 2 W := by rfl
theorem add_zero' (a : Addr) : a.add 0 = a := by unfold Addr.add; rw [if_pos rfl]
theorem frames_to (a : Option Addr) (n c h : Nat) (hc : h ≤ c) (W : World) : (Instr.slice 39 (.slice a n c) none (some (.int .i64 (h : Int))) none).run Try.prog W = .ok (.slice a h c) W := by
  rw [run_slice_h W 39 a n c (by kernel_rfl) .i64 h (by omega) (by omega), sizeFr]
  show Result.ok (sliced a 0 h c 2) W = _
  unfold sliced
  congr 2
  split
  · rfl
  · cases a
    · rfl
    · simp [add_zero']
theorem flatP_mono (l : List Fr) (j : Nat) : (flatP (l.take j)).length ≤ (flatP l).length := by
  have : flatP l = flatP (l.take j) ++ flatP (l.drop j) := by
    conv => lhs; rw [← List.take_append_drop j l]
    unfold flatP
    rw [List.flatMap_append]
  rw [this, List.length_append]; omega
/-- up to frame j: as many are whole as n says -/
def Upto (l : List Fr) (cut j n : Nat) : Prop := n ≤ j ∧ (flatP (l.take n)).length ≤ cut ∧ ∀ k, n ≤ k → k < j → cut < (flatP (l.take (k + 1))).length
theorem Upto.start (l : List Fr) (cut : Nat) : Upto l cut 0 0 := ⟨Nat.le_refl _, by simp [flatP], fun k h1 h2 => absurd h2 (by omega)⟩
theorem Upto.whole {l : List Fr} {cut j n : Nat} (h : Upto l cut j n) (he : (flatP (l.take (j + 1))).length ≤ cut) : Upto l cut (j + 1) (j + 1) := ⟨Nat.le_refl _, he, fun k h1 h2 => absurd h2 (by omega)⟩
theorem Upto.torn {l : List Fr} {cut j n : Nat} (h : Upto l cut j n) (he : cut < (flatP (l.take (j + 1))).length) : Upto l cut (j + 1) n := ⟨Nat.le_succ_of_le h.1, h.2.1, fun k h1 h2 => by
  rcases Nat.lt_or_ge k j with h3 | h3
  · exact h.2.2 k h1 h3
  · obtain rfl : k = j := by omega
    exact he⟩
theorem Upto.all {l : List Fr} {cut n : Nat} (h : Upto l cut l.length n) : Whole l cut n := ⟨h.1, h.2.1, fun hn => h.2.2 n (Nat.le_refl _) hn⟩
/-- the contracts of olds and Same, of a row whose length has a name -/
theorem olds_n (a : Option Addr) (c n : Nat) (l : List Fr) (hn : l.length = n) (w : World) (hr : FrSl w a l) (hl : n ≤ 1000000) :
    Calls Try.prog 19 #[.slice a n c] w fun e w' => ∃ a' c', e = .returned (.slice a' n c') ∧ FrSl w' a' l ∧ Below w.heap.size w w' := by
  subst hn
  refine (olds_any a c l w hr hl).mono fun e w' ⟨v, he, ho, hb⟩ => ?_
  obtain ⟨a', c', rfl, _, h⟩ := own_fr ho
  exact ⟨a', c', he, h, hb⟩
theorem same_n (a b : Option Addr) (ca cb n : Nat) (l : List Fr) (hn : l.length = n) (w : World) (ha : FrSl w a l) (hb : FrSl w b l) (hl : n ≤ 1000000) :
    Calls Try.prog 18 #[.slice a n ca, .slice b n cb] w fun e w' => e = .returned (.bool true) ∧ Below w.heap.size w w' := by
  subst hn
  exact same_self a b ca cb l w ha hb (by unfold maxLen; omega)
/-- what the last regions keep: the row that came in, a row of the call's own, and all that was there -/
def RowsK (w : World) (a : Option Addr) (l : List Fr) (b : Option Addr) (m : List Fr) (W : World) : Prop := FrSl W a l ∧ FrSl W b m ∧ Below w.heap.size w W
theorem RowsK.below {w W W' : World} {a b : Option Addr} {l m : List Fr} (h : RowsK w a l b m W) (hb : Below W.heap.size W W') : RowsK w a l b m W' := ⟨h.1.below hb, h.2.1.below hb, h.2.2.trans (hb.mono h.2.2.size)⟩
theorem RowsK.drew {w W : World} {a b : Option Addr} {l m : List Fr} (h : RowsK w a l b m W) : RowsK w a l b m W.drew := h.below ((Below.refl _ _).drew)

/-! ### numbers and texts that came in -/
theorem wf64 {n : Int} (h : (Lit.int .i64 n).wf = true) : -9223372036854775808 ≤ n ∧ n ≤ 9223372036854775807 := by
  have e1 : IntKind.i64.min = -9223372036854775808 := by decide
  have e2 : IntKind.i64.max = 9223372036854775807 := by decide
  have h' : (decide (IntKind.i64.min ≤ n) && decide (n ≤ IntKind.i64.max)) = true := h
  rw [e1, e2, Bool.and_eq_true, decide_eq_true_eq, decide_eq_true_eq] at h'
  exact h'
theorem toL_append (a b : ByteArray) : toL (a ++ b) = toL a ++ toL b := by simp [toL]
theorem slice_to (s : ByteArray) (c : Nat) (h : c ≤ s.size) (W : World) : (Instr.slice 9 (.string s) none (some (.int .i64 (c : Int))) none).run Try.prog W = .ok (.string (s.extract 0 c)) W := by
  rw [run_slice_string_to_if W 9 s .i64 c Try.underlying9, if_pos (by omega)]
  simp

end Go.Proofs.Ytkfddmbhokeofaa
