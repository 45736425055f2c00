/- Contracts: lines written, in the program and in the document's own way. -/
import Derived.Test.YtollhemkjnkalaaGreatDoorD8
namespace Go.Proofs.YtollhemkjnkalaaGreatDoor
open Go.RowKit Go.Shelf
set_option linter.unusedVariables false
set_option maxRecDepth 100000

/-- the bytes of texts, and one for each -/
def lsum : List ByteArray → Nat
  | [] => 0
  | x :: r => x.size + 1 + lsum r
theorem lsum_append (l m : List ByteArray) : lsum (l ++ m) = lsum l + lsum m := by
  induction l with
  | nil => simp [lsum]
  | cons x r ih => simp only [List.cons_append, lsum, ih]; omega
theorem lsum_take (l : List ByteArray) (k : Nat) : lsum (l.take k) ≤ lsum l := by
  have := lsum_append (l.take k) (l.drop k)
  rw [List.take_append_drop] at this
  omega
theorem lsum_at (l : List ByteArray) (k : Nat) (h : k < l.length) : lsum (l.take k) + l[k].size + 1 ≤ lsum l := by
  have := lsum_take l (k + 1)
  rw [List.take_succ_eq_append_getElem h, lsum_append] at this
  simp only [lsum] at this
  omega
theorem joinTail_snoc (sep x : List UInt8) (r : List (List UInt8)) : Lib.joinTail sep (r ++ [x]) = Lib.joinTail sep r ++ (sep ++ x) := by simp [Lib.joinTail]
theorem join_snoc (l : List (List UInt8)) (x : List UInt8) (h : l ≠ []) : Lib.join (l ++ [x]) [32] = Lib.join l [32] ++ [32] ++ x := by
  match l with
  | [] => exact absurd rfl h
  | y :: r =>
    rw [List.cons_append, Lib.join_cons, Lib.join_cons, joinTail_snoc]
    simp
/-- the line of the first k texts -/
def joinTo (l : List ByteArray) (k : Nat) : List UInt8 := Lib.join ((l.take k).map toL) [32]
theorem joinTo_one (l : List ByteArray) (h : 0 < l.length) : tx (joinTo l 1) = tx [] ++ l[0] := by
  unfold joinTo
  rw [List.take_succ_eq_append_getElem h]
  simp only [List.take_zero, List.nil_append, List.map_cons, List.map_nil]
  rw [Lib.join_one]
  conv => rhs; rw [← tx_toL l[0]]
  rw [tx_append]; rfl
theorem joinTo_next (l : List ByteArray) (k : Nat) (h : k < l.length) (hk : 0 < k) : tx (joinTo l (k + 1)) = tx (joinTo l k) ++ ⟨#[32]⟩ ++ l[k] := by
  unfold joinTo
  rw [List.take_succ_eq_append_getElem h, List.map_append]
  simp only [List.map_cons, List.map_nil]
  rw [join_snoc _ _ (by
    intro e
    have := congrArg List.length e
    rw [List.length_map, List.length_take, List.length_nil] at this
    omega)]
  conv => rhs; rw [← tx_toL l[k]]
  rw [show (⟨#[32]⟩ : ByteArray) = tx [32] from rfl, tx_append, tx_append]
theorem joinTo_first (l : List ByteArray) (k : Nat) (h : k < l.length) (hk : ¬ 0 < k) : tx (joinTo l (k + 1)) = tx (joinTo l k) ++ l[k] := by
  have : k = 0 := by omega
  subst this
  exact joinTo_one l h
theorem joinTo_len (l : List ByteArray) : ∀ k, k ≤ l.length → (joinTo l k).length ≤ lsum (l.take k)
  | 0, _ => by simp [joinTo, Lib.join_nil, lsum]
  | k + 1, h => by
    have ih := joinTo_len l k (by omega)
    have e : (tx (joinTo l (k + 1))).size = (joinTo l (k + 1)).length := tx_size _
    have es : (tx (joinTo l k)).size = (joinTo l k).length := tx_size _
    rw [List.take_succ_eq_append_getElem (by omega), lsum_append]
    simp only [lsum]
    by_cases hk : 0 < k
    · rw [joinTo_next l k (by omega) hk] at e
      rw [← e, ByteArray.size_append, ByteArray.size_append]
      have : (⟨#[32]⟩ : ByteArray).size = 1 := rfl
      omega
    · have hk0 : k = 0 := by omega
      subst hk0
      rw [joinTo_one l (by omega)] at e
      rw [← e, ByteArray.size_append]
      have : (tx []).size = 0 := rfl
      omega
theorem all_words (l : List ByteArray) : (l.map toL).all isWord = l.all wordB := by
  rw [List.all_map]; rfl
theorem lineOf_not (l : List ByteArray) (h : l.all wordB = false) : lineOf (l.map toL) = [] := by
  unfold lineOf; rw [all_words, h]; rfl
theorem lineOf_all (l : List ByteArray) (h : l.all wordB = true) : lineOf (l.map toL) = Lib.join (l.map toL) [32] := by
  unfold lineOf; rw [all_words, h]; rfl
theorem joinTo_all (l : List ByteArray) (k : Nat) (h : l.length ≤ k) : joinTo l k = Lib.join (l.map toL) [32] := by unfold joinTo; rw [List.take_of_length_le h]
theorem join_len (l : List ByteArray) : (Lib.join (l.map toL) [32]).length ≤ lsum l := by
  have := joinTo_len l l.length (Nat.le_refl _)
  rwa [joinTo_all l l.length (Nat.le_refl _), List.take_length] at this

theorem joinL_any (a : Option Addr) (c : Nat) (l : List ByteArray) (w : World) (hr : Sl w a (strs l)) (hc : l.length ≤ c) (hb : lsum l ≤ 140737488355328) (hn : l.length ≤ 140737488355328) :
    Calls Tryz.prog 56 #[.slice a l.length c, .string ⟨#[32]⟩] w fun e w' => e = .returned (.string (tx (Lib.join (l.map toL) [32]))) ∧ Below w.heap.size w w' := by
  match l with
  | [] =>
    refine Calls.mono (Any.strings_Join_none Tryz.laysJoin Tryz.joinExtra a c ⟨#[32]⟩ w) ?_
    rintro e w' ⟨rfl, rfl⟩
    exact ⟨rfl, Below.refl _ _⟩
  | x :: r =>
    obtain ⟨b, off, rfl, hbl, _⟩ := hr.str (k := 0) (by simp)
    have h := Any.strings_Join Tryz.laysJoin Tryz.joinExtra b off c (x :: r) ⟨#[32]⟩ w (fun j u hu => by
      have hj : j < (x :: r).length := by
        rcases Nat.lt_or_ge j (x :: r).length with h1 | h1
        · exact h1
        · rw [List.getElem?_eq_none h1] at hu; cases hu
      obtain ⟨b', o', e, _, hc'⟩ := hr.str hj
      cases e
      rw [hc']
      rw [List.getElem?_eq_getElem hj] at hu
      rw [Option.some.inj hu]) hbl hn hc (Nat.le_trans (join_len (x :: r)) hb)
    exact h

set_option maxHeartbeats 400000 in
theorem line_any (a : Option Addr) (c : Nat) (l : List ByteArray) (w : World) (hr : Sl w a (strs l)) (hf : Fits l) (hc : l.length ≤ c) (hb : lsum l ≤ 140737488355328) (hn : l.length ≤ 140737488355328) :
    Calls Tryz.prog 29 #[.slice a l.length c] w fun e w' => e = .returned (.string (tx (lineOf (l.map toL)))) ∧ Below w.heap.size w w' := by
  have HW := Lib.hid (words_any a c l w hr hf)
  have HJ := Lib.hid (joinL_any a c l w hr hc hb hn)
  clear hr hf
  cases h : l.all wordB
  · have HE := Lib.hid (lineOf_not l h)
    rw [h] at HW
    clear h
    go_enter Tryz.func29, Tryz.ntmps29
    go_wp2_with (go_at_call 55; refine HW.out.mono ?_; rintro e w' ⟨rfl, rfl⟩)
    go_ret
    exact ⟨retS (by rw [HE.out]; rfl), Below.refl _ _⟩
  · have HE := Lib.hid (lineOf_all l h)
    rw [h] at HW
    clear h
    go_enter Tryz.func29, Tryz.ntmps29
    go_wp2_with (first | (go_at_call 55; refine HW.out.mono ?_; rintro e w' ⟨rfl, rfl⟩) | (go_at_call 56; refine HJ.out.mono ?_; rintro e w2 ⟨rfl, hB⟩))
    go_ret
    exact ⟨retS (by rw [HE.out]), hB⟩

set_option maxHeartbeats 1000000 in
theorem refLine_any (a : Option Addr) (c : Nat) (l : List ByteArray) (w : World) (hr : Sl w a (strs l)) (hf : Fits l) (hb : lsum l ≤ 140737488355328) :
    Calls Tryz.prog 45 #[.slice a l.length c] w fun e w' => e = .returned (.string (tx (lineOf (l.map toL)))) ∧ w = w' := by
  have hm := hf.1
  unfold maxLen at hm
  have HR := Lib.hid hr
  have HF := Lib.hid hf
  clear hr hf
  go_enter Tryz.func45, Tryz.ntmps45
  go_wp2
  go_loop [3, 4] (fun v i => ∃ k : Nat, k ≤ l.length ∧ i = .int .i64 k ∧ v = .string (tx (joinTo l k)) ∧ Hid ((l.take k).all wordB = true)) (fun _ i => l.length - (intOf i).toNat)
  case atStart => exact ⟨0, by omega, rfl, rfl, by simp [Hid]⟩
  case round =>
    obtain ⟨k, hk, rfl, rfl, H⟩ := hrel
    by_cases hlt : k < l.length
    · obtain ⟨b, off, rfl, hbl, hcell⟩ := HR.out.str hlt
      have hsz : l[k].size ≤ maxLen := HF.out.2 _ (List.getElem_mem hlt)
      have hlen := joinTo_len l k (by omega)
      have hat := lsum_at l k hlt
      have hs1 : (tx (joinTo l k)).size + l[k].size + 1 ≤ 140737488355328 := by rw [tx_size]; omega
      clear hlen hat
      cases hB : wordB l[k]
      · have HB := Lib.hid (lineOf_not l (all_not_at wordB l k hlt hB))
        go_wp2_with (go_at_call 67; refine (refWord_any _ _ hsz).mono ?_; rintro e w' ⟨rfl, rfl⟩)
        go_ret
        exact ⟨retS (by rw [HB.out]; rfl), rfl⟩
      · have HB := Lib.hid (all_take_next wordB l k hlt H.out hB)
        by_cases h0 : 0 < k
        · have HX := Lib.hid (joinTo_next l k hlt h0)
          have h32 : (⟨#[32]⟩ : ByteArray).size = 1 := rfl
          generalize tx (joinTo l k) = out at *
          go_wp2_with (go_at_call 67; refine (refWord_any _ _ hsz).mono ?_; rintro e w' ⟨rfl, rfl⟩)
          go_round
          case rel => exact ⟨k + 1, by omega, by go_num, by rw [HX.out], HB⟩
          case measure => simp [intOf]; omega
        · have HX := Lib.hid (joinTo_first l k hlt h0)
          generalize tx (joinTo l k) = out at *
          go_wp2_with (go_at_call 67; refine (refWord_any _ _ hsz).mono ?_; rintro e w' ⟨rfl, rfl⟩)
          go_round
          case rel => exact ⟨k + 1, by omega, by go_num, by rw [HX.out], HB⟩
          case measure => simp [intOf]; omega
    · have HB := Lib.hid (all_take_end wordB l k (by omega) H.out)
      have HE : Hid (joinTo l k = lineOf (l.map toL)) := by unfold Hid; rw [lineOf_all l HB.out, joinTo_all l k (by omega)]
      go_wp2
      go_ret
      exact ⟨retS (by rw [HE.out]), rfl⟩
end Go.Proofs.YtollhemkjnkalaaGreatDoor
