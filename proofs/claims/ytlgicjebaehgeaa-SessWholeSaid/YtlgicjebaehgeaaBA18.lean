/- Layer 10's laws: contracts in the form in which a law calls. -/
import Derived.Test.YtlgicjebaehgeaaBA7
import Derived.Test.YtlgicjebaehgeaaBA8
import Derived.Test.YtlgicjebaehgeaaBA13
import Derived.Test.YtlgicjebaehgeaaBA15
import Derived.Test.YtlgicjebaehgeaaBA17
import Derived.Test.YtlgicjebaehgeaaZ5
namespace Go.Proofs.Ytlgicjebaehgeaa
open Go.RowKit
set_option linter.unusedVariables false
set_option maxRecDepth 100000

theorem o_news (a : Option Addr) (c : Nat) (l : List OpM) (W : World) (h : OpSl W a l) (hl : l.length ≤ 1000) : Calls Try.prog 11 #[.slice a l.length c] W fun e w' => ∃ x q, e = .returned (.slice x l.length q) ∧ l.length ≤ q ∧ q ≤ maxLen ∧ (x = none → q = 0) ∧ OpSl w' x l ∧ Below W.heap.size W w' := by
  refine (onews_any a c l W h (by omega)).mono ?_
  rintro e w' ⟨v, rfl, ho, hb⟩
  obtain ⟨x, q, rfl, h1, h2, h3, h4⟩ := own_op ho
  exact ⟨x, q, rfl, h1, h2, h4, h3, hb⟩
theorem o_olds (a : Option Addr) (c : Nat) (l : List OpM) (W : World) (h : OpSl W a l) (hl : l.length ≤ 1000) : Calls Try.prog 15 #[.slice a l.length c] W fun e w' => ∃ x q, e = .returned (.slice x l.length q) ∧ l.length ≤ q ∧ q ≤ maxLen ∧ (x = none → q = 0) ∧ OpSl w' x l ∧ Below W.heap.size W w' := by
  refine (oolds_any a c l W h (by omega)).mono ?_
  rintro e w' ⟨v, rfl, ho, hb⟩
  obtain ⟨x, q, rfl, h1, h2, h3, h4⟩ := own_op ho
  exact ⟨x, q, rfl, h1, h2, h4, h3, hb⟩
theorem o_without (a : Option Addr) (c : Nat) (l : List OpM) (s : ByteArray) (W : World) (h : OpSl W a l) (hl : l.length ≤ 1000) : Calls Try.prog 32 #[.slice a l.length c, .string s] W fun e w' => ∃ x q, e = .returned (.slice x (l.filter (notU s)).length q) ∧ (l.filter (notU s)).length ≤ q ∧ q ≤ maxLen ∧ (x = none → q = 0) ∧ OpSl w' x (l.filter (notU s)) ∧ Below W.heap.size W w' := by
  refine (owithout_any a c l s W h (by omega)).mono ?_
  rintro e w' ⟨v, rfl, ho, hb⟩
  obtain ⟨x, q, rfl, h1, h2, h3, h4⟩ := own_op ho
  exact ⟨x, q, rfl, h1, h2, h4, h3, hb⟩
theorem o_rwithout (a : Option Addr) (c : Nat) (l : List OpM) (s : ByteArray) (W : World) (h : OpSl W a l) (hl : l.length ≤ 1000) : Calls Try.prog 33 #[.slice a l.length c, .string s] W fun e w' => ∃ x q, e = .returned (.slice x (l.filter (notU s)).length q) ∧ (l.filter (notU s)).length ≤ q ∧ q ≤ maxLen ∧ (x = none → q = 0) ∧ OpSl w' x (l.filter (notU s)) ∧ Below W.heap.size W w' := by
  refine (rwithout_any a c l s W h (by omega)).mono ?_
  rintro e w' ⟨v, rfl, ho, hb⟩
  obtain ⟨x, q, rfl, h1, h2, h3, h4⟩ := own_op ho
  exact ⟨x, q, rfl, h1, h2, h4, h3, hb⟩
theorem o_open (a : Option Addr) (c : Nat) (l : List OpM) (e0 : OpM) (W : World) (h : OpSl W a l) (hn : a = none → c = 0) (hl : l.length ≤ 500) (hc : l.length ≤ c) (hcm : c ≤ maxLen) : Calls Try.prog 12 #[.slice a l.length c, .agg #[.int .i64 e0.n, .string e0.u, .int .i64 e0.s, .int .i64 e0.f]] W fun e w' => ∃ x q, e = .returned (.tuple #[.slice x (openR l e0).length q, .int .i64 (openC l e0)]) ∧ (openR l e0).length ≤ q ∧ q ≤ maxLen ∧ (x = none → q = 0) ∧ OpSl w' x (openR l e0) ∧ Below W.heap.size W w' := by
  refine (open_any a c l e0 W h hn hl hc hcm).mono ?_
  rintro e w' ⟨v, rfl, x, q, rfl, h1, h2, h3, h4, h5⟩
  exact ⟨x, q, rfl, h1, h2, h3, h4, h5⟩
theorem o_ropen (a : Option Addr) (c : Nat) (l : List OpM) (e0 : OpM) (W : World) (h : OpSl W a l) (hn : a = none → c = 0) (hl : l.length ≤ 500) (hc : l.length ≤ c) (hcm : c ≤ maxLen) : Calls Try.prog 13 #[.slice a l.length c, .agg #[.int .i64 e0.n, .string e0.u, .int .i64 e0.s, .int .i64 e0.f]] W fun e w' => ∃ x q, e = .returned (.tuple #[.slice x (openR l e0).length q, .int .i64 (openC l e0)]) ∧ (openR l e0).length ≤ q ∧ q ≤ maxLen ∧ (x = none → q = 0) ∧ OpSl w' x (openR l e0) ∧ Below W.heap.size W w' := by
  refine (ropen_any a c l e0 W h hn hl hc hcm).mono ?_
  rintro e w' ⟨v, rfl, x, q, rfl, h1, h2, h3, h4, h5⟩
  exact ⟨x, q, rfl, h1, h2, h3, h4, h5⟩
theorem o_change (a : Option Addr) (c : Nat) (l : List OpM) (n : Int) (u : ByteArray) (s t : Int) (W : World) (h : OpSl W a l) (hl : l.length ≤ 500) (hc : l.length ≤ c) (hcm : c ≤ maxLen) : Calls Try.prog 18 #[.slice a l.length c, .int .i64 n, .string u, .int .i64 s, .int .i64 t] W fun e w' => ∃ x q, e = .returned (.tuple #[.slice x (chgR l n u s t).length q, .agg #[.int .i64 (fndS l n u t).f, .int .i64 (fndS l n u t).t, .int .i64 (fndS l n u t).n, .int .i64 (fndS l n u t).s], .int .i64 (findC l n u)]) ∧ (chgR l n u s t).length ≤ q ∧ q ≤ maxLen ∧ (x = none → q = 0) ∧ OpSl w' x (chgR l n u s t) ∧ Below W.heap.size W w' := by
  refine (change_any a c l n u s t W h hl hc hcm).mono ?_
  rintro e w' ⟨v, rfl, x, q, rfl, h1, h2, h3, h4, h5⟩
  exact ⟨x, q, rfl, h1, h2, h3, h4, h5⟩
theorem o_rchange (a : Option Addr) (c : Nat) (l : List OpM) (n : Int) (u : ByteArray) (s t : Int) (W : World) (h : OpSl W a l) (hl : l.length ≤ 500) (hc : l.length ≤ c) (hcm : c ≤ maxLen) : Calls Try.prog 19 #[.slice a l.length c, .int .i64 n, .string u, .int .i64 s, .int .i64 t] W fun e w' => ∃ x q, e = .returned (.tuple #[.slice x (chgR l n u s t).length q, .agg #[.int .i64 (fndS l n u t).f, .int .i64 (fndS l n u t).t, .int .i64 (fndS l n u t).n, .int .i64 (fndS l n u t).s], .int .i64 (findC l n u)]) ∧ (chgR l n u s t).length ≤ q ∧ q ≤ maxLen ∧ (x = none → q = 0) ∧ OpSl w' x (chgR l n u s t) ∧ Below W.heap.size W w' := by
  refine (rchange_any a c l n u s t W h hl hc hcm).mono ?_
  rintro e w' ⟨v, rfl, x, q, rfl, h1, h2, h3, h4, h5⟩
  exact ⟨x, q, rfl, h1, h2, h3, h4, h5⟩
theorem o_close (a : Option Addr) (c : Nat) (l : List OpM) (n : Int) (u : ByteArray) (t : Int) (W : World) (h : OpSl W a l) (hl : l.length ≤ 500) (hc : l.length ≤ c) (hcm : c ≤ maxLen) : Calls Try.prog 23 #[.slice a l.length c, .int .i64 n, .string u, .int .i64 t] W fun e w' => ∃ x q, e = .returned (.tuple #[.slice x (cloR l n u).length q, .agg #[.int .i64 (fndS l n u t).f, .int .i64 (fndS l n u t).t, .int .i64 (fndS l n u t).n, .int .i64 (fndS l n u t).s], .int .i64 (findC l n u)]) ∧ (cloR l n u).length ≤ q ∧ q ≤ maxLen ∧ (x = none → q = 0) ∧ OpSl w' x (cloR l n u) ∧ Below W.heap.size W w' := by
  refine (close_any a c l n u t W h hl hc hcm).mono ?_
  rintro e w' ⟨v, rfl, x, q, rfl, h1, h2, h3, h4, h5⟩
  exact ⟨x, q, rfl, h1, h2, h3, h4, h5⟩
theorem o_rclose (a : Option Addr) (c : Nat) (l : List OpM) (n : Int) (u : ByteArray) (t : Int) (W : World) (h : OpSl W a l) (hl : l.length ≤ 500) : Calls Try.prog 24 #[.slice a l.length c, .int .i64 n, .string u, .int .i64 t] W fun e w' => ∃ x q, e = .returned (.tuple #[.slice x (cloR l n u).length q, .agg #[.int .i64 (fndS l n u t).f, .int .i64 (fndS l n u t).t, .int .i64 (fndS l n u t).n, .int .i64 (fndS l n u t).s], .int .i64 (findC l n u)]) ∧ (cloR l n u).length ≤ q ∧ q ≤ maxLen ∧ (x = none → q = 0) ∧ OpSl w' x (cloR l n u) ∧ Below W.heap.size W w' := by
  refine (rclose_any a c l n u t W h hl).mono ?_
  rintro e w' ⟨v, rfl, x, q, rfl, h1, h2, h3, h4, h5⟩
  exact ⟨x, q, rfl, h1, h2, h3, h4, h5⟩
theorem o_find (a : Option Addr) (c : Nat) (l : List OpM) (n : Int) (u : ByteArray) (W : World) (h : OpSl W a l) (hl : l.length ≤ 1000) : Calls Try.prog 20 #[.slice a l.length c, .int .i64 n, .string u] W fun e w' => e = .returned (.tuple #[.agg #[.int .i64 (findE l n u).n, .string (findE l n u).u, .int .i64 (findE l n u).s, .int .i64 (findE l n u).f], .int .i64 (findC l n u)]) ∧ Below W.heap.size W w' := Find_any a c l n u W h (by omega)
theorem o_rfind (a : Option Addr) (c : Nat) (l : List OpM) (n : Int) (u : ByteArray) (W : World) (h : OpSl W a l) (hl : l.length ≤ 1000) : Calls Try.prog 21 #[.slice a l.length c, .int .i64 n, .string u] W fun e w' => e = .returned (.tuple #[.agg #[.int .i64 (findE l n u).n, .string (findE l n u).u, .int .i64 (findE l n u).s, .int .i64 (findE l n u).f], .int .i64 (findC l n u)]) ∧ Below W.heap.size W w' := rFind_any a c l n u W h (by omega)
theorem o_stays (a : Option Addr) (c : Nat) (l : List OpM) (u : ByteArray) (t : Int) (W : World) (h : OpSl W a l) (hl : l.length ≤ 1000) : Calls Try.prog 27 #[.slice a l.length c, .string u, .int .i64 t] W fun e w' => ∃ x q, e = .returned (.slice x (staysO l u t).length q) ∧ (staysO l u t).length ≤ q ∧ q ≤ maxLen ∧ (x = none → q = 0) ∧ StSl w' x (staysO l u t) ∧ Below W.heap.size W w' := by
  refine (ostays_any a c l u t W h hl).mono ?_
  rintro e w' ⟨v, rfl, ho, hb⟩
  obtain ⟨x, q, rfl, h1, h2, h3, h4⟩ := own_st ho
  exact ⟨x, q, rfl, h1, h2, h4, h3, hb⟩
theorem o_rstays (a : Option Addr) (c : Nat) (l : List OpM) (u : ByteArray) (t : Int) (W : World) (h : OpSl W a l) (hl : l.length ≤ 1000) : Calls Try.prog 28 #[.slice a l.length c, .string u, .int .i64 t] W fun e w' => ∃ x q, e = .returned (.slice x (staysO l u t).length q) ∧ StSl w' x (staysO l u t) ∧ Below W.heap.size W w' := rstays_any a c l u t W h hl
theorem o_users (a : Option Addr) (c : Nat) (l : List OpM) (W : World) (h : OpSl W a l) (hl : l.length ≤ 1000) : Calls Try.prog 30 #[.slice a l.length c] W fun e w' => ∃ x q, e = .returned (.slice x (srt (usO l)).length q) ∧ Sl w' x (strs (srt (usO l))) ∧ Below W.heap.size W w' := by
  refine (ousers_any a c l W h (by omega)).mono ?_
  rintro e w' ⟨v, rfl, ho, hb⟩
  obtain ⟨x, q, rfl, h1, h2, h3, h4⟩ := own_slice ho
  exact ⟨x, q, rfl, h3, hb⟩
theorem o_rusers (a : Option Addr) (c : Nat) (l : List OpM) (W : World) (h : OpSl W a l) (hs : SzO l) (hl : l.length ≤ 1000) : Calls Try.prog 31 #[.slice a l.length c] W fun e w' => ∃ x q, e = .returned (.slice x (srt (usO l)).length q) ∧ Sl w' x (strs (srt (usO l))) ∧ Below W.heap.size W w' := rusers_any a c l W h hs (by omega)
theorem o_rising (a : Option Addr) (c : Nat) (l : List OpM) (W : World) (h : OpSl W a l) (hs : SzO l) (hl : l.length ≤ 1000) : Calls Try.prog 17 #[.slice a l.length c] W fun e w' => e = .returned (.bool (decide (RiseO l))) ∧ Below W.heap.size W w' := orising_any a c l W h hs (by omega)
theorem o_rrising (a : Option Addr) (c : Nat) (l : List OpM) (W : World) (h : OpSl W a l) (hs : SzO l) (hl : l.length ≤ 1000) : Calls Try.prog 16 #[.slice a l.length c] W fun e w' => e = .returned (.bool (decide (RiseO l))) ∧ Below W.heap.size W w' := rrising_any a c l W h hs (by omega)
theorem o_same (a b : Option Addr) (c q : Nat) (l m : List OpM) (W : World) (ha : OpSl W a l) (hb : OpSl W b m) (hl : l.length ≤ 1000) (hm : m.length ≤ 1000) : Calls Try.prog 34 #[.slice a l.length c, .slice b m.length q] W fun e w' => e = .returned (.bool (decide (l = m))) ∧ Below W.heap.size W w' :=
  osame_any a b c q l m W ha hb (by unfold maxLen; omega) (by unfold maxLen; omega)
theorem o_rsame (a b : Option Addr) (c q : Nat) (l m : List OpM) (W : World) (ha : OpSl W a l) (hb : OpSl W b m) (hl : l.length ≤ 1000) (hm : m.length ≤ 1000) : Calls Try.prog 14 #[.slice a l.length c, .slice b m.length q] W fun e w' => e = .returned (.bool (decide (l = m))) ∧ Below W.heap.size W w' :=
  orefSame_any a b c q l m W ha hb (by unfold maxLen; omega) (by unfold maxLen; omega)
theorem o_rsame1 (a b : Option Addr) (c q : Nat) (l : List OpM) (W : World) (ha : OpSl W a l) (hb : OpSl W b l) (hl : l.length ≤ 1000) : Calls Try.prog 14 #[.slice a l.length c, .slice b l.length q] W fun e w' => e = .returned (.bool true) ∧ Below W.heap.size W w' := by
  have h := o_rsame a b c q l l W ha hb hl hl
  rw [decide_eq_true rfl] at h
  exact h
theorem o_old (x : StM) (W : World) : Calls Try.prog 22 #[.agg #[.int .i64 x.f, .int .i64 x.t, .int .i64 x.n, .int .i64 x.s]] W fun e w' => e = .returned (.agg #[.int .i64 x.f, .int .i64 x.t, .int .i64 x.n, .int .i64 x.s]) ∧ Below W.heap.size W w' :=
  (old_any x W).mono fun e w' (h : _ ∧ Grew W w') => And.intro h.1 (h.2.below (Nat.le_refl _))
theorem o_solds (a : Option Addr) (c : Nat) (l : List StM) (W : World) (h : StSl W a l) (hl : l.length ≤ 1000) : Calls Try.prog 26 #[.slice a l.length c] W fun e w' => ∃ x q, e = .returned (.slice x l.length q) ∧ l.length ≤ q ∧ q ≤ maxLen ∧ (x = none → q = 0) ∧ StSl w' x l ∧ Below W.heap.size W w' := by
  refine (solds_any a c l W h (by omega)).mono ?_
  rintro e w' ⟨v, rfl, ho, hb⟩
  obtain ⟨x, q, rfl, h1, h2, h3, h4⟩ := own_st ho
  exact ⟨x, q, rfl, h1, h2, h4, h3, hb⟩
theorem o_ssame (a b : Option Addr) (c q : Nat) (l : List StM) (W : World) (ha : StSl W a l) (hb : StSl W b l) (hl : l.length ≤ 1000) : Calls Try.prog 25 #[.slice a l.length c, .slice b l.length q] W fun e w' => e = .returned (.bool true) ∧ Below W.heap.size W w' := by
  have h := srefSame_any a b c q l l W ha hb (by unfold maxLen; omega) (by unfold maxLen; omega)
  rw [decide_eq_true rfl] at h
  exact h

set_option maxHeartbeats 1000000 in
theorem tsame_any (a b : Option Addr) (c d : Nat) (l m : List ByteArray) (w : World) (hl : Sl w a (strs l)) (hm : Sl w b (strs m)) (fl : l.length ≤ 1048576) (fm : m.length ≤ 1048576) :
    Calls Try.prog 29 #[.slice a l.length c, .slice b m.length d] w fun e w' => e = .returned (.bool (decide (l = m))) ∧ Drew w w' := by
  have HL := Lib.hid hl
  have HM := Lib.hid hm
  clear hl hm
  by_cases hlen : l.length = m.length
  · have hne : ((l.length : Int) != (m.length : Int)) = false := by simp [hlen]
    go_enter Try.func29, Try.ntmps29
    go_wp2
    go_loopw [5] (fun i wr => ∃ k : Nat, k ≤ l.length ∧ i = .int .i64 k ∧ Hid (l.take k = m.take k) ∧ Hid (Drew w wr)) (fun i _ => l.length - (intOf i).toNat)
    case atStart => exact ⟨0, by omega, rfl, by simp [Hid], Drew.refl _⟩
    case round =>
      obtain ⟨k, hk, rfl, H, HD⟩ := hrel
      by_cases hlt : k < l.length
      · have hlt2 : k < m.length := by omega
        obtain ⟨b1, o1, rfl, _, hc1⟩ := HL.out.str hlt
        obtain ⟨b2, o2, rfl, _, hc2⟩ := HM.out.str hlt2
        have hc1 := (HD.out.cell _).trans hc1
        have hc2 := (HD.out.cell _).trans hc2
        have HEQ : Hid ((l[k].toList == m[k].toList) = decide (l[k] = m[k])) := by
          unfold Hid
          rw [ByteArray.toList_eq, ByteArray.toList_eq]
          by_cases h : l[k] = m[k]
          · rw [h]; simp
          · rw [decide_eq_false h, beq_eq_false_iff_ne]
            exact fun e => h (toL_inj e)
        have HN : Hid (l[k] = m[k] → l.take (k + 1) = m.take (k + 1)) := fun h => by
          rw [List.take_succ_eq_append_getElem hlt, List.take_succ_eq_append_getElem hlt2, H.out, h]
        have HX : Hid (l[k] ≠ m[k] → l ≠ m) := fun h e => by subst e; exact h rfl
        by_cases h : l[k] = m[k]
        · have HT := Lib.hid (HN.out h)
          have he : (l[k].toList == m[k].toList) = true := by rw [HEQ.out, decide_eq_true h]
          clear h HN HX HEQ
          generalize l[k] = x at *
          generalize m[k] = y at *
          go_wp2
          go_quiet (fail)
          go_wp2
          go_roundw
          case rel => exact ⟨k + 1, by omega, by go_num, HT, HD.out.trans ⟨_, rfl⟩⟩
          case measure => simp [intOf]; omega
        · have HT := Lib.hid (HX.out h)
          have he : (l[k].toList == m[k].toList) = false := by rw [HEQ.out, decide_eq_false h]
          clear h HN HX HEQ
          generalize l[k] = x at *
          generalize m[k] = y at *
          go_wp2
          go_quiet (fail)
          go_wp2
          go_ret
          exact ⟨retB (decide_eq_false HT.out).symm, HD.out.trans ⟨_, rfl⟩⟩
      · have HT : Hid (l = m) := by
          unfold Hid
          have := H.out
          rwa [List.take_of_length_le (by omega), List.take_of_length_le (by omega)] at this
        go_wp2
        go_ret
        exact ⟨retB (decide_eq_true HT.out).symm, HD.out⟩
  · have hne : ((l.length : Int) != (m.length : Int)) = true := by simp; omega
    have HT : Hid (l ≠ m) := fun e => hlen (by rw [e])
    clear hlen
    go_enter Try.func29, Try.ntmps29
    go_wp2
    go_ret
    exact ⟨retB (decide_eq_false HT.out).symm, Drew.refl _⟩
theorem o_tsame (a b : Option Addr) (c q : Nat) (l : List ByteArray) (W : World) (ha : Sl W a (strs l)) (hb : Sl W b (strs l)) (hl : l.length ≤ 1000) : Calls Try.prog 29 #[.slice a l.length c, .slice b l.length q] W fun e w' => e = .returned (.bool true) ∧ Below W.heap.size W w' := by
  have h := tsame_any a b c q l l W ha hb (by omega) (by omega)
  rw [decide_eq_true rfl] at h
  exact h.mono fun e w' (h : _ ∧ Drew W w') => And.intro h.1 (h.2.below _)
end Go.Proofs.Ytlgicjebaehgeaa
