/- Layer 8: the stays that end behind a time: contracts. -/
import Derived.Test.YtbcabbddgppkaaaZ7
namespace Go.Proofs.Ytbcabbddgppkaaa
open Go.RowKit
set_option linter.unusedVariables false
set_option maxRecDepth 100000

def aftS (l : List StM) (t : Int) : List StM := l.filter fun s => decide (t < s.t)
theorem aft_take (l : List StM) (t : Int) (j : Nat) (h : j < l.length) : aftS (l.take (j + 1)) t = aftS (l.take j) t ++ (if t < l[j].t then [l[j]] else []) := by
  unfold aftS
  rw [List.take_succ_eq_append_getElem h, List.filter_append, List.filter_cons, List.filter_nil]
  by_cases h1 : t < l[j].t <;> simp [h1]
theorem aft_len (l : List StM) (t : Int) (j : Nat) : (aftS (l.take j) t).length ≤ j := by
  unfold aftS
  exact Nat.le_trans (List.length_filter_le _ _) (by simp; omega)

set_option maxHeartbeats 2000000 in
theorem after_any (a : Option Addr) (c : Nat) (l : List StM) (t : Int) (w : World) (hr : StSl w a l) (hl : l.length ≤ 1000000) :
    Calls Try.prog 45 #[.slice a l.length c, .int .i64 t] w fun e w' => ∃ (v : Value), e = .returned v ∧ w'.ownsRow w.heap.size 52 4 v (aftS l t).length (sts (aftS l t)) ∧ Below w.heap.size w w' := by
  obtain ⟨i0, hi, hz0, hz1, hz2⟩ := info_parts infoStay
  have HR := Lib.hid hr
  clear hr
  go_enter Try.func45, Try.ntmps45
  go_wp2
  go_loopw [5, 10] (fun v i wr => ∃ (j : Nat), j ≤ l.length ∧ i = .int .i64 j ∧ Hid (wr.ownsRow w.heap.size 52 4 v (aftS (l.take j) t).length (sts (aftS (l.take j) t))) ∧ Hid (Below w.heap.size w wr)) (fun _ i _ => l.length - (intOf i).toNat)
  case atStart => exact ⟨0, by omega, rfl, ⟨rfl, .inl ⟨rfl, rfl⟩⟩, Below.refl _ _⟩
  case round =>
    obtain ⟨j, hj, rfl, HO, HB⟩ := hrel
    by_cases hjl : j < l.length
    · obtain ⟨b, off, rfl, hbl, hc0, hc1, hc2, hc3⟩ := (HR.out.below HB.out).at_ hjl
      have HC := Lib.hid (aft_take l t j hjl)
      have HLN : Hid ((aftS (l.take j) t).length ≤ j) := aft_len l t j
      generalize l[j] = x at *
      generalize aftS (l.take j) t = m at *
      by_cases h : t < x.t
      · have hd := decide_eq_true h
        have HC2 : Hid (aftS (l.take (j + 1)) t = m ++ [x]) := by have := HC.out; rwa [if_pos h] at this
        have HO2 := Lib.hid (own_below HO.out (below_two wr (.cells #[.int .i64 x.f, .int .i64 x.t, .int .i64 x.n, .int .i64 x.s] 52) (.cells #[.int .i64 x.f, .int .i64 x.t, .int .i64 x.n, .int .i64 x.s] 52)))
        have HB2 : Hid (Below w.heap.size w ((wr.alloc (.cells #[.int .i64 x.f, .int .i64 x.t, .int .i64 x.n, .int .i64 x.s] 52)).alloc (.cells #[.int .i64 x.f, .int .i64 x.t, .int .i64 x.n, .int .i64 x.s] 52))) := HB.out.trans ((below_two wr (.cells #[.int .i64 x.f, .int .i64 x.t, .int .i64 x.n, .int .i64 x.s] 52) (.cells #[.int .i64 x.f, .int .i64 x.t, .int .i64 x.n, .int .i64 x.s] 52)).mono HB.out.size)
        have HS2 := Lib.hid HB2.out.size
        have hlm := HLN.out
        go_wp2_with (at_builtin; refine wpList_append_own _ rfl (.tmp 19) (.tmp 21) 56 rfl w.heap.size 52 i0 _ 4 32 Try.underlying56 hi hz0 hz1 hz2 rfl (by decide) _ _ _ rfl HO2.out ⟨wr.heap.size + 1, 0, none⟩ 1 1 [.int .i64 x.f, .int .i64 x.t, .int .i64 x.n, .int .i64 x.s] rfl rfl (news_at _ _ _ _ (size1 _ _).symm) (four_one _ _ _ _) (by unfold maxLen; omega) (by omega) HS2.out ?_; intro v' w3 hown' hgrow hiff)
        have HB3 := Lib.hid (app_below HB2.out HS2.out HO2.out hgrow)
        have HO3 := Lib.hid hown'
        clear hown' hgrow hiff HB2 HS2 HO2
        go_wp2
        go_roundw
        case rel => exact ⟨j + 1, by omega, by go_num, (by unfold Hid; rw [HC2.out, List.length_append, sts_snoc]; exact HO3.out), HB3⟩
        case measure => simp [intOf]; omega
      · have hd := decide_eq_false h
        have HC2 : Hid (aftS (l.take (j + 1)) t = m) := by have := HC.out; rwa [if_neg h, List.append_nil] at this
        go_wp2
        go_roundw
        case rel => exact ⟨j + 1, by omega, by go_num, (by unfold Hid; rw [HC2.out]; exact (own_below HO.out (below_one wr (.cells #[.int .i64 x.f, .int .i64 x.t, .int .i64 x.n, .int .i64 x.s] 52)))), (HB.out.trans ((below_one wr (.cells #[.int .i64 x.f, .int .i64 x.t, .int .i64 x.n, .int .i64 x.s] 52)).mono HB.out.size))⟩
        case measure => simp [intOf]; omega
    · obtain rfl : j = l.length := by omega
      rw [List.take_of_length_le (Nat.le_refl _)] at HO
      go_wp2
      go_ret
      exact ⟨_, rfl, HO.out, HB.out⟩

set_option maxHeartbeats 2000000 in
theorem refAfter_any (a : Option Addr) (c : Nat) (l : List StM) (t : Int) (w : World) (hr : StSl w a l) (hl : l.length ≤ 1000000) :
    Calls Try.prog 46 #[.slice a l.length c, .int .i64 t] w fun e w' => ∃ (v : Value), e = .returned v ∧ w'.ownsRow w.heap.size 47 4 v (aftS l t).length (sts (aftS l t)) ∧ Below w.heap.size w w' := by
  obtain ⟨i0, hi, hz0, hz1, hz2⟩ := info_parts infoStayR
  have HR := Lib.hid hr
  clear hr
  go_enter Try.func46, Try.ntmps46
  go_wp2
  go_loopw [5, 6] (fun v i wr => ∃ (j : Nat), j ≤ l.length ∧ i = .int .i64 j ∧ Hid (wr.ownsRow w.heap.size 47 4 v (aftS (l.take j) t).length (sts (aftS (l.take j) t))) ∧ Hid (Below w.heap.size w wr)) (fun _ i _ => l.length - (intOf i).toNat)
  case atStart => exact ⟨0, by omega, rfl, ⟨rfl, .inl ⟨rfl, rfl⟩⟩, Below.refl _ _⟩
  case round =>
    obtain ⟨j, hj, rfl, HO, HB⟩ := hrel
    by_cases hjl : j < l.length
    · obtain ⟨b, off, rfl, hbl, hc0, hc1, hc2, hc3⟩ := (HR.out.below HB.out).at_ hjl
      have HC := Lib.hid (aft_take l t j hjl)
      have HLN : Hid ((aftS (l.take j) t).length ≤ j) := aft_len l t j
      generalize l[j] = x at *
      generalize aftS (l.take j) t = m at *
      by_cases h : t < x.t
      · have hd := decide_eq_true h
        have HC2 : Hid (aftS (l.take (j + 1)) t = m ++ [x]) := by have := HC.out; rwa [if_pos h] at this
        have HO2 := Lib.hid (own_below HO.out (below_one wr (.cells #[.int .i64 x.f, .int .i64 x.t, .int .i64 x.n, .int .i64 x.s] 47)))
        have HB2 : Hid (Below w.heap.size w (wr.alloc (.cells #[.int .i64 x.f, .int .i64 x.t, .int .i64 x.n, .int .i64 x.s] 47))) := HB.out.trans ((below_one wr (.cells #[.int .i64 x.f, .int .i64 x.t, .int .i64 x.n, .int .i64 x.s] 47)).mono HB.out.size)
        have HS2 := Lib.hid HB2.out.size
        have hlm := HLN.out
        go_wp2_with (at_builtin; refine wpList_append_own _ rfl (.tmp 20) (.tmp 25) 49 rfl w.heap.size 47 i0 _ 4 32 Try.underlying49 hi hz0 hz1 hz2 rfl (by decide) _ _ _ rfl HO2.out ⟨wr.heap.size, 0, none⟩ 1 1 [.int .i64 x.f, .int .i64 x.t, .int .i64 x.n, .int .i64 x.s] rfl rfl (news_at _ _ _ _ rfl) (four_one _ _ _ _) (by unfold maxLen; omega) (by omega) HS2.out ?_; intro v' w3 hown' hgrow hiff)
        have HB3 := Lib.hid (app_below HB2.out HS2.out HO2.out hgrow)
        have HO3 := Lib.hid hown'
        clear hown' hgrow hiff HB2 HS2 HO2
        go_wp2
        go_roundw
        case rel => exact ⟨j + 1, by omega, by go_num, (by unfold Hid; rw [HC2.out, List.length_append, sts_snoc]; exact HO3.out), HB3⟩
        case measure => simp [intOf]; omega
      · have hd := decide_eq_false h
        have HC2 : Hid (aftS (l.take (j + 1)) t = m) := by have := HC.out; rwa [if_neg h, List.append_nil] at this
        go_wp2
        go_roundw
        case rel => exact ⟨j + 1, by omega, by go_num, (by unfold Hid; rw [HC2.out]; exact HO.out), HB.out⟩
        case measure => simp [intOf]; omega
    · obtain rfl : j = l.length := by omega
      rw [List.take_of_length_le (Nat.le_refl _)] at HO
      go_wp2
      go_ret
      exact ⟨_, rfl, HO.out, HB.out⟩

end Go.Proofs.Ytbcabbddgppkaaa
