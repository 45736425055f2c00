/- Layer 9: a revoke, in the document: contract. -/
import Derived.Test.YthaancmobpamhaaAB13
namespace Go.Proofs.Ythaancmobpamhaa
open Go.RowKit Go.Proofs
set_option linter.unusedVariables false
set_option maxRecDepth 100000

/-- a revoke, up to there -/
def cutTo (l : List EnM) (k : Nat) (a : Int) (j : Nat) : List EnM := if j ≤ k then l.take j else cutS (l.take j) k a
theorem cutTo_zero (l : List EnM) (k : Nat) (a : Int) : cutTo l k a 0 = [] := by unfold cutTo; rw [if_pos (Nat.zero_le _)]; rfl
theorem cutTo_all {l : List EnM} {k : Nat} (h : k < l.length) (a : Int) : cutTo l k a l.length = cutS l k a := by
  unfold cutTo
  rw [if_neg (by omega), List.take_of_length_le (Nat.le_refl _)]
theorem cut_snoc {m : List EnM} {x : EnM} {k : Nat} (h : k < m.length) (a : Int) : cutS (m ++ [x]) k a = cutS m k a ++ [x] := by
  rw [cut_at (l := m ++ [x]) (by rw [List.length_append]; omega), cut_at h, List.getElem_append_left h, List.take_append_of_le_length (by omega), List.drop_append_of_le_length (by omega)]
  simp only [List.append_assoc]
theorem cutTo_other {l : List EnM} {k j : Nat} (hj : j < l.length) (hk : k < l.length) (a : Int) (hne : ¬ j = k) : cutTo l k a (j + 1) = cutTo l k a j ++ [l[j]] := by
  unfold cutTo
  by_cases h1 : j ≤ k
  · rw [if_pos h1, if_pos (by omega), List.take_succ_eq_append_getElem hj]
  · rw [if_neg h1, if_neg (by omega), List.take_succ_eq_append_getElem hj, cut_snoc (by rw [List.length_take]; omega)]
theorem cutTo_here {l : List EnM} {k : Nat} (hk : k < l.length) (a : Int) : cutTo l k a (k + 1) = cutTo l k a k ++ endS l[k] a := by
  unfold cutTo
  rw [if_pos (Nat.le_refl _), if_neg (by omega), cut_at (by rw [List.length_take]; omega), List.getElem_take, List.take_take, Nat.min_eq_left (by omega), List.drop_of_length_le (by rw [List.length_take]; omega), List.append_nil]
theorem cutTo_len (l : List EnM) (k : Nat) (a : Int) (j : Nat) : (cutTo l k a j).length ≤ j := by
  unfold cutTo
  split
  · rw [List.length_take]; omega
  · exact Nat.le_trans (cut_len _ _ _) (by rw [List.length_take]; omega)

set_option maxHeartbeats 8000000 in
theorem refRevoke_any (a : Option Addr) (c : Nat) (l : List EnM) (p u : ByteArray) (n : Int) (w : World) (hr : EnSl w a l) (hl : l.length ≤ 500) :
    Calls Try.prog 15 #[.slice a l.length c, pr p u, .int .i64 n] w fun e w' => (l.any (infE p u) = false ∧ e = .returned (.tuple #[.slice none 0 0, .int .i64 91]) ∧ Below w.heap.size w w') ∨
      (l.any (infE p u) = true ∧ ∃ v, e = .returned (.tuple #[v, .int .i64 0]) ∧ w'.ownsRow w.heap.size 53 4 v (revokeS l p u n).length (ens (revokeS l p u n)) ∧ Below w.heap.size w w') := by
  obtain ⟨i0, hi, hz0, hz1, hz2⟩ := info_parts infoEnR
  have HPC := Lib.hid (PK.new hr p u 24)
  have HIF := Lib.hid (fun W (h : EnSl W a l) => force_any a c l p u W h (by omega))
  have HF := first_idx (infE p u) l
  have HREV := fun k (h : IsFirst (infE p u) l k) => revoke_at h n
  unfold pr at *
  generalize hG : revokeS l p u n = G at *
  clear hr hG
  have hany := HF.any
  generalize l.findIdx (infE p u) = k at *
  by_cases hk : k < l.length
  · rw [decide_eq_true hk] at hany
    rw [hany]
    have hix := idx_hit HF hk
    have HGG := Lib.hid ((HREV k HF).trans (cutTo_all hk n).symm)
    have HZ := Lib.hid (cutTo_zero l k n)
    have HCO := Lib.hid (fun j (hj : j < l.length) (h : ¬ j = k) => cutTo_other hj hk n h)
    have HCH := Lib.hid (cutTo_here hk n)
    have HCL := Lib.hid (cutTo_len l k n)
    rw [hix] at HIF
    have HKL := Lib.hid hk
    clear HREV HF hix hany
    have hd0 : decide ((k : Int) < 0) = false := decide_eq_false (by omega)
    go_enter Try.func15, Try.ntmps15
    go_wp2_with fail
    refine (HIF.out _ HPC.out.row).mono ?_
    rintro e w1 ⟨rfl, hB⟩
    have K1 := Lib.hid (HPC.out.below hB)
    clear hB HPC HIF
    go_wp2
    go_loopw [9, 10] (fun v i wr => ∃ (j : Nat), j ≤ l.length ∧ i = .int .i64 j ∧ Hid (wr.ownsRow w1.heap.size 53 4 v (cutTo l k n j).length (ens (cutTo l k n j))) ∧ Hid (Below w1.heap.size w1 wr)) (fun _ i _ => l.length - (intOf i).toNat)
    case atStart => exact ⟨0, by omega, rfl, (by unfold Hid; rw [HZ.out]; exact ⟨rfl, .inl ⟨rfl, rfl⟩⟩), Below.refl _ _⟩
    case round =>
      obtain ⟨j, hj, rfl, HO, HB⟩ := hrel
      by_cases hjl : j < l.length
      · obtain ⟨b, off, rfl, hbl, hc0, hc1, hc2, hc3⟩ := (K1.out.below HB.out).row.at_ hjl
        have HLN := Lib.hid (HCL.out j)
        have HCJ := Lib.hid (HCO.out j hjl)
        have HJK : Hid (∀ h : j = k, l[k] = l[j]) := fun h => by subst h; rfl
        by_cases hjk : j = k
        · have HC1 : Hid (cutTo l k n (j + 1) = cutTo l k n j ++ endS l[j] n) := by subst hjk; exact HCH.out
          have he1 : ((j : Int) == (k : Int)) = true := beq_iff_eq.2 (by omega)
          have hji : (j : Int) ≤ (k : Int) := by omega
          have hji2 : (k : Int) ≤ (j : Int) := by omega
          generalize l[j] = x at *
          generalize cutTo l k n j = m at *
          by_cases hn : n ≤ x.f
          · have hd : decide (x.f < n) = false := decide_eq_false (by omega)
            have HC2 : Hid (cutTo l k n (j + 1) = m) := by have := HC1.out; unfold endS at this; rwa [if_pos hn, List.append_nil] at this
            have HO1 := Lib.hid (own_below HO.out (below_one wr (.cells #[.string x.w, .string x.u, .int .i64 x.f, .int .i64 n] 53)))
            have HB1 : Hid (Below w1.heap.size w1 (wr.alloc (.cells #[.string x.w, .string x.u, .int .i64 x.f, .int .i64 n] 53))) := HB.out.trans ((below_one wr _).mono HB.out.size)
            clear HC1 HCJ HJK HCH HCO hjk hn
            go_wp2
            go_roundw
            case rel => exact ⟨j + 1, by omega, by go_num, (by unfold Hid; rw [HC2.out]; exact HO1.out), HB1⟩
            case measure => simp [intOf]; omega
          · have hd : decide (x.f < n) = true := decide_eq_true (by omega)
            have HC2 : Hid (cutTo l k n (j + 1) = m ++ [⟨x.w, x.u, x.f, n⟩]) := by have := HC1.out; unfold endS at this; rwa [if_neg hn] at this
            clear HC1 HCJ HJK HCH HCO hjk hn
            have HO1 := Lib.hid (own_below HO.out (below_2 wr (.cells #[.string x.w, .string x.u, .int .i64 x.f, .int .i64 n] 53) (.cells #[.string x.w, .string x.u, .int .i64 x.f, .int .i64 n] 53)))
            have HB1 : Hid (Below w1.heap.size w1 ((wr.alloc (.cells #[.string x.w, .string x.u, .int .i64 x.f, .int .i64 n] 53)).alloc (.cells #[.string x.w, .string x.u, .int .i64 x.f, .int .i64 n] 53))) := HB.out.trans ((below_2 wr (.cells #[.string x.w, .string x.u, .int .i64 x.f, .int .i64 n] 53) (.cells #[.string x.w, .string x.u, .int .i64 x.f, .int .i64 n] 53)).mono HB.out.size)
            have HS1 := Lib.hid HB1.out.size
            have hlm := HLN.out
            go_wp2_with (at_builtin; refine wpList_append_own _ rfl (.tmp 42) (.tmp 44) 22 rfl w1.heap.size 53 i0 _ 4 48 Try.underlying22 hi hz0 hz1 hz2 rfl (by decide) _ _ _ rfl HO1.out ⟨wr.heap.size + 1, 0, none⟩ 1 1 [.string x.w, .string x.u, .int .i64 x.f, .int .i64 n] rfl rfl (news_at _ _ _ _ (size1 _ _).symm) (four_e _ _ _ _) (by unfold maxLen; omega) (by omega) HS1.out ?_; intro v2 w5 ho2 hgrow hiff)
            have HB2 := Lib.hid (app_below HB1.out HS1.out HO1.out hgrow)
            have HO2 := Lib.hid (own_snoc (x := ⟨x.w, x.u, x.f, n⟩) ho2)
            clear ho2 hgrow hiff HB1 HS1 HO1
            go_wp2
            go_roundw
            case rel => exact ⟨j + 1, by omega, by go_num, (by unfold Hid; rw [HC2.out]; exact HO2.out), HB2⟩
            case measure => simp [intOf]; omega
        · have HC2 : Hid (cutTo l k n (j + 1) = cutTo l k n j ++ [l[j]]) := HCJ.out hjk
          have he1 : ((j : Int) == (k : Int)) = false := beq_eq_false_iff_ne.2 (by omega)
          have hji : ¬ (j : Int) = (k : Int) := by omega
          generalize l[j] = x at *
          generalize cutTo l k n j = m at *
          clear HCJ HJK HCH HCO hjk
          have HO1 := Lib.hid (own_below HO.out (below_2 wr (.cells #[.string x.w, .string x.u, .int .i64 x.f, .int .i64 x.t] 53) (.cells #[.string x.w, .string x.u, .int .i64 x.f, .int .i64 x.t] 53)))
          have HB1 : Hid (Below w1.heap.size w1 ((wr.alloc (.cells #[.string x.w, .string x.u, .int .i64 x.f, .int .i64 x.t] 53)).alloc (.cells #[.string x.w, .string x.u, .int .i64 x.f, .int .i64 x.t] 53))) := HB.out.trans ((below_2 wr (.cells #[.string x.w, .string x.u, .int .i64 x.f, .int .i64 x.t] 53) (.cells #[.string x.w, .string x.u, .int .i64 x.f, .int .i64 x.t] 53)).mono HB.out.size)
          have HS1 := Lib.hid HB1.out.size
          have hlm := HLN.out
          go_wp2_with (at_builtin; refine wpList_append_own _ rfl (.tmp 42) (.tmp 44) 22 rfl w1.heap.size 53 i0 _ 4 48 Try.underlying22 hi hz0 hz1 hz2 rfl (by decide) _ _ _ rfl HO1.out ⟨wr.heap.size + 1, 0, none⟩ 1 1 [.string x.w, .string x.u, .int .i64 x.f, .int .i64 x.t] rfl rfl (news_at _ _ _ _ (size1 _ _).symm) (four_e _ _ _ _) (by unfold maxLen; omega) (by omega) HS1.out ?_; intro v2 w5 ho2 hgrow hiff)
          have HB2 := Lib.hid (app_below HB1.out HS1.out HO1.out hgrow)
          have HO2 := Lib.hid (own_snoc (x := ⟨x.w, x.u, x.f, x.t⟩) ho2)
          clear ho2 hgrow hiff HB1 HS1 HO1
          go_wp2
          go_roundw
          case rel => exact ⟨j + 1, by omega, by go_num, (by unfold Hid; rw [HC2.out]; exact HO2.out), HB2⟩
          case measure => simp [intOf]; omega
      · obtain rfl : j = l.length := by omega
        rw [← HGG.out] at HO
        go_wp2
        go_ret2
        exact Or.inr ⟨by trivial, _, rfl, own_low HO.out K1.out.frame.size, K1.out.frame.trans (HB.out.mono K1.out.frame.size)⟩
  · rw [decide_eq_false hk] at hany
    rw [hany]
    have hix : idxI (infE p u) l = -1 := by
      obtain rfl : k = l.length := Nat.le_antisymm HF.le (by omega)
      exact idx_miss HF
    rw [hix] at HIF
    clear HREV HF hix hany hk
    go_enter Try.func15, Try.ntmps15
    go_wp2_with fail
    refine (HIF.out _ HPC.out.row).mono ?_
    rintro e w1 ⟨rfl, hB⟩
    have K1 := Lib.hid (HPC.out.below hB)
    go_wp2
    go_ret2
    exact Or.inl ⟨by trivial, rfl, K1.out.frame⟩
end Go.Proofs.Ythaancmobpamhaa
