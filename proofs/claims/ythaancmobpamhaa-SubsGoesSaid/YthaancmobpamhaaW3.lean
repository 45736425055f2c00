/- Layer 7: the gaps of a row; what two rows have in common: contracts. -/
import Derived.Test.YthaancmobpamhaaW2
namespace Go.Proofs.Ythaancmobpamhaa
open Go.RowKit
set_option linter.unusedVariables false
set_option maxRecDepth 100000
set_option maxRecDepth 100000

theorem cells2 {g : Nat} {a b : Value} {t : TypeId} {W : World} (h : W.heap[g]? = some (.cells #[a, b] t (0, 0))) : W.cell? ⟨g, 0, none⟩ = some a ∧ W.cell? ⟨g, 1, none⟩ = some b := ⟨cell_of_row _ _ _ _ _ _ h, cell_of_row _ _ _ _ _ _ h⟩
def minI : Int := -9223372036854775808
def maxI : Int := 9223372036854775807
theorem gaps_next {acc : List SpM} {l g : List SpM} {c : Int} {j : Nat} (hj : j < l.length) (h : acc ++ gapsS c maxI (l.drop j) = g) : (acc ++ [⟨c, l[j].f⟩]) ++ gapsS l[j].t maxI (l.drop (j + 1)) = g := by
  rw [List.drop_eq_getElem_cons hj] at h
  rw [← h, List.append_assoc]; rfl

set_option maxHeartbeats 4000000 in
theorem gaps_any (a : Option Addr) (c : Nat) (l : List SpM) (w : World) (hr : SpSl w a l) (hl : l.length ≤ 1000000) :
    Calls Try.prog 54 #[.slice a l.length c] w fun e w' => ∃ (v : Value), e = .returned v ∧ w'.ownsRow w.heap.size 56 2 v (gapsS minI maxI l).length (sps (gapsS minI maxI l)) ∧ Below w.heap.size w w' := by
  obtain ⟨i0, hi, hz0, hz1, hz2⟩ := info_parts infoSpan
  have HR := Lib.hid hr
  clear hr
  go_enter Try.func54, Try.ntmps54
  go_wp2
  go_loopw [3, 4, 9] (fun v x i wr => ∃ (j : Nat) (acc : List SpM) (c : Int), j ≤ l.length ∧ acc.length = j ∧ i = .int .i64 j ∧ x = .int .i64 c ∧ Hid (acc ++ gapsS c maxI (l.drop j) = gapsS minI maxI l) ∧ Hid (wr.ownsRow w.heap.size 56 2 v j (sps acc)) ∧ Hid (Below w.heap.size w wr)) (fun _ _ i _ => l.length - (intOf i).toNat)
  case atStart => exact ⟨0, [], minI, by omega, rfl, rfl, rfl, rfl, ⟨rfl, .inl ⟨rfl, rfl⟩⟩, Below.refl _ _⟩
  case round =>
    obtain ⟨j, acc, cur, hj, hacc, rfl, rfl, HE, HO, HB⟩ := hrel
    by_cases hjl : j < l.length
    · obtain ⟨b, off, rfl, hbl, hc0, hc1⟩ := (HR.out.below HB.out).at_ hjl
      have HN := Lib.hid (gaps_next hjl HE.out)
      generalize l[j] = x at *
      have HO2 := Lib.hid (own_below HO.out (below_two wr (.cells #[.int .i64 x.f, .int .i64 x.t] 56) (.cells #[.int .i64 cur, .int .i64 x.f] 56)))
      have HB2 : Hid (Below w.heap.size w ((wr.alloc (.cells #[.int .i64 x.f, .int .i64 x.t] 56)).alloc (.cells #[.int .i64 cur, .int .i64 x.f] 56))) := HB.out.trans ((below_two _ _ _).mono HB.out.size)
      have HS2 := Lib.hid HB2.out.size
      have hk : (wr.alloc (.cells #[.int .i64 x.f, .int .i64 x.t] 56)).heap[wr.heap.size]? = some (.cells #[.int .i64 x.f, .int .i64 x.t] 56 (0, 0)) := heap_alloc_new _ _
      have HK2 : Hid (((wr.alloc (.cells #[.int .i64 x.f, .int .i64 x.t] 56)).alloc (.cells #[.int .i64 cur, .int .i64 x.f] 56)).heap[wr.heap.size]? = some (.cells #[.int .i64 x.f, .int .i64 x.t] 56 (0, 0))) := (Below.heap_alloc _ _ _ (heap_lt hk)).trans hk
      clear hk
      go_wp2_with (at_builtin; refine wpList_append_own _ rfl (.tmp 13) (.tmp 18) 42 rfl w.heap.size 56 i0 _ 2 16 Try.underlying42 hi hz0 hz1 hz2 rfl (by decide) _ _ _ rfl HO2.out ⟨wr.heap.size + 1, 0, none⟩ 1 1 [.int .i64 cur, .int .i64 x.f] rfl rfl (news_at _ _ _ _ (size1 _ _).symm) (two_one _ _) (by unfold maxLen; omega) (by omega) HS2.out ?_; intro v' w2 hown' hgrow hiff; obtain ⟨hk0, hk1⟩ := cells2 ((hgrow.block _ (heap_lt HK2.out) (fun e => Nat.lt_irrefl _ (HO.out.lt _ e.symm).2)).trans HK2.out))
      have HB3 := Lib.hid (app_below HB2.out HS2.out HO2.out hgrow)
      have HO3 := Lib.hid hown'
      clear hown' hgrow hiff HB2 HS2 HO2
      go_wp2
      go_roundw
      case rel => exact ⟨j + 1, acc ++ [⟨cur, x.f⟩], x.t, by omega, by rw [List.length_append, hacc]; rfl, by go_num, rfl, HN, (by unfold Hid; rw [sps_snoc]; exact HO3.out), HB3⟩
      case measure => simp [intOf]; omega
    · obtain rfl : l.length = j := by omega
      rw [List.drop_of_length_le (Nat.le_refl _)] at HE
      have HE2 : Hid (acc ++ [⟨cur, maxI⟩] = gapsS minI maxI l) := HE.out
      have hlen : (gapsS minI maxI l).length = l.length + 1 := by rw [← HE2.out, List.length_append, hacc]; rfl
      have HA2 := Lib.hid ((Below.refl wr.heap.size wr).alloc (Nat.le_refl _) (.cells #[.int .i64 cur, .int .i64 9223372036854775807] 56))
      have HO2 := Lib.hid (own_below HO.out HA2.out)
      have HB2 := Lib.hid (HB.out.trans (HA2.out.mono HB.out.size))
      have HS2 := Lib.hid HB2.out.size
      go_wp2_with (at_builtin; refine wpList_append_own _ rfl (.tmp 23) (.tmp 26) 42 rfl w.heap.size 56 i0 _ 2 16 Try.underlying42 hi hz0 hz1 hz2 rfl (by decide) _ _ _ rfl HO2.out ⟨wr.heap.size, 0, none⟩ 1 1 [.int .i64 cur, .int .i64 9223372036854775807] rfl rfl (news_at _ _ _ _ rfl) (two_one _ _) (by unfold maxLen; omega) (by omega) HS2.out ?_; intro v' w2 hown' hgrow hiff)
      have HB3 := Lib.hid (app_below HB2.out HS2.out HO2.out hgrow)
      have HO3 := Lib.hid hown'
      clear hown' hgrow hiff HB2 HS2 HO2
      go_wp2
      go_ret
      refine ⟨_, rfl, ?_, HB3.out⟩
      have h := HO3.out
      rw [hlen, ← HE2.out, sps_snoc]
      exact h
end Go.Proofs.Ythaancmobpamhaa
