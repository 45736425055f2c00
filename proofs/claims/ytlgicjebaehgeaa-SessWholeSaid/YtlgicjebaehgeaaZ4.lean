/- Layer 8: rows of stays as the program, and as the document, has them; whether two rows are the same: contracts. -/
import Derived.Test.YtlgicjebaehgeaaZ2
namespace Go.Proofs.Ytlgicjebaehgeaa
open Go.RowKit
set_option linter.unusedVariables false
set_option maxRecDepth 100000
set_option maxRecDepth 100000

theorem below_one (w : World) (o : Obj) : Below w.heap.size w (w.alloc o) := (Below.refl _ _).alloc (Nat.le_refl _) _

set_option maxHeartbeats 2000000 in
theorem solds_any (a : Option Addr) (c : Nat) (l : List StM) (w : World) (hr : StSl w a l) (hl : l.length ≤ 1000000) :
    Calls Try.prog 26 #[.slice a l.length c] w fun e w' => ∃ (v : Value), e = .returned v ∧ w'.ownsRow w.heap.size 48 4 v l.length (sts l) ∧ Below w.heap.size w w' := by
  obtain ⟨i0, hi, hz0, hz1, hz2⟩ := info_parts infoStayR
  have HR := Lib.hid hr
  have HN := Lib.hid old_any
  unfold stV at HN
  clear hr
  go_enter Try.func26, Try.ntmps26
  go_wp2
  go_loopw [3, 8] (fun v i wr => ∃ (j : Nat), j ≤ l.length ∧ i = .int .i64 j ∧ Hid (wr.ownsRow w.heap.size 48 4 v j (sts (l.take j))) ∧ Hid (Below w.heap.size w wr)) (fun _ i _ => l.length - (intOf i).toNat)
  case atStart => exact ⟨0, by omega, rfl, ⟨rfl, .inl ⟨rfl, rfl⟩⟩, Below.refl _ _⟩
  case round =>
    obtain ⟨j, hj, rfl, HO, HB⟩ := hrel
    by_cases hjl : j < l.length
    · obtain ⟨b, off, rfl, hbl, hc0, hc1, hc2, hc3⟩ := (HR.out.below HB.out).at_ hjl
      have HC := Lib.hid (sts_take l j hjl)
      generalize l[j] = x at *
      go_wp2_with fail
      refine (HN.out x _).mono ?_
      rintro e w2 ⟨rfl, hg⟩
      have hb1 := hg.below (Nat.le_refl _)
      have hb2 := (below_one wr (.cells #[.int .i64 x.f, .int .i64 x.t, .int .i64 x.n, .int .i64 x.s] 44)).trans (hb1.mono (by rw [size1]; omega))
      have HO2 := Lib.hid (own_below HO.out (hb2.trans ((below_one w2 (.cells #[.int .i64 x.f, .int .i64 x.t, .int .i64 x.n, .int .i64 x.s] 48)).mono hb2.size)))
      have HB2 : Hid (Below w.heap.size w (w2.alloc (.cells #[.int .i64 x.f, .int .i64 x.t, .int .i64 x.n, .int .i64 x.s] 48))) := HB.out.trans ((hb2.trans ((below_one w2 _).mono hb2.size)).mono HB.out.size)
      have HS2 := Lib.hid HB2.out.size
      clear hg hb1 hb2 hc0 hc1 hc2 hc3
      go_wp2_with (at_builtin; refine wpList_append_own _ rfl (.tmp 12) (.tmp 15) 61 rfl w.heap.size 48 i0 _ 4 32 Try.underlying61 hi hz0 hz1 hz2 rfl (by decide) _ _ _ rfl HO2.out ⟨w2.heap.size, 0, none⟩ 1 1 [.int .i64 x.f, .int .i64 x.t, .int .i64 x.n, .int .i64 x.s] rfl rfl (news_at _ _ _ _ rfl) (four_one _ _ _ _) (by unfold maxLen; omega) (by omega) HS2.out ?_; intro v' w3 hown' hgrow hiff)
      have HB3 := Lib.hid (app_below HB2.out HS2.out HO2.out hgrow)
      have HO3 := Lib.hid hown'
      clear hown' hgrow hiff HB2 HS2 HO2
      go_wp2
      go_roundw
      case rel => exact ⟨j + 1, by omega, by go_num, (by unfold Hid; rw [HC.out]; exact HO3.out), HB3⟩
      case measure => simp [intOf]; omega
    · obtain rfl : j = l.length := by omega
      rw [List.take_of_length_le (Nat.le_refl _)] at HO
      go_wp2
      go_ret
      exact ⟨_, rfl, HO.out, HB.out⟩

end Go.Proofs.Ytlgicjebaehgeaa
