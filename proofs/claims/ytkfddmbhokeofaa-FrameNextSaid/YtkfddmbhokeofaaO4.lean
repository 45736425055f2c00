/- FrameNext: the frame with which any text begins, or why there is none, is what the document says; packed, it is that beginning: for every text. No condition. -/
import Derived.Test.YtkfddmbhokeofaaI9
namespace Go.Proofs.Ytkfddmbhokeofaa.frameNext
open Go.ChangeShapes Go.WideShapes Go.ChangeAt Go.RowKit
open Go.ChangeMaps (open_string shut_string)
set_option linter.unusedVariables false

set_option maxHeartbeats 2000000 in
theorem walk (w : World) (s : ByteArray) (hm : s.size ≤ maxLen) :
    Calls Try.prog 4 #[.string s] w fun e w' => e = .returned (.bool true) ∧ Below w.heap.size w w' := by
  have HAL := Lib.hid alive_any
  unfold maxLen at hm
  by_cases hl : 2200 < s.size
  · go_enter Try.func4, Try.ntmps4
    go_wp2_with fail
    refine (HAL.out _).mono ?_
    rintro e w1 ⟨rfl, hB⟩
    go_wp2
    go_ret
    exact ⟨rfl, hB⟩
  · have HN := Lib.hid (fun W => next_any s (by omega) W)
    have HR := Lib.hid (fun W => refNext_any s (by omega) W)
    rcases hx : nextL (toL s) with c | ⟨k, b⟩
    · have hc := nextL_code hx
      rw [hx] at HN HR
      simp only [NR.val, NR.kind, NR.body, NR.long, NR.code, frV] at HN HR
      have HP := Lib.hid (fun W => pack_any 0 (tx []) (by decide) W)
      have hne : ((c : Int) == 0) = false := beq_eq_false_iff_ne.2 (by omega)
      have heq : ((tx []).toList == (tx []).toList) = true := beq_self_eq_true _
      change Hid (∀ W, Calls Try.prog 12 #[.agg #[.int .u8 0, .string (tx [])]] W fun e w' => e = .returned (.tuple #[.string (tx (packS 0 (toL (tx [])))), .int .i64 (packE 0 (toL (tx [])) : Int)]) ∧ Below W.heap.size W w') at HP
      change Hid (∀ W, Calls Try.prog 14 #[.string s] W fun e w' => e = .returned (.tuple #[.agg #[.int .u8 0, .string (tx [])], .int .i64 0, .int .i64 (c : Int)]) ∧ Below W.heap.size W w') at HN
      change Hid (∀ W, Calls Try.prog 15 #[.string s] W fun e w' => e = .returned (.tuple #[.agg #[.int .u8 0, .string (tx [])], .int .i64 0, .int .i64 (c : Int)]) ∧ Below W.heap.size W w') at HR
      generalize tx (packS 0 (toL (tx []))) = ts at *
      generalize packE 0 (toL (tx [])) = E at *
      clear hx
      generalize tx [] = b at *
      go_enter Try.func4, Try.ntmps4
      go_wp2_with fail
      refine (HN.out _).mono ?_
      rintro e w1 ⟨rfl, hB1⟩
      have HB1 := Lib.hid hB1
      have HK1 := Lib.hid (PackK.new w1 (.int .u8 0) (.string b) 28)
      clear hB1 HN
      go_wp2_with fail
      refine (HR.out _).mono ?_
      rintro e w2 ⟨rfl, hB2⟩
      have HK2 := Lib.hid ((HK1.out.below hB2).alloc (.cells #[.int .u8 0, .string b] 23))
      have hc0 := HK2.out.cell0
      have hc1 := HK2.out.cell1
      clear hB2 HK1 HR
      go_wp2_with fail
      refine (HP.out _).mono ?_
      rintro e w3 ⟨rfl, hB3⟩
      have HK3 := Lib.hid (HK2.out.below hB3)
      clear hB3 HK2 HP
      go_wp2_with fail
      refine (HAL.out _).mono ?_
      rintro e w4 ⟨rfl, hB4⟩
      go_wp2
      go_ret
      exact ⟨rfl, HB1.out.trans ((HK3.out.below hB4).2.2.mono HB1.out.size)⟩
    · obtain ⟨hE, htk, hlen⟩ := nextL_inv hx
      rw [toL_length] at hlen
      rw [hx] at HN HR
      simp only [NR.val, NR.kind, NR.body, NR.long, NR.code, frV] at HN HR
      have hbl := (packE_zero hE).2.1
      have HP := Lib.hid (fun W => pack_any k (tx b) (by rw [tx_size]; unfold maxLen; omega) W)
      have hS : packS k b = packT k b := by unfold packS; rw [if_pos hE]
      rw [toL_tx, hS, hE] at HP
      have hsl := slice_to s (14 + b.length) hlen
      have hsl2 : s.extract 0 (14 + b.length) = tx (packT k b) := by rw [← tx_toL (s.extract 0 (14 + b.length)), toL_extract, List.drop_zero, htk]
      rw [hsl2] at hsl
      have heq : ((tx b).toList == (tx b).toList) = true := beq_self_eq_true _
      have heq2 : ((tx (packT k b)).toList == (tx (packT k b)).toList) = true := beq_self_eq_true _
      have hkb : 0 ≤ (k.toNat : Int) ∧ (k.toNat : Int) ≤ 255 := ⟨by omega, by have := k.toNat_lt; omega⟩
      clear hx hE htk hS hsl2
      generalize tx (packT k b) = ts at *
      generalize 14 + b.length = n at *
      generalize tx b = b2 at *
      go_enter Try.func4, Try.ntmps4
      go_wp2_with fail
      refine (HN.out _).mono ?_
      rintro e w1 ⟨rfl, hB1⟩
      have HB1 := Lib.hid hB1
      have HK1 := Lib.hid (PackK.new w1 (.int .u8 (k.toNat : Int)) (.string b2) 28)
      clear hB1 HN
      go_wp2_with fail
      refine (HR.out _).mono ?_
      rintro e w2 ⟨rfl, hB2⟩
      have HK2 := Lib.hid ((HK1.out.below hB2).alloc (.cells #[.int .u8 (k.toNat : Int), .string b2] 23))
      have hc0 := HK2.out.cell0
      have hc1 := HK2.out.cell1
      clear hB2 HK1 HR
      go_wp2_with fail
      refine (HP.out _).mono ?_
      rintro e w3 ⟨rfl, hB3⟩
      have HK3 := Lib.hid (HK2.out.below hB3)
      clear hB3 HK2 HP
      go_wp2_with fail
      refine (HAL.out _).mono ?_
      rintro e w4 ⟨rfl, hB4⟩
      go_wp2
      go_ret
      exact ⟨rfl, HB1.out.trans ((HK3.out.below hB4).2.2.mono HB1.out.size)⟩

set_option maxRecDepth 100000 in
theorem lifted (os : Os) (started : os.Started) (H : Type) (enc : TypeId × Value → H) :
    ReturnsInHanded {} Try.checked os 4 .any (Rows.frameNextSpec.pre6 enc Try.prog Try.f4 Rows.frameNextRow.domain false) (Rows.frameNextSpec.post enc Try.prog Try.f4 false true false false) := by
  refine returnsInHanded_of_change (C := Try.checked) own started (by kernel_rfl) Try.func4
    (ChangeSpec.witness6 (enc := enc) (C := Try.checked) false ⟨#[], #[.string ByteArray.empty], []⟩ 8 (by kernel_rfl) (by kernel_rfl) (by kernel_rfl) (by kernel_rfl)) ?_
  intro W base args ds gs before hval0 hW hcnd _
  have hval : ∀ (j : Nat) t v, Try.f4.params[j]? = some t → args[j]? = some v → Value.okWide Try.prog W .any base t v := hval0
  have hW' := hW
  have hlt := hW.lt
  obtain ⟨p, q, hA0, hV, rfl, hfz, hnd⟩ := hW
  have hA : DataW.TrodAll enc Try.prog W 0 (fun _ => true) true Try.f4.params.toList args.toList ds p := hA0
  rw [Try.params4] at hA hval
  obtain ⟨v0, vs0, d0, ds0, p0, q0, hargs, rfl, rfl, h0, r0⟩ := trodAll_cons hA
  obtain ⟨rfl, rfl, rfl⟩ := trodAll_nil r0
  obtain rfl : args = #[v0] := by cases args; simp_all
  obtain ⟨a0, rfl, -, -, w0⟩ := open_string Try.underlying9 (hval 0 9 v0 rfl rfl) h0
  refine (walk W a0 w0).mono fun e W' ⟨he, hb⟩ => ?_
  subst he
  exact ⟨_, rfl, law_post rfl hW' (fun ds h => by match ds, h with | [_], _ => rfl) (by kernel_rfl) (by kernel_rfl) (by kernel_rfl) hb⟩

theorem over : Rows.frameNextRow.holds Try.pinned (OpenSpec.ofChange Rows.frameNextSpec) :=
  OpenClaim.holds_of_wide 4 Try.f4 rfl rfl rfl rfl rfl rfl rfl ⟨rfl, rfl, rfl, rfl, rfl⟩ rfl rfl rfl rfl rfl (by kernel_rfl) Try.func4 (by kernel_rfl)
    (of_decide_eq_true (by kernel_rfl)) (by unfold Func.isWrapper; first | (rw [if_pos (by decide +kernel)]; kernel_rfl) | (rw [if_neg (by decide +kernel)]; exact ⟨rfl, rfl⟩))
    (fun os started H enc _ => lifted os started H enc)

theorem proved : Rows.FrameNextSaid := over
end Go.Proofs.Ytkfddmbhokeofaa.frameNext
