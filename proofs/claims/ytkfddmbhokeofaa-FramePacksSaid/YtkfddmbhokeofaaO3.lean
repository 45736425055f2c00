/- FramePacks: the text of any frame, or why there is none, is what the document says; it is read as it was, whatever is behind it: for every frame and text. No condition. -/
import Derived.Test.YtkfddmbhokeofaaI9
import Derived.SizedLaws
namespace Go.Proofs.Ytkfddmbhokeofaa.framePacks
open Go.ChangeShapes Go.WideShapes Go.ChangeAt Go.RowKit
open Go.ChangeMaps (open_string shut_string)
set_option linter.unusedVariables false

set_option maxHeartbeats 2000000 in
theorem walk (w : World) (k : UInt8) (b : ByteArray) (hb : b.size ≤ maxLen) (h : ByteArray) (hh : h.size ≤ 140737488351232) :
    Calls Try.prog 3 #[.agg #[.int .u8 (k.toNat : Int), .string b], .string h] w fun e w' => e = .returned (.bool true) ∧ Below w.heap.size w w' := by
  have HAL := Lib.hid alive_any
  have HK := Lib.hid (PackK.new w (.int .u8 (k.toNat : Int)) (.string b) 23)
  have hkb : 0 ≤ (k.toNat : Int) ∧ (k.toNat : Int) ≤ 255 := ⟨by omega, by have := k.toNat_lt; omega⟩
  have HP := Lib.hid (fun W => pack_any k b hb W)
  have HR := Lib.hid (fun W => refPack_any k b hb W)
  unfold maxLen at hb
  by_cases hl : 2100 < b.size
  · go_enter Try.func3, Try.ntmps3
    go_wp2_with fail
    refine (HAL.out _).mono ?_
    rintro e w1 ⟨rfl, hB⟩
    go_wp2
    go_ret
    exact ⟨rfl, (HK.out.below hB).2.2⟩
  · by_cases hE : packE k (toL b) = 0
    · have hS : packS k (toL b) = packT k (toL b) := by unfold packS; rw [if_pos hE]
      rw [hS, hE] at HP HR
      have hsz : (tx (packT k (toL b))).size = 14 + b.size := by rw [tx_size, packT_len, toL_length]
      have HN : Hid (∀ W, Calls Try.prog 14 #[.string (tx (packT k (toL b)) ++ h)] W fun e w' => e = .returned (.tuple #[.agg #[.int .u8 (k.toNat : Int), .string b], .int .i64 (14 + b.size), .int .i64 0]) ∧ Below W.heap.size W w') := fun W => by
        have hx := next_any (tx (packT k (toL b)) ++ h) (by rw [ByteArray.size_append, hsz]; omega) W
        rw [toL_append, toL_tx, nextL_pack hE] at hx
        simp only [NR.val, NR.kind, NR.body, NR.long, NR.code, frV, tx_toL, toL_length] at hx
        rw [show ((14 + b.size : Nat) : Int) = 14 + (b.size : Int) by omega] at hx
        exact hx
      have heq : ((tx (packT k (toL b))).toList == (tx (packT k (toL b))).toList) = true := beq_self_eq_true _
      have heb : (b.toList == b.toList) = true := beq_self_eq_true _
      clear hS hE
      generalize tx (packT k (toL b)) = t at *
      have hsi : (t.size : Int) = 14 + b.size := by omega
      have hc2 : ¬ (9223372036854775807 < t.size + h.size) := by omega
      clear hsz
      go_enter Try.func3, Try.ntmps3
      go_wp2_with fail
      refine (HP.out _).mono ?_
      rintro e w1 ⟨rfl, hB1⟩
      have HK1 := Lib.hid (HK.out.below hB1)
      have hc0 := HK1.out.cell0
      have hc1 := HK1.out.cell1
      clear hB1 HK HP
      go_wp2_with fail
      refine (HR.out _).mono ?_
      rintro e w2 ⟨rfl, hB2⟩
      have HK2 := Lib.hid (HK1.out.below hB2)
      clear hB2 HK1 HR hc0 hc1
      go_wp2_with fail
      refine (HN.out _).mono ?_
      rintro e w3 ⟨rfl, hB3⟩
      have HK3 := Lib.hid ((HK2.out.below hB3).alloc (.cells #[.int .u8 (k.toNat : Int), .string b] 28))
      have HF3 := Lib.hid (PackK.new w3 (.int .u8 (k.toNat : Int)) (.string b) 28)
      clear hB3 HK2 HN
      go_wp2_with fail
      refine (HAL.out _).mono ?_
      rintro e w4 ⟨rfl, hB4⟩
      have HK4 := Lib.hid (HK3.out.below hB4)
      have HF4 := Lib.hid (HF3.out.below hB4)
      have hc0 := HK4.out.cell0
      have hc1 := HK4.out.cell1
      have hd0 := HF4.out.cell0
      have hd1 := HF4.out.cell1
      clear hB4 HK3 HF3 HAL
      go_wp2
      go_ret
      exact ⟨rfl, HK4.out.2.2⟩
    · have hS : packS k (toL b) = [] := by unfold packS; rw [if_neg hE]
      rw [hS] at HP HR
      have HN : Hid (∀ W, Calls Try.prog 14 #[.string (tx [] ++ h)] W fun e w' => e = .returned (nextL (toL h)).val ∧ Below W.heap.size W w') := fun W => by
        have e : tx [] ++ h = h := by rw [← tx_toL h, tx_append, List.nil_append]
        rw [e]
        exact next_any h (by omega) W
      have heq : ((tx []).toList == (tx []).toList) = true := beq_self_eq_true _
      have hz : (tx []).size = 0 := rfl
      have hne : ((packE k (toL b) : Int) == 0) = false := beq_eq_false_iff_ne.2 (by omega)
      unfold NR.val frV at HN
      generalize packE k (toL b) = E at *
      generalize (nextL (toL h)).kind = k2 at *
      generalize tx (nextL (toL h)).body = b2 at *
      generalize (nextL (toL h)).long = n2 at *
      generalize (nextL (toL h)).code = c2 at *
      have hkb2 : 0 ≤ (k2.toNat : Int) ∧ (k2.toNat : Int) ≤ 255 := ⟨by omega, by have := k2.toNat_lt; omega⟩
      clear hS
      generalize tx [] = t at *
      have hc2 : ¬ (9223372036854775807 < t.size + h.size) := by omega
      go_enter Try.func3, Try.ntmps3
      go_wp2_with fail
      refine (HP.out _).mono ?_
      rintro e w1 ⟨rfl, hB1⟩
      have HK1 := Lib.hid (HK.out.below hB1)
      have hc0 := HK1.out.cell0
      have hc1 := HK1.out.cell1
      clear hB1 HK HP
      go_wp2_with fail
      refine (HR.out _).mono ?_
      rintro e w2 ⟨rfl, hB2⟩
      have HK2 := Lib.hid (HK1.out.below hB2)
      clear hB2 HK1 HR hc0 hc1
      go_wp2_with fail
      refine (HN.out _).mono ?_
      rintro e w3 ⟨rfl, hB3⟩
      have HK3 := Lib.hid ((HK2.out.below hB3).alloc (.cells #[.int .u8 (k2.toNat : Int), .string b2] 28))
      clear hB3 HK2 HN
      go_wp2_with fail
      refine (HAL.out _).mono ?_
      rintro e w4 ⟨rfl, hB4⟩
      have HK4 := Lib.hid (HK3.out.below hB4)
      clear hB4 HK3 HAL
      go_wp2
      go_ret
      exact ⟨rfl, HK4.out.2.2⟩

set_option maxRecDepth 100000 in
theorem lifted (os : Os) (started : os.Started) (H : Type) (enc : TypeId × Value → H) :
    ReturnsInHanded {} Try.checked os 3 .any (Rows.framePacksSpec.pre6 enc Try.prog Try.f3 Rows.framePacksRow.domain false) (Rows.framePacksSpec.post enc Try.prog Try.f3 false true false false) := by
  refine returnsInHanded_of_change_sized (C := Try.checked) own started (by kernel_rfl) Try.func3
    (ChangeSpec.witness6 (enc := enc) (C := Try.checked) false ⟨#[], #[.agg #[.int .u8 0, .string ByteArray.empty], .string ByteArray.empty], []⟩ 8 (by kernel_rfl) (by kernel_rfl) (by kernel_rfl) (by kernel_rfl)) ?_
  intro W base args ds gs before hval0 hW hcnd hsz0 _
  have hval : ∀ (j : Nat) t v, Try.f3.params[j]? = some t → args[j]? = some v → Value.okWide Try.prog W .any base t v := hval0
  have hW' := hW
  have hlt := hW.lt
  obtain ⟨p, q, hA0, hV, rfl, hfz, hnd⟩ := hW
  have hA : DataW.TrodAll enc Try.prog W 0 (fun _ => true) true Try.f3.params.toList args.toList ds p := hA0
  rw [Try.params3] at hA hval
  obtain ⟨v0, vs0, d0, ds0, p0, q0, hargs, rfl, rfl, h0, r0⟩ := trodAll_cons hA
  obtain ⟨v1, vs1, d1, ds1, p1, q1, rfl, rfl, rfl, h1, r1⟩ := trodAll_cons r0
  obtain ⟨rfl, rfl, rfl⟩ := trodAll_nil r1
  obtain rfl : args = #[v0, v1] := by cases args; simp_all
  obtain ⟨rfl, rfl⟩ := trodVars_none hV
  obtain ⟨k0, b0, rfl, x0⟩ := open_frame (hval 0 23 v0 rfl rfl) h0
  obtain ⟨a1, rfl, e1, -, w1⟩ := open_string Try.underlying9 (hval 1 9 v1 rfl rfl) h1
  have z1 : a1.size ≤ 140737488351232 := sized_string hsz0 (j := 1) (t := 9) (by kernel_rfl) (by rw [e1]; rfl)
  refine (walk W k0 b0 x0 a1 z1).mono fun e W' ⟨he, hb⟩ => ?_
  subst he
  exact ⟨_, rfl, law_post rfl hW' (fun ds h => by match ds, h with | [_, _], _ => rfl) (by kernel_rfl) (by kernel_rfl) (by kernel_rfl) hb⟩

theorem over : Rows.framePacksRow.holds Try.pinned (OpenSpec.ofChange Rows.framePacksSpec) :=
  OpenClaim.holds_of_wide 3 Try.f3 rfl rfl rfl rfl rfl rfl rfl ⟨rfl, rfl, rfl, rfl, rfl⟩ rfl rfl rfl rfl rfl (by kernel_rfl) Try.func3 (by kernel_rfl)
    (of_decide_eq_true (by kernel_rfl)) (by unfold Func.isWrapper; first | (rw [if_pos (by decide +kernel)]; kernel_rfl) | (rw [if_neg (by decide +kernel)]; exact ⟨rfl, rfl⟩))
    (fun os started H enc _ => lifted os started H enc)

theorem proved : Rows.FramePacksSaid := over
end Go.Proofs.Ytkfddmbhokeofaa.framePacks
