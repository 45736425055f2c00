/- FrameSizes: a frame's text has fourteen bytes more than its body, and just one Mark, in front; for every frame. No condition. -/
import Derived.Test.YtkfddmbhokeofaaI9
namespace Go.Proofs.Ytkfddmbhokeofaa.frameSizes
open Go.ChangeShapes Go.WideShapes Go.ChangeAt Go.RowKit
open Go.ChangeMaps (open_string shut_string)
set_option linter.unusedVariables false

set_option maxHeartbeats 2000000 in
theorem walk (w : World) (k : UInt8) (b : ByteArray) (hb : b.size ≤ maxLen) :
    Calls Try.prog 9 #[.agg #[.int .u8 (k.toNat : Int), .string b]] w fun e w' => e = .returned (.bool true) ∧ Below w.heap.size w w' := by
  have HAL := Lib.hid alive_any
  have HK := Lib.hid (PackK.new w (.int .u8 (k.toNat : Int)) (.string b) 23)
  have hkb : 0 ≤ (k.toNat : Int) ∧ (k.toNat : Int) ≤ 255 := ⟨by omega, by have := k.toNat_lt; omega⟩
  have HP := Lib.hid (fun W => pack_any k b hb W)
  unfold maxLen at hb
  by_cases hl : 2000 < b.size
  · go_enter Try.func9, Try.ntmps9
    go_wp2_with fail
    refine (HAL.out _).mono ?_
    rintro e w1 ⟨rfl, hB⟩
    go_wp2
    go_ret
    exact ⟨rfl, (HK.out.below hB).2.2⟩
  · by_cases hE : packE k (toL b) = 0
    · have hS : packS k (toL b) = packT k (toL b) := by unfold packS; rw [if_pos hE]
      rw [hS, hE] at HP
      have hsz : (tx (packT k (toL b))).size = 14 + b.size := by rw [tx_size, packT_len, toL_length]
      have HM : Hid (∀ j (h : j < (tx (packT k (toL b))).size), marks ((packT k (toL b)).take (j + 1)) = marks ((packT k (toL b)).take j) + if (tx (packT k (toL b)))[j] = 254 then 1 else 0) := fun j h => by
        have e := marks_take (packT k (toL b)) j (by rw [tx_size] at h; exact h)
        rw [e]; rfl
      have HE1 : Hid (marks ((packT k (toL b)).take (14 + b.size)) = 1) := by
        unfold Hid
        rw [List.take_of_length_le (by rw [packT_len, toL_length]; omega), marks_pack hE]
      have hi0 : ∀ W : World, (Instr.index 9 (.string (tx (packT k (toL b)))) (.int .i64 0)).run Try.prog W = .ok (.int .u8 254) W := fun W => index_at (tx (packT k (toL b))) 0 0 rfl (by omega) W
      have HLE : Hid (∀ j, marks ((packT k (toL b)).take j) ≤ j) := fun j => Nat.le_trans (marks_le _) (by rw [List.length_take]; omega)
      clear hS hE
      generalize tx (packT k (toL b)) = t at *
      generalize packT k (toL b) = P at *
      go_enter Try.func9, Try.ntmps9
      go_wp2_with fail
      refine (HP.out _).mono ?_
      rintro e w1 ⟨rfl, hB1⟩
      have HK1 := Lib.hid (HK.out.below hB1)
      clear hB1 HK HP
      go_wp2
      go_loopw [5, 6] (fun v i wr => ∃ j : Nat, j ≤ t.size ∧ i = .int .i64 j ∧ v = .int .i64 (marks (P.take j) : Int) ∧ w1 = wr) (fun _ i _ => t.size - (intOf i).toNat)
      case atStart => exact ⟨0, by omega, rfl, by simp [marks], rfl⟩
      case round =>
        obtain ⟨j, hj, rfl, rfl, rfl⟩ := hrel
        by_cases hjs : j < t.size
        · have H1 := Lib.hid (HM.out j hjs)
          have hle := HLE.out j
          generalize marks (P.take j) = m at *
          by_cases hx : t[j] = 254
          · have hx2 : (t[j].toNat : Int) = 254 := by rw [hx]; rfl
            rw [if_pos hx] at H1
            clear hx
            go_wp2
            go_roundw
            case rel => exact ⟨j + 1, by omega, by go_num, by rw [H1.out]; go_num, by trivial⟩
            case measure => simp [intOf]; omega
          · have hx2 : ((t[j].toNat : Int) == 254) = false := beq_eq_false_iff_ne.2 (fun e => hx (UInt8.toNat_inj.1 (by have : (254 : UInt8).toNat = 254 := rfl; omega)))
            rw [if_neg hx] at H1
            clear hx
            go_wp2
            go_roundw
            case rel => exact ⟨j + 1, by omega, by go_num, by rw [H1.out]; rfl, by trivial⟩
            case measure => simp [intOf]; omega
        · obtain rfl : j = t.size := by omega
          rw [hsz, HE1.out]
          have hsi : (t.size : Int) = 14 + b.size := by omega
          go_wp2_with fail
          refine (HAL.out _).mono ?_
          rintro e w2 ⟨rfl, hB2⟩
          have HK2 := Lib.hid (HK1.out.below hB2)
          have hc0 := HK2.out.cell0
          have hc1 := HK2.out.cell1
          clear hB2 HK1
          go_wp2
          go_ret
          exact ⟨rfl, HK2.out.2.2⟩
    · have hS : tx (packS k (toL b)) = ⟨#[]⟩ := by unfold packS; rw [if_neg hE]; rfl
      rw [hS] at HP
      have heq : ((⟨#[]⟩ : ByteArray).toList == (⟨#[]⟩ : ByteArray).toList) = true := beq_self_eq_true _
      have hne : ((packE k (toL b) : Int) == 0) = false := beq_eq_false_iff_ne.2 (by omega)
      generalize packE k (toL b) = E at *
      clear hS
      go_enter Try.func9, Try.ntmps9
      go_wp2_with fail
      refine (HP.out _).mono ?_
      rintro e w1 ⟨rfl, hB1⟩
      have HK1 := Lib.hid (HK.out.below hB1)
      clear hB1 HK HP
      go_wp2_with fail
      refine (HAL.out _).mono ?_
      rintro e w2 ⟨rfl, hB2⟩
      go_wp2
      go_ret
      exact ⟨rfl, (HK1.out.below hB2).2.2⟩

set_option maxRecDepth 100000 in
theorem lifted (os : Os) (started : os.Started) (H : Type) (enc : TypeId × Value → H) :
    ReturnsInHanded {} Try.checked os 9 .any (Rows.frameSizesSpec.pre6 enc Try.prog Try.f9 Rows.frameSizesRow.domain false) (Rows.frameSizesSpec.post enc Try.prog Try.f9 false true false false) := by
  refine returnsInHanded_of_change (C := Try.checked) own started (by kernel_rfl) Try.func9
    (ChangeSpec.witness6 (enc := enc) (C := Try.checked) false ⟨#[], #[.agg #[.int .u8 0, .string ByteArray.empty]], []⟩ 8 (by kernel_rfl) (by kernel_rfl) (by kernel_rfl) (by kernel_rfl)) ?_
  intro W base args ds gs before hval0 hW hcnd _
  have hval : ∀ (j : Nat) t v, Try.f9.params[j]? = some t → args[j]? = some v → Value.okWide Try.prog W .any base t v := hval0
  have hW' := hW
  have hlt := hW.lt
  obtain ⟨p, q, hA0, hV, rfl, hfz, hnd⟩ := hW
  have hA : DataW.TrodAll enc Try.prog W 0 (fun _ => true) true Try.f9.params.toList args.toList ds p := hA0
  rw [Try.params9] at hA hval
  obtain ⟨v0, vs0, d0, ds0, p0, q0, hargs, rfl, rfl, h0, r0⟩ := trodAll_cons hA
  obtain ⟨rfl, rfl, rfl⟩ := trodAll_nil r0
  obtain rfl : args = #[v0] := by cases args; simp_all
  obtain ⟨k0, b0, rfl, x0⟩ := open_frame (hval 0 23 v0 rfl rfl) h0
  refine (walk W k0 b0 x0).mono fun e W' ⟨he, hb⟩ => ?_
  subst he
  exact ⟨_, rfl, law_post rfl hW' (fun ds h => by match ds, h with | [_], _ => rfl) (by kernel_rfl) (by kernel_rfl) (by kernel_rfl) hb⟩

theorem over : Rows.frameSizesRow.holds Try.pinned (OpenSpec.ofChange Rows.frameSizesSpec) :=
  OpenClaim.holds_of_wide 9 Try.f9 rfl rfl rfl rfl rfl rfl rfl ⟨rfl, rfl, rfl, rfl, rfl⟩ rfl rfl rfl rfl rfl (by kernel_rfl) Try.func9 (by kernel_rfl)
    (of_decide_eq_true (by kernel_rfl)) (by unfold Func.isWrapper; first | (rw [if_pos (by decide +kernel)]; kernel_rfl) | (rw [if_neg (by decide +kernel)]; exact ⟨rfl, rfl⟩))
    (fun os started H enc _ => lifted os started H enc)

theorem proved : Rows.FrameSizesSaid := over
end Go.Proofs.Ytkfddmbhokeofaa.frameSizes
