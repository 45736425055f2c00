/- FrameGoes: a text that is no frame's beginning is told as amiss, and what is behind changes nothing; a beginning of a frame is told as short: for every frame, number and text. No condition. -/
import Derived.Test.YtkfddmbhokeofaaI9
import Derived.SizedLaws
namespace Go.Proofs.Ytkfddmbhokeofaa.frameGoes
open Go.ChangeShapes Go.WideShapes Go.ChangeAt Go.RowKit
open Go.ChangeMaps (open_string shut_string)
set_option linter.unusedVariables false

set_option maxHeartbeats 2000000 in
theorem walk (w : World) (k : UInt8) (b : ByteArray) (hb : b.size ≤ maxLen) (n : Int) (hn : (Lit.int .i64 n).wf = true) (h : ByteArray) (hh : h.size ≤ 140737488351232) :
    Calls Try.prog 8 #[.agg #[.int .u8 (k.toNat : Int), .string b], .int .i64 n, .string h] w fun e w' => e = .returned (.bool true) ∧ Below w.heap.size w w' := by
  obtain ⟨hn1, hn2⟩ := wf64 hn
  clear hn
  have HAL := Lib.hid alive_any
  have HK := Lib.hid (PackK.new w (.int .u8 (k.toNat : Int)) (.string b) 23)
  have hkb : 0 ≤ (k.toNat : Int) ∧ (k.toNat : Int) ≤ 255 := ⟨by omega, by have := k.toNat_lt; omega⟩
  have HP := Lib.hid (fun W => refPack_any k b hb W)
  unfold maxLen at hb
  by_cases hE : packE k (toL b) = 0
  · have hS : packS k (toL b) = packT k (toL b) := by unfold packS; rw [if_pos hE]
    rw [hS, hE] at HP
    have hsz : (tx (packT k (toL b))).size = 14 + b.size := by rw [tx_size, packT_len, toL_length]
    have hb2 := (packE_zero hE).2.1
    rw [toL_length] at hb2
    by_cases hm : 0 ≤ n ∧ n < 14 + (b.size : Int) ∧ b.size ≤ 286
    · obtain ⟨m1, m2, m3⟩ := hm
      obtain ⟨c, rfl⟩ : ∃ c : Nat, n = c := ⟨n.toNat, by omega⟩
      have hsl := slice_to (tx (packT k (toL b))) c (by omega)
      have hcz : ((tx (packT k (toL b))).extract 0 c).size = c := by rw [ByteArray.size_extract]; omega
      have htk : toL ((tx (packT k (toL b))).extract 0 c) = (packT k (toL b)).take c := by rw [toL_extract, toL_tx, List.drop_zero]
      have HN1 : Hid (∀ W, Calls Try.prog 14 #[.string ((tx (packT k (toL b))).extract 0 c)] W fun e w' => e = .returned (.tuple #[.agg #[.int .u8 0, .string ⟨#[]⟩], .int .i64 0, .int .i64 43]) ∧ Below W.heap.size W w') := fun W => by
        have h := next_any ((tx (packT k (toL b))).extract 0 c) (by omega) W
        rw [htk, nextL_cut hE c (by rw [toL_length]; omega)] at h
        exact h
      have HN2 : Hid (∀ W, Calls Try.prog 14 #[.string ((tx (packT k (toL b))).extract 0 c ++ ⟨#[0]⟩ ++ h)] W fun e w' => e = .returned (.tuple #[.agg #[.int .u8 0, .string ⟨#[]⟩], .int .i64 0, .int .i64 44]) ∧ Below W.heap.size W w') := fun W => by
        have e : toL ((tx (packT k (toL b))).extract 0 c ++ ⟨#[0]⟩ ++ h) = (packT k (toL b)).take c ++ 0 :: toL h := by
          rw [toL_append, toL_append, htk, show toL (⟨#[0]⟩ : ByteArray) = [0] from rfl, List.append_assoc]; rfl
        have h := next_any ((tx (packT k (toL b))).extract 0 c ++ ⟨#[0]⟩ ++ h) (by rw [ByteArray.size_append, ByteArray.size_append, hcz, show (⟨#[0]⟩ : ByteArray).size = 1 from rfl]; omega) W
        rw [e, nextL_amiss hE c (by rw [toL_length]; omega)] at h
        exact h
      have hz1 : (⟨#[0]⟩ : ByteArray).size = 1 := rfl
      have hc1 : ¬ (9223372036854775807 < c + 1) := by omega
      have hc2 : ¬ (9223372036854775807 < c + 1 + h.size) := by omega
      clear hS hE htk
      generalize (tx (packT k (toL b))).extract 0 c = T at *
      generalize tx (packT k (toL b)) = t at *
      go_enter Try.func8, Try.ntmps8
      go_wp2_with fail
      refine (HP.out _).mono ?_
      rintro e w1 ⟨rfl, hB1⟩
      have HB1 := Lib.hid (HK.out.below hB1).2.2
      clear hB1 HK HP
      go_wp2_with fail
      refine (HN1.out _).mono ?_
      rintro e w2 ⟨rfl, hB2⟩
      have HB2 : Hid (Below w.heap.size w w2) := HB1.out.trans (hB2.mono HB1.out.size)
      have HB3 := Lib.hid (HB2.out.alloc HB2.out.size (.cells #[.int .u8 0, .string ⟨#[]⟩] 28))
      clear hB2 HB1 HN1
      go_wp2_with fail
      refine (HN2.out _).mono ?_
      rintro e w3 ⟨rfl, hB3⟩
      have HB4 : Hid (Below w.heap.size w w3) := HB3.out.trans (hB3.mono HB3.out.size)
      have HB5 := Lib.hid (HB4.out.alloc HB4.out.size (.cells #[.int .u8 0, .string ⟨#[]⟩] 28))
      clear hB3 HB2 HB3 HN2
      go_wp2_with fail
      refine (HAL.out _).mono ?_
      rintro e w4 ⟨rfl, hB4⟩
      go_wp2
      go_ret
      exact ⟨rfl, HB5.out.trans (hB4.mono HB5.out.size)⟩
    · have hm2 : n < 0 ∨ (¬ n < 0 ∧ 14 + (b.size : Int) ≤ n) ∨ (¬ n < 0 ∧ ¬ 14 + (b.size : Int) ≤ n ∧ 286 < b.size) := by omega
      clear hm hS hE
      generalize tx (packT k (toL b)) = t at *
      have hsi : (t.size : Int) = 14 + b.size := by omega
      rcases hm2 with m1 | ⟨m1, m2⟩ | ⟨m1, m2, m3⟩
      all_goals
        go_enter Try.func8, Try.ntmps8
        go_wp2_with fail
        refine (HP.out _).mono ?_
        rintro e w1 ⟨rfl, hB1⟩
        have HK1 := Lib.hid (HK.out.below hB1)
        clear hB1 HK HP
        go_wp2_with fail
        refine (HAL.out _).mono ?_
        rintro e w2 ⟨rfl, hB2⟩
        go_wp2
        go_ret
        exact ⟨rfl, (HK1.out.below hB2).2.2⟩
  · have hne : ((packE k (toL b) : Int) == 0) = false := beq_eq_false_iff_ne.2 (by omega)
    generalize packE k (toL b) = E at *
    generalize tx (packS k (toL b)) = t at *
    go_enter Try.func8, Try.ntmps8
    go_wp2_with fail
    refine (HP.out _).mono ?_
    rintro e w1 ⟨rfl, hB1⟩
    have HK1 := Lib.hid (HK.out.below hB1)
    clear hB1 HK HP
    go_wp2_with fail
    refine (HAL.out _).mono ?_
    rintro e w2 ⟨rfl, hB2⟩
    go_wp2
    go_ret
    exact ⟨rfl, (HK1.out.below hB2).2.2⟩

set_option maxRecDepth 100000 in
theorem lifted (os : Os) (started : os.Started) (H : Type) (enc : TypeId × Value → H) :
    ReturnsInHanded {} Try.checked os 8 .any (Rows.frameGoesSpec.pre6 enc Try.prog Try.f8 Rows.frameGoesRow.domain false) (Rows.frameGoesSpec.post enc Try.prog Try.f8 false true false false) := by
  refine returnsInHanded_of_change_sized (C := Try.checked) own started (by kernel_rfl) Try.func8
    (ChangeSpec.witness6 (enc := enc) (C := Try.checked) false ⟨#[], #[.agg #[.int .u8 0, .string ByteArray.empty], .int .i64 0, .string ByteArray.empty], []⟩ 8 (by kernel_rfl) (by kernel_rfl) (by kernel_rfl) (by kernel_rfl)) ?_
  intro W base args ds gs before hval0 hW hcnd hsz0 _
  have hval : ∀ (j : Nat) t v, Try.f8.params[j]? = some t → args[j]? = some v → Value.okWide Try.prog W .any base t v := hval0
  have hW' := hW
  have hlt := hW.lt
  obtain ⟨p, q, hA0, hV, rfl, hfz, hnd⟩ := hW
  have hA : DataW.TrodAll enc Try.prog W 0 (fun _ => true) true Try.f8.params.toList args.toList ds p := hA0
  rw [Try.params8] at hA hval
  obtain ⟨v0, vs0, d0, ds0, p0, q0, hargs, rfl, rfl, h0, r0⟩ := trodAll_cons hA
  obtain ⟨v1, vs1, d1, ds1, p1, q1, rfl, rfl, rfl, h1, r1⟩ := trodAll_cons r0
  obtain ⟨v2, vs2, d2, ds2, p2, q2, rfl, rfl, rfl, h2, r2⟩ := trodAll_cons r1
  obtain ⟨rfl, rfl, rfl⟩ := trodAll_nil r2
  obtain rfl : args = #[v0, v1, v2] := by cases args; simp_all
  obtain ⟨rfl, rfl⟩ := trodVars_none hV
  obtain ⟨k0, b0, rfl, x0⟩ := open_frame (hval 0 23 v0 rfl rfl) h0
  obtain ⟨a1, rfl, -, -, w1⟩ := open_int Try.underlying3 (hval 1 3 v1 rfl rfl) h1
  obtain ⟨a2, rfl, e2, -, w2⟩ := open_string Try.underlying9 (hval 2 9 v2 rfl rfl) h2
  have z2 : a2.size ≤ 140737488351232 := sized_string hsz0 (j := 2) (t := 9) (by kernel_rfl) (by rw [e2]; rfl)
  refine (walk W k0 b0 x0 a1 w1 a2 z2).mono fun e W' ⟨he, hb⟩ => ?_
  subst he
  exact ⟨_, rfl, law_post rfl hW' (fun ds h => by match ds, h with | [_, _, _], _ => rfl) (by kernel_rfl) (by kernel_rfl) (by kernel_rfl) hb⟩

theorem over : Rows.frameGoesRow.holds Try.pinned (OpenSpec.ofChange Rows.frameGoesSpec) :=
  OpenClaim.holds_of_wide 8 Try.f8 rfl rfl rfl rfl rfl rfl rfl ⟨rfl, rfl, rfl, rfl, rfl⟩ rfl rfl rfl rfl rfl (by kernel_rfl) Try.func8 (by kernel_rfl)
    (of_decide_eq_true (by kernel_rfl)) (by unfold Func.isWrapper; first | (rw [if_pos (by decide +kernel)]; kernel_rfl) | (rw [if_neg (by decide +kernel)]; exact ⟨rfl, rfl⟩))
    (fun os started H enc _ => lifted os started H enc)

theorem proved : Rows.FrameGoesSaid := over
end Go.Proofs.Ytkfddmbhokeofaa.frameGoes
