/- FrameScans: the frames with which any text begins, and how long they are together, and all that may be found in it, are what the document says: for every text. No condition. -/
import Derived.Test.YtkfddmbhokeofaaI9
namespace Go.Proofs.Ytkfddmbhokeofaa.frameScans
open Go.ChangeShapes Go.WideShapes Go.ChangeAt Go.RowKit
open Go.ChangeMaps (open_string shut_string)
set_option linter.unusedVariables false

set_option maxHeartbeats 2000000 in
theorem walk (w : World) (s : ByteArray) (hm : s.size ≤ maxLen) :
    Calls Try.prog 5 #[.string s] w fun e w' => e = .returned (.bool true) ∧ Below w.heap.size w w' := by
  have HAL := Lib.hid alive_any
  unfold maxLen at hm
  by_cases hl : 600 < s.size
  · go_enter Try.func5, Try.ntmps5
    go_wp2_with fail
    refine (HAL.out _).mono ?_
    rintro e w1 ⟨rfl, hB⟩
    go_wp2
    go_ret
    exact ⟨rfl, hB⟩
  · have HS := Lib.hid (fun W => scan_any s (by omega) W)
    have HRS := Lib.hid (fun W => refScan_any s (by omega) W)
    have HF := Lib.hid (fun W => find_any s (by omega) W)
    have HRF := Lib.hid (fun W => refFind_any s (by omega) W)
    have hfl := findTo_len (toL s) s.size
    generalize findTo (toL s) s.size = g at *
    have HO := Lib.hid (fun a c l W (h : FrSl W a l) h2 => olds_any a c l W h h2)
    have HSM := Lib.hid (fun a b ca cb l W (h : FrSl W a l) (h' : FrSl W b l) h2 => same_self a b ca cb l W h h' h2)
    go_enter Try.func5, Try.ntmps5
    go_wp2_with fail
    refine (HS.out _).mono ?_
    rintro e w1 ⟨v1, l, n, rfl, hs1, ho1, hl1, hB1⟩
    obtain ⟨a1, c1, rfl, _, hr1⟩ := own_fr ho1
    have HS1 := Lib.hid hs1
    have HR1 := Lib.hid hr1
    have HB1 := Lib.hid hB1
    clear hs1 ho1 hr1 hB1 HS
    go_wp2_with fail
    refine (HRS.out _).mono ?_
    rintro e w2 ⟨v2, l2, n2, rfl, hs2, ho2, hl2, hB2⟩
    obtain ⟨rfl, rfl⟩ := HS1.out.only hs2
    obtain ⟨a2, c2, rfl, _, hr2⟩ := own_fr ho2
    have HR2 := Lib.hid hr2
    have HR1' := Lib.hid (HR1.out.below hB2)
    have HB2 : Hid (Below w.heap.size w w2) := HB1.out.trans (hB2.mono HB1.out.size)
    clear hs2 ho2 hr2 hB2 HRS HB1 HR1 HS1 hl2
    go_wp2_with fail
    refine (HAL.out _).mono ?_
    rintro e w3 ⟨rfl, hB3⟩
    have HR3 := Lib.hid (HR1'.out.below hB3)
    have HR4 := Lib.hid (HR2.out.below hB3)
    have HB3 : Hid (Below w.heap.size w w3) := HB2.out.trans (hB3.mono HB2.out.size)
    clear hB3 HB2 HR2 HR1'
    go_wp2_with fail
    refine (HO.out _ _ _ _ HR3.out (by omega)).mono ?_
    rintro e w4 ⟨v4, rfl, ho4, hB4⟩
    obtain ⟨a4, c4, rfl, _, hr4⟩ := own_fr ho4
    have HR5 := Lib.hid hr4
    have HR6 := Lib.hid (HR4.out.below hB4)
    have HB4 : Hid (Below w.heap.size w w4) := HB3.out.trans (hB4.mono HB3.out.size)
    clear ho4 hr4 hB4 HB3 HR3 HR4
    go_wp2_with fail
    refine (HSM.out _ _ _ _ _ _ HR5.out HR6.out (by unfold maxLen; omega)).mono ?_
    rintro e w5 ⟨rfl, hB5⟩
    have HB5 : Hid (Below w.heap.size w w5) := HB4.out.trans (hB5.mono HB4.out.size)
    clear hB5 HB4 HR5 HR6
    go_wp2_with fail
    refine (HF.out _).mono ?_
    rintro e w6 ⟨v6, rfl, ho6, hB6⟩
    obtain ⟨a6, c6, rfl, _, hr6⟩ := own_fr ho6
    have HR7 := Lib.hid hr6
    have HB6 : Hid (Below w.heap.size w w6) := HB5.out.trans (hB6.mono HB5.out.size)
    clear ho6 hr6 hB6 HB5 HF
    go_wp2_with fail
    refine (HO.out _ _ _ _ HR7.out (by omega)).mono ?_
    rintro e w7 ⟨v7, rfl, ho7, hB7⟩
    obtain ⟨a7, c7, rfl, _, hr7⟩ := own_fr ho7
    have HR8 := Lib.hid hr7
    have HB7 : Hid (Below w.heap.size w w7) := HB6.out.trans (hB7.mono HB6.out.size)
    clear ho7 hr7 hB7 HB6 HR7
    go_wp2_with fail
    refine (HRF.out _).mono ?_
    rintro e w8 ⟨v8, rfl, ho8, hB8⟩
    obtain ⟨a8, c8, rfl, _, hr8⟩ := own_fr ho8
    have HR9 := Lib.hid hr8
    have HR10 := Lib.hid (HR8.out.below hB8)
    have HB8 : Hid (Below w.heap.size w w8) := HB7.out.trans (hB8.mono HB7.out.size)
    clear ho8 hr8 hB8 HB7 HR8 HRF
    go_wp2_with fail
    refine (HSM.out _ _ _ _ _ _ HR10.out HR9.out (by unfold maxLen; omega)).mono ?_
    rintro e w9 ⟨rfl, hB9⟩
    go_wp2
    go_ret
    exact ⟨rfl, HB8.out.trans (hB9.mono HB8.out.size)⟩

set_option maxRecDepth 100000 in
theorem lifted (os : Os) (started : os.Started) (H : Type) (enc : TypeId × Value → H) :
    ReturnsInHanded {} Try.checked os 5 .any (Rows.frameScansSpec.pre6 enc Try.prog Try.f5 Rows.frameScansRow.domain false) (Rows.frameScansSpec.post enc Try.prog Try.f5 false true false false) := by
  refine returnsInHanded_of_change (C := Try.checked) own started (by kernel_rfl) Try.func5
    (ChangeSpec.witness6 (enc := enc) (C := Try.checked) false ⟨#[], #[.string ByteArray.empty], []⟩ 8 (by kernel_rfl) (by kernel_rfl) (by kernel_rfl) (by kernel_rfl)) ?_
  intro W base args ds gs before hval0 hW hcnd _
  have hval : ∀ (j : Nat) t v, Try.f5.params[j]? = some t → args[j]? = some v → Value.okWide Try.prog W .any base t v := hval0
  have hW' := hW
  have hlt := hW.lt
  obtain ⟨p, q, hA0, hV, rfl, hfz, hnd⟩ := hW
  have hA : DataW.TrodAll enc Try.prog W 0 (fun _ => true) true Try.f5.params.toList args.toList ds p := hA0
  rw [Try.params5] at hA hval
  obtain ⟨v0, vs0, d0, ds0, p0, q0, hargs, rfl, rfl, h0, r0⟩ := trodAll_cons hA
  obtain ⟨rfl, rfl, rfl⟩ := trodAll_nil r0
  obtain rfl : args = #[v0] := by cases args; simp_all
  obtain ⟨a0, rfl, -, -, w0⟩ := open_string Try.underlying9 (hval 0 9 v0 rfl rfl) h0
  refine (walk W a0 w0).mono fun e W' ⟨he, hb⟩ => ?_
  subst he
  exact ⟨_, rfl, law_post rfl hW' (fun ds h => by match ds, h with | [_], _ => rfl) (by kernel_rfl) (by kernel_rfl) (by kernel_rfl) hb⟩

theorem over : Rows.frameScansRow.holds Try.pinned (OpenSpec.ofChange Rows.frameScansSpec) :=
  OpenClaim.holds_of_wide 5 Try.f5 rfl rfl rfl rfl rfl rfl rfl ⟨rfl, rfl, rfl, rfl, rfl⟩ rfl rfl rfl rfl rfl (by kernel_rfl) Try.func5 (by kernel_rfl)
    (of_decide_eq_true (by kernel_rfl)) (by unfold Func.isWrapper; first | (rw [if_pos (by decide +kernel)]; kernel_rfl) | (rw [if_neg (by decide +kernel)]; exact ⟨rfl, rfl⟩))
    (fun os started H enc _ => lifted os started H enc)

theorem proved : Rows.FrameScansSaid := over
end Go.Proofs.Ytkfddmbhokeofaa.frameScans
