/- FrameFinds: in frames, packed one behind the other, and a torn one behind them, none is found but just them: for every row of frames and number. No condition. -/
import Derived.Test.YtkfddmbhokeofaaI9
namespace Go.Proofs.Ytkfddmbhokeofaa.frameFinds
open Go.ChangeShapes Go.WideShapes Go.ChangeAt Go.RowKit
open Go.ChangeMaps (open_string shut_string)
set_option linter.unusedVariables false

theorem find_n (s : ByteArray) (hs : s.size ≤ 1000000) (l : List Fr) (n : Nat) (hn : l.length = n) (h : findTo (toL s) s.size = l) (w : World) :
    Calls Try.prog 20 #[.string s] w fun e w' => ∃ a c, e = .returned (.slice a n c) ∧ FrSl w' a l ∧ Below w.heap.size w w' := by
  subst hn
  have hf := find_any s hs w
  rw [h] at hf
  refine hf.mono fun e w' ⟨v, he, ho, hb⟩ => ?_
  obtain ⟨a', c', rfl, _, h⟩ := own_fr ho
  exact ⟨a', c', he, h, hb⟩

set_option maxHeartbeats 4000000 in
theorem walk (w : World) (a : Option Addr) (c : Nat) (l : List Fr) (hr : FrSl w a l) (hf : FitsF l) (hcl : l.length ≤ c) (n : Int) (hn : (Lit.int .i64 n).wf = true) :
    Calls Try.prog 7 #[.slice a l.length c, .int .i64 n] w fun e w' => e = .returned (.bool true) ∧ Below w.heap.size w w' := by
  obtain ⟨hn1, hn2⟩ := wf64 hn
  clear hn
  have HAL := Lib.hid alive_any
  have HW := Lib.hid (whole_any a c l w hr hf)
  have HR := Lib.hid hr
  have hll := hf.1
  unfold maxLen at hll
  clear hr
  go_enter Try.func7, Try.ntmps7
  go_wp2_with fail
  refine HW.out.mono ?_
  rintro e w1 ⟨he, hB1⟩
  have HB1 := Lib.hid hB1
  clear hB1 HW
  rcases he with ⟨v1, rfl, hok, h20, ho⟩ | rfl
  · have HOK : Hid (∀ x ∈ l, packE x.1 x.2 = 0) := fun x hx => (hok x hx).1
    have hts : (tx (flatP l)).size = (flatP l).length := tx_size _
    obtain ⟨a1, c1, rfl, _, _, hsl1, _⟩ := own_slice ho
    have HSL1 := Lib.hid hsl1
    have HSZ : Hid ((flatP l).length ≤ 2000) := by
      have h := flatP_size l l.length (fun k hk _ => (hok l[k] (List.getElem_mem hk)).2) l.length (Nat.le_refl _) (Nat.le_refl _)
      rw [List.take_of_length_le (Nat.le_refl _)] at h
      unfold Hid; omega
    clear hok ho hsl1
    by_cases hc : 0 < l.length ∧ 0 ≤ n ∧ n ≤ ((flatP l).length : Int)
    · obtain ⟨m0, m1, m2⟩ := hc
      obtain ⟨cut, rfl⟩ : ∃ cut : Nat, n = cut := ⟨n.toNat, by omega⟩
      have HCUT := Lib.hid (slice_to (tx (flatP l)) cut (by omega))
      have hTz : ((tx (flatP l)).extract 0 cut).size = cut := by rw [ByteArray.size_extract]; omega
      have HTL : Hid (toL ((tx (flatP l)).extract 0 cut) = (flatP l).take cut) := by unfold Hid; rw [toL_extract, toL_tx, List.drop_zero]
      have HF1 : Hid (∀ W, Calls Try.prog 20 #[.string (tx (flatP l))] W fun e w' => ∃ a c, e = .returned (.slice a l.length c) ∧ FrSl w' a l ∧ Below W.heap.size W w') := fun W =>
        find_n (tx (flatP l)) (by have := HSZ.out; omega) l l.length rfl (by rw [toL_tx, tx_size]; exact find_all l HOK.out) W
      have HFC := Lib.hid (fun k h => find_cut l cut k HOK.out (by omega) h)
      generalize (tx (flatP l)).extract 0 cut = T at *
      have hsi : cut ≤ (tx (flatP l)).size := by omega
      have htz : (tx (flatP l)).size ≤ 2000 := by have := HSZ.out; omega
      clear hts m2 m1 hf
      generalize tx (flatP l) = t at *
      obtain ⟨N, hN⟩ : ∃ N, N = l.length := ⟨_, rfl⟩
      have HN := Lib.hid hN
      rw [← hN] at h20 hcl HSL1 HF1 m0 hll ⊢
      have hne : ((N : Int) == 0) = false := beq_eq_false_iff_ne.2 (by omega)
      clear hN
      go_wp2
      go_loopw [8, 37] (fun x i wr => ∃ (j m : Nat), j ≤ N ∧ m ≤ j ∧ i = .int .i64 j ∧ x = .int .i64 m ∧ Hid (Upto l cut j m) ∧ w1 = wr) (fun _ i _ => N - (intOf i).toNat)
      case atStart => exact ⟨0, 0, by omega, by omega, rfl, rfl, Upto.start _ _, rfl⟩
      case round =>
        obtain ⟨j, m, hj, hmj, rfl, rfl, HU, rfl⟩ := hrel
        by_cases hjN : j < N
        · obtain ⟨b, off, rfl, hbl, hcell⟩ := HSL1.out j (by rw [endsTo_len]; exact hjN)
          rw [endsTo_get l N j hjN] at hcell
          have H1 := Lib.hid (fun h => HU.out.whole h)
          have H2 := Lib.hid (fun h => HU.out.torn h)
          have hle : (flatP (l.take (j + 1))).length ≤ 2000 := Nat.le_trans (flatP_mono l _) HSZ.out
          by_cases he : (flatP (l.take (j + 1))).length ≤ cut
          · have HU2 := Lib.hid (H1.out he)
            clear H1 H2
            generalize (flatP (l.take (j + 1))).length = z at *
            go_wp2
            go_roundw
            case rel => exact ⟨j + 1, j + 1, by omega, by omega, by go_num, by go_num, HU2, by trivial⟩
            case measure => simp [intOf]; omega
          · have HU2 := Lib.hid (H2.out (by omega))
            clear H1 H2
            generalize (flatP (l.take (j + 1))).length = z at *
            go_wp2
            go_roundw
            case rel => exact ⟨j + 1, m, by omega, by omega, by go_num, rfl, HU2, by trivial⟩
            case measure => simp [intOf]; omega
        · obtain rfl : j = N := by omega
          have hwh : Whole l cut m := by
            have h := HU.out
            rw [HN.out] at h
            exact h.all
          have hlm : (l.take m).length = m := by rw [List.length_take]; have := HN.out; omega
          have HF2 : Hid (∀ W, Calls Try.prog 20 #[.string T] W fun e w' => ∃ a c, e = .returned (.slice a m c) ∧ FrSl w' a (l.take m) ∧ Below W.heap.size W w') := fun W =>
            find_n T (by omega) (l.take m) m hlm (by rw [HTL.out, hTz]; exact HFC.out m hwh) W
          have HO1 := Lib.hid (fun a c W h => olds_n a c j l HN.out.symm W h (by omega))
          have HO2 := Lib.hid (fun a c W h => olds_n a c m (l.take m) hlm W h (by omega))
          have HS1 := Lib.hid (fun a b ca cb W h h' => same_n a b ca cb j l HN.out.symm W h h' (by omega))
          have HS2 := Lib.hid (fun a b ca cb W h h' => same_n a b ca cb m (l.take m) hlm W h h' (by omega))
          have hfr := frames_to a j c m (by omega)
          have hcs := HCUT.out
          have HK : Hid (RowsK w a l a l w1) := ⟨HR.out.below HB1.out, HR.out.below HB1.out, HB1.out⟩
          clear hwh HSL1 HU HFC HTL
          go_upto_region 11 with fail
          go_region_held3 (fun w' => RowsK w a l a l w')
            (first | exact HK.out.drew | exact RowsK.below (by assumption) (by assumption) | assumption)
            (first | (go_at_call 11; refine (HAL.out _).mono ?_; rintro e w3 ⟨rfl, hB3⟩) | (go_at_call 20; (first | (have hseen := hr5; clear hseen; refine (HF2.out _).mono ?_; rintro e w7 ⟨a7, c7, rfl, hr7, hB7⟩) | (refine (HF1.out _).mono ?_; rintro e w4 ⟨a4, c4, rfl, hr4, hB4⟩))) | (go_at_call 19; (first | (refine (HO2.out _ _ _ hr7).mono ?_; rintro e w8 ⟨a8, c8, rfl, hr8, hB8⟩) | (refine (HO1.out _ _ _ hr4).mono ?_; rintro e w5 ⟨a5, c5, rfl, hr5, hB5⟩))) | (go_at_call 18; (first | (refine (HS2.out _ _ _ _ _ hr8 ((show RowsK w a l a l _ by assumption).1.take m)).mono ?_; rintro e w9 ⟨rfl, hB9⟩) | (refine (HS1.out _ _ _ _ _ hr5 (show RowsK w a l a l _ by assumption).1).mono ?_; rintro e w6 ⟨rfl, hB6⟩))))
          go_wp2
          go_ret
          exact ⟨rfl, (show RowsK w a l a l w9 by assumption).2.2⟩
    · have hn3 : l.length = 0 ∨ (0 < l.length ∧ n < 0) ∨ (0 < l.length ∧ ¬ n < 0 ∧ ((flatP l).length : Int) < n) := by omega
      have hsi : ((tx (flatP l)).size : Int) = (flatP l).length := by omega
      rw [← hsi] at hn3
      clear hc hsi hts HSZ HSL1 hf
      generalize tx (flatP l) = t at *
      generalize l.length = N at *
      rcases hn3 with m0 | ⟨m0, m1⟩ | ⟨m0, m1, m2⟩
      · subst m0
        go_wp2_with fail
        refine (HAL.out _).mono ?_
        rintro e w2 ⟨rfl, hB2⟩
        go_wp2
        go_ret
        exact ⟨rfl, HB1.out.trans (hB2.mono HB1.out.size)⟩
      all_goals
        have hne : ((N : Int) == 0) = false := beq_eq_false_iff_ne.2 (by omega)
        go_wp2_with fail
        refine (HAL.out _).mono ?_
        rintro e w2 ⟨rfl, hB2⟩
        go_wp2
        go_ret
        exact ⟨rfl, HB1.out.trans (hB2.mono HB1.out.size)⟩
  · go_wp2_with fail
    refine (HAL.out _).mono ?_
    rintro e w2 ⟨rfl, hB2⟩
    go_wp2
    go_ret
    exact ⟨rfl, HB1.out.trans (hB2.mono HB1.out.size)⟩

set_option maxRecDepth 100000 in
theorem lifted (os : Os) (started : os.Started) (H : Type) (enc : TypeId × Value → H) :
    ReturnsInHanded {} Try.checked os 7 .any (Rows.frameFindsSpec.pre6 enc Try.prog Try.f7 Rows.frameFindsRow.domain false) (Rows.frameFindsSpec.post enc Try.prog Try.f7 false true false false) := by
  refine returnsInHanded_of_change (C := Try.checked) own started (by kernel_rfl) Try.func7
    (ChangeSpec.witness6 (enc := enc) (C := Try.checked) false ⟨#[], #[.slice none 0 0, .int .i64 0], []⟩ 8 (by kernel_rfl) (by kernel_rfl) (by kernel_rfl) (by kernel_rfl)) ?_
  intro W base args ds gs before hval0 hW hcnd _
  have hval : ∀ (j : Nat) t v, Try.f7.params[j]? = some t → args[j]? = some v → Value.okWide Try.prog W .any base t v := hval0
  have hW' := hW
  have hlt := hW.lt
  obtain ⟨p, q, hA0, hV, rfl, hfz, hnd⟩ := hW
  have hA : DataW.TrodAll enc Try.prog W 0 (fun _ => true) true Try.f7.params.toList args.toList ds p := hA0
  rw [Try.params7] at hA hval
  obtain ⟨v0, vs0, d0, ds0, p0, q0, hargs, rfl, rfl, h0, r0⟩ := trodAll_cons hA
  obtain ⟨v1, vs1, d1, ds1, p1, q1, rfl, rfl, rfl, h1, r1⟩ := trodAll_cons r0
  obtain ⟨rfl, rfl, rfl⟩ := trodAll_nil r1
  obtain rfl : args = #[v0, v1] := by cases args; simp_all
  obtain ⟨a0, c0, l0, rfl, s0, f0, m0, n0, o0⟩ := open_frames (hval 0 39 v0 rfl rfl) h0
  obtain ⟨a1, rfl, -, -, w1⟩ := open_int Try.underlying3 (hval 1 3 v1 rfl rfl) h1
  refine (walk W a0 c0 l0 s0 f0 m0 a1 w1).mono fun e W' ⟨he, hb⟩ => ?_
  subst he
  exact ⟨_, rfl, law_post rfl hW' (fun ds h => by match ds, h with | [_, _], _ => rfl) (by kernel_rfl) (by kernel_rfl) (by kernel_rfl) hb⟩

theorem over : Rows.frameFindsRow.holds Try.pinned (OpenSpec.ofChange Rows.frameFindsSpec) :=
  OpenClaim.holds_of_wide 7 Try.f7 rfl rfl rfl rfl rfl rfl rfl ⟨rfl, rfl, rfl, rfl, rfl⟩ rfl rfl rfl rfl rfl (by kernel_rfl) Try.func7 (by kernel_rfl)
    (of_decide_eq_true (by kernel_rfl)) (by unfold Func.isWrapper; first | (rw [if_pos (by decide +kernel)]; kernel_rfl) | (rw [if_neg (by decide +kernel)]; exact ⟨rfl, rfl⟩))
    (fun os started H enc _ => lifted os started H enc)

theorem proved : Rows.FrameFindsSaid := over
end Go.Proofs.Ytkfddmbhokeofaa.frameFinds
