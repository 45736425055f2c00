/- DigitsSplits: the words of any text, or that there are none, are what the document says, and their line is the text: for every text. No condition but that the library's tables hold what the library's text lays (the card's tie). -/
import Derived.Test.YtdakdfpjibmocaaDoorE0
namespace Go.Proofs.YtdakdfpjibmocaaDoor.digitsSplits
open Go.ChangeShapes Go.WideShapes Go.ChangeAt Go.RowKit Go.Shelf
open Go.ChangeMaps (open_string shut_string)
set_option linter.unusedVariables false

set_option maxHeartbeats 2000000 in
theorem walk (w : World) (hS : w.ShapedOpen Tryd.prog) (hL : laidMetH Tryd.prog Rows.digitsHexRow.laid w) (s : ByteArray) (w0 : s.size ≤ maxLen) :
    Calls Tryd.prog 6 #[.string s] w fun e w' => e = .returned (.bool true) ∧ Below w.heap.size w w' := by
  have HM := Lib.hid (max_is hS)
  have HAL := Lib.hid alive_any
  unfold maxLen at w0
  clear hS hL
  by_cases hlong : 2000 < s.size
  · go_enter Tryd.func6, Tryd.ntmps6
    go_wp2_with fail
    refine (HAL.out _ HM.out).mono ?_
    rintro e w2 ⟨rfl, hB⟩
    go_wp2
    go_ret
    exact ⟨rfl, hB⟩
  · have hlen := cut_len [] (toL s)
    have hsum := cut_sum [] (toL s)
    rw [toL_length] at hlen hsum
    have HL := Lib.hid (line_split (toL s))
    have hspl : (splitOf (toL s)).length ≤ 2001 := by
      rcases HL.out with ⟨h, _⟩ | ⟨_, h, _⟩
      · rw [h]; simp
      · rw [h]; omega
    have HSP := Lib.hid (fun (W : World) (m : Int) (h : W.cell? ⟨Tryd.laysSplit_ren.g 1, 0, none⟩ = some (.int .i64 m)) => split_any s m W (by omega) h)
    have HRS := Lib.hid (fun (W : World) => refSplit_any s W (by omega))
    obtain ⟨m0, hm0⟩ := HM.out
    have HM0 := Lib.hid hm0
    clear hm0
    go_enter Tryd.func6, Tryd.ntmps6
    go_wp2_with fail
    refine (HSP.out _ m0 HM0.out).mono ?_
    rintro e w1 ⟨v1, rfl, ho1, hB1⟩
    obtain ⟨a1, c1, rfl, hc1, hc2, hs1, _, _⟩ := own_slice ho1
    have HS1 := Lib.hid hs1
    have HM1 := Lib.hid (HM.out.below hB1 (Nat.le_refl _))
    have HB1 := Lib.hid hB1
    clear ho1 hs1 hB1
    go_wp2_with fail
    refine (HAL.out _ HM1.out).mono ?_
    rintro e w2 ⟨rfl, hB2⟩
    have HS2 := Lib.hid (HS1.out.below hB2)
    have HB2 : Hid (Below w.heap.size w w2) := HB1.out.trans (hB2.mono HB1.out.size)
    clear hB2 HS1 HB1
    go_wp2_with fail
    refine (HRS.out _).mono ?_
    rintro e w3 ⟨v3, rfl, ho3, hB3⟩
    obtain ⟨a3, c3, rfl, _, _, hs3, _, _⟩ := own_slice ho3
    have HS3 := Lib.hid (HS2.out.below hB3)
    have HT3 := Lib.hid hs3
    have HB3 : Hid (Below w.heap.size w w3) := HB2.out.trans (hB3.mono HB2.out.size)
    clear ho3 hs3 hB3 HS2 HB2
    have HSAME : Hid (Calls Tryd.prog 20 #[.slice a1 (splitOf (toL s)).length c1, .slice a3 (splitOf (toL s)).length c3] w3 fun e w' => e = .returned (.bool true) ∧ Drew w3 w') := by
      have := same_any a1 a3 c1 c3 ((splitOf (toL s)).map tx) ((splitOf (toL s)).map tx) w3 HS3.out HT3.out (by rw [List.length_map]; omega) (by rw [List.length_map]; omega)
      rw [List.length_map, decide_eq_true rfl] at this
      exact this
    go_wp2_with fail
    refine HSAME.out.mono ?_
    rintro e w4 ⟨rfl, hD4⟩
    have HS4 := Lib.hid (HS3.out.below (hD4.below _))
    have HB4 : Hid (Below w.heap.size w w4) := HB3.out.trans (hD4.below _)
    clear hD4 HSAME HT3 HS3 HB3
    rcases HL.out with ⟨h1, _⟩ | ⟨h1, h2, h3⟩
    · rw [h1]
      go_wp2
      go_ret
      exact ⟨rfl, HB4.out⟩
    · rw [h2] at HS4 hc1 ⊢
      have hpos : 0 < (cut [] (toL s)).length := List.length_pos_iff.2 (cut_ne [] (toL s))
      have hne : (((cut [] (toL s)).length : Int) == 0) = false := beq_eq_false_iff_ne.2 (by omega)
      have HLN : Hid (Calls Tryd.prog 18 #[.slice a1 (cut [] (toL s)).length c1] w4 fun e w' => e = .returned (.string s) ∧ Below w4.heap.size w4 w') := by
        have hb : lsum ((cut [] (toL s)).map tx) ≤ 140737488355328 := by rw [hsum]; simp only [List.length_nil]; omega
        have := line_any a1 c1 ((cut [] (toL s)).map tx) w4 HS4.out (fits_of_sum _ hb) (by rw [List.length_map]; exact hc1) hb (by rw [List.length_map]; omega)
        rw [List.length_map, map_tx_toL, h3, tx_toL] at this
        exact this
      clear hsum hlen
      generalize (cut [] (toL s)).length = N at *
      go_wp2_with fail
      refine HLN.out.mono ?_
      rintro e w5 ⟨rfl, hB5⟩
      go_wp2
      go_ret
      exact ⟨by simp, HB4.out.trans (hB5.mono HB4.out.size)⟩

theorem contract (H : Type) (enc : TypeId × Value → H) (W : World) (base : Nat) (args : Array Value) (ds gs : List (DataW H)) (before : List MemPlace)
    (hval : ∀ (j : Nat) t v, Tryd.f6.params[j]? = some t → args[j]? = some v → Value.okWide Tryd.prog W .any base t v)
    (hW : DataW.Whole enc Tryd.prog Tryd.f6.params.toList Rows.digitsSplitsSpec.vars false W args.toList ds gs before) (hL : laidMetH Tryd.prog Rows.digitsHexRow.laid W) (hS : W.ShapedOpen Tryd.prog) :
    Calls Tryd.prog 6 args W fun e W' => ∃ v, e = .returned v ∧ Rows.digitsSplitsSpec.post enc Tryd.prog Tryd.f6 false true false false W args v W' := by
  have hW' := hW
  have hlt := hW.lt
  obtain ⟨p, q, hA0, hV, rfl, hfz, hnd⟩ := hW
  have hA : DataW.TrodAll enc Tryd.prog W 0 (fun _ => true) true Tryd.f6.params.toList args.toList ds p := hA0
  rw [Tryd.params6] at hA hval
  obtain ⟨v0, vs0, d0, ds0, p0, q0, hargs, rfl, rfl, h0, r0⟩ := trodAll_cons hA
  obtain ⟨rfl, rfl, rfl⟩ := trodAll_nil r0
  obtain rfl : args = #[v0] := by cases args; simp_all
  obtain ⟨a0, rfl, e0, -, w0⟩ := open_string Tryd.underlying9 (hval 0 9 v0 rfl rfl) h0
  refine (walk W hS hL a0 w0).mono fun e W' ⟨he, hb⟩ => ?_
  subst he
  exact ⟨_, rfl, law_post rfl hW' (fun ds h => by match ds, h with | [_], _ => rfl) (by kernel_rfl) (by kernel_rfl) (by kernel_rfl) hb⟩

set_option maxRecDepth 100000 in
theorem lifted (os : Os) (started : os.Started) (H : Type) (enc : TypeId × Value → H) (F : Stop.Interp) :
    ReturnsInHanded {} Tryd.checked os 6 .any ((OpenSpec.ofChange Rows.digitsSplitsSpec).preRow enc Tryd.prog Tryd.f6 Rows.digitsSplitsRow.domain false Rows.digitsHexRow.laid) (((OpenSpec.ofChange Rows.digitsSplitsSpec).at F).post enc Tryd.prog Tryd.f6 false true false false) := by
  have hx : ∃ places, DataW.whole enc Tryd.prog ((World.laidAll Tryd.prog os Rows.digitsHexRow.laid).forCall (fun _ _ => 0) ⟨#[], #[.string ByteArray.empty], []⟩).memory Tryd.f6.params.toList Rows.digitsSplitsSpec.vars false (#[.string ByteArray.empty] : Array Value).toList 8 = some ([.lit (.string [])], [], places) := ⟨[], by kernel_rfl⟩
  obtain ⟨places, hx⟩ := hx
  refine returnsInHanded_of_row (C := Tryd.checked) (s := (OpenSpec.ofChange Rows.digitsSplitsSpec)) own started (by kernel_rfl) Tryd.func6
    (witness_lay (enc := enc) (C := Tryd.checked) false #[.string ByteArray.empty] (World.shaped_of_ZipB (by kernel_rfl) (by kernel_rfl)) (by kernel_rfl)
      (OpenSpec.preRow_of_cond 8 hx (by kernel_rfl) (fun k hk => by cases hk) (by kernel_rfl) (laid_met os _))) ?_
  intro W base args ds gs before hval hW _ hcond _ hL hS _
  exact contract H enc W base args ds gs before hval hW hL hS

theorem said : Rows.DigitsSplitsSaid :=
  OpenClaim.holds_of_cond 6 Tryd.f6 rfl rfl rfl rfl rfl rfl rfl ⟨rfl, rfl, rfl, rfl, rfl⟩ rfl rfl rfl rfl rfl (by kernel_rfl) Tryd.func6 (by kernel_rfl)
    (of_decide_eq_true (by kernel_rfl)) (by unfold Func.isWrapper; first | (rw [if_pos (by decide +kernel)]; kernel_rfl) | (rw [if_neg (by decide +kernel)]; exact ⟨rfl, rfl⟩))
    (fun os started H enc _ F => by rw [OpenClaim.pre_eq_preRow]; exact lifted os started H enc F)

theorem plain (f : FuncId) (fn : Func) (hf : Tryd.pinned.checked.prog.funcNamed Rows.digitsSplitsRow.func = some f) (hfn : Tryd.pinned.checked.prog.funcs[f]? = some fn) :
    false = Tryd.pinned.checked.prog.looks [] ∧ ∀ (j : Nat) t, fn.params[j]? = some t → Tryd.pinned.checked.prog.wantsStandIn t = false := by
  obtain rfl : f = 6 := Option.some.inj ((show Tryd.prog.funcNamed Rows.digitsSplitsRow.func = some 6 by kernel_rfl).symm.trans hf) |>.symm
  obtain rfl : fn = Tryd.f6 := (Option.some.inj (Tryd.func6.symm.trans hfn)).symm
  refine ⟨by kernel_rfl, fun j t ht => ?_⟩
  rw [Tryd.params6] at ht
  have hm : t ∈ [9] := by simpa using Array.mem_of_getElem? ht
  have hall : ([9].all fun u => !Tryd.prog.wantsStandIn u) = true := by kernel_rfl
  exact (show Tryd.prog.wantsStandIn t = false by simpa using List.all_eq_true.1 hall t hm)

theorem proved : Rows.DigitsSplitsCardSaid :=
  Claim7.holds_tied_plain_at .later [] _ _ _ _ said (fun _ h => by cases h) (by kernel_rfl) (fun _ h => by cases h) digitsSplits_row_tie rfl ⟨rfl, rfl⟩ (by kernel_rfl) rfl plain (by kernel_rfl)
end Go.Proofs.YtdakdfpjibmocaaDoor.digitsSplits
