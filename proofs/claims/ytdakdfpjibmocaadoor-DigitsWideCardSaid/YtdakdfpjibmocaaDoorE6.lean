/- DigitsWide: a number in one hexadecimal digit more has a nought ahead, and in all its digits it is read alike: for every number and every width. No condition but that the library's tables hold what the library's text lays (the card's tie). -/
import Derived.Test.YtdakdfpjibmocaaDoorE0
namespace Go.Proofs.YtdakdfpjibmocaaDoor.digitsWide
open Go.ChangeShapes Go.WideShapes Go.ChangeAt Go.RowKit Go.Shelf
open Go.ChangeMaps (open_string shut_string)
set_option linter.unusedVariables false

theorem wide_more (n k : Nat) (h1 : 1 ≤ k) (h2 : k < 12) (hn : n < 16 ^ k) : tx (hexOf n ((k : Int) + 1)) = ⟨#[48]⟩ ++ tx (hexOf n k) ∧ unhexL (hexOf n ((k : Int) + 1)) = some (n : Int) ∧ (tx (hexOf n k)).size = k ∧ hexOf n k ≠ [] := by
  have hn2 : n < 16 ^ (k + 1) := by rw [pow16]; omega
  rw [show ((k : Int) + 1) = ((k + 1 : Nat) : Int) by omega, hexOf_nat n (k + 1) (by omega) (by omega) hn2, hexOf_nat n k h1 (by omega) hn]
  refine ⟨?_, unhex_hexL n (k + 1) (by omega) (by omega) hn2, by rw [tx_size, hexL_length], fun e => ?_⟩
  · rw [hexL_more n k hn, show (⟨#[48]⟩ : ByteArray) = tx [48] from rfl, tx_append]; rfl
  · have := hexL_length n k
    rw [e] at this
    simp at this
    omega

set_option maxHeartbeats 1000000 in
theorem walk (w : World) (hS : w.ShapedOpen Tryd.prog) (hL : laidMetH Tryd.prog Rows.digitsHexRow.laid w) (n : Int) (w0 : (Lit.int .i64 n).wf = true) (wide : Int) (w1 : (Lit.int .i64 wide).wf = true) :
    Calls Tryd.prog 8 #[.int .i64 n, .int .i64 wide] w fun e w' => e = .returned (.bool true) ∧ Below w.heap.size w w' := by
  obtain ⟨n0, n1⟩ := wf64 w0
  obtain ⟨d0, d1⟩ := wf64 w1
  have HM := Lib.hid (max_is hS)
  have HAL := Lib.hid alive_any
  have HH := Lib.hid (fun (x : Int) (W : World) => hex_any n x n0 n1 W)
  clear hS hL w0 w1
  by_cases hout : wide < 1 ∨ 12 ≤ wide
  · by_cases h12 : wide = 12
    · subst h12
      go_enter Tryd.func8, Tryd.ntmps8
      go_wp2_with fail
      refine (HAL.out _ HM.out).mono ?_
      rintro e w2 ⟨rfl, hB⟩
      go_wp2
      go_ret
      exact ⟨rfl, hB⟩
    · have hne : (wide == 12) = false := beq_eq_false_iff_ne.2 h12
      have hem : (tx (hexOf n wide)).toList.isEmpty = true := by
        rw [isEmpty_tx]
        unfold hexOf
        rw [if_neg (by omega)]; rfl
      have hc : wide < 1 ∨ (¬ wide < 1 ∧ 12 ≤ wide) := by omega
      clear hout h12
      rcases hc with a1 | ⟨a1, a2⟩
      all_goals
        go_enter Tryd.func8, Tryd.ntmps8
        go_wp2_with fail
        refine (HAL.out _ HM.out).mono ?_
        rintro e w2 ⟨rfl, hB⟩
        go_wp2_with fail
        refine (HH.out _ _).mono ?_
        rintro e w3 ⟨rfl, hB3⟩
        go_wp2
        go_ret
        exact ⟨rfl, hB.trans (hB3.mono hB.size)⟩
  · have b1 : ¬ wide < 1 := by omega
    have b2 : ¬ 12 ≤ wide := by omega
    clear hout
    rcases hexOf_cases n wide with he | ⟨c1, c2, c3, c4, c5⟩
    · have hem : (tx (hexOf n wide)).toList.isEmpty = true := by rw [isEmpty_tx, he]; rfl
      clear he
      go_enter Tryd.func8, Tryd.ntmps8
      go_wp2_with fail
      refine (HH.out _ _).mono ?_
      rintro e w2 ⟨rfl, hB2⟩
      go_wp2_with fail
      refine (HH.out _ _).mono ?_
      rintro e w3 ⟨rfl, hB3⟩
      have HB3 : Hid (Below w.heap.size w w3) := hB2.trans (hB3.mono hB2.size)
      have HM3 := Lib.hid (HM.out.below HB3.out (Nat.le_refl _))
      clear hB2 hB3
      go_wp2_with fail
      refine (HAL.out _ HM3.out).mono ?_
      rintro e w4 ⟨rfl, hB4⟩
      go_wp2
      go_ret
      exact ⟨rfl, HB3.out.trans (hB4.mono HB3.out.size)⟩
    · obtain ⟨m, rfl⟩ : ∃ m : Nat, n = m := ⟨n.toNat, by omega⟩
      obtain ⟨k, rfl⟩ : ∃ k : Nat, wide = k := ⟨wide.toNat, by omega⟩
      have hc : ((16 ^ k : Nat) : Int) = 16 ^ k := by simp
      rw [Int.toNat_natCast] at c4
      obtain ⟨e1, e2, e3, e4⟩ := wide_more m k (by omega) (by omega) (by omega)
      have hem := empty_ne e4
      have HU : Hid (∀ W, Calls Tryd.prog 10 #[.string (tx (hexOf m ((k : Int) + 1)))] W fun e w' => e = .returned (.tuple #[.int .i64 m, .bool true]) ∧ Drew W w') := fun W => by
        have := unhex_any (tx (hexOf m ((k : Int) + 1))) W (by rw [e1, ByteArray.size_append, e3]; show 1 + k ≤ maxLen; unfold maxLen; omega)
        rw [tx_data, e2] at this
        exact this
      have heq : ((tx (hexOf m ((k : Int) + 1))).toList == (⟨#[48]⟩ ++ tx (hexOf m k)).toList) = true := by rw [e1]; exact beq_self_eq_true _
      have hs1 : (⟨#[48]⟩ : ByteArray).size = 1 := rfl
      have H1 := Lib.hid (HH.out (k : Int))
      have H2 := Lib.hid (HH.out ((k : Int) + 1))
      clear c1 c2 c3 c4 c5 hc e1 e2 e4 HH
      generalize tx (hexOf m k) = x at *
      generalize tx (hexOf m ((k : Int) + 1)) = y at *
      go_enter Tryd.func8, Tryd.ntmps8
      go_wp2_with fail
      refine (H1.out _).mono ?_
      rintro e w2 ⟨rfl, hB2⟩
      go_wp2_with fail
      refine (H2.out _).mono ?_
      rintro e w3 ⟨rfl, hB3⟩
      have HB3 : Hid (Below w.heap.size w w3) := hB2.trans (hB3.mono hB2.size)
      clear hB2 hB3
      go_wp2_with fail
      refine (HU.out _).mono ?_
      rintro e w4 ⟨rfl, hD4⟩
      have HB4 : Hid (Below w.heap.size w w4) := HB3.out.trans (hD4.below _)
      have HM4 := Lib.hid (HM.out.below HB4.out (Nat.le_refl _))
      clear hD4 HB3
      go_wp2_with fail
      refine (HAL.out _ HM4.out).mono ?_
      rintro e w5 ⟨rfl, hB5⟩
      go_wp2
      go_ret
      exact ⟨rfl, HB4.out.trans (hB5.mono HB4.out.size)⟩

theorem contract (H : Type) (enc : TypeId × Value → H) (W : World) (base : Nat) (args : Array Value) (ds gs : List (DataW H)) (before : List MemPlace)
    (hval : ∀ (j : Nat) t v, Tryd.f8.params[j]? = some t → args[j]? = some v → Value.okWide Tryd.prog W .any base t v)
    (hW : DataW.Whole enc Tryd.prog Tryd.f8.params.toList Rows.digitsWideSpec.vars false W args.toList ds gs before) (hL : laidMetH Tryd.prog Rows.digitsHexRow.laid W) (hS : W.ShapedOpen Tryd.prog) :
    Calls Tryd.prog 8 args W fun e W' => ∃ v, e = .returned v ∧ Rows.digitsWideSpec.post enc Tryd.prog Tryd.f8 false true false false W args v W' := by
  have hW' := hW
  have hlt := hW.lt
  obtain ⟨p, q, hA0, hV, rfl, hfz, hnd⟩ := hW
  have hA : DataW.TrodAll enc Tryd.prog W 0 (fun _ => true) true Tryd.f8.params.toList args.toList ds p := hA0
  rw [Tryd.params8] at hA hval
  obtain ⟨v0, vs0, d0, ds0, p0, q0, hargs, rfl, rfl, h0, r0⟩ := trodAll_cons hA
  obtain ⟨v1, vs1, d1, ds1, p1, q1, rfl, rfl, rfl, h1, r1⟩ := trodAll_cons r0
  obtain ⟨rfl, rfl, rfl⟩ := trodAll_nil r1
  obtain rfl : args = #[v0, v1] := by cases args; simp_all
  obtain ⟨a0, rfl, e0, -, w0⟩ := open_int Tryd.underlying3 (hval 0 3 v0 rfl rfl) h0
  obtain ⟨a1, rfl, e1, -, w1⟩ := open_int Tryd.underlying3 (hval 1 3 v1 rfl rfl) h1
  refine (walk W hS hL a0 w0 a1 w1).mono fun e W' ⟨he, hb⟩ => ?_
  subst he
  exact ⟨_, rfl, law_post rfl hW' (fun ds h => by match ds, h with | [_, _], _ => rfl) (by kernel_rfl) (by kernel_rfl) (by kernel_rfl) hb⟩

set_option maxRecDepth 100000 in
theorem lifted (os : Os) (started : os.Started) (H : Type) (enc : TypeId × Value → H) (F : Stop.Interp) :
    ReturnsInHanded {} Tryd.checked os 8 .any ((OpenSpec.ofChange Rows.digitsWideSpec).preRow enc Tryd.prog Tryd.f8 Rows.digitsWideRow.domain false Rows.digitsHexRow.laid) (((OpenSpec.ofChange Rows.digitsWideSpec).at F).post enc Tryd.prog Tryd.f8 false true false false) := by
  have hx : ∃ places, DataW.whole enc Tryd.prog ((World.laidAll Tryd.prog os Rows.digitsHexRow.laid).forCall (fun _ _ => 0) ⟨#[], #[.int .i64 0, .int .i64 0], []⟩).memory Tryd.f8.params.toList Rows.digitsWideSpec.vars false (#[.int .i64 0, .int .i64 0] : Array Value).toList 8 = some ([.lit (.int .i64 0), .lit (.int .i64 0)], [], places) := ⟨[], by kernel_rfl⟩
  obtain ⟨places, hx⟩ := hx
  refine returnsInHanded_of_row (C := Tryd.checked) (s := (OpenSpec.ofChange Rows.digitsWideSpec)) own started (by kernel_rfl) Tryd.func8
    (witness_lay (enc := enc) (C := Tryd.checked) false #[.int .i64 0, .int .i64 0] (World.shaped_of_ZipB (by kernel_rfl) (by kernel_rfl)) (by kernel_rfl)
      (OpenSpec.preRow_of_cond 8 hx (by kernel_rfl) (fun k hk => by cases hk) (by kernel_rfl) (laid_met os _))) ?_
  intro W base args ds gs before hval hW _ hcond _ hL hS _
  exact contract H enc W base args ds gs before hval hW hL hS

theorem said : Rows.DigitsWideSaid :=
  OpenClaim.holds_of_cond 8 Tryd.f8 rfl rfl rfl rfl rfl rfl rfl ⟨rfl, rfl, rfl, rfl, rfl⟩ rfl rfl rfl rfl rfl (by kernel_rfl) Tryd.func8 (by kernel_rfl)
    (of_decide_eq_true (by kernel_rfl)) (by unfold Func.isWrapper; first | (rw [if_pos (by decide +kernel)]; kernel_rfl) | (rw [if_neg (by decide +kernel)]; exact ⟨rfl, rfl⟩))
    (fun os started H enc _ F => by rw [OpenClaim.pre_eq_preRow]; exact lifted os started H enc F)

theorem plain (f : FuncId) (fn : Func) (hf : Tryd.pinned.checked.prog.funcNamed Rows.digitsWideRow.func = some f) (hfn : Tryd.pinned.checked.prog.funcs[f]? = some fn) :
    false = Tryd.pinned.checked.prog.looks [] ∧ ∀ (j : Nat) t, fn.params[j]? = some t → Tryd.pinned.checked.prog.wantsStandIn t = false := by
  obtain rfl : f = 8 := Option.some.inj ((show Tryd.prog.funcNamed Rows.digitsWideRow.func = some 8 by kernel_rfl).symm.trans hf) |>.symm
  obtain rfl : fn = Tryd.f8 := (Option.some.inj (Tryd.func8.symm.trans hfn)).symm
  refine ⟨by kernel_rfl, fun j t ht => ?_⟩
  rw [Tryd.params8] at ht
  have hm : t ∈ [3, 3] := by simpa using Array.mem_of_getElem? ht
  have hall : ([3, 3].all fun u => !Tryd.prog.wantsStandIn u) = true := by kernel_rfl
  exact (show Tryd.prog.wantsStandIn t = false by simpa using List.all_eq_true.1 hall t hm)

theorem proved : Rows.DigitsWideCardSaid :=
  Claim7.holds_tied_plain_at .later [] _ _ _ _ said (fun _ h => by cases h) (by kernel_rfl) (fun _ h => by cases h) digitsWide_row_tie rfl ⟨rfl, rfl⟩ (by kernel_rfl) rfl plain (by kernel_rfl)
end Go.Proofs.YtdakdfpjibmocaaDoor.digitsWide
