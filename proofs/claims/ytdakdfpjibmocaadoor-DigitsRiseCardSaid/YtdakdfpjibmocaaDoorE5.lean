/- DigitsRise: of two numbers of so many hexadecimal digits the lesser one has the lesser text: for every two numbers and every width. No condition but that the library's tables hold what the library's text lays (the card's tie). -/
import Derived.Test.YtdakdfpjibmocaaDoorE0
namespace Go.Proofs.YtdakdfpjibmocaaDoor.digitsRise
open Go.ChangeShapes Go.WideShapes Go.ChangeAt Go.RowKit Go.Shelf
open Go.ChangeMaps (open_string shut_string)
set_option linter.unusedVariables false

theorem rises (a b wide : Int) (ha : hexOf a wide ≠ []) (hb : hexOf b wide ≠ []) :
    Op.bytesLess (tx (hexOf a wide)).toList (tx (hexOf b wide)).toList = decide (a < b) ∧ ((tx (hexOf a wide)).toList == (tx (hexOf b wide)).toList) = (a == b) := by
  rcases hexOf_cases a wide with h | ⟨a1, a2, a3, a4, a5⟩
  · exact absurd h ha
  rcases hexOf_cases b wide with h | ⟨b1, b2, b3, b4, b5⟩
  · exact absurd h hb
  rw [toList_tx, toList_tx, a5, b5]
  obtain ⟨m, rfl⟩ : ∃ m : Nat, a = m := ⟨a.toNat, by omega⟩
  obtain ⟨n, rfl⟩ : ∃ n : Nat, b = n := ⟨b.toNat, by omega⟩
  obtain ⟨k, rfl⟩ : ∃ k : Nat, wide = k := ⟨wide.toNat, by omega⟩
  have hc : ((16 ^ k : Nat) : Int) = 16 ^ k := by simp
  rw [Int.toNat_natCast] at a4 b4
  simp only [Int.toNat_natCast]
  refine ⟨?_, ?_⟩
  · rw [bytesLess_hexL m n k (by omega) (by omega)]
    congr 1
    exact propext ⟨fun h => by omega, fun h => by omega⟩
  · by_cases h : m = n
    · subst h; simp
    · have h2 : hexL m k ≠ hexL n k := fun e => h (hexL_inj m n k (by omega) (by omega) e)
      rw [beq_eq_false_iff_ne.2 h2, beq_eq_false_iff_ne.2 (by omega)]

set_option maxHeartbeats 1000000 in
theorem walk (w : World) (hS : w.ShapedOpen Tryd.prog) (hL : laidMetH Tryd.prog Rows.digitsHexRow.laid w) (a : Int) (w0 : (Lit.int .i64 a).wf = true) (b : Int) (w1 : (Lit.int .i64 b).wf = true) (wide : Int) (w2 : (Lit.int .i64 wide).wf = true) :
    Calls Tryd.prog 7 #[.int .i64 a, .int .i64 b, .int .i64 wide] w fun e w' => e = .returned (.bool true) ∧ Below w.heap.size w w' := by
  obtain ⟨n0, n1⟩ := wf64 w0
  obtain ⟨m0, m1⟩ := wf64 w1
  have HM := Lib.hid (max_is hS)
  have HAL := Lib.hid alive_any
  have H1 := Lib.hid (fun (W : World) => hex_any a wide n0 n1 W)
  have H2 := Lib.hid (fun (W : World) => hex_any b wide m0 m1 W)
  clear hS hL w0 w1 w2
  by_cases ha : hexOf a wide = []
  · have hem := empty_eq ha
    clear ha
    generalize tx (hexOf a wide) = x at *
    generalize tx (hexOf b wide) = y at *
    go_enter Tryd.func7, Tryd.ntmps7
    go_wp2_with fail
    refine (H1.out _).mono ?_
    rintro e w2 ⟨rfl, hB2⟩
    go_wp2_with fail
    refine (H2.out _).mono ?_
    rintro e w3 ⟨rfl, hB3⟩
    have HB3 : Hid (Below w.heap.size w w3) := hB2.trans (hB3.mono hB2.size)
    have HM3 := Lib.hid (HM.out.below HB3.out (Nat.le_refl _))
    clear hB2 hB3
    go_wp2_with fail
    refine (HAL.out _ HM3.out).mono ?_
    rintro e w4 ⟨rfl, hB4⟩
    go_wp2
    go_ret
    exact ⟨rfl, HB3.out.trans (hB4.mono HB3.out.size)⟩
  · have hemx := empty_ne ha
    by_cases hb : hexOf b wide = []
    · have hemy := empty_eq hb
      clear ha hb
      generalize tx (hexOf a wide) = x at *
      generalize tx (hexOf b wide) = y at *
      go_enter Tryd.func7, Tryd.ntmps7
      go_wp2_with fail
      refine (H1.out _).mono ?_
      rintro e w2 ⟨rfl, hB2⟩
      go_wp2_with fail
      refine (H2.out _).mono ?_
      rintro e w3 ⟨rfl, hB3⟩
      have HB3 : Hid (Below w.heap.size w w3) := hB2.trans (hB3.mono hB2.size)
      have HM3 := Lib.hid (HM.out.below HB3.out (Nat.le_refl _))
      clear hB2 hB3
      go_wp2_with fail
      refine (HAL.out _ HM3.out).mono ?_
      rintro e w4 ⟨rfl, hB4⟩
      go_wp2
      go_ret
      exact ⟨rfl, HB3.out.trans (hB4.mono HB3.out.size)⟩
    · have hemy := empty_ne hb
      obtain ⟨hl, he⟩ := rises a b wide ha hb
      have hcase : (decide (a < b) = true ∧ (a == b) = false) ∨ (decide (a < b) = false ∧ (a == b) = true) ∨ (decide (a < b) = false ∧ (a == b) = false) := by
        by_cases h1 : a < b
        · exact .inl ⟨decide_eq_true h1, beq_eq_false_iff_ne.2 (by omega)⟩
        · by_cases h2 : a = b
          · exact .inr (.inl ⟨decide_eq_false h1, by rw [h2]; exact beq_self_eq_true _⟩)
          · exact .inr (.inr ⟨decide_eq_false h1, beq_eq_false_iff_ne.2 h2⟩)
      clear ha hb
      generalize tx (hexOf a wide) = x at *
      generalize tx (hexOf b wide) = y at *
      rcases hcase with ⟨q1, q2⟩ | ⟨q1, q2⟩ | ⟨q1, q2⟩
      all_goals
        rw [q1] at hl
        rw [q2] at he
        first
          | have q4 : a < b := of_decide_eq_true q1
          | have q4 : ¬ a < b := of_decide_eq_false q1
        clear q1
        go_enter Tryd.func7, Tryd.ntmps7
        go_wp2_with fail
        refine (H1.out _).mono ?_
        rintro e w2 ⟨rfl, hB2⟩
        go_wp2_with fail
        refine (H2.out _).mono ?_
        rintro e w3 ⟨rfl, hB3⟩
        have HB3 : Hid (Below w.heap.size w w3) := hB2.trans (hB3.mono hB2.size)
        have HM3 := Lib.hid (HM.out.below HB3.out (Nat.le_refl _))
        clear hB2 hB3
        go_wp2_with fail
        refine (HAL.out _ HM3.out).mono ?_
        rintro e w4 ⟨rfl, hB4⟩
        go_wp2
        go_ret
        exact ⟨by first | (simp; done) | (simp; omega), HB3.out.trans (hB4.mono HB3.out.size)⟩

theorem contract (H : Type) (enc : TypeId × Value → H) (W : World) (base : Nat) (args : Array Value) (ds gs : List (DataW H)) (before : List MemPlace)
    (hval : ∀ (j : Nat) t v, Tryd.f7.params[j]? = some t → args[j]? = some v → Value.okWide Tryd.prog W .any base t v)
    (hW : DataW.Whole enc Tryd.prog Tryd.f7.params.toList Rows.digitsRiseSpec.vars false W args.toList ds gs before) (hL : laidMetH Tryd.prog Rows.digitsHexRow.laid W) (hS : W.ShapedOpen Tryd.prog) :
    Calls Tryd.prog 7 args W fun e W' => ∃ v, e = .returned v ∧ Rows.digitsRiseSpec.post enc Tryd.prog Tryd.f7 false true false false W args v W' := by
  have hW' := hW
  have hlt := hW.lt
  obtain ⟨p, q, hA0, hV, rfl, hfz, hnd⟩ := hW
  have hA : DataW.TrodAll enc Tryd.prog W 0 (fun _ => true) true Tryd.f7.params.toList args.toList ds p := hA0
  rw [Tryd.params7] at hA hval
  obtain ⟨v0, vs0, d0, ds0, p0, q0, hargs, rfl, rfl, h0, r0⟩ := trodAll_cons hA
  obtain ⟨v1, vs1, d1, ds1, p1, q1, rfl, rfl, rfl, h1, r1⟩ := trodAll_cons r0
  obtain ⟨v2, vs2, d2, ds2, p2, q2, rfl, rfl, rfl, h2, r2⟩ := trodAll_cons r1
  obtain ⟨rfl, rfl, rfl⟩ := trodAll_nil r2
  obtain rfl : args = #[v0, v1, v2] := by cases args; simp_all
  obtain ⟨a0, rfl, e0, -, w0⟩ := open_int Tryd.underlying3 (hval 0 3 v0 rfl rfl) h0
  obtain ⟨a1, rfl, e1, -, w1⟩ := open_int Tryd.underlying3 (hval 1 3 v1 rfl rfl) h1
  obtain ⟨a2, rfl, e2, -, w2⟩ := open_int Tryd.underlying3 (hval 2 3 v2 rfl rfl) h2
  refine (walk W hS hL a0 w0 a1 w1 a2 w2).mono fun e W' ⟨he, hb⟩ => ?_
  subst he
  exact ⟨_, rfl, law_post rfl hW' (fun ds h => by match ds, h with | [_, _, _], _ => rfl) (by kernel_rfl) (by kernel_rfl) (by kernel_rfl) hb⟩

set_option maxRecDepth 100000 in
theorem lifted (os : Os) (started : os.Started) (H : Type) (enc : TypeId × Value → H) (F : Stop.Interp) :
    ReturnsInHanded {} Tryd.checked os 7 .any ((OpenSpec.ofChange Rows.digitsRiseSpec).preRow enc Tryd.prog Tryd.f7 Rows.digitsRiseRow.domain false Rows.digitsHexRow.laid) (((OpenSpec.ofChange Rows.digitsRiseSpec).at F).post enc Tryd.prog Tryd.f7 false true false false) := by
  have hx : ∃ places, DataW.whole enc Tryd.prog ((World.laidAll Tryd.prog os Rows.digitsHexRow.laid).forCall (fun _ _ => 0) ⟨#[], #[.int .i64 0, .int .i64 0, .int .i64 0], []⟩).memory Tryd.f7.params.toList Rows.digitsRiseSpec.vars false (#[.int .i64 0, .int .i64 0, .int .i64 0] : Array Value).toList 8 = some ([.lit (.int .i64 0), .lit (.int .i64 0), .lit (.int .i64 0)], [], places) := ⟨[], by kernel_rfl⟩
  obtain ⟨places, hx⟩ := hx
  refine returnsInHanded_of_row (C := Tryd.checked) (s := (OpenSpec.ofChange Rows.digitsRiseSpec)) own started (by kernel_rfl) Tryd.func7
    (witness_lay (enc := enc) (C := Tryd.checked) false #[.int .i64 0, .int .i64 0, .int .i64 0] (World.shaped_of_ZipB (by kernel_rfl) (by kernel_rfl)) (by kernel_rfl)
      (OpenSpec.preRow_of_cond 8 hx (by kernel_rfl) (fun k hk => by cases hk) (by kernel_rfl) (laid_met os _))) ?_
  intro W base args ds gs before hval hW _ hcond _ hL hS _
  exact contract H enc W base args ds gs before hval hW hL hS

theorem said : Rows.DigitsRiseSaid :=
  OpenClaim.holds_of_cond 7 Tryd.f7 rfl rfl rfl rfl rfl rfl rfl ⟨rfl, rfl, rfl, rfl, rfl⟩ rfl rfl rfl rfl rfl (by kernel_rfl) Tryd.func7 (by kernel_rfl)
    (of_decide_eq_true (by kernel_rfl)) (by unfold Func.isWrapper; first | (rw [if_pos (by decide +kernel)]; kernel_rfl) | (rw [if_neg (by decide +kernel)]; exact ⟨rfl, rfl⟩))
    (fun os started H enc _ F => by rw [OpenClaim.pre_eq_preRow]; exact lifted os started H enc F)

theorem plain (f : FuncId) (fn : Func) (hf : Tryd.pinned.checked.prog.funcNamed Rows.digitsRiseRow.func = some f) (hfn : Tryd.pinned.checked.prog.funcs[f]? = some fn) :
    false = Tryd.pinned.checked.prog.looks [] ∧ ∀ (j : Nat) t, fn.params[j]? = some t → Tryd.pinned.checked.prog.wantsStandIn t = false := by
  obtain rfl : f = 7 := Option.some.inj ((show Tryd.prog.funcNamed Rows.digitsRiseRow.func = some 7 by kernel_rfl).symm.trans hf) |>.symm
  obtain rfl : fn = Tryd.f7 := (Option.some.inj (Tryd.func7.symm.trans hfn)).symm
  refine ⟨by kernel_rfl, fun j t ht => ?_⟩
  rw [Tryd.params7] at ht
  have hm : t ∈ [3, 3, 3] := by simpa using Array.mem_of_getElem? ht
  have hall : ([3, 3, 3].all fun u => !Tryd.prog.wantsStandIn u) = true := by kernel_rfl
  exact (show Tryd.prog.wantsStandIn t = false by simpa using List.all_eq_true.1 hall t hm)

theorem proved : Rows.DigitsRiseCardSaid :=
  Claim7.holds_tied_plain_at .later [] _ _ _ _ said (fun _ h => by cases h) (by kernel_rfl) (fun _ h => by cases h) digitsRise_row_tie rfl ⟨rfl, rfl⟩ (by kernel_rfl) rfl plain (by kernel_rfl)
end Go.Proofs.YtdakdfpjibmocaaDoor.digitsRise
