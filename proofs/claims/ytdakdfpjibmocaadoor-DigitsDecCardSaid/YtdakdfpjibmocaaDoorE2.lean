/- DigitsDec: the decimal digits of any number, and the number of any text, or that there is none, are what the document says, and what was written is read as it was: for every number and every text. No condition but that the library's tables hold what the library's text lays (the card's tie). -/
import Derived.Test.YtdakdfpjibmocaaDoorE0
namespace Go.Proofs.YtdakdfpjibmocaaDoor.digitsDec
open Go.ChangeShapes Go.WideShapes Go.ChangeAt Go.RowKit Go.Shelf
open Go.ChangeMaps (open_string shut_string)
set_option linter.unusedVariables false

set_option maxHeartbeats 2000000 in
theorem walk (w : World) (hS : w.ShapedOpen Tryd.prog) (hL : laidMetH Tryd.prog Rows.digitsHexRow.laid w) (n : Int) (w0 : (Lit.int .i64 n).wf = true) (s : ByteArray) (w1 : s.size ≤ maxLen) :
    Calls Tryd.prog 4 #[.int .i64 n, .string s] w fun e w' => e = .returned (.bool true) ∧ Below w.heap.size w w' := by
  obtain ⟨n0, n1⟩ := wf64 w0
  have HM := Lib.hid (max_is hS)
  have HP := Lib.hid (pow10_is hL)
  have HAL := Lib.hid alive_any
  have H1 := Lib.hid (fun (W : World) (h : Pow10 W) => dec_any n n0 n1 W h)
  have H2 := Lib.hid (fun (W : World) => refDec_any n n0 n1 W)
  have H3 := Lib.hid (fun (W : World) => undec_any s W w1)
  have H4 := Lib.hid (fun (W : World) => refUndec_any s W w1)
  have hself : ∀ x : ByteArray, (x.toList != x.toList) = false := fun x => by simp
  -- what was written is read as it was
  have HBACK : Hid ((decOf n = [] ∧ ∀ W, Calls Tryd.prog 15 #[.string (tx (decOf n))] W fun e w' => e = .returned (.tuple #[.int .i64 0, .bool false]) ∧ Drew W w') ∨
      (decOf n ≠ [] ∧ ∀ W, Calls Tryd.prog 15 #[.string (tx (decOf n))] W fun e w' => e = .returned (.tuple #[.int .i64 n, .bool true]) ∧ Drew W w')) := by
    by_cases h : 0 ≤ n ∧ n ≤ forever
    · right
      obtain ⟨e1, e2⟩ := undec_decOf n h.1 h.2
      have hsz : (tx (decOf n)).size ≤ maxLen := by
        unfold decOf forever
        unfold forever at h
        rw [if_pos h, tx_size, Lib.decDigits_length]
        have := nDigits_le 13 n.toNat (by decide) (by omega)
        unfold maxLen; omega
      refine ⟨e2, fun W => ?_⟩
      have := undec_any (tx (decOf n)) W hsz
      rw [tx_data, e1] at this
      exact this
    · left
      have e : decOf n = [] := by unfold decOf; rw [if_neg h]
      refine ⟨e, fun W => ?_⟩
      rw [e]
      have := undec_any (tx []) W (by decide)
      rw [tx_data, undec_nil] at this
      exact this
  -- what is read, written again, is the same text
  have HAGAIN : Hid (undecL s.data.toList = none ∨ ∃ m : Int, undecL s.data.toList = some m ∧ ∀ W, Pow10 W → Calls Tryd.prog 14 #[.int .i64 m] W fun e w' => e = .returned (.string s) ∧ Below W.heap.size W w') := by
    cases h : undecL s.data.toList with
    | none => exact .inl rfl
    | some m =>
      refine .inr ⟨m, rfl, fun W hp => ?_⟩
      obtain ⟨e1, e2, e3⟩ := decOf_undec s.data.toList m h
      unfold forever at e3
      have := dec_any m (by omega) (by omega) W hp
      rw [e1] at this
      have e5 : tx s.data.toList = s := tx_toL s
      rw [e5] at this
      exact this
  unfold optV at H3 H4
  clear hS hL w0 w1
  rcases HAGAIN.out with ho | ⟨m, ho, hag⟩
  all_goals
    rw [ho] at H3 H4
    simp only [Option.getD_none, Option.isSome_none, Option.getD_some, Option.isSome_some] at H3 H4
    try have HAG := Lib.hid hag
    try clear hag
    rcases HBACK.out with ⟨hb1, hb2⟩ | ⟨hb1, hb2⟩
    all_goals
      first
        | have hem := empty_eq hb1
        | have hem := empty_ne hb1
      have HBK := Lib.hid hb2
      clear hb1 hb2 HBACK HAGAIN ho
      have hx := hself (tx (decOf n))
      generalize tx (decOf n) = x at *
      go_enter Tryd.func4, Tryd.ntmps4
      go_wp2_with fail
      refine (H1.out _ HP.out).mono ?_
      rintro e w2 ⟨rfl, hB2⟩
      go_wp2_with fail
      refine (H3.out _).mono ?_
      rintro e w3 ⟨rfl, hD3⟩
      go_wp2_with fail
      refine (H4.out _).mono ?_
      rintro e w4 ⟨rfl, hB4⟩
      go_wp2_with fail
      refine (H2.out _).mono ?_
      rintro e w5 ⟨rfl, hB5⟩
      have HB3 : Hid (Below w.heap.size w w3) := hB2.trans (hD3.below _)
      have HB4 : Hid (Below w.heap.size w w4) := HB3.out.trans (hB4.mono HB3.out.size)
      have HB5 : Hid (Below w.heap.size w w5) := HB4.out.trans (hB5.mono HB4.out.size)
      clear hB2 hD3 hB4 hB5 HB3 HB4
      go_wp2_with fail
      refine (HBK.out _).mono ?_
      rintro e w6 ⟨rfl, hD6⟩
      have HB6 : Hid (Below w.heap.size w w6) := HB5.out.trans (hD6.below _)
      have HM6 := Lib.hid (HM.out.below HB6.out (Nat.le_refl _))
      clear hD6 HB5
      go_wp2_with fail
      refine (HAL.out _ HM6.out).mono ?_
      rintro e w7 ⟨rfl, hB7⟩
      have HB7 : Hid (Below w.heap.size w w7) := HB6.out.trans (hB7.mono HB6.out.size)
      have HP7 := Lib.hid (HP.out.below HB7.out)
      clear hB7 HB6
      first
        | (go_wp2_with fail
           refine (HAG.out _ HP7.out).mono ?_
           rintro e w8 ⟨rfl, hB8⟩
           go_wp2
           go_ret
           exact ⟨by simp, HB7.out.trans (hB8.mono HB7.out.size)⟩)
        | (go_wp2
           go_ret
           exact ⟨by simp, HB7.out⟩)

theorem contract (H : Type) (enc : TypeId × Value → H) (W : World) (base : Nat) (args : Array Value) (ds gs : List (DataW H)) (before : List MemPlace)
    (hval : ∀ (j : Nat) t v, Tryd.f4.params[j]? = some t → args[j]? = some v → Value.okWide Tryd.prog W .any base t v)
    (hW : DataW.Whole enc Tryd.prog Tryd.f4.params.toList Rows.digitsDecSpec.vars false W args.toList ds gs before) (hL : laidMetH Tryd.prog Rows.digitsHexRow.laid W) (hS : W.ShapedOpen Tryd.prog) :
    Calls Tryd.prog 4 args W fun e W' => ∃ v, e = .returned v ∧ Rows.digitsDecSpec.post enc Tryd.prog Tryd.f4 false true false false W args v W' := by
  have hW' := hW
  have hlt := hW.lt
  obtain ⟨p, q, hA0, hV, rfl, hfz, hnd⟩ := hW
  have hA : DataW.TrodAll enc Tryd.prog W 0 (fun _ => true) true Tryd.f4.params.toList args.toList ds p := hA0
  rw [Tryd.params4] at hA hval
  obtain ⟨v0, vs0, d0, ds0, p0, q0, hargs, rfl, rfl, h0, r0⟩ := trodAll_cons hA
  obtain ⟨v1, vs1, d1, ds1, p1, q1, rfl, rfl, rfl, h1, r1⟩ := trodAll_cons r0
  obtain ⟨rfl, rfl, rfl⟩ := trodAll_nil r1
  obtain rfl : args = #[v0, v1] := by cases args; simp_all
  obtain ⟨a0, rfl, e0, -, w0⟩ := open_int Tryd.underlying3 (hval 0 3 v0 rfl rfl) h0
  obtain ⟨a1, rfl, e1, -, w1⟩ := open_string Tryd.underlying9 (hval 1 9 v1 rfl rfl) h1
  refine (walk W hS hL a0 w0 a1 w1).mono fun e W' ⟨he, hb⟩ => ?_
  subst he
  exact ⟨_, rfl, law_post rfl hW' (fun ds h => by match ds, h with | [_, _], _ => rfl) (by kernel_rfl) (by kernel_rfl) (by kernel_rfl) hb⟩

set_option maxRecDepth 100000 in
theorem lifted (os : Os) (started : os.Started) (H : Type) (enc : TypeId × Value → H) (F : Stop.Interp) :
    ReturnsInHanded {} Tryd.checked os 4 .any ((OpenSpec.ofChange Rows.digitsDecSpec).preRow enc Tryd.prog Tryd.f4 Rows.digitsDecRow.domain false Rows.digitsHexRow.laid) (((OpenSpec.ofChange Rows.digitsDecSpec).at F).post enc Tryd.prog Tryd.f4 false true false false) := by
  have hx : ∃ places, DataW.whole enc Tryd.prog ((World.laidAll Tryd.prog os Rows.digitsHexRow.laid).forCall (fun _ _ => 0) ⟨#[], #[.int .i64 0, .string ByteArray.empty], []⟩).memory Tryd.f4.params.toList Rows.digitsDecSpec.vars false (#[.int .i64 0, .string ByteArray.empty] : Array Value).toList 8 = some ([.lit (.int .i64 0), .lit (.string [])], [], places) := ⟨[], by kernel_rfl⟩
  obtain ⟨places, hx⟩ := hx
  refine returnsInHanded_of_row (C := Tryd.checked) (s := (OpenSpec.ofChange Rows.digitsDecSpec)) own started (by kernel_rfl) Tryd.func4
    (witness_lay (enc := enc) (C := Tryd.checked) false #[.int .i64 0, .string ByteArray.empty] (World.shaped_of_ZipB (by kernel_rfl) (by kernel_rfl)) (by kernel_rfl)
      (OpenSpec.preRow_of_cond 8 hx (by kernel_rfl) (fun k hk => by cases hk) (by kernel_rfl) (laid_met os _))) ?_
  intro W base args ds gs before hval hW _ hcond _ hL hS _
  exact contract H enc W base args ds gs before hval hW hL hS

theorem said : Rows.DigitsDecSaid :=
  OpenClaim.holds_of_cond 4 Tryd.f4 rfl rfl rfl rfl rfl rfl rfl ⟨rfl, rfl, rfl, rfl, rfl⟩ rfl rfl rfl rfl rfl (by kernel_rfl) Tryd.func4 (by kernel_rfl)
    (of_decide_eq_true (by kernel_rfl)) (by unfold Func.isWrapper; first | (rw [if_pos (by decide +kernel)]; kernel_rfl) | (rw [if_neg (by decide +kernel)]; exact ⟨rfl, rfl⟩))
    (fun os started H enc _ F => by rw [OpenClaim.pre_eq_preRow]; exact lifted os started H enc F)

theorem plain (f : FuncId) (fn : Func) (hf : Tryd.pinned.checked.prog.funcNamed Rows.digitsDecRow.func = some f) (hfn : Tryd.pinned.checked.prog.funcs[f]? = some fn) :
    false = Tryd.pinned.checked.prog.looks [] ∧ ∀ (j : Nat) t, fn.params[j]? = some t → Tryd.pinned.checked.prog.wantsStandIn t = false := by
  obtain rfl : f = 4 := Option.some.inj ((show Tryd.prog.funcNamed Rows.digitsDecRow.func = some 4 by kernel_rfl).symm.trans hf) |>.symm
  obtain rfl : fn = Tryd.f4 := (Option.some.inj (Tryd.func4.symm.trans hfn)).symm
  refine ⟨by kernel_rfl, fun j t ht => ?_⟩
  rw [Tryd.params4] at ht
  have hm : t ∈ [3, 9] := by simpa using Array.mem_of_getElem? ht
  have hall : ([3, 9].all fun u => !Tryd.prog.wantsStandIn u) = true := by kernel_rfl
  exact (show Tryd.prog.wantsStandIn t = false by simpa using List.all_eq_true.1 hall t hm)

theorem proved : Rows.DigitsDecCardSaid :=
  Claim7.holds_tied_plain_at .later [] _ _ _ _ said (fun _ h => by cases h) (by kernel_rfl) (fun _ h => by cases h) digitsDec_row_tie rfl ⟨rfl, rfl⟩ (by kernel_rfl) rfl plain (by kernel_rfl)
end Go.Proofs.YtdakdfpjibmocaaDoor.digitsDec
