/- DigitsHex: the hexadecimal digits of any number, and the number of any text, or that there is none, are what the document says, and what was written is read as it was: for every number, width and text. No condition but that the library's tables hold what the library's text lays (the card's tie). -/
import Derived.Test.YtdakdfpjibmocaaDoorE0
namespace Go.Proofs.YtdakdfpjibmocaaDoor.digitsHex
open Go.ChangeShapes Go.WideShapes Go.ChangeAt Go.RowKit Go.Shelf
open Go.ChangeMaps (open_string shut_string)
set_option linter.unusedVariables false

theorem some_tuple (o : Option Int) : optV o = .tuple #[.int .i64 (o.getD 0), .bool o.isSome] := rfl

set_option maxHeartbeats 2000000 in
theorem walk (w : World) (hS : w.ShapedOpen Tryd.prog) (hL : laidMetH Tryd.prog Rows.digitsHexRow.laid w) (n : Int) (w0 : (Lit.int .i64 n).wf = true) (wide : Int) (w1 : (Lit.int .i64 wide).wf = true) (s : ByteArray) (w2 : s.size ≤ maxLen) :
    Calls Tryd.prog 3 #[.int .i64 n, .int .i64 wide, .string s] w fun e w' => e = .returned (.bool true) ∧ Below w.heap.size w w' := by
  obtain ⟨n0, n1⟩ := wf64 w0
  have HM := Lib.hid (max_is hS)
  have HAL := Lib.hid alive_any
  have H1 := Lib.hid (fun (W : World) => hex_any n wide n0 n1 W)
  have H2 := Lib.hid (fun (W : World) => refHex_any n wide n0 n1 W)
  have H3 := Lib.hid (fun (W : World) => unhex_any s W w2)
  have H4 := Lib.hid (fun (W : World) => refUnhex_any s W w2)
  have hself : ∀ x : ByteArray, (x.toList != x.toList) = false := fun x => by simp
  -- what was written is read as it was
  have HBACK : Hid ((hexOf n wide = [] ∧ ∀ W, Calls Tryd.prog 10 #[.string (tx (hexOf n wide))] W fun e w' => e = .returned (.tuple #[.int .i64 0, .bool false]) ∧ Drew W w') ∨
      (hexOf n wide ≠ [] ∧ ((tx (hexOf n wide)).size : Int) = wide ∧ ∀ W, Calls Tryd.prog 10 #[.string (tx (hexOf n wide))] W fun e w' => e = .returned (.tuple #[.int .i64 n, .bool true]) ∧ Drew W w')) := by
    have hlen : (hexOf n wide).length ≤ 12 := by
      rcases hexOf_cases n wide with h | ⟨a1, a2, a3, a4, a5⟩
      · rw [h]; simp
      · rw [a5, hexL_length]; omega
    have hsz : (tx (hexOf n wide)).size ≤ maxLen := by rw [tx_size]; unfold maxLen; omega
    rcases unhex_hexOf n wide with ⟨h1, h2⟩ | ⟨h1, h2, h3⟩
    · left
      refine ⟨h1, fun W => ?_⟩
      have := unhex_any (tx (hexOf n wide)) W hsz
      rw [tx_data, h2] at this
      exact this
    · right
      refine ⟨h1, by rw [tx_size]; exact h3, fun W => ?_⟩
      have := unhex_any (tx (hexOf n wide)) W hsz
      rw [tx_data, h2] at this
      exact this
  -- what is read, written again, is the same text
  have HAGAIN : Hid (unhexL s.data.toList = none ∨ ∃ m : Int, unhexL s.data.toList = some m ∧ ∀ W, Calls Tryd.prog 9 #[.int .i64 m, .int .i64 (s.size : Int)] W fun e w' => e = .returned (.string s) ∧ Below W.heap.size W w') := by
    cases h : unhexL s.data.toList with
    | none => exact .inl rfl
    | some m =>
      refine .inr ⟨m, rfl, fun W => ?_⟩
      obtain ⟨e1, e2, e3, e4⟩ := hexOf_unhex s.data.toList m h
      have hm : m ≤ 9223372036854775807 := by
        unfold unhexL at h
        split at h
        · have := numF_range hexV 16 most48 (by decide) s.data.toList 0 m (by decide) (by decide) h
          unfold most48 at this; omega
        · cases h
      have hl : s.data.toList.length = s.size := by simp
      rw [hl] at e1
      have := hex_any m (s.size : Int) (by omega) hm W
      rw [e1] at this
      have e5 : tx s.data.toList = s := tx_toL s
      rw [e5] at this
      exact this
  unfold optV at H3 H4
  have hsm : s.size ≤ 9223372036854775807 := by unfold maxLen at w2; omega
  clear hS hL w0 w1 w2
  rcases HAGAIN.out with ho | ⟨m, ho, hag⟩
  all_goals
    rw [ho] at H3 H4
    simp only [Option.getD_none, Option.isSome_none, Option.getD_some, Option.isSome_some] at H3 H4
    try have HAG := Lib.hid hag
    try clear hag
    rcases HBACK.out with ⟨hb1, hb2⟩ | ⟨hb1, hb3, hb2⟩
    all_goals
      first
        | have hem := empty_eq hb1
        | have hem := empty_ne hb1
      have HBK := Lib.hid hb2
      clear hb1 hb2 HBACK HAGAIN ho
      have hx := hself (tx (hexOf n wide))
      generalize tx (hexOf n wide) = x at *
      go_enter Tryd.func3, Tryd.ntmps3
      go_wp2_with fail
      refine (H1.out _).mono ?_
      rintro e w2 ⟨rfl, hB2⟩
      go_wp2_with fail
      refine (H3.out _).mono ?_
      rintro e w3 ⟨rfl, hD3⟩
      go_wp2_with fail
      refine (H4.out _).mono ?_
      rintro e w4 ⟨rfl, rfl⟩
      go_wp2_with fail
      refine (H2.out _).mono ?_
      rintro e w5 ⟨rfl, hB5⟩
      have HB3 : Hid (Below w.heap.size w w3) := hB2.trans (hD3.below _)
      have HB5 : Hid (Below w.heap.size w w5) := HB3.out.trans (hB5.mono HB3.out.size)
      clear hB2 hD3 hB5 HB3
      go_wp2_with fail
      refine (HBK.out _).mono ?_
      rintro e w6 ⟨rfl, hD6⟩
      have HB6 : Hid (Below w.heap.size w w6) := HB5.out.trans (hD6.below _)
      have HM6 := Lib.hid (HM.out.below HB6.out (Nat.le_refl _))
      clear hD6 HB5
      go_wp2_with fail
      refine (HAL.out _ HM6.out).mono ?_
      rintro e w7 ⟨rfl, hB7⟩
      have HB7 : Hid (Below w.heap.size w w7) := HB6.out.trans (hB7.mono HB6.out.size)
      clear hB7 HB6
      first
        | (go_wp2_with fail
           refine (HAG.out _).mono ?_
           rintro e w8 ⟨rfl, hB8⟩
           go_wp2
           go_ret
           exact ⟨by simp, HB7.out.trans (hB8.mono HB7.out.size)⟩)
        | (go_wp2
           go_ret
           exact ⟨by simp, HB7.out⟩)

theorem contract (H : Type) (enc : TypeId × Value → H) (W : World) (base : Nat) (args : Array Value) (ds gs : List (DataW H)) (before : List MemPlace)
    (hval : ∀ (j : Nat) t v, Tryd.f3.params[j]? = some t → args[j]? = some v → Value.okWide Tryd.prog W .any base t v)
    (hW : DataW.Whole enc Tryd.prog Tryd.f3.params.toList Rows.digitsHexSpec.vars false W args.toList ds gs before) (hL : laidMetH Tryd.prog Rows.digitsHexRow.laid W) (hS : W.ShapedOpen Tryd.prog) :
    Calls Tryd.prog 3 args W fun e W' => ∃ v, e = .returned v ∧ Rows.digitsHexSpec.post enc Tryd.prog Tryd.f3 false true false false W args v W' := by
  have hW' := hW
  have hlt := hW.lt
  obtain ⟨p, q, hA0, hV, rfl, hfz, hnd⟩ := hW
  have hA : DataW.TrodAll enc Tryd.prog W 0 (fun _ => true) true Tryd.f3.params.toList args.toList ds p := hA0
  rw [Tryd.params3] at hA hval
  obtain ⟨v0, vs0, d0, ds0, p0, q0, hargs, rfl, rfl, h0, r0⟩ := trodAll_cons hA
  obtain ⟨v1, vs1, d1, ds1, p1, q1, rfl, rfl, rfl, h1, r1⟩ := trodAll_cons r0
  obtain ⟨v2, vs2, d2, ds2, p2, q2, rfl, rfl, rfl, h2, r2⟩ := trodAll_cons r1
  obtain ⟨rfl, rfl, rfl⟩ := trodAll_nil r2
  obtain rfl : args = #[v0, v1, v2] := by cases args; simp_all
  obtain ⟨a0, rfl, e0, -, w0⟩ := open_int Tryd.underlying3 (hval 0 3 v0 rfl rfl) h0
  obtain ⟨a1, rfl, e1, -, w1⟩ := open_int Tryd.underlying3 (hval 1 3 v1 rfl rfl) h1
  obtain ⟨a2, rfl, e2, -, w2⟩ := open_string Tryd.underlying9 (hval 2 9 v2 rfl rfl) h2
  refine (walk W hS hL a0 w0 a1 w1 a2 w2).mono fun e W' ⟨he, hb⟩ => ?_
  subst he
  exact ⟨_, rfl, law_post rfl hW' (fun ds h => by match ds, h with | [_, _, _], _ => rfl) (by kernel_rfl) (by kernel_rfl) (by kernel_rfl) hb⟩

set_option maxRecDepth 100000 in
theorem lifted (os : Os) (started : os.Started) (H : Type) (enc : TypeId × Value → H) (F : Stop.Interp) :
    ReturnsInHanded {} Tryd.checked os 3 .any ((OpenSpec.ofChange Rows.digitsHexSpec).preRow enc Tryd.prog Tryd.f3 Rows.digitsHexRow.domain false Rows.digitsHexRow.laid) (((OpenSpec.ofChange Rows.digitsHexSpec).at F).post enc Tryd.prog Tryd.f3 false true false false) := by
  have hx : ∃ places, DataW.whole enc Tryd.prog ((World.laidAll Tryd.prog os Rows.digitsHexRow.laid).forCall (fun _ _ => 0) ⟨#[], #[.int .i64 0, .int .i64 0, .string ByteArray.empty], []⟩).memory Tryd.f3.params.toList Rows.digitsHexSpec.vars false (#[.int .i64 0, .int .i64 0, .string ByteArray.empty] : Array Value).toList 8 = some ([.lit (.int .i64 0), .lit (.int .i64 0), .lit (.string [])], [], places) := ⟨[], by kernel_rfl⟩
  obtain ⟨places, hx⟩ := hx
  refine returnsInHanded_of_row (C := Tryd.checked) (s := (OpenSpec.ofChange Rows.digitsHexSpec)) own started (by kernel_rfl) Tryd.func3
    (witness_lay (enc := enc) (C := Tryd.checked) false #[.int .i64 0, .int .i64 0, .string ByteArray.empty] (World.shaped_of_ZipB (by kernel_rfl) (by kernel_rfl)) (by kernel_rfl)
      (OpenSpec.preRow_of_cond 8 hx (by kernel_rfl) (fun k hk => by cases hk) (by kernel_rfl) (laid_met os _))) ?_
  intro W base args ds gs before hval hW _ hcond _ hL hS _
  exact contract H enc W base args ds gs before hval hW hL hS

theorem said : Rows.DigitsHexSaid :=
  OpenClaim.holds_of_cond 3 Tryd.f3 rfl rfl rfl rfl rfl rfl rfl ⟨rfl, rfl, rfl, rfl, rfl⟩ rfl rfl rfl rfl rfl (by kernel_rfl) Tryd.func3 (by kernel_rfl)
    (of_decide_eq_true (by kernel_rfl)) (by unfold Func.isWrapper; first | (rw [if_pos (by decide +kernel)]; kernel_rfl) | (rw [if_neg (by decide +kernel)]; exact ⟨rfl, rfl⟩))
    (fun os started H enc _ F => by rw [OpenClaim.pre_eq_preRow]; exact lifted os started H enc F)

theorem plain (f : FuncId) (fn : Func) (hf : Tryd.pinned.checked.prog.funcNamed Rows.digitsHexRow.func = some f) (hfn : Tryd.pinned.checked.prog.funcs[f]? = some fn) :
    false = Tryd.pinned.checked.prog.looks [] ∧ ∀ (j : Nat) t, fn.params[j]? = some t → Tryd.pinned.checked.prog.wantsStandIn t = false := by
  obtain rfl : f = 3 := Option.some.inj ((show Tryd.prog.funcNamed Rows.digitsHexRow.func = some 3 by kernel_rfl).symm.trans hf) |>.symm
  obtain rfl : fn = Tryd.f3 := (Option.some.inj (Tryd.func3.symm.trans hfn)).symm
  refine ⟨by kernel_rfl, fun j t ht => ?_⟩
  rw [Tryd.params3] at ht
  have hm : t ∈ [3, 3, 9] := by simpa using Array.mem_of_getElem? ht
  have hall : ([3, 3, 9].all fun u => !Tryd.prog.wantsStandIn u) = true := by kernel_rfl
  exact (show Tryd.prog.wantsStandIn t = false by simpa using List.all_eq_true.1 hall t hm)

theorem proved : Rows.DigitsHexCardSaid :=
  Claim7.holds_tied_plain_at .later [] _ _ _ _ said (fun _ h => by cases h) (by kernel_rfl) (fun _ h => by cases h) digitsHex_row_tie rfl ⟨rfl, rfl⟩ (by kernel_rfl) rfl plain (by kernel_rfl)
end Go.Proofs.YtdakdfpjibmocaaDoor.digitsHex
