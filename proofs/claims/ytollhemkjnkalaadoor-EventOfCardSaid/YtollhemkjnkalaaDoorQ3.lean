/- EventOf: the event of any frame, or that there is none, is what the document says; its frame is that: for every frame. No condition but that the library's tables hold what the program's text lays in them. -/
import Derived.Test.YtollhemkjnkalaaDoorK10
import Derived.Test.YtollhemkjnkalaaDoorK5
namespace Go.Proofs.YtollhemkjnkalaaDoor.eventOf
open Go.ChangeShapes Go.WideShapes Go.ChangeAt Go.RowKit Go.Shelf
open Go.ChangeMaps (open_string shut_string)
set_option linter.unusedVariables false
set_option maxRecDepth 100000

theorem of_fits (k : UInt8) (b : ByteArray) (hb : b.size ≤ 300) : EFits (ofE k b) ∧ EInts (ofE k b) := by
  cases h : isF k b with
  | true =>
    rw [ofE_yes h]
    exact fromW_fits (letP k + 1) (by unfold letP; repeat' split <;> omega) _ (split_fit b (by omega))
  | false =>
    rw [ofE_no h]
    have hz : (⟨#[]⟩ : ByteArray).size ≤ maxLen := Nat.zero_le _
    have h0 : I64 0 := by unfold I64; omega
    exact ⟨⟨hz, hz⟩, ⟨h0, h0, h0⟩⟩

set_option maxHeartbeats 4000000 in
theorem walk (w : World) (hS : w.ShapedOpen Tryd.prog) (hL : laidMetH Tryd.prog Rows.eventRightRow.laid w) (k : UInt8) (b : ByteArray) (hb : b.size ≤ maxLen) :
    Calls Tryd.prog 5 #[.agg #[.int .u8 (k.toNat : Int), .string b]] w fun r w' => r = .returned (.bool true) ∧ Below w.heap.size w w' := by
  have hm : MaxIs w := ⟨_, (max_is hS).choose_spec⟩
  have hp := pow10_is hL
  have HAL := Lib.hid (fun W (h : Below w.heap.size w W) => alive_any W (hp.below h) (hm.below h))
  unfold maxLen at hb
  have X1 := Lib.hid ((Keeps.start w).push _ #[.int .u8 (k.toNat : Int), .string b] 34 rfl)
  have hkb := u8_lt k
  by_cases hl : 300 < b.size
  · clear hS hL hp hm
    go_enter Tryd.func5, Tryd.ntmps5
    go_wp2_with fail
    refine (HAL.out _ X1.out.2).mono ?_
    rintro r w1 ⟨rfl, h1⟩
    have X2 := X1.out.below h1
    go_wp2
    go_ret
    exact ⟨rfl, X2.2⟩
  obtain ⟨ov, iv, lt, tl, hlt, HO, HQ, HF, hg⟩ : ∃ (ov : EvM) (iv : Bool) (lt : Int) (tl : ByteArray), (0 ≤ lt ∧ lt ≤ 255) ∧
      Hid (∀ W, Below w.heap.size w W → Calls Tryd.prog 14 #[frW k b] W fun r w' => r = .returned (.tuple #[evV ov, .bool iv]) ∧ Below W.heap.size W w') ∧
      Hid (∀ W, Calls Tryd.prog 15 #[frW k b] W fun r w' => r = .returned (.tuple #[evV ov, .bool iv]) ∧ Below W.heap.size W w') ∧
      Hid (∀ W, Below w.heap.size w W → Calls Tryd.prog 12 #[evV ov] W fun r w' => r = .returned (.tuple #[.agg #[.int .u8 lt, .string tl], .bool iv]) ∧ Below W.heap.size W w') ∧
      (iv = true → lt = (k.toNat : Int) ∧ tl = b) := by
    obtain ⟨f1, f2⟩ := of_fits k b (by omega)
    have hr := right_of k b
    cases h : isF k b with
    | true =>
      obtain ⟨i1, i2, i3⟩ := isF_inv h
      refine ⟨ofE k b, true, (k.toNat : Int), b, u8_lt _, fun W hW => ?_, fun W => ?_, fun W hW => ?_, fun _ => ⟨rfl, rfl⟩⟩
      · have := of_any k b (by omega) W (hp.below hW) (hm.below hW)
        rw [h] at this
        exact this
      · have := refOf_any k b (by omega) W
        rw [h] at this
        exact this
      · have := frame_any (ofE k b) f1 f2 W (hp.below hW)
        unfold frameE frK at this
        rw [hr, h, if_pos rfl, ofE_yes h, i2, i3] at this
        rw [ofE_yes h]
        exact this
    | false =>
      refine ⟨ofE k b, false, 0, ⟨#[]⟩, by omega, fun W hW => ?_, fun W => ?_, fun W hW => ?_, fun h => by cases h⟩
      · have := of_any k b (by omega) W (hp.below hW) (hm.below hW)
        rw [h] at this
        exact this
      · have := refOf_any k b (by omega) W
        rw [h] at this
        exact this
      · have := frame_any (ofE k b) f1 f2 W (hp.below hW)
        unfold frameE frK at this
        rw [hr, h, if_neg (by decide)] at this
        exact this
  unfold evV frW at *
  have htl : (b.toList == b.toList) = true := beq_self_eq_true _
  have hE1 : (ov.user.toList == ov.user.toList) = true := beq_self_eq_true _
  have hE2 : (ov.other.toList == ov.other.toList) = true := beq_self_eq_true _
  clear hS hL hm hp
  go_enter Tryd.func5, Tryd.ntmps5
  go_wp2_with fail
  refine (HO.out _ X1.out.2).mono ?_
  rintro r w2 ⟨rfl, h2⟩
  have X2 := Lib.hid (X1.out.below h2)
  have X3 := Lib.hid (X2.out.push _ #[.int .i64 ov.kind, .int .i64 ov.at_, .string ov.user, .string ov.other, .int .i64 ov.n, .int .i64 ov.status] 24 rfl)
  obtain ⟨⟨f0, f1⟩, -, -⟩ := cells2 X2.out.h0
  have hl2 := heap_lt X2.out.h0
  clear h2 X1 X2
  go_wp2_with fail
  refine (HQ.out _).mono ?_
  rintro r w4 ⟨rfl, h4⟩
  have X4 := Lib.hid (X3.out.below h4)
  have X5 := Lib.hid (X4.out.push _ #[.int .i64 ov.kind, .int .i64 ov.at_, .string ov.user, .string ov.other, .int .i64 ov.n, .int .i64 ov.status] 23 rfl)
  obtain ⟨⟨c0, c1, c2, c3, c4, c5⟩, -⟩ := cells6 X4.out.h0
  have hl4 := heap_lt X4.out.h0
  clear h4 X3 X4 f0 f1
  go_wp2_with fail
  refine (HF.out _ X5.out.2).mono ?_
  rintro r w6 ⟨rfl, h6⟩
  have X6 := Lib.hid (X5.out.below h6)
  have X7 := Lib.hid (X6.out.push _ #[.int .u8 lt, .string tl] 31 rfl)
  clear h6 X5 X6 c0 c1 c2 c3 c4 c5
  go_wp2_with fail
  refine (HAL.out _ X7.out.2).mono ?_
  rintro r w8 ⟨rfl, h8⟩
  have X8 := Lib.hid (X7.out.below h8)
  obtain ⟨⟨f0, f1⟩, -, -⟩ := cells2 X8.out.h0
  obtain ⟨⟨g0, g1⟩, -, -⟩ := cells2 X8.out.h3
  clear h8 X7
  cases iv with
  | false =>
    go_wp2
    go_ret
    exact ⟨rfl, X8.out.2⟩
  | true =>
    obtain ⟨rfl, rfl⟩ := hg rfl
    go_wp2
    go_ret
    exact ⟨rfl, X8.out.2⟩

theorem contract (H : Type) (enc : TypeId × Value → H) (W : World) (base : Nat) (args : Array Value) (ds gs : List (DataW H)) (before : List MemPlace)
    (hval : ∀ (j : Nat) t v, Tryd.f5.params[j]? = some t → args[j]? = some v → Value.okWide Tryd.prog W .any base t v)
    (hW : DataW.Whole enc Tryd.prog Tryd.f5.params.toList Rows.eventOfSpec.vars false W args.toList ds gs before) (hL : laidMetH Tryd.prog Rows.eventRightRow.laid W) (hS : W.ShapedOpen Tryd.prog) :
    Calls Tryd.prog 5 args W fun e W' => ∃ v, e = .returned v ∧ Rows.eventOfSpec.post enc Tryd.prog Tryd.f5 false true false false W args v W' := by
  have hW' := hW
  have hlt := hW.lt
  obtain ⟨p, q, hA0, hV, rfl, hfz, hnd⟩ := hW
  have hA : DataW.TrodAll enc Tryd.prog W 0 (fun _ => true) true Tryd.f5.params.toList args.toList ds p := hA0
  rw [Tryd.params5] at hA hval
  obtain ⟨v0, vs0, d0, ds0, p0, q0, hargs, rfl, rfl, h0, r0⟩ := trodAll_cons hA
  obtain ⟨rfl, rfl, rfl⟩ := trodAll_nil r0
  obtain rfl : args = #[v0] := by cases args; simp_all
  obtain ⟨k0, a0, rfl, w0⟩ := open_frame (hval 0 34 v0 rfl rfl) h0
  refine (walk W hS hL k0 a0 w0).mono fun e W' ⟨he, hb⟩ => ?_
  subst he
  exact ⟨_, rfl, law_post rfl hW' (fun ds h => by match ds, h with | [_], _ => rfl) (by kernel_rfl) (by kernel_rfl) (by kernel_rfl) hb⟩

set_option maxRecDepth 100000 in
theorem lifted (os : Os) (started : os.Started) (H : Type) (enc : TypeId × Value → H) (F : Stop.Interp) :
    ReturnsInHanded {} Tryd.checked os 5 .any ((OpenSpec.ofChange Rows.eventOfSpec).preRow enc Tryd.prog Tryd.f5 Rows.eventOfRow.domain false Rows.eventRightRow.laid) (((OpenSpec.ofChange Rows.eventOfSpec).at F).post enc Tryd.prog Tryd.f5 false true false false) := by
  have hx : ∃ places, DataW.whole enc Tryd.prog ((World.laidAll Tryd.prog os Rows.eventRightRow.laid).forCall (fun _ _ => 0) ⟨#[], #[.agg #[.int .u8 0, .string ByteArray.empty]], []⟩).memory Tryd.f5.params.toList Rows.eventOfSpec.vars false (#[.agg #[.int .u8 0, .string ByteArray.empty]] : Array Value).toList 8 = some ([.agg [.lit (.int .u8 0), .lit (.string [])]], [], places) := ⟨[], by kernel_rfl⟩
  obtain ⟨places, hx⟩ := hx
  refine returnsInHanded_of_row (C := Tryd.checked) (s := (OpenSpec.ofChange Rows.eventOfSpec)) own started (by kernel_rfl) Tryd.func5
    (witness_lay (enc := enc) (C := Tryd.checked) false #[.agg #[.int .u8 0, .string ByteArray.empty]] (World.shaped_of_ZipB (by kernel_rfl) (by kernel_rfl)) (by kernel_rfl)
      (OpenSpec.preRow_of_cond 8 hx (by kernel_rfl) (fun k hk => by cases hk) (by kernel_rfl) (laid_met os _))) ?_
  intro W base args ds gs before hval hW _ hcond _ hL hS _
  exact contract H enc W base args ds gs before hval hW hL hS

theorem said : Rows.EventOfSaid :=
  OpenClaim.holds_of_cond 5 Tryd.f5 rfl rfl rfl rfl rfl rfl rfl ⟨rfl, rfl, rfl, rfl, rfl⟩ rfl rfl rfl rfl rfl (by kernel_rfl) Tryd.func5 (by kernel_rfl)
    (of_decide_eq_true (by kernel_rfl)) (by unfold Func.isWrapper; first | (rw [if_pos (by decide +kernel)]; kernel_rfl) | (rw [if_neg (by decide +kernel)]; exact ⟨rfl, rfl⟩))
    (fun os started H enc _ F => by rw [OpenClaim.pre_eq_preRow]; exact lifted os started H enc F)

theorem plain (f : FuncId) (fn : Func) (hf : Tryd.pinned.checked.prog.funcNamed Rows.eventOfRow.func = some f) (hfn : Tryd.pinned.checked.prog.funcs[f]? = some fn) :
    false = Tryd.pinned.checked.prog.looks [] ∧ ∀ (j : Nat) t, fn.params[j]? = some t → Tryd.pinned.checked.prog.wantsStandIn t = false := by
  obtain rfl : f = 5 := Option.some.inj ((show Tryd.prog.funcNamed Rows.eventOfRow.func = some 5 by kernel_rfl).symm.trans hf) |>.symm
  obtain rfl : fn = Tryd.f5 := (Option.some.inj (Tryd.func5.symm.trans hfn)).symm
  refine ⟨by kernel_rfl, fun j t ht => ?_⟩
  rw [Tryd.params5] at ht
  have hm : t ∈ [34] := by simpa using Array.mem_of_getElem? ht
  have hall : ([34].all fun u => !Tryd.prog.wantsStandIn u) = true := by kernel_rfl
  exact (show Tryd.prog.wantsStandIn t = false by simpa using List.all_eq_true.1 hall t hm)

theorem proved : Rows.EventOfCardSaid :=
  Claim7.holds_tied_plain_at .later [] _ _ _ _ said (fun _ h => by cases h) (by kernel_rfl) (fun _ h => by cases h) eventOf_row_tie rfl ⟨rfl, rfl⟩ (by kernel_rfl) rfl plain (by kernel_rfl)
end Go.Proofs.YtollhemkjnkalaaDoor.eventOf
