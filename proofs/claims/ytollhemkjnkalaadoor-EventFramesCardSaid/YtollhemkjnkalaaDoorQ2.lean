/- EventFrames: the frame of any event, or that there is none, is what the document says; the event of that is it again: for every event. No condition but that the library's tables hold what the program's text lays in them. -/
import Derived.Test.YtollhemkjnkalaaDoorK10
import Derived.Test.YtollhemkjnkalaaDoorJ8
namespace Go.Proofs.YtollhemkjnkalaaDoor.eventFrames
open Go.ChangeShapes Go.WideShapes Go.ChangeAt Go.RowKit Go.Shelf
open Go.ChangeMaps (open_string shut_string)
set_option linter.unusedVariables false
set_option maxRecDepth 100000

set_option maxHeartbeats 4000000 in
theorem walk (w : World) (hS : w.ShapedOpen Tryd.prog) (hL : laidMetH Tryd.prog Rows.eventRightRow.laid w) (e : EvM) (he : EFits e) (hi : EInts e) :
    Calls Tryd.prog 4 #[evV e] w fun r w' => r = .returned (.bool true) ∧ Below w.heap.size w w' := by
  have hm : MaxIs w := ⟨_, (max_is hS).choose_spec⟩
  have hp := pow10_is hL
  have HAL := Lib.hid (fun W (h : Below w.heap.size w W) => alive_any W (hp.below h) (hm.below h))
  obtain ⟨lt, tl, g, rb, hlt, HF, HQ, HO, hg⟩ : ∃ (lt : Int) (tl : ByteArray) (g : EvM) (rb : Bool), (0 ≤ lt ∧ lt ≤ 255) ∧
      Hid (∀ W, Below w.heap.size w W → Calls Tryd.prog 12 #[evV e] W fun r w' => r = .returned (.tuple #[.agg #[.int .u8 lt, .string tl], .bool rb]) ∧ Below W.heap.size W w') ∧
      Hid (∀ W, Calls Tryd.prog 13 #[evV e] W fun r w' => r = .returned (.tuple #[.agg #[.int .u8 lt, .string tl], .bool rb]) ∧ Below W.heap.size W w') ∧
      Hid (∀ W, Below w.heap.size w W → Calls Tryd.prog 14 #[.agg #[.int .u8 lt, .string tl]] W fun r w' => r = .returned (.tuple #[evV g, .bool rb]) ∧ Below W.heap.size W w') ∧ (rb = true → g = e) := by
    cases hr : rightE e with
    | true =>
      refine ⟨((letterE e.kind).toNat : Int), tx (lineE e), e, true, u8_lt _, fun W h => ?_, fun W => ?_, fun W h => ?_, fun _ => rfl⟩
      · have := frame_any e he hi W (hp.below h)
        unfold frameE frK at this
        rw [hr, if_pos rfl] at this
        exact this
      · have := refFrame_any e he hi W
        unfold frameE frK at this
        rw [hr, if_pos rfl] at this
        exact this
      · have := of_any (letterE e.kind) (tx (lineE e)) (by rw [tx_size]; have := line_short hr; omega) W (hp.below h) (hm.below h)
        rw [of_frame hr, is_frame hr] at this
        exact this
    | false =>
      refine ⟨0, ⟨#[]⟩, zeroE, false, by omega, fun W h => ?_, fun W => ?_, fun W h => ?_, fun h => by cases h⟩
      · have := frame_any e he hi W (hp.below h)
        unfold frameE frK at this
        rw [hr, if_neg (by decide)] at this
        exact this
      · have := refFrame_any e he hi W
        unfold frameE frK at this
        rw [hr, if_neg (by decide)] at this
        exact this
      · have := of_any 0 ⟨#[]⟩ (by decide) W (hp.below h) (hm.below h)
        rw [ofE_zero, isF_zero] at this
        exact this
  unfold evV at *
  have htl : (tl.toList == tl.toList) = true := beq_self_eq_true _
  have hE1 : (e.user.toList == e.user.toList) = true := beq_self_eq_true _
  have hE2 : (e.other.toList == e.other.toList) = true := beq_self_eq_true _
  have X1 := Lib.hid ((Keeps.start w).push _ #[.int .i64 e.kind, .int .i64 e.at_, .string e.user, .string e.other, .int .i64 e.n, .int .i64 e.status] 23 rfl)
  have hBA : Hid (∀ (a b c d f g : Value), ((w.alloc (.cells #[a, b, c, d, f, g] 23)).heap.size = w.heap.size + 1)) := fun a b c d f g => size1 _ _
  clear hS hL hm hp he hi
  go_enter Tryd.func4, Tryd.ntmps4
  go_wp2_with fail
  refine (HF.out _ X1.out.2).mono ?_
  rintro r w2 ⟨rfl, h2⟩
  have X2 := Lib.hid (X1.out.below h2)
  have X3 := Lib.hid (X2.out.push _ #[.int .u8 lt, .string tl] 31 rfl)
  obtain ⟨⟨c0, c1, c2, c3, c4, c5⟩, -⟩ := cells6 X2.out.h0
  have hl2 := heap_lt X2.out.h0
  clear h2 X1 X2
  go_wp2_with fail
  refine (HQ.out _).mono ?_
  rintro r w4 ⟨rfl, h4⟩
  have X4 := Lib.hid (X3.out.below h4)
  have X5 := Lib.hid (X4.out.push _ #[.int .u8 lt, .string tl] 34 rfl)
  obtain ⟨⟨f0, f1⟩, -, -⟩ := cells2 X4.out.h0
  have hl4 := heap_lt X4.out.h0
  clear h4 X3 X4 c0 c1 c2 c3 c4 c5
  go_wp2_with fail
  refine (HO.out _ X5.out.2).mono ?_
  rintro r w6 ⟨rfl, h6⟩
  have X6 := Lib.hid (X5.out.below h6)
  have X7 := Lib.hid (X6.out.push _ #[.int .i64 g.kind, .int .i64 g.at_, .string g.user, .string g.other, .int .i64 g.n, .int .i64 g.status] 24 rfl)
  clear h6 X5 X6 f0 f1
  go_wp2_with fail
  refine (HAL.out _ X7.out.2).mono ?_
  rintro r w8 ⟨rfl, h8⟩
  have X8 := Lib.hid (X7.out.below h8)
  obtain ⟨⟨g0, g1, g2, g3, g4, g5⟩, -⟩ := cells6 X8.out.h0
  obtain ⟨⟨c0, c1, c2, c3, c4, c5⟩, -⟩ := cells6 X8.out.h3
  clear h8 X7
  cases rb with
  | false =>
    go_wp2
    go_ret
    exact ⟨rfl, X8.out.2⟩
  | true =>
    obtain rfl := hg rfl
    go_wp2
    go_ret
    exact ⟨rfl, X8.out.2⟩

theorem contract (H : Type) (enc : TypeId × Value → H) (W : World) (base : Nat) (args : Array Value) (ds gs : List (DataW H)) (before : List MemPlace)
    (hval : ∀ (j : Nat) t v, Tryd.f4.params[j]? = some t → args[j]? = some v → Value.okWide Tryd.prog W .any base t v)
    (hW : DataW.Whole enc Tryd.prog Tryd.f4.params.toList Rows.eventFramesSpec.vars false W args.toList ds gs before) (hL : laidMetH Tryd.prog Rows.eventRightRow.laid W) (hS : W.ShapedOpen Tryd.prog) :
    Calls Tryd.prog 4 args W fun e W' => ∃ v, e = .returned v ∧ Rows.eventFramesSpec.post enc Tryd.prog Tryd.f4 false true false false W args v W' := by
  have hW' := hW
  have hlt := hW.lt
  obtain ⟨p, q, hA0, hV, rfl, hfz, hnd⟩ := hW
  have hA : DataW.TrodAll enc Tryd.prog W 0 (fun _ => true) true Tryd.f4.params.toList args.toList ds p := hA0
  rw [Tryd.params4] at hA hval
  obtain ⟨v0, vs0, d0, ds0, p0, q0, hargs, rfl, rfl, h0, r0⟩ := trodAll_cons hA
  obtain ⟨rfl, rfl, rfl⟩ := trodAll_nil r0
  obtain rfl : args = #[v0] := by cases args; simp_all
  obtain ⟨a0, rfl, w0, u0⟩ := open_event (hval 0 23 v0 rfl rfl) h0
  refine (walk W hS hL a0 w0 u0).mono fun e W' ⟨he, hb⟩ => ?_
  subst he
  exact ⟨_, rfl, law_post rfl hW' (fun ds h => by match ds, h with | [_], _ => rfl) (by kernel_rfl) (by kernel_rfl) (by kernel_rfl) hb⟩

set_option maxRecDepth 100000 in
theorem lifted (os : Os) (started : os.Started) (H : Type) (enc : TypeId × Value → H) (F : Stop.Interp) :
    ReturnsInHanded {} Tryd.checked os 4 .any ((OpenSpec.ofChange Rows.eventFramesSpec).preRow enc Tryd.prog Tryd.f4 Rows.eventFramesRow.domain false Rows.eventRightRow.laid) (((OpenSpec.ofChange Rows.eventFramesSpec).at F).post enc Tryd.prog Tryd.f4 false true false false) := by
  have hx : ∃ places, DataW.whole enc Tryd.prog ((World.laidAll Tryd.prog os Rows.eventRightRow.laid).forCall (fun _ _ => 0) ⟨#[], #[.agg #[.int .i64 0, .int .i64 0, .string ByteArray.empty, .string ByteArray.empty, .int .i64 0, .int .i64 0]], []⟩).memory Tryd.f4.params.toList Rows.eventFramesSpec.vars false (#[.agg #[.int .i64 0, .int .i64 0, .string ByteArray.empty, .string ByteArray.empty, .int .i64 0, .int .i64 0]] : Array Value).toList 8 = some ([.agg [.lit (.int .i64 0), .lit (.int .i64 0), .lit (.string []), .lit (.string []), .lit (.int .i64 0), .lit (.int .i64 0)]], [], places) := ⟨[], by kernel_rfl⟩
  obtain ⟨places, hx⟩ := hx
  refine returnsInHanded_of_row (C := Tryd.checked) (s := (OpenSpec.ofChange Rows.eventFramesSpec)) own started (by kernel_rfl) Tryd.func4
    (witness_lay (enc := enc) (C := Tryd.checked) false #[.agg #[.int .i64 0, .int .i64 0, .string ByteArray.empty, .string ByteArray.empty, .int .i64 0, .int .i64 0]] (World.shaped_of_ZipB (by kernel_rfl) (by kernel_rfl)) (by kernel_rfl)
      (OpenSpec.preRow_of_cond 8 hx (by kernel_rfl) (fun k hk => by cases hk) (by kernel_rfl) (laid_met os _))) ?_
  intro W base args ds gs before hval hW _ hcond _ hL hS _
  exact contract H enc W base args ds gs before hval hW hL hS

theorem said : Rows.EventFramesSaid :=
  OpenClaim.holds_of_cond 4 Tryd.f4 rfl rfl rfl rfl rfl rfl rfl ⟨rfl, rfl, rfl, rfl, rfl⟩ rfl rfl rfl rfl rfl (by kernel_rfl) Tryd.func4 (by kernel_rfl)
    (of_decide_eq_true (by kernel_rfl)) (by unfold Func.isWrapper; first | (rw [if_pos (by decide +kernel)]; kernel_rfl) | (rw [if_neg (by decide +kernel)]; exact ⟨rfl, rfl⟩))
    (fun os started H enc _ F => by rw [OpenClaim.pre_eq_preRow]; exact lifted os started H enc F)

theorem plain (f : FuncId) (fn : Func) (hf : Tryd.pinned.checked.prog.funcNamed Rows.eventFramesRow.func = some f) (hfn : Tryd.pinned.checked.prog.funcs[f]? = some fn) :
    false = Tryd.pinned.checked.prog.looks [] ∧ ∀ (j : Nat) t, fn.params[j]? = some t → Tryd.pinned.checked.prog.wantsStandIn t = false := by
  obtain rfl : f = 4 := Option.some.inj ((show Tryd.prog.funcNamed Rows.eventFramesRow.func = some 4 by kernel_rfl).symm.trans hf) |>.symm
  obtain rfl : fn = Tryd.f4 := (Option.some.inj (Tryd.func4.symm.trans hfn)).symm
  refine ⟨by kernel_rfl, fun j t ht => ?_⟩
  rw [Tryd.params4] at ht
  have hm : t ∈ [23] := by simpa using Array.mem_of_getElem? ht
  have hall : ([23].all fun u => !Tryd.prog.wantsStandIn u) = true := by kernel_rfl
  exact (show Tryd.prog.wantsStandIn t = false by simpa using List.all_eq_true.1 hall t hm)

theorem proved : Rows.EventFramesCardSaid :=
  Claim7.holds_tied_plain_at .later [] _ _ _ _ said (fun _ h => by cases h) (by kernel_rfl) (fun _ h => by cases h) eventFrames_row_tie rfl ⟨rfl, rfl⟩ (by kernel_rfl) rfl plain (by kernel_rfl)
end Go.Proofs.YtollhemkjnkalaaDoor.eventFrames
