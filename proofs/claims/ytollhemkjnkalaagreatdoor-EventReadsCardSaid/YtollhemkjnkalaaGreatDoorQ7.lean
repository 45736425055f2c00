/- EventReads: the events with which any text begins, and how many bytes they have, are what the document says: for every text. No condition but that the library's tables hold what the program's text lays in them. -/
import Derived.Test.YtollhemkjnkalaaGreatDoorK11
namespace Go.Proofs.YtollhemkjnkalaaGreatDoor.eventReads
open Go.ChangeShapes Go.WideShapes Go.ChangeAt Go.RowKit Go.Shelf
open Go.ChangeMaps (open_string shut_string)
set_option linter.unusedVariables false
set_option maxRecDepth 100000

set_option maxHeartbeats 4000000 in
theorem walk (w : World) (hS : w.ShapedOpen Tryz.prog) (hL : laidMetH Tryz.prog Rows.eventPacksRow.laid w) (s : ByteArray) (hs : s.size ≤ maxLen) :
    Calls Tryz.prog 4 #[.string s] w fun r w' => r = .returned (.bool true) ∧ Below w.heap.size w w' := by
  have hm : MaxIs w := ⟨_, (max_is hS).choose_spec⟩
  have hp := pow10_is hL
  have HAL := Lib.hid (fun W (h : Below w.heap.size w W) => alive_any W (hp.below h) (hm.below h))
  unfold maxLen at hs
  by_cases hl : 600 < s.size
  · clear hS hL hp hm
    go_enter Tryz.func4, Tryz.ntmps4
    go_wp2_with fail
    refine (HAL.out _ (Below.refl _ _)).mono ?_
    rintro r w1 ⟨rfl, h1⟩
    go_wp2
    go_ret
    exact ⟨rfl, h1⟩
  have HR := Lib.hid (eread_any s (by omega) w hp hm)
  have HQ := Lib.hid (fun W => refRead_any s (by omega) W)
  have HO := Lib.hid eolds_any
  have HSM := Lib.hid esame_any
  clear hS hL hp hm
  go_enter Tryz.func4, Tryz.ntmps4
  go_wp2_with fail
  refine HR.out.mono ?_
  rintro r w1 ⟨v, l, n, rfl, hr1, ho1, hl1, hl2, h1⟩
  obtain ⟨a1, c1, rfl, hc1, hs1⟩ := own_ev ho1
  have HS1 := Lib.hid hs1
  have HE1 := Lib.hid hr1
  have HB1 := Lib.hid h1
  clear HR hr1 ho1 hs1 h1
  go_wp2_with fail
  refine (HQ.out _).mono ?_
  rintro r w2 ⟨v, l', n', rfl, hr2, ho2, hl3, h2⟩
  obtain ⟨rfl, rfl⟩ := HE1.out.only hr2
  obtain ⟨a2, c2, rfl, hc2, hs2⟩ := own_ev ho2
  have HS2 := Lib.hid hs2
  have HS3 := Lib.hid (HS1.out.below h2)
  have HB2 := Lib.hid (HB1.out.trans (h2.mono HB1.out.size))
  clear HQ hr2 ho2 hs2 h2 HS1 HB1 HE1
  go_wp2_with fail
  refine (HAL.out _ HB2.out).mono ?_
  rintro r w3 ⟨rfl, h3⟩
  have HS4 := Lib.hid (HS2.out.below h3)
  have HS5 := Lib.hid (HS3.out.below h3)
  have HB3 := Lib.hid (HB2.out.trans (h3.mono HB2.out.size))
  clear h3 HS2 HS3 HB2
  have HO1 := Lib.hid (HO.out a1 c1 l w3 HS5.out (by omega))
  go_wp2_with fail
  refine HO1.out.mono ?_
  rintro r w4 ⟨v, rfl, ho4, h4⟩
  obtain ⟨a4, c4, rfl, hc4, hs4⟩ := own_ev ho4
  have HS6 := Lib.hid hs4
  have HS7 := Lib.hid (HS4.out.below h4)
  have HB4 := Lib.hid (HB3.out.trans (h4.mono HB3.out.size))
  have HS8 := Lib.hid (HSM.out a4 a2 c4 c2 l l w4 HS6.out HS7.out (by unfold maxLen; omega) (by unfold maxLen; omega))
  clear ho4 hs4 h4 HO1 HO HSM HS4 HS5 HB3
  have hdec : decide (l = l) = true := decide_eq_true rfl
  rw [hdec] at HS8
  go_wp2_with fail
  refine HS8.out.mono ?_
  rintro r w5 ⟨rfl, h5⟩
  go_wp2
  go_ret
  exact ⟨rfl, HB4.out.trans (h5.mono HB4.out.size)⟩

theorem contract (H : Type) (enc : TypeId × Value → H) (W : World) (base : Nat) (args : Array Value) (ds gs : List (DataW H)) (before : List MemPlace)
    (hval : ∀ (j : Nat) t v, Tryz.f4.params[j]? = some t → args[j]? = some v → Value.okWide Tryz.prog W .any base t v)
    (hW : DataW.Whole enc Tryz.prog Tryz.f4.params.toList Rows.eventReadsSpec.vars false W args.toList ds gs before) (hL : laidMetH Tryz.prog Rows.eventPacksRow.laid W) (hS : W.ShapedOpen Tryz.prog) :
    Calls Tryz.prog 4 args W fun e W' => ∃ v, e = .returned v ∧ Rows.eventReadsSpec.post enc Tryz.prog Tryz.f4 false true false false W args v W' := by
  have hW' := hW
  have hlt := hW.lt
  obtain ⟨p, q, hA0, hV, rfl, hfz, hnd⟩ := hW
  have hA : DataW.TrodAll enc Tryz.prog W 0 (fun _ => true) true Tryz.f4.params.toList args.toList ds p := hA0
  rw [Tryz.params4] at hA hval
  obtain ⟨v0, vs0, d0, ds0, p0, q0, hargs, rfl, rfl, h0, r0⟩ := trodAll_cons hA
  obtain ⟨rfl, rfl, rfl⟩ := trodAll_nil r0
  obtain rfl : args = #[v0] := by cases args; simp_all
  obtain ⟨a0, rfl, e0, -, w0⟩ := open_string Tryz.underlying9 (hval 0 9 v0 rfl rfl) h0
  refine (walk W hS hL a0 w0).mono fun e W' ⟨he, hb⟩ => ?_
  subst he
  exact ⟨_, rfl, law_post rfl hW' (fun ds h => by match ds, h with | [_], _ => rfl) (by kernel_rfl) (by kernel_rfl) (by kernel_rfl) hb⟩

set_option maxRecDepth 100000 in
theorem lifted (os : Os) (started : os.Started) (H : Type) (enc : TypeId × Value → H) (F : Stop.Interp) :
    ReturnsInHanded {} Tryz.checked os 4 .any ((OpenSpec.ofChange Rows.eventReadsSpec).preRow enc Tryz.prog Tryz.f4 Rows.eventReadsRow.domain false Rows.eventPacksRow.laid) (((OpenSpec.ofChange Rows.eventReadsSpec).at F).post enc Tryz.prog Tryz.f4 false true false false) := by
  have hx : ∃ places, DataW.whole enc Tryz.prog ((World.laidAll Tryz.prog os Rows.eventPacksRow.laid).forCall (fun _ _ => 0) ⟨#[], #[.string ByteArray.empty], []⟩).memory Tryz.f4.params.toList Rows.eventReadsSpec.vars false (#[.string ByteArray.empty] : Array Value).toList 8 = some ([.lit (.string [])], [], places) := ⟨[], by kernel_rfl⟩
  obtain ⟨places, hx⟩ := hx
  refine returnsInHanded_of_row (C := Tryz.checked) (s := (OpenSpec.ofChange Rows.eventReadsSpec)) own started (by kernel_rfl) Tryz.func4
    (witness_lay (enc := enc) (C := Tryz.checked) false #[.string ByteArray.empty] (World.shaped_of_ZipB (by kernel_rfl) (by kernel_rfl)) (by kernel_rfl)
      (OpenSpec.preRow_of_cond 8 hx (by kernel_rfl) (fun k hk => by cases hk) (by kernel_rfl) (laid_met os _))) ?_
  intro W base args ds gs before hval hW _ hcond _ hL hS _
  exact contract H enc W base args ds gs before hval hW hL hS

theorem said : Rows.EventReadsSaid :=
  OpenClaim.holds_of_cond 4 Tryz.f4 rfl rfl rfl rfl rfl rfl rfl ⟨rfl, rfl, rfl, rfl, rfl⟩ rfl rfl rfl rfl rfl (by kernel_rfl) Tryz.func4 (by kernel_rfl)
    (of_decide_eq_true (by kernel_rfl)) (by unfold Func.isWrapper; first | (rw [if_pos (by decide +kernel)]; kernel_rfl) | (rw [if_neg (by decide +kernel)]; exact ⟨rfl, rfl⟩))
    (fun os started H enc _ F => by rw [OpenClaim.pre_eq_preRow]; exact lifted os started H enc F)

theorem plain (f : FuncId) (fn : Func) (hf : Tryz.pinned.checked.prog.funcNamed Rows.eventReadsRow.func = some f) (hfn : Tryz.pinned.checked.prog.funcs[f]? = some fn) :
    false = Tryz.pinned.checked.prog.looks [] ∧ ∀ (j : Nat) t, fn.params[j]? = some t → Tryz.pinned.checked.prog.wantsStandIn t = false := by
  obtain rfl : f = 4 := Option.some.inj ((show Tryz.prog.funcNamed Rows.eventReadsRow.func = some 4 by kernel_rfl).symm.trans hf) |>.symm
  obtain rfl : fn = Tryz.f4 := (Option.some.inj (Tryz.func4.symm.trans hfn)).symm
  refine ⟨by kernel_rfl, fun j t ht => ?_⟩
  rw [Tryz.params4] at ht
  have hm : t ∈ [9] := by simpa using Array.mem_of_getElem? ht
  have hall : ([9].all fun u => !Tryz.prog.wantsStandIn u) = true := by kernel_rfl
  exact (show Tryz.prog.wantsStandIn t = false by simpa using List.all_eq_true.1 hall t hm)

theorem proved : Rows.EventReadsCardSaid :=
  Claim7.holds_tied_plain_at .later [] _ _ _ _ said (fun _ h => by cases h) (by kernel_rfl) (fun _ h => by cases h) eventReads_row_tie rfl ⟨rfl, rfl⟩ (by kernel_rfl) rfl plain (by kernel_rfl)
end Go.Proofs.YtollhemkjnkalaaGreatDoor.eventReads
