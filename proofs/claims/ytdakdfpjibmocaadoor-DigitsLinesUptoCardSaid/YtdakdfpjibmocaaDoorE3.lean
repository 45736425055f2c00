/- DigitsLines: the line of any words, or that there is none, is what the document says, and its words are these: for every row of texts of at most 1048576 values and letters together (beyond that, words that are together too long for any machine end the call). The library's tables hold what the library's text lays (the card's tie). -/
import Derived.Test.YtdakdfpjibmocaaDoorE0
namespace Go.Proofs.YtdakdfpjibmocaaDoor.digitsLines
open Go.ChangeShapes Go.WideShapes Go.ChangeAt Go.RowKit Go.Shelf
open Go.ChangeMaps (open_string shut_string)
set_option linter.unusedVariables false

theorem bulk_strs {H : Type} (l : List ByteArray) : Rows.uptoBulkAll (l.map fun s => (DataW.lit (.string s.data.toList) : DataW H)) = lsum l := by
  induction l with
  | nil => simp [Rows.uptoBulkAll, lsum]
  | cons x r ih =>
    have hl : x.data.toList.length = x.size := by simp
    simp only [List.map_cons, Rows.uptoBulkAll, Rows.uptoBulk, lsum, ih, hl]
theorem sum_le {H : Type} {l : List ByteArray} {d : DataW H} (hk : Rows.uptoSmall H ([d] ++ []) = true) (he : d = .nil ∧ l = [] ∨ ∃ spare, d = .slice (l.map fun s => .lit (.string s.data.toList)) spare) : lsum l ≤ 1048576 := by
  have h : Rows.uptoBulkAll ([d] ++ []) ≤ 1048576 := of_decide_eq_true hk
  rcases he with ⟨_, rfl⟩ | ⟨spare, rfl⟩
  · simp [lsum]
  · simp only [List.append_nil, Rows.uptoBulkAll, Rows.uptoBulk, bulk_strs] at h
    omega
theorem line_words (l : List ByteArray) (h : lineOf (l.map toL) ≠ []) : splitOf (lineOf (l.map toL)) = l.map toL := by
  cases hw : l.all wordB with
  | false => exact absurd (lineOf_not l hw) h
  | true =>
    have he := lineOf_all l hw
    have hne : l.map toL ≠ [] := fun e => h (by rw [he, e]; rfl)
    have hall : (l.map toL).all isWord = true := by rw [all_words]; exact hw
    have hc := cut_join (l.map toL) hne hall
    unfold splitOf
    rw [he, hc, hall]; rfl

set_option maxHeartbeats 2000000 in
theorem walk {H : Type} (w : World) (hS : w.ShapedOpen Tryd.prog) (hL : laidMetH Tryd.prog Rows.digitsHexRow.laid w) (a : Option Addr) (c : Nat) (l : List ByteArray) (hr : Sl w a (strs l)) (hf : Fits l) (hlc : l.length ≤ c) (hc : c ≤ maxLen) (hnil : a = none → c = 0)
    {d : DataW H} (hk : Rows.uptoSmall H ([d] ++ []) = true) (he : d = .nil ∧ l = [] ∨ ∃ spare, d = .slice (l.map fun s => .lit (.string s.data.toList)) spare) :
    Calls Tryd.prog 5 #[.slice a l.length c] w fun e w' => e = .returned (.bool true) ∧ Below w.heap.size w w' := by
  have hsum := sum_le hk he
  have hlen := lsum_length l
  have HM := Lib.hid (max_is hS)
  have HAL := Lib.hid alive_any
  have HR := Lib.hid hr
  have HF := Lib.hid hf
  clear hS hL hk he hr hf hc hnil
  by_cases hlong : 100 < l.length
  · go_enter Tryd.func5, Tryd.ntmps5
    go_wp2_with fail
    refine (HAL.out _ HM.out).mono ?_
    rintro e w2 ⟨rfl, hB⟩
    go_wp2
    go_ret
    exact ⟨rfl, hB⟩
  · have H1 := Lib.hid (fun (W : World) (h : Sl W a (strs l)) => line_any a c l W h HF.out hlc (by omega) (by omega))
    have H2 := Lib.hid (fun (W : World) (h : Sl W a (strs l)) => refLine_any a c l W h HF.out (by omega))
    have hx : ((tx (lineOf (l.map toL))).toList == (tx (lineOf (l.map toL))).toList) = true := beq_self_eq_true _
    by_cases hz : lineOf (l.map toL) = []
    · have hem := empty_eq hz
      clear hz
      generalize tx (lineOf (l.map toL)) = x at *
      go_enter Tryd.func5, Tryd.ntmps5
      go_wp2_with fail
      refine (H1.out _ HR.out).mono ?_
      rintro e w2 ⟨rfl, hB2⟩
      have HM2 := Lib.hid (HM.out.below hB2 (Nat.le_refl _))
      have HR2 := Lib.hid (HR.out.below hB2)
      have HB2 := Lib.hid hB2
      clear hB2
      go_wp2_with fail
      refine (HAL.out _ HM2.out).mono ?_
      rintro e w3 ⟨rfl, hB3⟩
      have HR3 := Lib.hid (HR2.out.below hB3)
      have HB3 : Hid (Below w.heap.size w w3) := HB2.out.trans (hB3.mono HB2.out.size)
      clear hB3
      go_wp2_with fail
      refine (H2.out _ HR3.out).mono ?_
      rintro e w4 ⟨rfl, rfl⟩
      go_wp2
      go_ret
      exact ⟨by simp, HB3.out⟩
    · have hem := empty_ne hz
      have HSZ : Hid ((tx (lineOf (l.map toL))).size ≤ 4294967200) := by
        unfold Hid
        rw [tx_size]
        have := join_len l
        cases hw : l.all wordB with
        | false => rw [lineOf_not l hw]; simp
        | true => rw [lineOf_all l hw]; omega
      have HSP : Hid (∀ W, MaxIs W → Calls Tryd.prog 21 #[.string (tx (lineOf (l.map toL)))] W fun e w' => ∃ v, e = .returned v ∧ w'.ownsRow W.heap.size 9 1 v l.length (strs l) ∧ Below W.heap.size W w') := fun W ⟨m, hm⟩ => by
        refine Calls.mono (split_any (tx (lineOf (l.map toL))) m W HSZ.out hm) ?_
        rintro e w' ⟨v, rfl, ho, hb⟩
        refine ⟨v, rfl, ?_, hb⟩
        rw [toL_tx, line_words l hz, map_toL_tx, List.length_map] at ho
        exact ho
      clear hz HSZ
      generalize tx (lineOf (l.map toL)) = x at *
      go_enter Tryd.func5, Tryd.ntmps5
      go_wp2_with fail
      refine (H1.out _ HR.out).mono ?_
      rintro e w2 ⟨rfl, hB2⟩
      have HM2 := Lib.hid (HM.out.below hB2 (Nat.le_refl _))
      have HR2 := Lib.hid (HR.out.below hB2)
      have HB2 := Lib.hid hB2
      clear hB2
      go_wp2_with fail
      refine (HAL.out _ HM2.out).mono ?_
      rintro e w3 ⟨rfl, hB3⟩
      have HM3 := Lib.hid (HM2.out.below hB3 (Nat.le_refl _))
      have HR3 := Lib.hid (HR2.out.below hB3)
      have HB3 : Hid (Below w.heap.size w w3) := HB2.out.trans (hB3.mono HB2.out.size)
      clear hB3
      go_wp2_with fail
      refine (H2.out _ HR3.out).mono ?_
      rintro e w4 ⟨rfl, rfl⟩
      go_wp2_with fail
      refine (HSP.out _ HM3.out).mono ?_
      rintro e w5 ⟨v5, rfl, ho5, hB5⟩
      obtain ⟨a5, c5, rfl, _, _, hs5, _, _⟩ := own_slice ho5
      have HR5 := Lib.hid (HR3.out.below hB5)
      have HB5 : Hid (Below w.heap.size w w5) := HB3.out.trans (hB5.mono HB3.out.size)
      have HSAME : Hid (Calls Tryd.prog 20 #[.slice a5 l.length c5, .slice a l.length c] w5 fun e w' => e = .returned (.bool true) ∧ Drew w5 w') := by
        have := same_any a5 a c5 c l l w5 hs5 HR5.out (by omega) (by omega)
        rw [decide_eq_true rfl] at this
        exact this
      clear ho5 hs5 hB5
      go_wp2_with fail
      refine HSAME.out.mono ?_
      rintro e w6 ⟨rfl, hD6⟩
      go_wp2
      go_ret
      exact ⟨by simp, HB5.out.trans (hD6.below _)⟩

theorem contract (H : Type) (enc : TypeId × Value → H) (W : World) (base : Nat) (args : Array Value) (ds gs : List (DataW H)) (before : List MemPlace)
    (hval : ∀ (j : Nat) t v, Tryd.f5.params[j]? = some t → args[j]? = some v → Value.okWide Tryd.prog W .any base t v)
    (hW : DataW.Whole enc Tryd.prog Tryd.f5.params.toList Rows.digitsLinesSpec.vars false W args.toList ds gs before) (hL : laidMetH Tryd.prog Rows.digitsHexRow.laid W) (hS : W.ShapedOpen Tryd.prog) (hk : Rows.uptoSmall H (ds ++ gs) = true) :
    Calls Tryd.prog 5 args W fun e W' => ∃ v, e = .returned v ∧ Rows.digitsLinesSpec.post enc Tryd.prog Tryd.f5 false true false false W args v W' := by
  have hW' := hW
  have hlt := hW.lt
  obtain ⟨p, q, hA0, hV, rfl, hfz, hnd⟩ := hW
  have hA : DataW.TrodAll enc Tryd.prog W 0 (fun _ => true) true Tryd.f5.params.toList args.toList ds p := hA0
  rw [Tryd.params5] at hA hval
  obtain ⟨v0, vs0, d0, ds0, p0, q0, hargs, rfl, rfl, h0, r0⟩ := trodAll_cons hA
  obtain ⟨rfl, rfl, rfl⟩ := trodAll_nil r0
  obtain rfl : args = #[v0] := by cases args; simp_all
  obtain ⟨rfl, rfl⟩ := trodVars_none hV
  obtain ⟨a0, c0, l0, rfl, s0, f0, m0, n0, o0, e0⟩ := open_row (hval 0 29 v0 rfl rfl) h0 (fun x hx => hlt x (by simp [hx]))
  refine (walk (H := H) W hS hL a0 c0 l0 s0 f0 m0 n0 o0 hk e0).mono fun e W' ⟨he, hb⟩ => ?_
  subst he
  exact ⟨_, rfl, law_post rfl hW' (fun ds h => by match ds, h with | [_], _ => rfl) (by kernel_rfl) (by kernel_rfl) (by kernel_rfl) hb⟩

set_option maxRecDepth 100000 in
theorem lifted (os : Os) (started : os.Started) (H : Type) (enc : TypeId × Value → H) (F : Stop.Interp) :
    ReturnsInHanded {} Tryd.checked os 5 .any ((Rows.OpenSpec.upto Rows.digitsLinesSpec).preRow enc Tryd.prog Tryd.f5 Rows.digitsLinesUptoRow.domain false Rows.digitsHexRow.laid) (((Rows.OpenSpec.upto Rows.digitsLinesSpec).at F).post enc Tryd.prog Tryd.f5 false true false false) := by
  have hx : ∃ places, DataW.whole enc Tryd.prog ((World.laidAll Tryd.prog os Rows.digitsHexRow.laid).forCall (fun _ _ => 0) ⟨#[], #[.slice none 0 0], []⟩).memory Tryd.f5.params.toList Rows.digitsLinesSpec.vars false (#[.slice none 0 0] : Array Value).toList 8 = some ([.nil], [], places) := ⟨[], by kernel_rfl⟩
  obtain ⟨places, hx⟩ := hx
  refine returnsInHanded_of_row (C := Tryd.checked) (s := (Rows.OpenSpec.upto Rows.digitsLinesSpec)) own started (by kernel_rfl) Tryd.func5
    (witness_lay (enc := enc) (C := Tryd.checked) false #[.slice none 0 0] (World.shaped_of_ZipB (by kernel_rfl) (by kernel_rfl)) (by kernel_rfl)
      (OpenSpec.preRow_of_cond 8 hx (by kernel_rfl) (fun k hk => by cases hk; kernel_rfl) (by kernel_rfl) (laid_met os _))) ?_
  intro W base args ds gs before hval hW _ hcond _ hL hS _
  exact contract H enc W base args ds gs before hval hW hL hS (hcond _ rfl)

theorem said : Rows.DigitsLinesUptoSaid :=
  OpenClaim.holds_of_cond 5 Tryd.f5 rfl rfl rfl rfl rfl rfl rfl ⟨rfl, rfl, rfl, rfl, rfl⟩ rfl rfl rfl rfl rfl (by kernel_rfl) Tryd.func5 (by kernel_rfl)
    (of_decide_eq_true (by kernel_rfl)) (by unfold Func.isWrapper; first | (rw [if_pos (by decide +kernel)]; kernel_rfl) | (rw [if_neg (by decide +kernel)]; exact ⟨rfl, rfl⟩))
    (fun os started H enc _ F => by rw [OpenClaim.pre_eq_preRow]; exact lifted os started H enc F)

theorem plain (f : FuncId) (fn : Func) (hf : Tryd.pinned.checked.prog.funcNamed Rows.digitsLinesUptoRow.func = some f) (hfn : Tryd.pinned.checked.prog.funcs[f]? = some fn) :
    false = Tryd.pinned.checked.prog.looks [] ∧ ∀ (j : Nat) t, fn.params[j]? = some t → Tryd.pinned.checked.prog.wantsStandIn t = false := by
  obtain rfl : f = 5 := Option.some.inj ((show Tryd.prog.funcNamed Rows.digitsLinesUptoRow.func = some 5 by kernel_rfl).symm.trans hf) |>.symm
  obtain rfl : fn = Tryd.f5 := (Option.some.inj (Tryd.func5.symm.trans hfn)).symm
  refine ⟨by kernel_rfl, fun j t ht => ?_⟩
  rw [Tryd.params5] at ht
  have hm : t ∈ [29] := by simpa using Array.mem_of_getElem? ht
  have hall : ([29].all fun u => !Tryd.prog.wantsStandIn u) = true := by kernel_rfl
  exact (show Tryd.prog.wantsStandIn t = false by simpa using List.all_eq_true.1 hall t hm)

theorem proved : Rows.DigitsLinesUptoCardSaid :=
  Claim7.holds_tied_plain_at .later [] _ _ _ _ said (fun _ h => by cases h) (by kernel_rfl) (fun _ h => by cases h) digitsLinesUpto_row_tie rfl ⟨rfl, rfl⟩ (by kernel_rfl) rfl plain (by kernel_rfl)
end Go.Proofs.YtdakdfpjibmocaaDoor.digitsLines
