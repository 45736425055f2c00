/- EventPacks: the text of any events, or that there is none, is what the document says; it is read as it was, whatever is behind it that is no frame: for every row of events and text. No condition but that the library's tables hold what the program's text lays in them. -/
import Derived.Test.YtollhemkjnkalaaGreatDoorK11
namespace Go.Proofs.YtollhemkjnkalaaGreatDoor.eventPacks
open Go.ChangeShapes Go.WideShapes Go.ChangeAt Go.RowKit Go.Shelf
open Go.ChangeMaps (open_string shut_string)
set_option linter.unusedVariables false
set_option maxRecDepth 100000

theorem toL_append (a b : ByteArray) : toL (a ++ b) = toL a ++ toL b := by simp [toL]
theorem empty_eq {l : List UInt8} (h : l = []) : (tx l).toList.isEmpty = true := by rw [toList_tx, h]; rfl
set_option maxHeartbeats 400000 in
theorem read_size (l : List EvM) (behind : ByteArray) (hlen : (flatE l).length ≤ 114 * l.length) (hl : l.length ≤ 30) (hb : behind.size ≤ 100) : (tx (flatE l) ++ ⟨#[0]⟩ ++ behind).size ≤ 1000000 := by
  rw [ByteArray.size_append, ByteArray.size_append, tx_size]; have : (⟨#[0]⟩ : ByteArray).size = 1 := rfl; omega
theorem read_text (l : List EvM) (behind : ByteArray) : toL (tx (flatE l) ++ ⟨#[0]⟩ ++ behind) = flatE l ++ 0 :: toL behind := by
    rw [toL_append, toL_append, toL_tx, List.append_assoc, show toL (⟨#[0]⟩ : ByteArray) = [0] from rfl, List.singleton_append]
theorem read_mark (behind : ByteArray) : EvReads (0 :: toL behind) [] 0 := .err (mark_next 0 (toL behind) (by decide))
theorem read_zero (l : List EvM) (behind : ByteArray) (ha : l.all rightE = true) (hl : l.length ≤ 30) (hb : behind.size ≤ 100) (W : World) (hp : Pow10 W) (hm : MaxIs W) :
    Calls Tryz.prog 11 #[.string (tx (flatE l) ++ ⟨#[0]⟩ ++ behind)] W fun r w' => ∃ a c, r = .returned (.tuple #[.slice a l.length c, .int .i64 ((tx (flatE l)).size : Int)]) ∧ EvSl w' a l ∧ Below W.heap.size W w' := by
  have hf := reads_flat (read_mark behind) l ha
  rw [← read_text] at hf
  have hz := read_size l behind (flatE_len l ha) hl hb
  rw [tx_size]
  generalize tx (flatE l) ++ ⟨#[0]⟩ ++ behind = T at *
  refine (eread_any T hz W hp hm).mono ?_
  rintro r w' ⟨v, l', n', rfl, hr, ho, _, _, h⟩
  obtain ⟨rfl, rfl⟩ := hr.only hf
  obtain ⟨a, c, rfl, _, hs2⟩ := own_ev ho
  exact ⟨a, c, rfl, hs2, h⟩

set_option maxHeartbeats 4000000 in
theorem walk (w : World) (hS : w.ShapedOpen Tryz.prog) (hL : laidMetH Tryz.prog Rows.eventPacksRow.laid w) (a : Option Addr) (c : Nat) (l : List EvM) (hr : EvSl w a l) (hf : FitsE l) (hc : l.length ≤ c) (hm' : c ≤ maxLen) (hn' : a = none → c = 0) (b : ByteArray) (hb : b.size ≤ maxLen) :
    Calls Tryz.prog 3 #[.slice a l.length c, .string b] w fun r w' => r = .returned (.bool true) ∧ Below w.heap.size w w' := by
  have hm : MaxIs w := ⟨_, (max_is hS).choose_spec⟩
  have hp := pow10_is hL
  have HAL := Lib.hid (fun W (h : Below w.heap.size w W) => alive_any W (hp.below h) (hm.below h))
  have HR := Lib.hid hr
  have HF := Lib.hid hf
  have HP := Lib.hid hp
  have HM := Lib.hid hm
  clear hS hL hr hf hp hm hn'
  unfold maxLen at hm' hb
  obtain ⟨n, hn⟩ : ∃ n, n = l.length := ⟨_, rfl⟩
  rw [← hn] at hc ⊢
  have HLN := Lib.hid hn
  clear hn
  by_cases h30 : 30 < n
  · go_enter Tryz.func3, Tryz.ntmps3
    go_wp2_with fail
    refine (HAL.out _ (Below.refl _ _)).mono ?_
    rintro r w1 ⟨rfl, h1⟩
    go_wp2
    go_ret
    exact ⟨rfl, h1⟩
  by_cases hbl : 100 < b.size
  · go_enter Tryz.func3, Tryz.ntmps3
    go_wp2_with fail
    refine (HAL.out _ (Below.refl _ _)).mono ?_
    rintro r w1 ⟨rfl, h1⟩
    go_wp2
    go_ret
    exact ⟨rfl, h1⟩
  have HNW : Hid (Calls Tryz.prog 8 #[.slice a n c] w fun e w' => ∃ a c, e = .returned (.slice a n c) ∧ EvSl w' a l ∧ Below w.heap.size w w') := by
    have := news_any a c l w HR.out (by have := HLN.out; omega)
    rw [← HLN.out] at this
    refine this.mono ?_
    rintro e w' ⟨v, rfl, ho, hb⟩
    have ho' : w'.ownsRow w.heap.size 40 6 v l.length (evs l) := by rw [← HLN.out]; exact ho
    obtain ⟨a', c', rfl, _, h⟩ := own_ev ho'
    exact ⟨a', c', by rw [HLN.out], h, hb⟩
  have HPK : Hid (∀ W a' c', EvSl W a' l → Below w.heap.size w W → Calls Tryz.prog 7 #[.slice a' n c'] W fun e w' => e = .returned (.string (tx (packAll l))) ∧ Below W.heap.size W w') := fun W a' c' hs hb => by
    have := epack_any a' c' l W hs HF.out (by have := HLN.out; omega) (HP.out.below hb)
    rw [← HLN.out] at this
    exact this
  have HPR : Hid (∀ W, Below w.heap.size w W → Calls Tryz.prog 9 #[.slice a n c] W fun e w' => e = .returned (.string (tx (packAll l))) ∧ Below W.heap.size W w') := fun W hb => by
    have := refPackAll_any a c l W (HR.out.below hb) HF.out (by have := HLN.out; omega)
    rw [← HLN.out] at this
    exact this
  have HRD : Hid (l.all rightE = true → ∀ W, Below w.heap.size w W → Calls Tryz.prog 11 #[.string (tx (packAll l) ++ ⟨#[0]⟩ ++ b)] W fun r w' => ∃ a c, r = .returned (.tuple #[.slice a n c, .int .i64 ((tx (packAll l)).size : Int)]) ∧ EvSl w' a l ∧ Below W.heap.size W w') := fun ha W hW => by
    have := read_zero l b ha (by have := HLN.out; omega) (by omega) W (HP.out.below hW) (HM.out.below hW)
    rw [packAll_good ha, HLN.out]
    exact this
  have HOL : Hid (∀ W a' c', EvSl W a' l → Calls Tryz.prog 13 #[.slice a' n c'] W fun e w' => ∃ a c, e = .returned (.slice a n c) ∧ EvSl w' a l ∧ Below W.heap.size W w') := fun W a' c' hs => by
    have := eolds_any a' c' l W hs (by have := HLN.out; omega)
    rw [← HLN.out] at this
    refine this.mono ?_
    rintro e w' ⟨v, rfl, ho, hb⟩
    have ho' : w'.ownsRow W.heap.size 29 6 v l.length (evs l) := by rw [← HLN.out]; exact ho
    obtain ⟨a', c', rfl, _, h⟩ := own_ev ho'
    exact ⟨a', c', by rw [HLN.out], h, hb⟩
  have HSM : Hid (∀ W a' c', EvSl W a' l → Below w.heap.size w W → Calls Tryz.prog 12 #[.slice a' n c', .slice a n c] W fun e w' => e = .returned (.bool true) ∧ Below W.heap.size W w') := fun W a' c' hs hb => by
    have := esame_any a' a c' c l l W hs (HR.out.below hb) (by have := HLN.out; unfold maxLen; omega) (by have := HLN.out; unfold maxLen; omega)
    rw [← HLN.out, decide_eq_true rfl] at this
    exact this
  have HEM : Hid (packAll l = [] → (tx (packAll l)).toList.isEmpty = true) := fun h => empty_eq h
  have hsz : (tx (packAll l)).size ≤ 3420 := by rw [tx_size]; have := packAll_len l; have := HLN.out; omega
  have hz : (⟨#[0]⟩ : ByteArray).size = 1 := rfl
  have HPB : Hid (∀ (k : Nat) (h : k < l.length), rightE l[k] = false → packAll l = []) := fun k h hr => packAll_bad h hr
  have hself : ((tx (packAll l)).toList == (tx (packAll l)).toList) = true := beq_self_eq_true _
  have hself2 : ((tx (packAll l)).toList != (tx (packAll l)).toList) = false := by simp
  generalize hps : tx (packAll l) = s at *
  have hszz : ((s.size : Int) == (s.size : Int)) = true := beq_self_eq_true _
  clear hps
  go_enter Tryz.func3, Tryz.ntmps3
  go_wp2_with fail
  refine HNW.out.mono ?_
  rintro r w1 ⟨a1, c1, rfl, hs1, h1⟩
  have HS1 := Lib.hid hs1
  have HB1 := Lib.hid h1
  clear hs1 h1
  go_wp2_with fail
  refine (HPK.out _ _ _ HS1.out HB1.out).mono ?_
  rintro r w2 ⟨rfl, h2⟩
  have HB2 : Hid (Below w.heap.size w w2) := HB1.out.trans (h2.mono HB1.out.size)
  clear h2 HS1 HB1 HNW HPK
  go_wp2_with fail
  refine (HPR.out _ HB2.out).mono ?_
  rintro r w3 ⟨rfl, h3⟩
  have HB3 : Hid (Below w.heap.size w w3) := HB2.out.trans (h3.mono HB2.out.size)
  clear h3 HB2 HPR
  go_wp2
  go_loopw [28] (fun i wr => ∃ (j : Nat), j ≤ n ∧ i = .int .i64 j ∧ Hid ((l.take j).all rightE = true) ∧ Hid (Below w.heap.size w wr)) (fun i _ => n - (intOf i).toNat)
  case atStart => exact ⟨0, by omega, rfl, rfl, HB3.out⟩
  case round =>
    obtain ⟨j, hj, rfl, HA, HB⟩ := hrel
    clear HB3
    by_cases hjn : j < n
    · have hjl : j < l.length := by have := HLN.out; omega
      obtain ⟨bb, off, rfl, hbb, c0, c1, c2, c3, c4, c5⟩ := (HR.out.below HB.out).at_ hjl
      have HQ := Lib.hid (fun W => refRight_any l[j] (HF.out.at_ hjl).1 W)
      have HTR := Lib.hid (fun hr => take_right hjl HA.out hr)
      have HPJ := Lib.hid (fun hr => HEM.out (HPB.out j hjl hr))
      generalize l[j] = x at *
      have HAL1 := Lib.hid ((Below.refl wr.heap.size wr).alloc (Nat.le_refl _) (.cells #[.int .i64 x.kind, .int .i64 x.at_, .string x.user, .string x.other, .int .i64 x.n, .int .i64 x.status] 29))
      have HB4 := Lib.hid (HB.out.trans (HAL1.out.mono HB.out.size))
      unfold evV at HQ
      clear HAL1 HB HA hjl HPB
      cases hr : rightE x with
      | false =>
        have he := HPJ.out hr
        rw [hr] at HQ
        clear hr HPJ HTR
        go_wp2_with fail
        refine (HQ.out _).mono ?_
        rintro r w5 ⟨rfl, h5⟩
        have HB5 := Lib.hid (HB4.out.trans (h5.mono HB4.out.size))
        clear h5 HQ c0 c1 c2 c3 c4 c5
        go_wp2_with fail
        refine (HAL.out _ HB5.out).mono ?_
        rintro r w6 ⟨rfl, h6⟩
        go_wp2
        go_ret
        exact ⟨rfl, HB5.out.trans (h6.mono HB5.out.size)⟩
      | true =>
        have HT2 := Lib.hid (HTR.out hr)
        rw [hr] at HQ
        clear hr HPJ HTR
        go_wp2_with fail
        refine (HQ.out _).mono ?_
        rintro r w5 ⟨rfl, h5⟩
        have HB5 := Lib.hid (HB4.out.trans (h5.mono HB4.out.size))
        clear h5 HQ c0 c1 c2 c3 c4 c5
        go_wp2
        go_roundw
        case rel => exact ⟨j + 1, by omega, by go_num, HT2, HB5⟩
        case measure => simp [intOf]; omega
    · obtain rfl : n = j := by omega
      rw [List.take_of_length_le (by rw [← HLN.out]; exact Nat.le_refl _)] at HA
      have HRD1 := Lib.hid (HRD.out HA.out)
      clear HRD HA HPB HEM
      go_wp2_with fail
      refine (HRD1.out _ HB.out).mono ?_
      rintro r w4 ⟨a4, c4, rfl, hs4, h4⟩
      have HS4 := Lib.hid hs4
      have HB4 := Lib.hid (HB.out.trans (h4.mono HB.out.size))
      clear hs4 h4 HRD1
      go_wp2_with fail
      refine (HAL.out _ HB4.out).mono ?_
      rintro r w5 ⟨rfl, h5⟩
      have HS5 := Lib.hid (HS4.out.below h5)
      have HB5 := Lib.hid (HB4.out.trans (h5.mono HB4.out.size))
      clear h5 HS4
      go_wp2_with fail
      refine (HOL.out _ _ _ HS5.out).mono ?_
      rintro r w6 ⟨a6, c6, rfl, hs6, h6⟩
      have HS6 := Lib.hid hs6
      have HB6 := Lib.hid (HB5.out.trans (h6.mono HB5.out.size))
      clear hs6 h6 HS5
      go_wp2_with fail
      refine (HSM.out _ _ _ HS6.out HB6.out).mono ?_
      rintro r w7 ⟨rfl, h7⟩
      go_wp2
      go_ret
      exact ⟨rfl, HB6.out.trans (h7.mono HB6.out.size)⟩

theorem contract (H : Type) (enc : TypeId × Value → H) (W : World) (base : Nat) (args : Array Value) (ds gs : List (DataW H)) (before : List MemPlace)
    (hval : ∀ (j : Nat) t v, Tryz.f3.params[j]? = some t → args[j]? = some v → Value.okWide Tryz.prog W .any base t v)
    (hW : DataW.Whole enc Tryz.prog Tryz.f3.params.toList Rows.eventPacksSpec.vars false W args.toList ds gs before) (hL : laidMetH Tryz.prog Rows.eventPacksRow.laid W) (hS : W.ShapedOpen Tryz.prog) :
    Calls Tryz.prog 3 args W fun e W' => ∃ v, e = .returned v ∧ Rows.eventPacksSpec.post enc Tryz.prog Tryz.f3 false true false false W args v W' := by
  have hW' := hW
  have hlt := hW.lt
  obtain ⟨p, q, hA0, hV, rfl, hfz, hnd⟩ := hW
  have hA : DataW.TrodAll enc Tryz.prog W 0 (fun _ => true) true Tryz.f3.params.toList args.toList ds p := hA0
  rw [Tryz.params3] at hA hval
  obtain ⟨v0, vs0, d0, ds0, p0, q0, hargs, rfl, rfl, h0, r0⟩ := trodAll_cons hA
  obtain ⟨v1, vs1, d1, ds1, p1, q1, rfl, rfl, rfl, h1, r1⟩ := trodAll_cons r0
  obtain ⟨rfl, rfl, rfl⟩ := trodAll_nil r1
  obtain rfl : args = #[v0, v1] := by cases args; simp_all
  obtain ⟨a0, c0, l0, rfl, s0, f0, m0, n0, o0⟩ := open_events (hval 0 22 v0 rfl rfl) h0
  obtain ⟨a1, rfl, e1, -, w1⟩ := open_string Tryz.underlying9 (hval 1 9 v1 rfl rfl) h1
  refine (walk W hS hL a0 c0 l0 s0 f0 m0 n0 o0 a1 w1).mono fun e W' ⟨he, hb⟩ => ?_
  subst he
  exact ⟨_, rfl, law_post rfl hW' (fun ds h => by match ds, h with | [_, _], _ => rfl) (by kernel_rfl) (by kernel_rfl) (by kernel_rfl) hb⟩

set_option maxRecDepth 100000 in
theorem lifted (os : Os) (started : os.Started) (H : Type) (enc : TypeId × Value → H) (F : Stop.Interp) :
    ReturnsInHanded {} Tryz.checked os 3 .any ((OpenSpec.ofChange Rows.eventPacksSpec).preRow enc Tryz.prog Tryz.f3 Rows.eventPacksRow.domain false Rows.eventPacksRow.laid) (((OpenSpec.ofChange Rows.eventPacksSpec).at F).post enc Tryz.prog Tryz.f3 false true false false) := by
  have hx : ∃ places, DataW.whole enc Tryz.prog ((World.laidAll Tryz.prog os Rows.eventPacksRow.laid).forCall (fun _ _ => 0) ⟨#[], #[.slice none 0 0, .string ByteArray.empty], []⟩).memory Tryz.f3.params.toList Rows.eventPacksSpec.vars false (#[.slice none 0 0, .string ByteArray.empty] : Array Value).toList 8 = some ([.nil, .lit (.string [])], [], places) := ⟨[], by kernel_rfl⟩
  obtain ⟨places, hx⟩ := hx
  refine returnsInHanded_of_row (C := Tryz.checked) (s := (OpenSpec.ofChange Rows.eventPacksSpec)) own started (by kernel_rfl) Tryz.func3
    (witness_lay (enc := enc) (C := Tryz.checked) false #[.slice none 0 0, .string ByteArray.empty] (World.shaped_of_ZipB (by kernel_rfl) (by kernel_rfl)) (by kernel_rfl)
      (OpenSpec.preRow_of_cond 8 hx (by kernel_rfl) (fun k hk => by cases hk) (by kernel_rfl) (laid_met os _))) ?_
  intro W base args ds gs before hval hW _ hcond _ hL hS _
  exact contract H enc W base args ds gs before hval hW hL hS

theorem said : Rows.EventPacksSaid :=
  OpenClaim.holds_of_cond 3 Tryz.f3 rfl rfl rfl rfl rfl rfl rfl ⟨rfl, rfl, rfl, rfl, rfl⟩ rfl rfl rfl rfl rfl (by kernel_rfl) Tryz.func3 (by kernel_rfl)
    (of_decide_eq_true (by kernel_rfl)) (by unfold Func.isWrapper; first | (rw [if_pos (by decide +kernel)]; kernel_rfl) | (rw [if_neg (by decide +kernel)]; exact ⟨rfl, rfl⟩))
    (fun os started H enc _ F => by rw [OpenClaim.pre_eq_preRow]; exact lifted os started H enc F)

theorem plain (f : FuncId) (fn : Func) (hf : Tryz.pinned.checked.prog.funcNamed Rows.eventPacksRow.func = some f) (hfn : Tryz.pinned.checked.prog.funcs[f]? = some fn) :
    false = Tryz.pinned.checked.prog.looks [] ∧ ∀ (j : Nat) t, fn.params[j]? = some t → Tryz.pinned.checked.prog.wantsStandIn t = false := by
  obtain rfl : f = 3 := Option.some.inj ((show Tryz.prog.funcNamed Rows.eventPacksRow.func = some 3 by kernel_rfl).symm.trans hf) |>.symm
  obtain rfl : fn = Tryz.f3 := (Option.some.inj (Tryz.func3.symm.trans hfn)).symm
  refine ⟨by kernel_rfl, fun j t ht => ?_⟩
  rw [Tryz.params3] at ht
  have hm : t ∈ [22, 9] := by simpa using Array.mem_of_getElem? ht
  have hall : ([22, 9].all fun u => !Tryz.prog.wantsStandIn u) = true := by kernel_rfl
  exact (show Tryz.prog.wantsStandIn t = false by simpa using List.all_eq_true.1 hall t hm)

theorem proved : Rows.EventPacksCardSaid :=
  Claim7.holds_tied_plain_at .later [] _ _ _ _ said (fun _ h => by cases h) (by kernel_rfl) (fun _ h => by cases h) eventPacks_row_tie rfl ⟨rfl, rfl⟩ (by kernel_rfl) rfl plain (by kernel_rfl)
end Go.Proofs.YtollhemkjnkalaaGreatDoor.eventPacks
