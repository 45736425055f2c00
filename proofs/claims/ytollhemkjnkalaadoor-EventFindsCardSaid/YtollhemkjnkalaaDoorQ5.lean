/- EventFinds: in events that were packed no frame is found but theirs, from whatever byte on: for every row of events. No condition but that the library's tables hold what the program's text lays in them. -/
import Derived.Test.YtollhemkjnkalaaDoorK10
import Derived.Test.YtollhemkjnkalaaDoorH10
namespace Go.Proofs.YtollhemkjnkalaaDoor.eventFinds
open Go.ChangeShapes Go.WideShapes Go.ChangeAt Go.RowKit Go.Shelf
open Go.ChangeMaps (open_string shut_string)
set_option linter.unusedVariables false
set_option maxRecDepth 100000

theorem empty_eq {l : List UInt8} (h : l = []) : (tx l).toList.isEmpty = true := by rw [toList_tx, h]; rfl
theorem empty_ne {l : List UInt8} (h : l ≠ []) : (tx l).toList.isEmpty = false := by
  rw [toList_tx]
  cases l with
  | nil => exact absurd rfl h
  | cons a r => rfl
theorem flatE_ne {e : EvM} {l : List EvM} : flatE (e :: l) ≠ [] := by
  intro h
  have := congrArg List.length h
  rw [flatE_cons, List.length_append] at this
  unfold frP at this
  rw [packT_len] at this
  simp at this
theorem frE_len (l : List EvM) : (frE l).length = l.length := by simp [frE]
theorem find_n (l : List EvM) (n : Nat) (hn : l.length = n) (h15 : n ≤ 15) (ha : l.all rightE = true) (w : World) :
    Calls Tryd.prog 19 #[.string (tx (flatE l))] w fun e w' => ∃ a c, e = .returned (.slice a n c) ∧ FrSl w' a (frE l) ∧ Below w.heap.size w w' := by
  have hl := flatE_len l ha
  have hf := find_any (tx (flatE l)) (by rw [tx_size]; omega) w
  rw [toL_tx, tx_size, find_flat l ha, frE_len, hn] at hf
  refine hf.mono fun e w' ⟨v, he, ho, hb⟩ => ?_
  have ho' : w'.ownsRow w.heap.size 31 2 v (frE l).length (frC (frE l)) := by rw [frE_len, hn]; exact ho
  obtain ⟨a', c', rfl, _, h⟩ := own_fr ho'
  rw [frE_len, hn] at he
  exact ⟨a', c', he, h, hb⟩
theorem frSl_at {w : World} {a : Option Addr} {l : List EvM} (h : FrSl w a (frE l)) {k : Nat} (hk : k < l.length) : ∃ b off, a = some ⟨b, off, none⟩ ∧ b < w.heap.size ∧
    w.cell? ⟨b, off + k * 2, none⟩ = some (.int .u8 ((letterE l[k].kind).toNat : Int)) ∧ w.cell? ⟨b, off + k * 2 + 1, none⟩ = some (.string (tx (lineE l[k]))) := by
  obtain ⟨b, off, e, hlt, h0, h1⟩ := h k (by rw [frE_len]; exact hk)
  exact ⟨b, off, e, hlt, by simpa [frE] using h0, by simpa [frE] using h1⟩

set_option maxHeartbeats 4000000 in
theorem walk (w : World) (hS : w.ShapedOpen Tryd.prog) (hL : laidMetH Tryd.prog Rows.eventRightRow.laid w) (a : Option Addr) (c : Nat) (l : List EvM) (hr : EvSl w a l) (hf : FitsE l) (hc : l.length ≤ c) (hm' : c ≤ maxLen) (hn' : a = none → c = 0) :
    Calls Tryd.prog 7 #[.slice a l.length c] w fun r w' => r = .returned (.bool true) ∧ Below w.heap.size w w' := by
  have hm : MaxIs w := ⟨_, (max_is hS).choose_spec⟩
  have hp := pow10_is hL
  have HAL := Lib.hid (fun W (h : Below w.heap.size w W) => alive_any W (hp.below h) (hm.below h))
  have HR := Lib.hid hr
  have HF := Lib.hid hf
  have HP := Lib.hid hp
  have HM := Lib.hid hm
  clear hS hL hr hf hp hm hn'
  unfold maxLen at hm'
  obtain ⟨n, hn⟩ : ∃ n, n = l.length := ⟨_, rfl⟩
  rw [← hn] at hc ⊢
  have HLN := Lib.hid hn
  clear hn
  by_cases h15 : 15 < n
  · go_enter Tryd.func7, Tryd.ntmps7
    go_wp2_with fail
    refine (HAL.out _ (Below.refl _ _)).mono ?_
    rintro r w1 ⟨rfl, h1⟩
    go_wp2
    go_ret
    exact ⟨rfl, h1⟩
  have HNW : Hid (Calls Tryd.prog 17 #[.slice a n c] w fun e w' => ∃ a c, e = .returned (.slice a n c) ∧ EvSl w' a l ∧ Below w.heap.size w w') := by
    have := news_any a c l w HR.out (by have := HLN.out; omega)
    rw [← HLN.out] at this
    refine this.mono ?_
    rintro e w' ⟨v, rfl, ho, hb⟩
    have ho' : w'.ownsRow w.heap.size 24 6 v l.length (evs l) := by rw [← HLN.out]; exact ho
    obtain ⟨a', c', rfl, _, h⟩ := own_ev ho'
    exact ⟨a', c', by rw [HLN.out], h, hb⟩
  have HPK : Hid (∀ W a' c', EvSl W a' l → Below w.heap.size w W → Calls Tryd.prog 16 #[.slice a' n c'] W fun e w' => e = .returned (.string (tx (packAll l))) ∧ Below W.heap.size W w') := fun W a' c' hs hb => by
    have := epack_any a' c' l W hs HF.out (by have := HLN.out; omega) (HP.out.below hb)
    rw [← HLN.out] at this
    exact this
  by_cases hem : packAll l = []
  · have he := empty_eq hem
    generalize tx (packAll l) = s at *
    go_enter Tryd.func7, Tryd.ntmps7
    go_wp2_with fail
    refine HNW.out.mono ?_
    rintro r w1 ⟨a1, c1, rfl, hs1, h1⟩
    have HS1 := Lib.hid hs1
    have HB1 := Lib.hid h1
    clear hs1 h1
    go_wp2_with fail
    refine (HPK.out _ _ _ HS1.out HB1.out).mono ?_
    rintro r w2 ⟨rfl, h2⟩
    have HB2 : Hid (Below w.heap.size w w2) := HB1.out.trans (h2.mono HB1.out.size)
    clear h2
    go_wp2_with fail
    refine (HAL.out _ HB2.out).mono ?_
    rintro r w3 ⟨rfl, h3⟩
    go_wp2
    go_ret
    exact ⟨rfl, HB2.out.trans (h3.mono HB2.out.size)⟩
  have hall : l.all rightE = true := by
    cases h : l.all rightE with
    | true => rfl
    | false => exact absurd (by unfold packAll; rw [h]; rfl) hem
  have HPG := Lib.hid (packAll_good hall)
  have he := empty_ne hem
  have HFI := Lib.hid (fun W => find_n l n HLN.out.symm (by omega) hall W)
  rw [HPG.out] at HPK he
  have HRT : Hid (∀ (k : Nat) (h : k < l.length), rightE l[k] = true) := fun k h => by
    rw [List.all_eq_true] at hall
    exact hall _ (List.getElem_mem h)
  clear hem hall HPG
  generalize tx (flatE l) = s at *
  go_enter Tryd.func7, Tryd.ntmps7
  go_wp2_with fail
  refine HNW.out.mono ?_
  rintro r w1 ⟨a1, c1, rfl, hs1, h1⟩
  have HS1 := Lib.hid hs1
  have HB1 := Lib.hid h1
  clear hs1 h1
  go_wp2_with fail
  refine (HPK.out _ _ _ HS1.out HB1.out).mono ?_
  rintro r w2 ⟨rfl, h2⟩
  have HB2 : Hid (Below w.heap.size w w2) := HB1.out.trans (h2.mono HB1.out.size)
  clear h2 HS1 HB1 HNW HPK
  go_wp2_with fail
  refine (HFI.out _).mono ?_
  rintro r w3 ⟨a3, c3, rfl, hs3, h3⟩
  have HS3 := Lib.hid hs3
  have HB3 : Hid (Below w.heap.size w w3) := HB2.out.trans (h3.mono HB2.out.size)
  clear hs3 h3 HB2 HFI
  go_wp2
  go_loopw [27] (fun i wr => ∃ (j : Nat), j ≤ n ∧ i = .int .i64 j ∧ Hid (FrSl wr a3 (frE l)) ∧ Hid (Below w.heap.size w wr)) (fun i _ => n - (intOf i).toNat)
  case atStart => exact ⟨0, by omega, rfl, HS3.out, HB3.out⟩
  case round =>
    obtain ⟨j, hj, rfl, HS, HB⟩ := hrel
    clear HS3 HB3
    by_cases hjn : j < n
    · have hjl : j < l.length := by have := HLN.out; omega
      obtain ⟨b, off, rfl, hbl, f0, f1⟩ := frSl_at HS.out hjl
      have HRJ := Lib.hid (HRT.out j hjl)
      have HOF : Hid (Calls Tryd.prog 14 #[.agg #[.int .u8 ((letterE l[j].kind).toNat : Int), .string (tx (lineE l[j]))]] wr fun r w' => r = .returned (.tuple #[evV l[j], .bool true]) ∧ Below wr.heap.size wr w') := by
        have := of_any (letterE l[j].kind) (tx (lineE l[j])) (by rw [tx_size]; have := line_short HRJ.out; omega) wr (HP.out.below HB.out) (HM.out.below HB.out)
        rw [of_frame HRJ.out, is_frame HRJ.out] at this
        exact this
      have HEV := Lib.hid (fun W (h : Below w.heap.size w W) => (HR.out.below h).at_ hjl)
      unfold evV at HOF
      have hlt := u8_lt (letterE l[j].kind)
      generalize ((letterE l[j].kind).toNat : Int) = lt at *
      generalize tx (lineE l[j]) = tl at *
      clear HRJ
      generalize l[j] = x at *
      go_wp2_with fail
      refine HOF.out.mono ?_
      rintro r w5 ⟨rfl, h5⟩
      have HB5 : Hid (Below w.heap.size w w5) := HB.out.trans (h5.mono HB.out.size)
      have HS5 := Lib.hid (HS.out.below h5)
      have HA5 := Lib.hid ((Below.refl w5.heap.size w5).alloc (Nat.le_refl _) (.cells #[.int .i64 x.kind, .int .i64 x.at_, .string x.user, .string x.other, .int .i64 x.n, .int .i64 x.status] 24))
      have HB6 : Hid (Below w.heap.size w (w5.alloc (.cells #[.int .i64 x.kind, .int .i64 x.at_, .string x.user, .string x.other, .int .i64 x.n, .int .i64 x.status] 24))) := HB5.out.trans (HA5.out.mono HB5.out.size)
      have HS6 : Hid (FrSl (w5.alloc (.cells #[.int .i64 x.kind, .int .i64 x.at_, .string x.user, .string x.other, .int .i64 x.n, .int .i64 x.status] 24)) (some ⟨b, off, none⟩) (frE l)) := HS5.out.below HA5.out
      obtain ⟨b2, o2, rfl, hb2, q0, q1, q2, q3, q4, q5⟩ := HEV.out _ HB5.out
      have hE1 : (x.user.toList == x.user.toList) = true := beq_self_eq_true _
      have hE2 : (x.other.toList == x.other.toList) = true := beq_self_eq_true _
      clear h5 HOF HEV f0 f1 HS5 HB5 HA5 HS HB
      go_wp2
      go_quiet (fail)
      go_wp2
      go_roundw
      case rel => exact ⟨j + 1, by omega, by go_num, HS6.out.below (Drew.below ⟨_, rfl⟩ _), HB6.out.trans (Drew.below ⟨_, rfl⟩ _)⟩
      case measure => simp [intOf]; omega
    · obtain rfl : n = j := by omega
      go_wp2_with fail
      refine (HAL.out _ HB.out).mono ?_
      rintro r w4 ⟨rfl, h4⟩
      go_wp2
      go_ret
      exact ⟨rfl, HB.out.trans (h4.mono HB.out.size)⟩

theorem contract (H : Type) (enc : TypeId × Value → H) (W : World) (base : Nat) (args : Array Value) (ds gs : List (DataW H)) (before : List MemPlace)
    (hval : ∀ (j : Nat) t v, Tryd.f7.params[j]? = some t → args[j]? = some v → Value.okWide Tryd.prog W .any base t v)
    (hW : DataW.Whole enc Tryd.prog Tryd.f7.params.toList Rows.eventFindsSpec.vars false W args.toList ds gs before) (hL : laidMetH Tryd.prog Rows.eventRightRow.laid W) (hS : W.ShapedOpen Tryd.prog) :
    Calls Tryd.prog 7 args W fun e W' => ∃ v, e = .returned v ∧ Rows.eventFindsSpec.post enc Tryd.prog Tryd.f7 false true false false W args v W' := by
  have hW' := hW
  have hlt := hW.lt
  obtain ⟨p, q, hA0, hV, rfl, hfz, hnd⟩ := hW
  have hA : DataW.TrodAll enc Tryd.prog W 0 (fun _ => true) true Tryd.f7.params.toList args.toList ds p := hA0
  rw [Tryd.params7] at hA hval
  obtain ⟨v0, vs0, d0, ds0, p0, q0, hargs, rfl, rfl, h0, r0⟩ := trodAll_cons hA
  obtain ⟨rfl, rfl, rfl⟩ := trodAll_nil r0
  obtain rfl : args = #[v0] := by cases args; simp_all
  obtain ⟨a0, c0, l0, rfl, s0, f0, m0, n0, o0⟩ := open_events (hval 0 42 v0 rfl rfl) h0
  refine (walk W hS hL a0 c0 l0 s0 f0 m0 n0 o0).mono fun e W' ⟨he, hb⟩ => ?_
  subst he
  exact ⟨_, rfl, law_post rfl hW' (fun ds h => by match ds, h with | [_], _ => rfl) (by kernel_rfl) (by kernel_rfl) (by kernel_rfl) hb⟩

set_option maxRecDepth 100000 in
theorem lifted (os : Os) (started : os.Started) (H : Type) (enc : TypeId × Value → H) (F : Stop.Interp) :
    ReturnsInHanded {} Tryd.checked os 7 .any ((OpenSpec.ofChange Rows.eventFindsSpec).preRow enc Tryd.prog Tryd.f7 Rows.eventFindsRow.domain false Rows.eventRightRow.laid) (((OpenSpec.ofChange Rows.eventFindsSpec).at F).post enc Tryd.prog Tryd.f7 false true false false) := by
  have hx : ∃ places, DataW.whole enc Tryd.prog ((World.laidAll Tryd.prog os Rows.eventRightRow.laid).forCall (fun _ _ => 0) ⟨#[], #[.slice none 0 0], []⟩).memory Tryd.f7.params.toList Rows.eventFindsSpec.vars false (#[.slice none 0 0] : Array Value).toList 8 = some ([.nil], [], places) := ⟨[], by kernel_rfl⟩
  obtain ⟨places, hx⟩ := hx
  refine returnsInHanded_of_row (C := Tryd.checked) (s := (OpenSpec.ofChange Rows.eventFindsSpec)) own started (by kernel_rfl) Tryd.func7
    (witness_lay (enc := enc) (C := Tryd.checked) false #[.slice none 0 0] (World.shaped_of_ZipB (by kernel_rfl) (by kernel_rfl)) (by kernel_rfl)
      (OpenSpec.preRow_of_cond 8 hx (by kernel_rfl) (fun k hk => by cases hk) (by kernel_rfl) (laid_met os _))) ?_
  intro W base args ds gs before hval hW _ hcond _ hL hS _
  exact contract H enc W base args ds gs before hval hW hL hS

theorem said : Rows.EventFindsSaid :=
  OpenClaim.holds_of_cond 7 Tryd.f7 rfl rfl rfl rfl rfl rfl rfl ⟨rfl, rfl, rfl, rfl, rfl⟩ rfl rfl rfl rfl rfl (by kernel_rfl) Tryd.func7 (by kernel_rfl)
    (of_decide_eq_true (by kernel_rfl)) (by unfold Func.isWrapper; first | (rw [if_pos (by decide +kernel)]; kernel_rfl) | (rw [if_neg (by decide +kernel)]; exact ⟨rfl, rfl⟩))
    (fun os started H enc _ F => by rw [OpenClaim.pre_eq_preRow]; exact lifted os started H enc F)

theorem plain (f : FuncId) (fn : Func) (hf : Tryd.pinned.checked.prog.funcNamed Rows.eventFindsRow.func = some f) (hfn : Tryd.pinned.checked.prog.funcs[f]? = some fn) :
    false = Tryd.pinned.checked.prog.looks [] ∧ ∀ (j : Nat) t, fn.params[j]? = some t → Tryd.pinned.checked.prog.wantsStandIn t = false := by
  obtain rfl : f = 7 := Option.some.inj ((show Tryd.prog.funcNamed Rows.eventFindsRow.func = some 7 by kernel_rfl).symm.trans hf) |>.symm
  obtain rfl : fn = Tryd.f7 := (Option.some.inj (Tryd.func7.symm.trans hfn)).symm
  refine ⟨by kernel_rfl, fun j t ht => ?_⟩
  rw [Tryd.params7] at ht
  have hm : t ∈ [42] := by simpa using Array.mem_of_getElem? ht
  have hall : ([42].all fun u => !Tryd.prog.wantsStandIn u) = true := by kernel_rfl
  exact (show Tryd.prog.wantsStandIn t = false by simpa using List.all_eq_true.1 hall t hm)

theorem proved : Rows.EventFindsCardSaid :=
  Claim7.holds_tied_plain_at .later [] _ _ _ _ said (fun _ h => by cases h) (by kernel_rfl) (fun _ h => by cases h) eventFinds_row_tie rfl ⟨rfl, rfl⟩ (by kernel_rfl) rfl plain (by kernel_rfl)
end Go.Proofs.YtollhemkjnkalaaDoor.eventFinds
