/- Layer 6: the document's events out of the program's rows; the document's own Pack and Read: contracts. -/
import Derived.Test.YtollhemkjnkalaaGreatDoorK10
import Derived.Test.YtollhemkjnkalaaGreatDoorK5
import Derived.Test.YtollhemkjnkalaaGreatDoorIA
import Derived.Deep.Onto
namespace Go.Proofs.YtollhemkjnkalaaGreatDoor
open Go.RowKit Go.Shelf
set_option linter.unusedVariables false
set_option maxRecDepth 100000

theorem infoEvR6 : (Tryz.prog.info? 29).map (fun i => (i.zero, i.size, i.bytes)) = some (some (.agg #[.int .i64 0, .int .i64 0, .string ⟨#[]⟩, .string ⟨#[]⟩, .int .i64 0, .int .i64 0]), 6, 64) := by kernel_rfl

set_option maxHeartbeats 2000000 in
theorem eolds_any (a : Option Addr) (c : Nat) (l : List EvM) (w : World) (hr : EvSl w a l) (hl : l.length ≤ 1000000) :
    Calls Tryz.prog 13 #[.slice a l.length c] w fun e w' => ∃ (v : Value), e = .returned v ∧ w'.ownsRow w.heap.size 29 6 v l.length (evs l) ∧ Below w.heap.size w w' := by
  obtain ⟨i0, hi, hz0, hz1, hz2⟩ := info_parts infoEvR6
  have HR := Lib.hid hr
  clear hr
  go_enter Tryz.func13, Tryz.ntmps13
  go_wp2
  go_loopw [3, 8] (fun v i wr => ∃ (j : Nat), j ≤ l.length ∧ i = .int .i64 j ∧ Hid (wr.ownsRow w.heap.size 29 6 v j (evs (l.take j))) ∧ Hid (Below w.heap.size w wr)) (fun _ i _ => l.length - (intOf i).toNat)
  case atStart => exact ⟨0, by omega, rfl, ⟨rfl, .inl ⟨rfl, rfl⟩⟩, Below.refl _ _⟩
  case round =>
    obtain ⟨j, hj, rfl, HO, HB⟩ := hrel
    by_cases hjl : j < l.length
    · obtain ⟨b, off, rfl, hbl, hc0, hc1, hc2, hc3, hc4, hc5⟩ := (HR.out.below HB.out).at_ hjl
      have HC := Lib.hid (evs_take l j hjl)
      generalize l[j] = x at *
      have HO2 := Lib.hid (own_below HO.out (below_two wr (.cells #[.int .i64 x.kind, .int .i64 x.at_, .string x.user, .string x.other, .int .i64 x.n, .int .i64 x.status] 40) (.cells #[.int .i64 x.kind, .int .i64 x.at_, .string x.user, .string x.other, .int .i64 x.n, .int .i64 x.status] 29)))
      have HB2 : Hid (Below w.heap.size w ((wr.alloc (.cells #[.int .i64 x.kind, .int .i64 x.at_, .string x.user, .string x.other, .int .i64 x.n, .int .i64 x.status] 40)).alloc (.cells #[.int .i64 x.kind, .int .i64 x.at_, .string x.user, .string x.other, .int .i64 x.n, .int .i64 x.status] 29))) := HB.out.trans ((below_two _ _ _).mono HB.out.size)
      have HS2 := Lib.hid HB2.out.size
      go_wp2_with (at_builtin; refine wpList_append_own _ rfl (.tmp 12) (.tmp 14) 22 rfl w.heap.size 29 i0 _ 6 64 Tryz.underlying22 hi hz0 hz1 hz2 rfl (by decide) _ _ _ rfl HO2.out ⟨wr.heap.size + 1, 0, none⟩ 1 1 [.int .i64 x.kind, .int .i64 x.at_, .string x.user, .string x.other, .int .i64 x.n, .int .i64 x.status] rfl rfl (news_at _ _ _ _ (size1 _ _).symm) (six_cells x) (by unfold maxLen; omega) (by omega) HS2.out ?_; intro v' w2 hown' hgrow hiff)
      have HB3 := Lib.hid (app_below HB2.out HS2.out HO2.out hgrow)
      have HO3 := Lib.hid hown'
      clear hown' hgrow hiff HB2 HS2 HO2
      go_wp2
      go_roundw
      case rel => exact ⟨j + 1, by omega, by go_num, (by unfold Hid; rw [HC.out]; exact HO3.out), HB3⟩
      case measure => simp [intOf]; omega
    · obtain rfl : j = l.length := by omega
      rw [List.take_of_length_le (Nat.le_refl _)] at HO
      go_wp2
      go_ret
      exact ⟨_, rfl, HO.out, HB.out⟩

set_option maxHeartbeats 4000000 in
theorem refPackAll_any (a : Option Addr) (c : Nat) (l : List EvM) (w : World) (hr : EvSl w a l) (hf : FitsE l) (hl : l.length ≤ 1000) :
    Calls Tryz.prog 9 #[.slice a l.length c] w fun r w' => r = .returned (.string (tx (packAll l))) ∧ Below w.heap.size w w' := by
  have HR := Lib.hid hr
  have HFR := Lib.hid refFrame_any
  have HPK := Lib.hid refPack_any
  clear hr
  go_enter Tryz.func9, Tryz.ntmps9
  go_wp2
  go_loopw [3, 4] (fun o i wr => ∃ (j : Nat), j ≤ l.length ∧ i = .int .i64 j ∧ o = .string (tx (flatE (l.take j))) ∧ Hid ((l.take j).all rightE = true) ∧ Hid (Below w.heap.size w wr)) (fun _ i _ => l.length - (intOf i).toNat)
  case atStart => exact ⟨0, by omega, rfl, rfl, rfl, Below.refl _ _⟩
  case round =>
    obtain ⟨j, hj, rfl, rfl, HA, HB⟩ := hrel
    by_cases hjl : j < l.length
    · obtain ⟨b, off, rfl, hbl, hc0, hc1, hc2, hc3, hc4, hc5⟩ := (HR.out.below HB.out).at_ hjl
      have HT := Lib.hid (flatE_take l j hjl)
      have HFT := Lib.hid (hf.at_ hjl)
      have HTR := Lib.hid (fun hr => take_right hjl HA.out hr)
      have HPB := Lib.hid (fun hr => packAll_bad hjl hr)
      have hln := flatE_len (l.take j) HA.out
      rw [List.length_take] at hln
      generalize l[j] = x at *
      have HC := Lib.hid (fun W => HFR.out x HFT.out.1 HFT.out.2 W)
      unfold evV frameE frK at HC
      cases hr : rightE x with
      | false =>
        rw [hr, if_neg (by decide)] at HC
        have HE := Lib.hid (HPB.out hr)
        clear hr HPB HTR HT HFT HPK
        go_wp2_with fail
        refine (HC.out _).mono ?_
        rintro e w2 ⟨rfl, h2⟩
        have HB2 : Hid (Below w.heap.size w w2) := HB.out.trans (h2.mono HB.out.size)
        have HB3 : Hid (Below w.heap.size w (w2.alloc (.cells #[.int .u8 0, .string ⟨#[]⟩] 61))) := HB2.out.alloc HB2.out.size _
        clear h2 HC
        go_wp2
        go_ret
        exact ⟨by rw [HE.out]; rfl, HB3.out⟩
      | true =>
        rw [hr, if_pos rfl] at HC
        have HP1 := Lib.hid (fun W => HPK.out (letterE x.kind) (tx (lineE x)) (by rw [tx_size]; have := line_short hr; unfold maxLen; omega) W)
        have hpe := right_packs hr
        rw [toL_tx, hpe] at HP1
        have HPS : Hid (packS (letterE x.kind) (lineE x) = frP x) := by unfold Hid packS; rw [if_pos hpe]; rfl
        rw [HPS.out] at HP1
        have HTA := Lib.hid (HTR.out hr)
        have hs2 : (tx (frP x)).size ≤ 114 := by rw [tx_size]; exact frP_len hr
        have hs1 : (tx (flatE (l.take j))).size ≤ 114000 := by rw [tx_size]; omega
        have HCAT : Hid (tx (flatE (l.take j)) ++ tx (frP x) = tx (flatE (l.take (j + 1)))) := by unfold Hid; rw [HT.out, tx_append]
        clear hr hpe HPS HPB HTR HPK HFT hln HT
        generalize tx (lineE x) = tl at *
        generalize tx (flatE (l.take j)) = acc at *
        generalize tx (frP x) = nx at *
        have hlb := u8_lt (letterE x.kind)
        generalize ((letterE x.kind).toNat : Int) = lt at *
        go_wp2_with fail
        refine (HC.out _).mono ?_
        rintro e w2 ⟨rfl, h2⟩
        have HB2 : Hid (Below w.heap.size w w2) := HB.out.trans (h2.mono HB.out.size)
        have HB3 : Hid (Below w.heap.size w (w2.alloc (.cells #[.int .u8 lt, .string tl] 61))) := HB2.out.alloc HB2.out.size _
        clear h2 HC HB2
        go_wp2_with fail
        refine (HP1.out _).mono ?_
        rintro e w3 ⟨rfl, h3⟩
        have HB4 : Hid (Below w.heap.size w w3) := HB3.out.trans (h3.mono HB3.out.size)
        clear h3 HP1 HB3
        go_wp2
        go_roundw
        case rel => exact ⟨j + 1, by omega, by go_num, by rw [HCAT.out], HTA, HB4⟩
        case measure => simp [intOf]; omega
    · obtain rfl : j = l.length := by omega
      rw [List.take_of_length_le (Nat.le_refl _)] at HA ⊢
      have HG := Lib.hid (packAll_good HA.out)
      go_wp2
      go_ret
      exact ⟨by rw [HG.out]; rfl, HB.out⟩

theorem Scans.at_ {s : List UInt8} {L : List Fr} {N j : Nat} (h : Scans s (L.drop j) N) (hj : j < L.length) : nextL s = .ok L[j].1 L[j].2 ∧ ∃ N', Scans (s.drop (14 + L[j].2.length)) (L.drop (j + 1)) N' := by
  rw [List.drop_eq_getElem_cons hj] at h
  generalize L[j] = x at *
  generalize L.drop (j + 1) = r at *
  cases h with
  | step h1 h2 => exact ⟨h1, _, h2⟩
theorem Scans.end_ {s : List UInt8} {N : Nat} (h : Scans s [] N) : ∃ e, nextL s = .err e := by
  cases h with
  | done h1 => exact ⟨_, h1⟩

theorem FrSl.fix {W : World} {b off : Nat} {L : List Fr} (h : FrSl W (some ⟨b, off, none⟩) L) {j : Nat} (hj : j < L.length) : b < W.heap.size ∧ W.cell? ⟨b, off + j * 2, none⟩ = some (.int .u8 (L[j].1.toNat : Int)) ∧ W.cell? ⟨b, off + j * 2 + 1, none⟩ = some (.string (tx L[j].2)) := by
  obtain ⟨b', off', e, h1, h2, h3⟩ := h j hj
  cases e
  exact ⟨h1, h2, h3⟩

set_option maxHeartbeats 4000000 in
theorem refRead_any (s : ByteArray) (hs : s.size ≤ 90000) (w : World) :
    Calls Tryz.prog 14 #[.string s] w fun r w' => ∃ (v : Value) (l : List EvM) (n : Nat), r = .returned (.tuple #[v, .int .i64 (n : Int)]) ∧ EvReads (toL s) l n ∧ w'.ownsRow w.heap.size 29 6 v l.length (evs l) ∧ l.length ≤ 90000 ∧ Below w.heap.size w w' := by
  obtain ⟨i0, hi, hz0, hz1, hz2⟩ := info_parts infoEvR6
  have HSC := Lib.hid (refScan_any s hs w)
  have HOF := Lib.hid refOf_any
  have HPK := Lib.hid refPack_any
  go_enter Tryz.func14, Tryz.ntmps14
  go_wp2_with fail
  refine HSC.out.mono ?_
  rintro r w1 ⟨v, L, N, rfl, hsc, ho, hL, hB1⟩
  obtain ⟨af, cf, rfl, _, hfs⟩ := own_fr ho
  have HFS := Lib.hid hfs
  have HB1 := Lib.hid hB1
  have HS0 := Lib.hid hsc
  clear HSC ho hfs hB1 hsc
  go_wp2
  obtain ⟨M, hM⟩ : ∃ M, M = L.length := ⟨_, rfl⟩
  rw [← hM] at hL ⊢
  have HM := Lib.hid hM
  clear hM
  go_loopw [4, 7, 8] (fun v p i wr => ∃ (j a : Nat) (l : List EvM), j ≤ M ∧ a ≤ s.size ∧ i = .int .i64 j ∧ p = .int .i64 a ∧ l.length = j ∧ Hid (EvGo (toL s) l a) ∧ Hid (∃ N', Scans ((toL s).drop a) (L.drop j) N') ∧ Hid (wr.ownsRow w1.heap.size 29 6 v j (evs l)) ∧ Hid (Below w1.heap.size w1 wr)) (fun _ _ i _ => M - (intOf i).toNat)
  case atStart => exact ⟨0, 0, [], by omega, by omega, rfl, rfl, rfl, EvGo.start _, ⟨N, by rw [List.drop_zero]; exact HS0.out⟩, ⟨rfl, .inl ⟨rfl, rfl⟩⟩, Below.refl _ _⟩
  case round =>
    obtain ⟨j, a, l, hj, ha, rfl, rfl, hlj, HR, HSC, HO, HB⟩ := hrel
    clear HS0
    by_cases hjm : j < M
    · have hjl : j < L.length := by have := HM.out; omega
      obtain ⟨b, off, rfl, _⟩ := HFS.out j hjl
      obtain ⟨hbl, c0, c1⟩ := (HFS.out.below HB.out).fix hjl
      have HFX := Lib.hid (fun W (h : Below w1.heap.size w1 W) => (HFS.out.below h).fix hjl)
      obtain ⟨N', hN'⟩ := HSC.out
      obtain ⟨hx, hnx⟩ := hN'.at_ hjl
      obtain ⟨hb1, hb2⟩ := nextL_small hx
      have hpk := (nextL_inv hx).1
      rw [List.length_drop, toL_length] at hb2
      rw [List.drop_drop] at hnx
      have HNX := Lib.hid hnx
      have HG := Lib.hid (fun hf => HR.out.no hx hf)
      have HR2 := Lib.hid (fun hf => HR.out.next hx hf)
      have HC1 := Lib.hid (fun W => HOF.out L[j].1 (tx L[j].2) (by rw [tx_size]; omega) W)
      have HC2 := Lib.hid (fun W => HPK.out L[j].1 (tx L[j].2) (by rw [tx_size]; unfold maxLen; omega) W)
      rw [toL_tx, hpk] at HC2
      have HPS : Hid (packS L[j].1 L[j].2 = packT L[j].1 L[j].2) := by unfold Hid packS; rw [if_pos hpk]
      rw [HPS.out] at HC2
      have hsz : (tx (packT L[j].1 L[j].2)).size = 14 + L[j].2.length := by rw [tx_size, packT_len]
      clear hx hnx hN' hpk HPS HSC HR HOF HPK
      generalize L[j] = y at *
      obtain ⟨k, d⟩ := y
      dsimp only at *
      have hkb := u8_lt k
      unfold frW evV at HC1
      generalize tx (packT k d) = pt at *
      go_wp2_with fail
      refine (HC1.out _).mono ?_
      rintro e w2 ⟨rfl, h2⟩
      have HO2 := Lib.hid (own_below HO.out h2)
      have HB2 : Hid (Below w1.heap.size w1 w2) := HB.out.trans (h2.mono HB.out.size)
      clear h2 HC1 HO HB c0 c1 hbl
      generalize hx : ofE k (tx d) = x at *
      cases hf : isF k (tx d) with
      | false =>
        have HD := Lib.hid (HG.out hf)
        have HAL := Lib.hid ((Below.refl w2.heap.size w2).alloc (Nat.le_refl _) (.cells #[.int .i64 x.kind, .int .i64 x.at_, .string x.user, .string x.other, .int .i64 x.n, .int .i64 x.status] 29))
        have HO3 := Lib.hid (own_below HO2.out HAL.out)
        have HB3 := Lib.hid (HB1.out.trans ((HB2.out.trans (HAL.out.mono HB2.out.size)).mono HB1.out.size))
        clear HR2 HG hf HAL
        go_wp2
        go_ret2
        exact ⟨_, l, a, rfl, HD.out, by rw [hlj]; exact HO3.out.mono HB1.out.size, by omega, HB3.out⟩
      | true =>
        have HRR := Lib.hid (HR2.out hf)
        have HAL := Lib.hid ((Below.refl w2.heap.size w2).alloc (Nat.le_refl _) (.cells #[.int .i64 x.kind, .int .i64 x.at_, .string x.user, .string x.other, .int .i64 x.n, .int .i64 x.status] 29))
        have HO3 := Lib.hid (own_below HO2.out HAL.out)
        have HB3 := Lib.hid (HB2.out.trans (HAL.out.mono HB2.out.size))
        have HE3 : Hid ((w2.alloc (.cells #[.int .i64 x.kind, .int .i64 x.at_, .string x.user, .string x.other, .int .i64 x.n, .int .i64 x.status] 29)).heap[w2.heap.size]? = some (.cells #[.int .i64 x.kind, .int .i64 x.at_, .string x.user, .string x.other, .int .i64 x.n, .int .i64 x.status] 29 (0, 0))) := heap_alloc_new w2 _
        obtain ⟨hbl, c0, c1⟩ := HFX.out _ HB2.out
        clear HR2 HG hf HAL HO2
        go_wp2_with fail
        refine (HC2.out _).mono ?_
        rintro e w4 ⟨rfl, h4⟩
        have HO4 := Lib.hid (own_below HO3.out h4)
        have HB4 := Lib.hid (HB3.out.trans (h4.mono HB3.out.size))
        have hbk := (h4.block _ (heap_lt HE3.out)).trans HE3.out
        obtain ⟨⟨e0, e1, e2, e3, e4, e5⟩, -⟩ := cells6 hbk
        have hlt := heap_lt hbk
        have HA5 := Lib.hid ((Below.refl w4.heap.size w4).alloc (Nat.le_refl _) (.cells #[.int .i64 x.kind, .int .i64 x.at_, .string x.user, .string x.other, .int .i64 x.n, .int .i64 x.status] 29))
        have HO5 := Lib.hid (own_below HO4.out HA5.out)
        have HB5 := Lib.hid (HB4.out.trans (HA5.out.mono HB4.out.size))
        have HS5 := Lib.hid HB5.out.size
        clear h4 HO3 HB3 HE3 HO4 HB4 HA5 hbk c0 c1 hbl HC2 HFX HB2
        go_wp2_with (at_builtin; refine wpList_append_own _ rfl (.tmp 44) (.tmp 46) 22 rfl w1.heap.size 29 i0 _ 6 64 Tryz.underlying22 hi hz0 hz1 hz2 rfl (by decide) _ _ _ rfl HO5.out ⟨w4.heap.size, 0, none⟩ 1 1 [.int .i64 x.kind, .int .i64 x.at_, .string x.user, .string x.other, .int .i64 x.n, .int .i64 x.status] rfl rfl (news_at _ _ _ _ rfl) (six_cells x) (by unfold maxLen; omega) (by omega) HS5.out ?_; intro v' w6 hown' hgrow hiff)
        have HB6 := Lib.hid (app_below HB5.out HS5.out HO5.out hgrow)
        have HO6 := Lib.hid hown'
        clear hown' hgrow hiff HB5 HS5 HO5
        go_wp2
        go_roundw
        case rel => exact ⟨j + 1, a + (14 + d.length), l ++ [x], by omega, by omega, by go_num, by go_num, by rw [List.length_append, hlj]; rfl, HRR, HNX, (by unfold Hid; rw [evs_snoc]; exact HO6.out), HB6⟩
        case measure => simp [intOf]; omega
    · obtain rfl : M = j := by omega
      have hdl : L.drop M = [] := List.drop_of_length_le (by rw [← HM.out]; exact Nat.le_refl _)
      rw [hdl] at HSC
      obtain ⟨N', hN'⟩ := HSC.out
      obtain ⟨e, he⟩ := hN'.end_
      have HD := Lib.hid (HR.out.err he)
      have HB3 := Lib.hid (HB1.out.trans (HB.out.mono HB1.out.size))
      clear hN' he HSC
      go_wp2
      go_ret2
      exact ⟨_, l, a, rfl, HD.out, by rw [hlj]; exact HO.out.mono HB1.out.size, by omega, HB3.out⟩
end Go.Proofs.YtollhemkjnkalaaGreatDoor
