/- Layer 6: Pack, contract: any events, as one text. -/
import Derived.Test.YtollhemkjnkalaaGreatDoorK2
namespace Go.Proofs.YtollhemkjnkalaaGreatDoor
open Go.RowKit Go.Shelf
set_option linter.unusedVariables false
set_option maxRecDepth 100000

theorem bld_below {T e : TypeId} {B b : Nat} {bs : List Value} {w w' : World} (h : Lib.IsBuilder T e B b bs w) (hb : Below w.heap.size w w') : Lib.IsBuilder T e B b bs w' := by
  rcases h with ⟨hB, v, h1, h2, h3⟩ | ⟨hB, v, h1, h2, h3⟩
  · exact .inl ⟨hB, v, (hb.block _ (Array.getElem?_eq_some_iff.1 h1).1).trans h1, own_below h2 hb, h3⟩
  · exact .inr ⟨hB, v, (hb.block _ (Array.getElem?_eq_some_iff.1 h1).1).trans h1, own_below h2 hb, h3⟩
abbrev BldT : TypeId := 52
theorem write_any (B b : Nat) (l : List UInt8) (m : List UInt8) (w : World) (h : Lib.IsBuilder BldT 5 B b (Lib.byteCells l) w) (hlen : l.length + m.length ≤ 140737488355328) (hBw : B ≤ w.heap.size) :
    Calls Tryz.prog 20 #[.pointer (some ⟨b, 0, none⟩), .string (tx m)] w fun e w' => (∃ v, e = .returned (.tuple #[.int .i64 v, .nilIface])) ∧ Lib.IsBuilder BldT 5 B b (Lib.byteCells (l ++ m)) w' ∧ Below B w w' := by
  refine (Any.Builder_WriteString (ρ := Tryz.laysJoin_ren) { Tryz.laysJoin with } Tryz.joinExtra B b (Lib.byteCells l) (tx m) w h (by rw [Lib.byteCells_length, tx_size]; exact hlen) hBw).mono ?_
  rintro e w' ⟨rfl, h1, h2⟩
  refine ⟨⟨_, rfl⟩, ?_, h2⟩
  rw [Lib.byteCells_append]
  exact .inr h1
theorem string_any (B b : Nat) (l : List UInt8) (w : World) (h : Lib.IsBuilder BldT 5 B b (Lib.byteCells l) w) (hBw : B ≤ w.heap.size) :
    Calls Tryz.prog 21 #[.pointer (some ⟨b, 0, none⟩)] w fun e w' => e = .returned (.string (tx l)) ∧ Below B w w' := Any.Builder_String_any Tryz.laysBS Tryz.bsExtra B b l w h hBw
theorem take_right {l : List EvM} {j : Nat} (h : j < l.length) (ha : (l.take j).all rightE = true) (hr : rightE l[j] = true) : (l.take (j + 1)).all rightE = true := by
  rw [List.take_succ_eq_append_getElem h, List.all_append, ha]; simp [hr]
theorem packAll_bad {l : List EvM} {j : Nat} (h : j < l.length) (hr : rightE l[j] = false) : packAll l = [] := by
  unfold packAll
  rw [if_neg]
  intro ha
  rw [List.all_eq_true] at ha
  rw [ha _ (List.getElem_mem h)] at hr
  cases hr
theorem packAll_good {l : List EvM} (h : l.all rightE = true) : packAll l = flatE l := by unfold packAll; rw [if_pos h]

set_option maxHeartbeats 4000000 in
theorem epack_any (a : Option Addr) (c : Nat) (l : List EvM) (w : World) (hr : EvSl w a l) (hf : FitsE l) (hl : l.length ≤ 1000) (hp : Pow10 w) :
    Calls Tryz.prog 7 #[.slice a l.length c] w fun r w' => r = .returned (.string (tx (packAll l))) ∧ Below w.heap.size w w' := by
  have HR := Lib.hid hr
  have HFR := Lib.hid (fun (e : EvM) he hi W (h : Below w.heap.size w W) => frame_any e he hi W (hp.below h))
  have HPK := Lib.hid pack_any
  have HWS := Lib.hid write_any
  have HBS := Lib.hid string_any
  clear hr hp
  go_enter Tryz.func7, Tryz.ntmps7
  go_wp2
  go_loopw [12] (fun i wr => ∃ (j : Nat), j ≤ l.length ∧ i = .int .i64 j ∧ Hid ((l.take j).all rightE = true) ∧ Hid (Lib.IsBuilder BldT 5 w.heap.size w.heap.size (Lib.byteCells (flatE (l.take j))) wr) ∧ Hid (Below w.heap.size w wr)) (fun i _ => l.length - (intOf i).toNat)
  case atStart => exact ⟨0, by omega, rfl, rfl, Lib.fresh_isBuilder BldT 5 w, (Below.refl _ _).alloc (Nat.le_refl _) _⟩
  case round =>
    obtain ⟨j, hj, rfl, HA, HI, HB⟩ := hrel
    by_cases hjl : j < l.length
    · obtain ⟨b, off, rfl, hbl, hc0, hc1, hc2, hc3, hc4, hc5⟩ := (HR.out.below HB.out).at_ hjl
      have HT := Lib.hid (flatE_take l j hjl)
      have HFT := Lib.hid (hf.at_ hjl)
      have HTR := Lib.hid (fun hr => take_right hjl HA.out hr)
      have HPB := Lib.hid (fun hr => packAll_bad hjl hr)
      have HLN := Lib.hid (flatE_len (l.take j) HA.out)
      generalize l[j] = x at *
      have HC := Lib.hid (fun W h => HFR.out x HFT.out.1 HFT.out.2 W h)
      have HBA : Hid (Below w.heap.size w (wr.alloc (.cells #[.int .i64 x.kind, .int .i64 x.at_, .string x.user, .string x.other, .int .i64 x.n, .int .i64 x.status] 40))) := HB.out.alloc HB.out.size _
      have HIA := Lib.hid (bld_below HI.out ((Below.refl wr.heap.size wr).alloc (Nat.le_refl _) (.cells #[.int .i64 x.kind, .int .i64 x.at_, .string x.user, .string x.other, .int .i64 x.n, .int .i64 x.status] 40)))
      unfold evV frameE frK at HC
      cases hr : rightE x with
      | false =>
        rw [hr, if_neg (by decide)] at HC
        have HE := Lib.hid (HPB.out hr)
        clear hr HPB HTR HT HFT HLN HPK HWS HBS
        go_wp2_with fail
        refine (HC.out _ HBA.out).mono ?_
        rintro e w2 ⟨rfl, h2⟩
        have HB2 : Hid (Below w.heap.size w w2) := HBA.out.trans (h2.mono HBA.out.size)
        have HB3 : Hid (Below w.heap.size w (w2.alloc (.cells #[.int .u8 0, .string ⟨#[]⟩] 42))) := HB2.out.alloc HB2.out.size _
        clear h2 HC HBA HIA
        go_wp2
        go_ret
        exact ⟨by rw [HE.out]; rfl, HB3.out⟩
      | true =>
        rw [hr, if_pos rfl] at HC
        have HP1 := Lib.hid (fun W => HPK.out (letterE x.kind) (tx (lineE x)) (by rw [tx_size]; have := line_short hr; unfold maxLen; omega) W)
        have hpe := right_packs hr
        rw [toL_tx, hpe] at HP1
        have HPS : Hid (packS (letterE x.kind) (lineE x) = frP x) := by unfold Hid packS; rw [if_pos hpe]; rfl
        rw [HPS.out] at HP1
        have HTA := Lib.hid (HTR.out hr)
        have hfl := frP_len hr
        clear hr hpe HPS HPB HTR HPK HBS HFT
        generalize tx (lineE x) = tl at *
        have hlb : 0 ≤ ((letterE x.kind).toNat : Int) ∧ ((letterE x.kind).toNat : Int) ≤ 255 := ⟨by omega, by have := (letterE x.kind).toNat_lt; omega⟩
        generalize ((letterE x.kind).toNat : Int) = lt at *
        go_wp2_with fail
        refine (HC.out _ HBA.out).mono ?_
        rintro e w2 ⟨rfl, h2⟩
        have HB2 : Hid (Below w.heap.size w w2) := HBA.out.trans (h2.mono HBA.out.size)
        have HI2 := Lib.hid (bld_below HIA.out h2)
        have HB3 : Hid (Below w.heap.size w (w2.alloc (.cells #[.int .u8 lt, .string tl] 42))) := HB2.out.alloc HB2.out.size _
        have HI3 := Lib.hid (bld_below HI2.out ((Below.refl w2.heap.size w2).alloc (Nat.le_refl _) (.cells #[.int .u8 lt, .string tl] 42)))
        clear h2 HC HBA HIA HB2 HI2
        go_wp2_with fail
        refine (HP1.out _).mono ?_
        rintro e w3 ⟨rfl, h3⟩
        have HB4 : Hid (Below w.heap.size w w3) := HB3.out.trans (h3.mono HB3.out.size)
        have HI4 := Lib.hid (bld_below HI3.out h3)
        clear h3 HP1 HB3 HI3
        have HS := Lib.hid (HWS.out _ _ _ (frP x) _ HI4.out (by have h1 := HLN.out; rw [List.length_take] at h1; omega) HB4.out.size)
        go_wp2_with fail
        refine (HS.out).mono ?_
        rintro e w4 ⟨⟨v, rfl⟩, hI5, hB5⟩
        have HI5 := Lib.hid hI5
        have HB5 : Hid (Below w.heap.size w w4) := HB4.out.trans hB5
        clear hI5 hB5 HS HI4 HB4
        go_wp2
        go_roundw
        case rel => exact ⟨j + 1, by omega, by go_num, HTA, (by unfold Hid; rw [HT.out]; exact HI5.out), HB5⟩
        case measure => simp [intOf]; omega
    · obtain rfl : j = l.length := by omega
      rw [List.take_of_length_le (Nat.le_refl _)] at HA HI
      have HS := Lib.hid (HBS.out _ _ _ _ HI.out HB.out.size)
      have HG := Lib.hid (packAll_good HA.out)
      go_wp2_with fail
      refine (HS.out).mono ?_
      rintro e w1 ⟨rfl, hB1⟩
      go_wp2
      go_ret
      exact ⟨by rw [HG.out]; rfl, HB.out.trans hB1⟩
end Go.Proofs.YtollhemkjnkalaaGreatDoor
