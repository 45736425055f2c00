/- EventTorn: of events, packed one behind the other, and cut off anywhere, just those are read that are whole: for every row of events and number. No condition but that the library's tables hold what the program's text lays in them. -/
import Derived.Test.YtollhemkjnkalaaGreatDoorK11
import Derived.BigRegion
namespace Go.Proofs.YtollhemkjnkalaaGreatDoor.eventTorn
open Go.ChangeShapes Go.WideShapes Go.ChangeAt Go.RowKit Go.Shelf
open Go.ChangeMaps (open_string shut_string)
set_option linter.unusedVariables false
set_option maxRecDepth 100000

theorem empty_eq {l : List UInt8} (h : l = []) : (tx l).toList.isEmpty = true := by rw [toList_tx, h]; rfl
theorem empty_ne {l : List UInt8} (h : l ≠ []) : (tx l).toList.isEmpty = false := by
  rw [toList_tx]
  cases l with
  | nil => exact absurd rfl h
  | cons a r => rfl
/-- the first m of the first j events are whole ahead of the cut, and none behind them -/
def UptoE (l : List EvM) (cut j m : Nat) : Prop := m ≤ j ∧ (flatE (l.take m)).length ≤ cut ∧ ∀ k, m ≤ k → k < j → cut < (flatE (l.take (k + 1))).length
theorem UptoE.start (l : List EvM) (cut : Nat) : UptoE l cut 0 0 := ⟨Nat.le_refl _, Nat.zero_le _, fun k h1 h2 => absurd h2 (by omega)⟩
theorem UptoE.whole {l : List EvM} {cut j m : Nat} (h : (flatE (l.take (j + 1))).length ≤ cut) : UptoE l cut (j + 1) (j + 1) := ⟨Nat.le_refl _, h, fun k h1 h2 => absurd h2 (by omega)⟩
theorem UptoE.torn {l : List EvM} {cut j m : Nat} (h : UptoE l cut j m) (h2 : cut < (flatE (l.take (j + 1))).length) : UptoE l cut (j + 1) m :=
  ⟨Nat.le_succ_of_le h.1, h.2.1, fun k h3 h4 => by
    rcases Nat.lt_or_ge k j with h5 | h5
    · exact h.2.2 k h3 h5
    · obtain rfl : k = j := by omega
      exact h2⟩
theorem flatE_append (l m : List EvM) : flatE (l ++ m) = flatE l ++ flatE m := by simp [flatE]
theorem reads_cut {l : List EvM} {cut m : Nat} (ha : l.all rightE = true) (h : UptoE l cut l.length m) : EvReads ((flatE l).take cut) (l.take m) (flatE (l.take m)).length := by
  obtain ⟨h1, h2, h3⟩ := h
  have hta : (l.take m).all rightE = true := by
    rw [List.all_eq_true] at ha ⊢
    exact fun x hx => ha x (List.mem_of_mem_take hx)
  have hsplit : (flatE l).take cut = flatE (l.take m) ++ (flatE (l.drop m)).take (cut - (flatE (l.take m)).length) := by
    conv => lhs; rw [← List.take_append_drop m l, flatE_append]
    rw [List.take_append, List.take_of_length_le h2]
  rw [hsplit]
  refine reads_flat ?_ _ hta
  rcases Nat.lt_or_ge m l.length with hm | hm
  · have h4 := h3 m (Nat.le_refl _) hm
    rw [flatE_take l m hm, List.length_append] at h4
    have hr : rightE l[m] = true := by rw [List.all_eq_true] at ha; exact ha _ (List.getElem_mem hm)
    have hl : (frP l[m]).length = 14 + (lineE l[m]).length := packT_len _ _
    rw [List.drop_eq_getElem_cons hm, flatE_cons, List.take_append_of_le_length (by omega)]
    exact .err (nextL_cut (right_packs hr) _ (by omega))
  · rw [List.drop_of_length_le hm, flatE_nil, List.take_nil]
    exact reads_nil
theorem sizeEvR (W : World) : (sizeOf (Tryz.prog.elem 22)).run Tryz.prog W = .ok 6 W := by rfl
theorem add_zero' (a : Addr) : a.add 0 = a := by unfold Addr.add; rw [if_pos rfl]
theorem events_to (a : Option Addr) (n c h : Nat) (hc : h ≤ c) (W : World) : (Instr.slice 22 (.slice a n c) none (some (.int .i64 (h : Int))) none).run Tryz.prog W = .ok (.slice a h c) W := by
  rw [run_slice_h W 22 a n c (by kernel_rfl) .i64 h (by omega) (by omega), sizeEvR]
  show Result.ok (sliced a 0 h c 6) W = _
  unfold sliced
  congr 2
  split
  · rfl
  · cases a
    · rfl
    · simp [add_zero']
theorem slice_to (s : ByteArray) (c : Nat) (h : c ≤ s.size) (W : World) : (Instr.slice 9 (.string s) none (some (.int .i64 (c : Int))) none).run Tryz.prog W = .ok (.string (s.extract 0 c)) W := by
  rw [run_slice_string_to_if W 9 s .i64 c Tryz.underlying9, if_pos (by omega)]
  simp

set_option maxHeartbeats 4000000 in
theorem walk (w : World) (hS : w.ShapedOpen Tryz.prog) (hL : laidMetH Tryz.prog Rows.eventPacksRow.laid w) (a : Option Addr) (c : Nat) (l : List EvM) (hr : EvSl w a l) (hf : FitsE l) (hc : l.length ≤ c) (hm' : c ≤ maxLen) (hn' : a = none → c = 0) (cut : Int) (hcw : (Lit.int .i64 cut).wf = true) :
    Calls Tryz.prog 5 #[.slice a l.length c, .int .i64 cut] w fun r w' => r = .returned (.bool true) ∧ Below w.heap.size w w' := by
  have hm : MaxIs w := ⟨_, (max_is hS).choose_spec⟩
  have hp := pow10_is hL
  obtain ⟨hc1, hc2⟩ := wf64 hcw
  have HAL := Lib.hid (fun W (h : Below w.heap.size w W) => alive_any W (hp.below h) (hm.below h))
  have HR := Lib.hid hr
  have HF := Lib.hid hf
  have HP := Lib.hid hp
  have HM := Lib.hid hm
  clear hS hL hr hf hp hm hn' hcw
  unfold maxLen at hm'
  obtain ⟨n, hn⟩ : ∃ n, n = l.length := ⟨_, rfl⟩
  rw [← hn] at hc ⊢
  have HLN := Lib.hid hn
  clear hn
  by_cases h20 : 20 < n
  · go_enter Tryz.func5, Tryz.ntmps5
    go_wp2_with fail
    refine (HAL.out _ (Below.refl _ _)).mono ?_
    rintro r w1 ⟨rfl, h1⟩
    go_wp2
    go_ret
    exact ⟨rfl, h1⟩
  have HPR : Hid (Calls Tryz.prog 9 #[.slice a n c] w fun e w' => e = .returned (.string (tx (packAll l))) ∧ Below w.heap.size w w') := by
    have := refPackAll_any a c l w HR.out HF.out (by have := HLN.out; omega)
    rw [← HLN.out] at this
    exact this
  by_cases hb : packAll l = [] ∨ (packAll l ≠ [] ∧ cut < 0) ∨ (packAll l ≠ [] ∧ 0 ≤ cut ∧ ((packAll l).length : Int) < cut)
  · have hsz : (tx (packAll l)).size = (packAll l).length := tx_size _
    have hsm : (packAll l).length ≤ 2280 := by have := packAll_len l; have := HLN.out; omega
    rcases hb with hb | ⟨hb, hb2⟩ | ⟨hb, hb2, hb3⟩
    · have he := empty_eq hb
      generalize tx (packAll l) = s at *
      go_enter Tryz.func5, Tryz.ntmps5
      go_wp2_with fail
      refine HPR.out.mono ?_
      rintro r w1 ⟨rfl, h1⟩
      have HB1 := Lib.hid h1
      clear h1
      go_wp2_with fail
      refine (HAL.out _ HB1.out).mono ?_
      rintro r w2 ⟨rfl, h2⟩
      go_wp2
      go_ret
      exact ⟨rfl, HB1.out.trans (h2.mono HB1.out.size)⟩
    · have he := empty_ne hb
      generalize tx (packAll l) = s at *
      go_enter Tryz.func5, Tryz.ntmps5
      go_wp2_with fail
      refine HPR.out.mono ?_
      rintro r w1 ⟨rfl, h1⟩
      have HB1 := Lib.hid h1
      clear h1
      go_wp2_with fail
      refine (HAL.out _ HB1.out).mono ?_
      rintro r w2 ⟨rfl, h2⟩
      go_wp2
      go_ret
      exact ⟨rfl, HB1.out.trans (h2.mono HB1.out.size)⟩
    · have he := empty_ne hb
      generalize tx (packAll l) = s at *
      rw [← hsz] at hb3 hsm
      have hn0 : ¬ cut < 0 := by omega
      clear hsz hb
      go_enter Tryz.func5, Tryz.ntmps5
      go_wp2_with fail
      refine HPR.out.mono ?_
      rintro r w1 ⟨rfl, h1⟩
      have HB1 := Lib.hid h1
      clear h1
      go_wp2_with fail
      refine (HAL.out _ HB1.out).mono ?_
      rintro r w2 ⟨rfl, h2⟩
      go_wp2
      go_ret
      exact ⟨rfl, HB1.out.trans (h2.mono HB1.out.size)⟩
  have hne : packAll l ≠ [] := fun h => hb (.inl h)
  have hcut0 : 0 ≤ cut := by
    rcases Int.lt_or_le cut 0 with h | h
    · exact absurd (.inr (.inl ⟨hne, h⟩)) hb
    · exact h
  have hcut1 : cut ≤ ((packAll l).length : Int) := by
    rcases Int.lt_or_le ((packAll l).length : Int) cut with h | h
    · exact absurd (.inr (.inr ⟨hne, hcut0, h⟩)) hb
    · exact h
  clear hb
  have hall : l.all rightE = true := by
    cases h : l.all rightE with
    | true => rfl
    | false => exact absurd (by unfold packAll; rw [h]; rfl) hne
  have he := empty_ne hne
  rw [packAll_good hall] at HPR he hcut1
  obtain ⟨q, rfl⟩ : ∃ q : Nat, cut = q := ⟨cut.toNat, by omega⟩
  have hfl : (flatE l).length ≤ 2280 := by have := flatE_len l hall; have := HLN.out; omega
  have hsz : (tx (flatE l)).size = (flatE l).length := tx_size _
  have hsl := slice_to (tx (flatE l)) q (by omega)
  have HTA : Hid (∀ k, (l.take k).all rightE = true) := fun k => by
    rw [List.all_eq_true] at hall ⊢
    exact fun x hx => hall x (List.mem_of_mem_take hx)
  have HPJ : Hid (∀ W k, k ≤ n → Below w.heap.size w W → Calls Tryz.prog 9 #[.slice a k c] W fun e w' => e = .returned (.string (tx (flatE (l.take k)))) ∧ Below W.heap.size W w') := fun W k hk hW => by
    have hlk : (l.take k).length = k := by rw [List.length_take, ← HLN.out]; omega
    have := refPackAll_any a c (l.take k) W ((HR.out.below hW).take k) (fun e he => HF.out e (List.mem_of_mem_take he)) (by omega)
    rw [hlk, packAll_good (HTA.out k)] at this
    exact this
  have HRD : Hid (∀ W m, UptoE l q l.length m → Below w.heap.size w W → Calls Tryz.prog 11 #[.string ((tx (flatE l)).extract 0 q)] W fun r w' => ∃ a c, r = .returned (.tuple #[.slice a m c, .int .i64 ((flatE (l.take m)).length : Int)]) ∧ EvSl w' a (l.take m) ∧ Below W.heap.size W w') := fun W m hu hW => by
    refine (eread_any ((tx (flatE l)).extract 0 q) (by rw [ByteArray.size_extract]; omega) W (HP.out.below hW) (HM.out.below hW)).mono ?_
    rintro r w' ⟨v, l', n', rfl, hr, ho, _, _, h⟩
    have ht : toL ((tx (flatE l)).extract 0 q) = (flatE l).take q := by rw [toL_extract, toL_tx, List.drop_zero]
    rw [ht] at hr
    obtain ⟨rfl, rfl⟩ := hr.only (reads_cut hall hu)
    obtain ⟨a, c, rfl, _, hs2⟩ := own_ev ho
    have hlm : (l.take m).length = m := by rw [List.length_take]; have := hu.1; omega
    exact ⟨a, c, by rw [hlm], hs2, h⟩
  have HOL : Hid (∀ W m a' c', m ≤ n → EvSl W a' (l.take m) → Calls Tryz.prog 13 #[.slice a' m c'] W fun e w' => ∃ a c, e = .returned (.slice a m c) ∧ EvSl w' a (l.take m) ∧ Below W.heap.size W w') := fun W m a' c' hm hs => by
    have hlm : (l.take m).length = m := by rw [List.length_take, ← HLN.out]; omega
    have := eolds_any a' c' (l.take m) W hs (by omega)
    rw [hlm] at this
    refine this.mono ?_
    rintro e w' ⟨v, rfl, ho, hb⟩
    have ho' : w'.ownsRow W.heap.size 29 6 v (l.take m).length (evs (l.take m)) := by rw [hlm]; exact ho
    obtain ⟨a', c', rfl, _, h⟩ := own_ev ho'
    exact ⟨a', c', by rw [hlm], h, hb⟩
  have HSM : Hid (∀ W m a' c', m ≤ n → EvSl W a' (l.take m) → Below w.heap.size w W → Calls Tryz.prog 12 #[.slice a' m c', .slice a m c] W fun e w' => e = .returned (.bool true) ∧ Below W.heap.size W w') := fun W m a' c' hm hs hb => by
    have hlm : (l.take m).length = m := by rw [List.length_take, ← HLN.out]; omega
    have := esame_any a' a c' c (l.take m) (l.take m) W hs ((HR.out.below hb).take m) (by unfold maxLen; omega) (by unfold maxLen; omega)
    rw [hlm, decide_eq_true rfl] at this
    exact this
  have HTL : Hid (∀ k, k ≤ n → (flatE (l.take k)).length ≤ 2280) := fun k hk => by
    have := flatE_len (l.take k) (HTA.out k)
    rw [List.length_take] at this; omega
  have HTS : Hid (∀ k, (tx (flatE (l.take k))).size = (flatE (l.take k)).length) := fun k => tx_size _
  have hqs : (q : Int) ≤ ((tx (flatE l)).size : Int) := by rw [hsz]; exact hcut1
  have hq0 : ¬ (q : Int) < 0 := by omega
  have hnq : ¬ (tx (flatE l)).size < q := by omega
  have hdq : decide ((tx (flatE l)).size < q) = false := decide_eq_false hnq
  have hdq0 : decide ((q : Int) < 0) = false := decide_eq_false hq0
  have hsb : (tx (flatE l)).size ≤ 2280 := by omega
  clear hall hsz hfl hcut1 hne HF HP HM HTA
  generalize tx (flatE l) = s at *
  generalize s.extract 0 q = sq at *
  have HTO := Lib.hid (fun h hc => events_to a n c h hc)
  go_enter Tryz.func5, Tryz.ntmps5
  go_wp2_with fail
  refine HPR.out.mono ?_
  rintro r w1 ⟨rfl, h1⟩
  have HB1 := Lib.hid h1
  clear h1 HPR
  go_wp2
  go_loopw [6, 7, 33] (fun v p i wr => ∃ (j m : Nat), j ≤ n ∧ m ≤ n ∧ i = .int .i64 j ∧ v = .int .i64 m ∧ p = .int .i64 ((flatE (l.take m)).length : Int) ∧ Hid (UptoE l q j m) ∧ Hid (Below w.heap.size w wr)) (fun _ _ i _ => n - (intOf i).toNat)
  case atStart => exact ⟨0, 0, by omega, by omega, rfl, rfl, rfl, UptoE.start l q, HB1.out⟩
  case round =>
    obtain ⟨j, m, hj, hmn, rfl, rfl, rfl, HU, HB⟩ := hrel
    clear HB1
    by_cases hjn : j < n
    · have HC := Lib.hid (HPJ.out wr (j + 1) (by omega) HB.out)
      have hsj : ∀ W, (Instr.slice 22 (.slice a n c) none (some (.int .i64 ((j : Int) + 1))) none).run Tryz.prog W = .ok (.slice a (j + 1) c) W := HTO.out (j + 1) (by omega)
      have hadd : IntKind.i64.wrap ((j : Int) + 1) = (j : Int) + 1 := IntWalk.i64_in _ (by omega)
      have hts := HTS.out (j + 1)
      have htl := HTL.out (j + 1) (by omega)
      have HW1 := Lib.hid (fun h => UptoE.whole (l := l) (cut := q) (j := j) (m := m) h)
      have HW2 := Lib.hid (fun h => HU.out.torn h)
      clear HU HPJ
      generalize tx (flatE (l.take (j + 1))) = t at *
      go_wp2_with fail
      refine (HC.out).mono ?_
      rintro r w2 ⟨rfl, h2⟩
      have HB2 := Lib.hid (HB.out.trans (h2.mono HB.out.size))
      clear h2 HB HC
      by_cases hle : (flatE (l.take (j + 1))).length ≤ q
      · have HU2 := Lib.hid (HW1.out hle)
        rw [← hts] at hle htl
        go_wp2
        go_roundw
        case rel => exact ⟨j + 1, j + 1, by omega, by omega, by go_num, by go_num, rfl, HU2, HB2⟩
        case measure => simp [intOf]; omega
      · have HU2 := Lib.hid (HW2.out (by omega))
        rw [← hts] at hle htl
        go_wp2
        go_roundw
        case rel => exact ⟨j + 1, m, by omega, hmn, by go_num, rfl, rfl, HU2, HB2⟩
        case measure => simp [intOf]; omega
    · obtain rfl : n = j := by omega
      have HU2 : Hid (UptoE l q l.length m) := by rw [← HLN.out]; exact HU.out
      have HRD1 := Lib.hid (HRD.out wr m HU2.out HB.out)
      have hsm := HTO.out m (by omega)
      clear HU HU2 HRD HPJ HTO
      generalize ((flatE (l.take m)).length : Int) = at_ at *
      have hat : (at_ == at_) = true := beq_self_eq_true _
      go_wp2_with fail
      refine (HRD1.out).mono ?_
      rintro r w2 ⟨a2, c2, rfl, hs2, h2⟩
      have HS2 := Lib.hid (hs2.drew)
      have HB2 := Lib.hid ((HB.out.trans (h2.mono HB.out.size)).drew)
      clear hs2 h2 HRD1 HB
      go_wp2_with fail
      refine wp_region_held_drew (S := (fun W => Below w.heap.size w W)) (by kernel_rfl) ?_ (fun hHeld => ?_)
      · exact HB2.out
      refine wpAnyH_ready (rs := [0]) (by kernel_rfl) (by simp) ?_
      refine AllReadyH.cons (o := ⟨some 56, _, _, _, _, _⟩) rfl (fun K hK => ?_) AllReadyH.nil
      go_simp
      refine (HAL.out _ HB2.out).mono ?_
      rintro r v1 ⟨rfl, h1⟩
      have HS3 := Lib.hid (HS2.out.below h1)
      have HB3 := Lib.hid (HB2.out.trans (h1.mono HB2.out.size))
      clear h1 HS2 HB2
      go_wp2_with fail
      refine hK.out _ _ ?_ (fun hH0 => ?_)
      · exact HB3.out
      clear hK K
      (try simp only [Act.put, List.setIfInBounds_toArray, List.set_cons_zero, List.set_cons_succ])
      refine wpAnyH_take (i := 1) (oi := ⟨some 57, _, _, _, _, _⟩) (v := ?_) rfl (by kernel_rfl) (by kernel_rfl) (by kernel_rfl) (fun _ _ _ h => h) (Or.inl ⟨by rfl, ?_⟩) (by assumption) ?_
      rotate_left
      · (intro wS hSw; (try dsimp only at hSw); (go_simp) <;> (with_reducible rfl))
      (try simp only [Act.put, List.setIfInBounds_toArray, List.set_cons_zero, List.set_cons_succ])
      refine wpAnyH_take (i := 2) (oi := ⟨some 58, _, _, _, _, _⟩) (v := ?_) rfl (by kernel_rfl) (by kernel_rfl) (by kernel_rfl) (fun _ _ _ h => h) (Or.inl ⟨by rfl, ?_⟩) (by assumption) ?_
      rotate_left
      · (intro wS hSw; (try dsimp only at hSw); (go_simp) <;> (with_reducible rfl))
      (try simp only [Act.put, List.setIfInBounds_toArray, List.set_cons_zero, List.set_cons_succ])
      refine wpAnyH_take (i := 4) (oi := ⟨some 60, _, _, _, _, _⟩) (v := ?_) rfl (by kernel_rfl) (by kernel_rfl) (by kernel_rfl) (fun _ _ _ h => h) (Or.inl ⟨by rfl, ?_⟩) (by assumption) ?_
      rotate_left
      · (intro wS hSw; (try dsimp only at hSw); (go_simp) <;> (with_reducible rfl))
      (try simp only [Act.put, List.setIfInBounds_toArray, List.set_cons_zero, List.set_cons_succ])
      refine wpAnyH_take (i := 5) (oi := ⟨some 61, _, _, _, _, _⟩) (v := ?_) rfl (by kernel_rfl) (by kernel_rfl) (by kernel_rfl) (fun _ _ _ h => h) (Or.inl ⟨by rfl, ?_⟩) (by assumption) ?_
      rotate_left
      · (intro wS hSw; (try dsimp only at hSw); (go_simp) <;> (with_reducible rfl))
      (try simp only [Act.put, List.setIfInBounds_toArray, List.set_cons_zero, List.set_cons_succ])
      refine wpAnyH_take (i := 6) (oi := ⟨some 62, _, _, _, _, _⟩) (v := ?_) rfl (by kernel_rfl) (by kernel_rfl) (by kernel_rfl) (fun _ _ _ h => h) (Or.inl ⟨by rfl, ?_⟩) (by assumption) ?_
      rotate_left
      · (intro wS hSw; (try dsimp only at hSw); (go_simp) <;> (with_reducible rfl))
      (try simp only [Act.put, List.setIfInBounds_toArray, List.set_cons_zero, List.set_cons_succ])
      refine wpAnyH_ready (rs := [3]) (by kernel_rfl) (by simp) ?_
      refine AllReadyH.cons (o := ⟨some 59, _, _, _, _, _⟩) rfl (fun K hK => ?_) AllReadyH.nil
      go_simp
      refine (HOL.out _ _ _ _ hmn HS3.out).mono ?_
      rintro r v2 ⟨a3, c3, rfl, hs4, h2⟩
      have HS4 := Lib.hid hs4
      have HB4 := Lib.hid (HB3.out.trans (h2.mono HB3.out.size))
      clear h2 hs4 HS3 HB3
      go_wp2_with fail
      refine hK.out _ _ ?_ (fun hH3 => ?_)
      · exact HB4.out
      clear hK K
      (try simp only [Act.put, List.setIfInBounds_toArray, List.set_cons_zero, List.set_cons_succ])
      refine wpAnyH_ready (rs := [7]) (by kernel_rfl) (by simp) ?_
      refine AllReadyH.cons (o := ⟨some 63, _, _, _, _, _⟩) rfl (fun K hK => ?_) AllReadyH.nil
      go_simp
      refine (HSM.out _ _ _ _ hmn HS4.out HB4.out).mono ?_
      rintro r v3 ⟨rfl, h3⟩
      have HB5 := Lib.hid (HB4.out.trans (h3.mono HB4.out.size))
      clear h3 HS4 HB4
      go_wp2_with fail
      refine hK.out _ _ ?_ (fun hH7 => ?_)
      · exact HB5.out
      clear hK K
      (try simp only [Act.put, List.setIfInBounds_toArray, List.set_cons_zero, List.set_cons_succ])
      refine wpAnyH_take (i := 8) (oi := ⟨some 64, _, _, _, _, _⟩) (v := ?_) rfl (by kernel_rfl) (by kernel_rfl) (by kernel_rfl) (fun _ _ _ h => h) (Or.inl ⟨by rfl, ?_⟩) (by assumption) ?_
      rotate_left
      · (intro wS hSw; (try dsimp only at hSw); (go_simp) <;> (with_reducible rfl))
      (try simp only [Act.put, List.setIfInBounds_toArray, List.set_cons_zero, List.set_cons_succ])
      refine wpAnyH_take (i := 9) (oi := ⟨some 65, _, _, _, _, _⟩) (v := ?_) rfl (by kernel_rfl) (by kernel_rfl) (by kernel_rfl) (fun _ _ _ h => h) (Or.inl ⟨by rfl, ?_⟩) (by assumption) ?_
      rotate_left
      · (intro wS hSw; (try dsimp only at hSw); (go_simp) <;> (with_reducible rfl))
      (try simp only [Act.put, List.setIfInBounds_toArray, List.set_cons_zero, List.set_cons_succ])
      refine wpAnyH_take (i := 10) (oi := ⟨some 66, _, _, _, _, _⟩) (v := ?_) rfl (by kernel_rfl) (by kernel_rfl) (by kernel_rfl) (fun _ _ _ h => h) (Or.inl ⟨by rfl, ?_⟩) (by assumption) ?_
      rotate_left
      · (intro wS hSw; (try dsimp only at hSw); (go_simp) <;> (with_reducible rfl))
      (try simp only [Act.put, List.setIfInBounds_toArray, List.set_cons_zero, List.set_cons_succ])
      refine wpAnyH_take (i := 11) (oi := ⟨some 67, _, _, _, _, _⟩) (v := ?_) rfl (by kernel_rfl) (by kernel_rfl) (by kernel_rfl) (fun _ _ _ h => h) (Or.inl ⟨by rfl, ?_⟩) (by assumption) ?_
      rotate_left
      · (intro wS hSw; (try dsimp only at hSw); (go_simp) <;> (with_reducible rfl))
      (try simp only [Act.put, List.setIfInBounds_toArray, List.set_cons_zero, List.set_cons_succ])
      refine wpAnyH_take (i := 12) (oi := ⟨some 68, _, _, _, _, _⟩) (v := ?_) rfl (by kernel_rfl) (by kernel_rfl) (by kernel_rfl) (fun _ _ _ h => h) (Or.inl ⟨by rfl, ?_⟩) (by assumption) ?_
      rotate_left
      · (intro wS hSw; (try dsimp only at hSw); (go_simp) <;> (with_reducible rfl))
      (try simp only [Act.put, List.setIfInBounds_toArray, List.set_cons_zero, List.set_cons_succ])
      refine wpAnyH_take (i := 13) (oi := ⟨some 69, _, _, _, _, _⟩) (v := ?_) rfl (by kernel_rfl) (by kernel_rfl) (by kernel_rfl) (fun _ _ _ h => h) (Or.inl ⟨by rfl, ?_⟩) (by assumption) ?_
      rotate_left
      · (intro wS hSw; (try dsimp only at hSw); (go_simp) <;> (with_reducible rfl))
      (try simp only [Act.put, List.setIfInBounds_toArray, List.set_cons_zero, List.set_cons_succ])
      refine wpAnyH_take (i := 14) (oi := ⟨some 4, _, _, _, _, _⟩) (v := ?_) rfl (by kernel_rfl) (by kernel_rfl) (by kernel_rfl) (fun _ _ _ h => h) (Or.inl ⟨by rfl, ?_⟩) (by assumption) ?_
      rotate_left
      · (intro wS hSw; (try dsimp only at hSw); (go_simp) <;> (with_reducible rfl))
      (try simp only [Act.put, List.setIfInBounds_toArray, List.set_cons_zero, List.set_cons_succ])
      refine wpAnyH_done (by kernel_rfl) ?_ _
      go_wp2
      go_ret
      exact ⟨rfl, HB5.out⟩

theorem contract (H : Type) (enc : TypeId × Value → H) (W : World) (base : Nat) (args : Array Value) (ds gs : List (DataW H)) (before : List MemPlace)
    (hval : ∀ (j : Nat) t v, Tryz.f5.params[j]? = some t → args[j]? = some v → Value.okWide Tryz.prog W .any base t v)
    (hW : DataW.Whole enc Tryz.prog Tryz.f5.params.toList Rows.eventTornSpec.vars false W args.toList ds gs before) (hL : laidMetH Tryz.prog Rows.eventPacksRow.laid W) (hS : W.ShapedOpen Tryz.prog) :
    Calls Tryz.prog 5 args W fun e W' => ∃ v, e = .returned v ∧ Rows.eventTornSpec.post enc Tryz.prog Tryz.f5 false true false false W args v W' := by
  have hW' := hW
  have hlt := hW.lt
  obtain ⟨p, q, hA0, hV, rfl, hfz, hnd⟩ := hW
  have hA : DataW.TrodAll enc Tryz.prog W 0 (fun _ => true) true Tryz.f5.params.toList args.toList ds p := hA0
  rw [Tryz.params5] at hA hval
  obtain ⟨v0, vs0, d0, ds0, p0, q0, hargs, rfl, rfl, h0, r0⟩ := trodAll_cons hA
  obtain ⟨v1, vs1, d1, ds1, p1, q1, rfl, rfl, rfl, h1, r1⟩ := trodAll_cons r0
  obtain ⟨rfl, rfl, rfl⟩ := trodAll_nil r1
  obtain rfl : args = #[v0, v1] := by cases args; simp_all
  obtain ⟨a0, c0, l0, rfl, s0, f0, m0, n0, o0⟩ := open_events (hval 0 22 v0 rfl rfl) h0
  obtain ⟨a1, rfl, e1, -, w1⟩ := open_int Tryz.underlying3 (hval 1 3 v1 rfl rfl) h1
  refine (walk W hS hL a0 c0 l0 s0 f0 m0 n0 o0 a1 w1).mono fun e W' ⟨he, hb⟩ => ?_
  subst he
  exact ⟨_, rfl, law_post rfl hW' (fun ds h => by match ds, h with | [_, _], _ => rfl) (by kernel_rfl) (by kernel_rfl) (by kernel_rfl) hb⟩

set_option maxRecDepth 100000 in
theorem lifted (os : Os) (started : os.Started) (H : Type) (enc : TypeId × Value → H) (F : Stop.Interp) :
    ReturnsInHanded {} Tryz.checked os 5 .any ((OpenSpec.ofChange Rows.eventTornSpec).preRow enc Tryz.prog Tryz.f5 Rows.eventTornRow.domain false Rows.eventPacksRow.laid) (((OpenSpec.ofChange Rows.eventTornSpec).at F).post enc Tryz.prog Tryz.f5 false true false false) := by
  have hx : ∃ places, DataW.whole enc Tryz.prog ((World.laidAll Tryz.prog os Rows.eventPacksRow.laid).forCall (fun _ _ => 0) ⟨#[], #[.slice none 0 0, .int .i64 0], []⟩).memory Tryz.f5.params.toList Rows.eventTornSpec.vars false (#[.slice none 0 0, .int .i64 0] : Array Value).toList 8 = some ([.nil, .lit (.int .i64 0)], [], places) := ⟨[], by kernel_rfl⟩
  obtain ⟨places, hx⟩ := hx
  refine returnsInHanded_of_row (C := Tryz.checked) (s := (OpenSpec.ofChange Rows.eventTornSpec)) own started (by kernel_rfl) Tryz.func5
    (witness_lay (enc := enc) (C := Tryz.checked) false #[.slice none 0 0, .int .i64 0] (World.shaped_of_ZipB (by kernel_rfl) (by kernel_rfl)) (by kernel_rfl)
      (OpenSpec.preRow_of_cond 8 hx (by kernel_rfl) (fun k hk => by cases hk) (by kernel_rfl) (laid_met os _))) ?_
  intro W base args ds gs before hval hW _ hcond _ hL hS _
  exact contract H enc W base args ds gs before hval hW hL hS

theorem said : Rows.EventTornSaid :=
  OpenClaim.holds_of_cond 5 Tryz.f5 rfl rfl rfl rfl rfl rfl rfl ⟨rfl, rfl, rfl, rfl, rfl⟩ rfl rfl rfl rfl rfl (by kernel_rfl) Tryz.func5 (by kernel_rfl)
    (of_decide_eq_true (by kernel_rfl)) (by unfold Func.isWrapper; first | (rw [if_pos (by decide +kernel)]; kernel_rfl) | (rw [if_neg (by decide +kernel)]; exact ⟨rfl, rfl⟩))
    (fun os started H enc _ F => by rw [OpenClaim.pre_eq_preRow]; exact lifted os started H enc F)

theorem plain (f : FuncId) (fn : Func) (hf : Tryz.pinned.checked.prog.funcNamed Rows.eventTornRow.func = some f) (hfn : Tryz.pinned.checked.prog.funcs[f]? = some fn) :
    false = Tryz.pinned.checked.prog.looks [] ∧ ∀ (j : Nat) t, fn.params[j]? = some t → Tryz.pinned.checked.prog.wantsStandIn t = false := by
  obtain rfl : f = 5 := Option.some.inj ((show Tryz.prog.funcNamed Rows.eventTornRow.func = some 5 by kernel_rfl).symm.trans hf) |>.symm
  obtain rfl : fn = Tryz.f5 := (Option.some.inj (Tryz.func5.symm.trans hfn)).symm
  refine ⟨by kernel_rfl, fun j t ht => ?_⟩
  rw [Tryz.params5] at ht
  have hm : t ∈ [22, 3] := by simpa using Array.mem_of_getElem? ht
  have hall : ([22, 3].all fun u => !Tryz.prog.wantsStandIn u) = true := by kernel_rfl
  exact (show Tryz.prog.wantsStandIn t = false by simpa using List.all_eq_true.1 hall t hm)

theorem proved : Rows.EventTornCardSaid :=
  Claim7.holds_tied_plain_at .later [] _ _ _ _ said (fun _ h => by cases h) (by kernel_rfl) (fun _ h => by cases h) eventTorn_row_tie rfl ⟨rfl, rfl⟩ (by kernel_rfl) rfl plain (by kernel_rfl)
end Go.Proofs.YtollhemkjnkalaaGreatDoor.eventTorn
