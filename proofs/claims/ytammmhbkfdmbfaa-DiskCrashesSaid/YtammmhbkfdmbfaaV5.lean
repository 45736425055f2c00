/- DiskCrashes: what is not loose stays, whatever a crash keeps; of what is loose a beginning; nothing is loose behind it, and the disk is not down: for every row of ops and row of numbers. No condition. -/
import Derived.Test.YtammmhbkfdmbfaaU9
import Derived.BigRegion
namespace Go.Proofs.Ytammmhbkfdmbfaa.diskCrashes
open Go.ChangeShapes Go.WideShapes Go.ChangeAt Go.RowKit
open Go.ChangeMaps (open_string shut_string)
set_option linter.unusedVariables false

theorem create_up {d : DiskM} (hd : d.down = false) (hf : d.fuse = -1) (o : OpM) : (doM d o).2 ≠ 50 := by
  have hw : whyM d o = 51 ∨ whyM d o = 52 ∨ whyM d o = 0 := by
    unfold whyM
    split
    · exact .inl rfl
    · split
      · exact .inl rfl
      · split
        · exact .inr (.inl rfl)
        · split
          · exact .inl rfl
          · exact .inr (.inr rfl)
  by_cases h0 : whyM d o = 0
  · rw [doM_next hd h0 (by omega)]
    simp
  · rw [doM_why hd h0]
    simp only
    omega
theorem ext_le (s t : Nm) (n : Nat) (h : n = s.length) : (tx (s ++ t)).extract 0 n = tx s := by
  apply toL_inj
  rw [toL_extract, toL_tx, toL_tx, h]
  simp
set_option maxRecDepth 100000 in
set_option maxHeartbeats 8000000 in
theorem walk (w : World) (a : Option Addr) (c : Nat) (l : List OpM) (hs : OpSl w a l) (hf : FitO l) (hm : l.length ≤ maxLen) (ka : Option Addr) (kc : Nat) (keep : List Int) (hks : Sl w ka (intV keep)) (hkl : keep.length ≤ kc) (hkm : kc ≤ maxLen) :
    Calls Try.prog 5 #[.slice a l.length c, .slice ka keep.length kc] w fun e w' => e = .returned (.bool true) ∧ Below w.heap.size w w' := by
  have HAL := Lib.hid alive_any
  have HFEW := Lib.hid (few_any a c l w hs hm hf)
  have hkk : keep.length ≤ 9223372036854775807 := by unfold maxLen at hkm; omega
  have HKS := Lib.hid hks
  have HKL := Lib.hid hkl
  have HKM := Lib.hid hkm
  have HFB : Hid (fewB l = true → l.length ≤ 60) := fun h => by
    unfold fewB at h; rw [Bool.and_eq_true, decide_eq_true_eq, decide_eq_true_eq] at h; exact h.2
  have HMD : Hid (∀ W, fewB l = true → Below w.heap.size w W → Calls Try.prog 19 #[.int .i64 1000, .slice a l.length c, .slice none 0 0] W fun r w' => ∃ p a' c', r = .returned (.tuple #[.pointer (some ⟨p, 0, none⟩), refV a' c' (runM (newM 1000) l [])]) ∧ Duo (fun _ => False) W w' p (runM (newM 1000) l []) (runM (newM 1000) l []) a') :=
    fun W h hb => made_any W 1000 a c l (hs.below hb) hf (HFB.out h) none 0 [] (Sl.nil _ _) (Nat.le_refl _) (by unfold maxLen; omega)
  have HOK := Lib.hid (runM_ok 1000 l hf [])
  have HLN : Hid (fewB l = true → (runM (newM 1000) l []).L.length ≤ 60) := fun h => Nat.le_trans (runM_len 1000 l []) (HFB.out h)
  obtain ⟨M, hM⟩ : ∃ M, M = keep.length := ⟨_, rfl⟩
  have HM := Lib.hid hM
  rw [← hM] at hkk ⊢
  clear hs hf hm HFB hks hkl hkm hM
  generalize runM (newM 1000) l [] = E at *
  generalize fewB l = FB at *
  generalize l.length = N at *
  go_enter Try.func5, Try.ntmps5
  go_wp2_with fail
  refine (HFEW.out).mono ?_
  rintro e w1 ⟨rfl, hB1⟩
  have HB1 := Lib.hid hB1
  clear hB1 HFEW
  cases FB
  · go_wp2_with fail
    refine (HAL.out _).mono ?_
    rintro e w2 ⟨rfl, hB2⟩
    go_wp2
    go_ret
    exact ⟨rfl, HB1.out.trans (hB2.mono HB1.out.size)⟩
  by_cases h60 : 60 < M
  · go_wp2_with fail
    refine (HAL.out _).mono ?_
    rintro e w2 ⟨rfl, hB2⟩
    go_wp2
    go_ret
    exact ⟨rfl, HB1.out.trans (hB2.mono HB1.out.size)⟩
  have hlen := HLN.out rfl
  go_wp2_with fail
  refine (HMD.out _ trivial HB1.out).mono ?_
  rintro e w2 ⟨p, a2, c2, rfl, hD⟩
  have HD := Lib.hid (fun ob => hD.alloc ob)
  have hbx := Lib.hid (fun ob => heap_alloc_new w2 ob)
  clear hD HMD HLN
  unfold refV
  go_wp2_with fail
  have HD2 := Lib.hid (HD.out (.cells #[.slice a2 E.L.length c2, .int .i64 E.limit, .int .i64 E.fuse, .int .i64 E.ops, .int .i64 E.reads, .bool E.down] 30))
  have HX2 : Hid (BoxD (w2.alloc (.cells #[.slice a2 E.L.length c2, .int .i64 E.limit, .int .i64 E.fuse, .int .i64 E.ops, .int .i64 E.reads, .bool E.down] 30)) w2.heap.size a2 c2 E) := hbx.out _
  clear HD hbx
  generalize w2.heap.size = B at *
  generalize (w2.alloc (.cells #[.slice a2 E.L.length c2, .int .i64 E.limit, .int .i64 E.fuse, .int .i64 E.ops, .int .i64 E.reads, .bool E.down] 30)) = W at *
  have HCR := Lib.hid (HD2.out.crash_ keep ka kc HKL.out HKM.out (by omega) (Sl.below HKS.out HB1.out))
  rw [← HM.out] at HCR
  refine (HCR.out).mono ?_
  rintro e w3 ⟨rfl, d3, rfl, h3, hk3⟩
  have hb3 : BoxD w3 B a2 c2 E := (hk3 B (.inr rfl)).trans HX2.out
  have HBX := Lib.hid (fun W (hb : Below w3.heap.size w3 W) => (cells6 ((hb.block B ((h3.box B (.inr rfl)).2)).trans hb3)).1)
  have HTD := Lib.hid (fun k (hk : k < E.L.length) => crash_told HOK.out keep hk)
  have HAN : Hid (∀ ks, (crashL (crashM E keep).L ks) = (crashM E keep).L) := fun ks => crash_none _ _ (crash_all _ _)
  have hdn : Hid ((crashM E keep).down = false) := rfl
  have hdl : (crashM E keep).L.length = E.L.length := crashL_len _ _
  have HD3 := Lib.hid h3
  clear hb3 h3 hk3 HD2 HX2 HCR
  have HDW := Lib.hid (liv_down HD3.out.liv.drew)
  rw [hdn.out] at HDW
  have HFL := Lib.hid (fun W (hb : Below w3.heap.size w3 W) => liv_files (HD3.out.liv.below hb) (by omega))
  rw [hdl] at HFL
  have HUP : Hid ((crashM E keep).fuse = -1) := rfl
  generalize crashM E keep = D at *
  obtain ⟨Q, hQ⟩ : ∃ Q, Q = E.L.length := ⟨_, rfl⟩
  have HQ := Lib.hid hQ
  rw [← hQ] at HBX HFL hdl hlen
  clear hQ
  go_wp2_with fail
  have HB3 : Hid (Below w3.heap.size w3 w3.drew) := (Below.refl _ _).drew
  refine wp_region_held_drew (S := (fun W => W.cell? ⟨B, 0, none⟩ = some (.slice a2 Q c2))) (by kernel_rfl) ?_ (fun hHeld => ?_)
  · exact (HBX.out _ HB3.out).1
  refine wpAnyH_take (i := 0) (oi := ⟨some 31, _, _, _, _, _⟩) (v := ?_) rfl (by kernel_rfl) (by kernel_rfl) (by kernel_rfl) (fun _ _ _ h => h) (Or.inl ⟨by rfl, ?_⟩) (by assumption) ?_
  rotate_left
  · (intro wS hSw; (try dsimp only at hSw); (go_simp) <;> (with_reducible rfl))
  (try simp only [Act.put, List.setIfInBounds_toArray, List.set_cons_zero, List.set_cons_succ])
  refine wpAnyH_ready (rs := [1]) (by kernel_rfl) (by simp) ?_
  refine AllReadyH.cons (o := ⟨some 32, _, _, _, _, _⟩) rfl (fun K hK => ?_) AllReadyH.nil
  go_simp
  refine (HDW.out).mono ?_
  rintro e w4 ⟨rfl, rfl⟩
  go_wp2_with fail
  refine hK.out _ _ ?_ (fun hH1 => ?_)
  · exact (HBX.out _ HB3.out).1
  clear hK K
  (try simp only [Act.put, List.setIfInBounds_toArray, List.set_cons_zero, List.set_cons_succ])
  refine wpAnyH_take (i := 2) (oi := ⟨some 33, _, _, _, _, _⟩) (v := ?_) rfl (by kernel_rfl) (by kernel_rfl) (by kernel_rfl) (fun _ _ _ h => h) (Or.inl ⟨by rfl, ?_⟩) (by assumption) ?_
  rotate_left
  · (intro wS hSw; (try dsimp only at hSw); (go_simp) <;> (with_reducible rfl))
  (try simp only [Act.put, List.setIfInBounds_toArray, List.set_cons_zero, List.set_cons_succ])
  refine wpAnyH_take (i := 3) (oi := ⟨some 34, _, _, _, _, _⟩) (v := ?_) rfl (by kernel_rfl) (by kernel_rfl) (by kernel_rfl) (fun _ _ _ h => h) (Or.inl ⟨by rfl, ?_⟩) (by assumption) ?_
  rotate_left
  · (intro wS hSw; (try dsimp only at hSw); (go_simp) <;> (with_reducible rfl))
  (try simp only [Act.put, List.setIfInBounds_toArray, List.set_cons_zero, List.set_cons_succ])
  refine wpAnyH_take (i := 6) (oi := ⟨some 37, _, _, _, _, _⟩) (v := ?_) rfl (by kernel_rfl) (by kernel_rfl) (by kernel_rfl) (fun _ _ _ h => h) (Or.inl ⟨by rfl, ?_⟩) (by assumption) ?_
  rotate_left
  · (intro wS hSw; (try dsimp only at hSw); (go_simp) <;> (with_reducible rfl))
  (try simp only [Act.put, List.setIfInBounds_toArray, List.set_cons_zero, List.set_cons_succ])
  refine wpAnyH_take (i := 7) (oi := ⟨some 38, _, _, _, _, _⟩) (v := ?_) rfl (by kernel_rfl) (by kernel_rfl) (by kernel_rfl) (fun _ _ _ h => h) (Or.inl ⟨by rfl, ?_⟩) (by assumption) ?_
  rotate_left
  · (intro wS hSw; (try dsimp only at hSw); (go_simp) <;> (with_reducible rfl))
  (try simp only [Act.put, List.setIfInBounds_toArray, List.set_cons_zero, List.set_cons_succ])
  refine wpAnyH_take (i := 8) (oi := ⟨some 39, _, _, _, _, _⟩) (v := ?_) rfl (by kernel_rfl) (by kernel_rfl) (by kernel_rfl) (fun _ _ _ h => h) (Or.inl ⟨by rfl, ?_⟩) (by assumption) ?_
  rotate_left
  · (intro wS hSw; (try dsimp only at hSw); (go_simp) <;> (with_reducible rfl))
  (try simp only [Act.put, List.setIfInBounds_toArray, List.set_cons_zero, List.set_cons_succ])
  refine wpAnyH_ready (rs := [4]) (by kernel_rfl) (by simp) ?_
  refine AllReadyH.cons (o := ⟨some 35, _, _, _, _, _⟩) rfl (fun K hK => ?_) AllReadyH.nil
  go_simp
  refine (HFL.out _ HB3.out).mono ?_
  rintro e w5 ⟨v, rfl, hown, h5⟩
  obtain ⟨na, nc, rfl, _, _, _, _, _⟩ := own_slice hown
  have HB5 : Hid (Below w3.heap.size w3 w5) := HB3.out.trans (h5.mono HB3.out.size)
  clear h5 hown
  go_wp2_with fail
  refine hK.out _ _ ?_ (fun hH4 => ?_)
  · exact (HBX.out _ HB5.out).1
  clear hK K
  (try simp only [Act.put, List.setIfInBounds_toArray, List.set_cons_zero, List.set_cons_succ])
  refine wpAnyH_take (i := 5) (oi := ⟨some 36, _, _, _, _, _⟩) (v := ?_) rfl (by kernel_rfl) (by kernel_rfl) (by kernel_rfl) (fun _ _ _ h => h) (Or.inl ⟨by rfl, ?_⟩) (by assumption) ?_
  rotate_left
  · (intro wS hSw; (try dsimp only at hSw); (go_simp) <;> (with_reducible rfl))
  (try simp only [Act.put, List.setIfInBounds_toArray, List.set_cons_zero, List.set_cons_succ])
  refine wpAnyH_take (i := 9) (oi := ⟨some 40, _, _, _, _, _⟩) (v := ?_) rfl (by kernel_rfl) (by kernel_rfl) (by kernel_rfl) (fun _ _ _ h => h) (Or.inl ⟨by rfl, ?_⟩) (by assumption) ?_
  rotate_left
  · (intro wS hSw; (try dsimp only at hSw); (go_simp) <;> (with_reducible rfl))
  (try simp only [Act.put, List.setIfInBounds_toArray, List.set_cons_zero, List.set_cons_succ])
  refine wpAnyH_take (i := 10) (oi := ⟨some 41, _, _, _, _, _⟩) (v := ?_) rfl (by kernel_rfl) (by kernel_rfl) (by kernel_rfl) (fun _ _ _ h => h) (Or.inl ⟨by rfl, ?_⟩) (by assumption) ?_
  rotate_left
  · (intro wS hSw; (try dsimp only at hSw); (go_simp) <;> (with_reducible rfl))
  (try simp only [Act.put, List.setIfInBounds_toArray, List.set_cons_zero, List.set_cons_succ])
  refine wpAnyH_done (by kernel_rfl) ?_ _
  all_goals
    obtain ⟨x0, _⟩ := HBX.out _ HB5.out
    go_wp2
  have HD5 := Lib.hid ((HD3.out.below_ HB5.out).mono (Y := fun _ => False) (fun i hi => hi.elim))
  have HDA : Hid (∃ rd, D = { D with reads := rd }) := ⟨D.reads, rfl⟩
  clear x0 HBX HFL HDW HD3
  go_loopw [45] (fun i wr => ∃ (k : Nat) (D' : DiskM), k ≤ Q ∧ i = .int .i64 k ∧ Hid (∃ rd, D' = { D with reads := rd }) ∧ Hid (Duo (fun _ => False) w1 wr p D' E a2)) (fun i _ => Q - (intOf i).toNat)
  case atStart => exact ⟨0, D, by omega, rfl, HDA, HD5⟩
  case round =>
    obtain ⟨k, D', hk, rfl, HRD, HDU⟩ := hrel
    by_cases hlt : k < Q
    · have hkl : k < E.L.length := by have := HQ.out; omega
      obtain ⟨fb, fo, rfl, hfb, c0, c1, c2'⟩ := HDU.out.row.at hkl
      obtain ⟨m, hm, t1, t2, t3⟩ := HTD.out k hkl
      have hDL : D'.L = D.L := by obtain ⟨rd, hrd⟩ := HRD.out; rw [hrd]
      have hDD : D'.down = false := by obtain ⟨rd, hrd⟩ := HRD.out; rw [hrd]; exact hdn.out
      have hnm := right_len (HOK.out.names _ (List.getElem_mem hkl))
      have hfit := HOK.out.fit _ (List.getElem_mem hkl)
      have HBY := Lib.hid (fun ob => (HDU.out.alloc ob).bytes_ E.L[k].name (by omega) hDD)
      have HLO := Lib.hid (fun W (X : Nat → Prop) (D2 : DiskM) (hL : D2.L = D.L) (h : Duo X w1 W p D2 E (some ⟨fb, fo, none⟩)) => liv_looseB (tx E.L[k].name) (by rw [tx_size]; unfold maxLen; omega) h.liv)
      have HLO2 : Hid (∀ W (X : Nat → Prop) (D2 : DiskM), D2.L = D.L → Duo X w1 W p D2 E (some ⟨fb, fo, none⟩) → Calls Try.prog 26 #[pt p, .string (tx E.L[k].name)] W fun e w' => e = .returned (.int .i64 0) ∧ Below W.heap.size W w') := fun W X D2 hL h => by
        have := HLO.out W X D2 hL h
        rw [toL_tx, hL, t2] at this
        exact this
      have HRB := Lib.hid (fun W => refBytes_any E.L[k] ⟨hfit.2.1, hfit.2.2⟩ W)
      unfold fV at HRB
      rw [hDL, t1, t3] at HBY
      have z0 : (tx E.L[k].safe).size = E.L[k].safe.length := tx_size _
      have z1 : (tx E.L[k].bytes).size = E.L[k].safe.length + E.L[k].loose.length := by rw [tx_size]; simp [FileM.bytes]
      have z2 : (tx (E.L[k].safe ++ E.L[k].loose.take m)).size = E.L[k].safe.length + m := by rw [tx_size, List.length_append, List.length_take, Nat.min_eq_left hm]
      have s1 : ∀ W, (Instr.slice 9 (.string (tx (E.L[k].safe ++ E.L[k].loose.take m))) none (some (.int .i64 ((tx E.L[k].safe).size : Int))) none).run Try.prog W = .ok (.string (tx E.L[k].safe)) W := fun W => by
        rw [slice_to _ _ (by omega), ext_le _ _ _ z0]
      have s2 : ∀ W, (Instr.slice 9 (.string (tx E.L[k].bytes)) none (some (.int .i64 ((tx (E.L[k].safe ++ E.L[k].loose.take m)).size : Int))) none).run Try.prog W = .ok (.string (tx (E.L[k].safe ++ E.L[k].loose.take m))) W := fun W => by
        have e : E.L[k].bytes = (E.L[k].safe ++ E.L[k].loose.take m) ++ E.L[k].loose.drop m := by
          rw [List.append_assoc, List.take_append_drop]; rfl
        rw [slice_to _ _ (by omega), e, ext_le _ _ _ (by rw [tx_size])]
      have hl1 : decide (((tx (E.L[k].safe ++ E.L[k].loose.take m)).size : Int) < ((tx E.L[k].safe).size : Int)) = false := decide_eq_false (by omega)
      have hl2 : decide (((tx E.L[k].bytes).size : Int) < ((tx (E.L[k].safe ++ E.L[k].loose.take m)).size : Int)) = false := decide_eq_false (by omega)
      have hl3 : decide ((tx (E.L[k].safe ++ E.L[k].loose.take m)).size < (tx E.L[k].safe).size) = false := decide_eq_false (by omega)
      have hl4 : decide ((tx E.L[k].bytes).size < (tx (E.L[k].safe ++ E.L[k].loose.take m)).size) = false := decide_eq_false (by omega)
      have HCB : Hid (∀ ob, (wr.alloc ob).heap[wr.heap.size]? = some ob) := fun ob => heap_alloc_new _ _
      clear t1 t2 t3 hm hnm hfit HLO z0 z1 z2
      generalize tx (E.L[k].safe ++ E.L[k].loose.take m) = T at *
      generalize tx E.L[k].bytes = fbs at *
      generalize tx E.L[k].name = f0 at *
      generalize tx E.L[k].safe = f1 at *
      generalize tx E.L[k].loose = f2 at *
      go_wp2_with fail
      refine (HBY.out _).mono ?_
      rintro e w6 ⟨rfl, d6, ⟨rd6, hd6⟩, h6, hk6⟩
      have hfc := (hk6 _ (.inr rfl)).trans (HCB.out _)
      have HDU6 := Lib.hid h6
      have HD6L : Hid (d6.L = D.L) := by unfold Hid; first | (rw [hd6]; exact hDL) | (rw [hd6]; done)
      have HRD6 : Hid (∃ rd, d6 = { D with reads := rd }) := by
        obtain ⟨r', hr'⟩ := HRD.out
        exact ⟨rd6, by rw [hd6, hr']⟩
      have HCC := Lib.hid (fun W (hb : Below w6.heap.size w6 W) => (cells3 ((hb.block wr.heap.size (h6.box _ (.inr rfl)).2).trans hfc)).1)
      have HDUW := Lib.hid (fun W (hb : Below w6.heap.size w6 W) => h6.below_ hb)
      clear h6 hk6 hfc HBY HCB hd6 hDL hDD c0 c1 c2'
      generalize wr.heap.size = H at *
      have HB6 : Hid (Below w6.heap.size w6 w6.drew) := (Below.refl _ _).drew
      go_wp2_with fail
      refine wp_region_held_drew (S := (fun W => W.cell? ⟨H, 0, none⟩ = some (.string f0) ∧ W.cell? ⟨H, 1, none⟩ = some (.string f1) ∧ W.cell? ⟨H, 2, none⟩ = some (.string f2))) (by kernel_rfl) ?_ (fun hHeld => ?_)
      · exact HCC.out _ HB6.out
      refine wpAnyH_take (i := 0) (oi := ⟨some 56, _, _, _, _, _⟩) (v := ?_) rfl (by kernel_rfl) (by kernel_rfl) (by kernel_rfl) (fun _ _ _ h => h) (Or.inl ⟨by rfl, ?_⟩) (by assumption) ?_
      rotate_left
      · (intro wS hSw; (try dsimp only at hSw); (go_simp) <;> (with_reducible rfl))
      (try simp only [Act.put, List.setIfInBounds_toArray, List.set_cons_zero, List.set_cons_succ])
      refine wpAnyH_take (i := 1) (oi := ⟨some 57, _, _, _, _, _⟩) (v := ?_) rfl (by kernel_rfl) (by kernel_rfl) (by kernel_rfl) (fun _ _ _ h => h) (Or.inl ⟨by rfl, ?_⟩) (by assumption) ?_
      rotate_left
      · (intro wS hSw; (try dsimp only at hSw); (go_simp) <;> (with_reducible rfl))
      (try simp only [Act.put, List.setIfInBounds_toArray, List.set_cons_zero, List.set_cons_succ])
      refine wpAnyH_take (i := 2) (oi := ⟨some 58, _, _, _, _, _⟩) (v := ?_) rfl (by kernel_rfl) (by kernel_rfl) (by kernel_rfl) (fun _ _ _ h => h) (Or.inl ⟨by rfl, ?_⟩) (by assumption) ?_
      rotate_left
      · (intro wS hSw; (try dsimp only at hSw); (go_simp) <;> (with_reducible rfl))
      (try simp only [Act.put, List.setIfInBounds_toArray, List.set_cons_zero, List.set_cons_succ])
      refine wpAnyH_take (i := 3) (oi := ⟨some 59, _, _, _, _, _⟩) (v := ?_) rfl (by kernel_rfl) (by kernel_rfl) (by kernel_rfl) (fun _ _ _ h => h) (Or.inl ⟨by rfl, ?_⟩) (by assumption) ?_
      rotate_left
      · (intro wS hSw; (try dsimp only at hSw); (go_simp) <;> (with_reducible rfl))
      (try simp only [Act.put, List.setIfInBounds_toArray, List.set_cons_zero, List.set_cons_succ])
      refine wpAnyH_take (i := 4) (oi := ⟨some 60, _, _, _, _, _⟩) (v := ?_) rfl (by kernel_rfl) (by kernel_rfl) (by kernel_rfl) (fun _ _ _ h => h) (Or.inl ⟨by rfl, ?_⟩) (by assumption) ?_
      rotate_left
      · (intro wS hSw; (try dsimp only at hSw); (go_simp) <;> (with_reducible rfl))
      (try simp only [Act.put, List.setIfInBounds_toArray, List.set_cons_zero, List.set_cons_succ])
      refine wpAnyH_take (i := 5) (oi := ⟨some 61, _, _, _, _, _⟩) (v := ?_) rfl (by kernel_rfl) (by kernel_rfl) (by kernel_rfl) (fun _ _ _ h => h) (Or.inl ⟨by rfl, ?_⟩) (by assumption) ?_
      rotate_left
      · (intro wS hSw; (try dsimp only at hSw); (go_simp) <;> (with_reducible rfl))
      (try simp only [Act.put, List.setIfInBounds_toArray, List.set_cons_zero, List.set_cons_succ])
      refine wpAnyH_ready (rs := [6]) (by kernel_rfl) (by simp) ?_
      refine AllReadyH.cons (o := ⟨some 62, _, _, _, _, _⟩) rfl (fun K hK => ?_) AllReadyH.nil
      go_simp
      refine (HLO2.out _ _ _ HD6L.out (HDUW.out _ HB6.out)).mono ?_
      rintro e w7 ⟨rfl, h7⟩
      have HB7 : Hid (Below w6.heap.size w6 w7) := HB6.out.trans (h7.mono HB6.out.size)
      clear h7
      go_wp2_with fail
      refine hK.out _ _ ?_ (fun hH6 => ?_)
      · exact HCC.out _ HB7.out
      clear hK K
      (try simp only [Act.put, List.setIfInBounds_toArray, List.set_cons_zero, List.set_cons_succ])
      refine wpAnyH_take (i := 7) (oi := ⟨some 63, _, _, _, _, _⟩) (v := ?_) rfl (by kernel_rfl) (by kernel_rfl) (by kernel_rfl) (fun _ _ _ h => h) (Or.inl ⟨by rfl, ?_⟩) (by assumption) ?_
      rotate_left
      · (intro wS hSw; (try dsimp only at hSw); (go_simp) <;> (with_reducible rfl))
      (try simp only [Act.put, List.setIfInBounds_toArray, List.set_cons_zero, List.set_cons_succ])
      refine wpAnyH_take (i := 8) (oi := ⟨some 64, _, _, _, _, _⟩) (v := ?_) rfl (by kernel_rfl) (by kernel_rfl) (by kernel_rfl) (fun _ _ _ h => h) (Or.inl ⟨by rfl, ?_⟩) (by assumption) ?_
      rotate_left
      · (intro wS hSw; (try dsimp only at hSw); (go_simp) <;> (with_reducible rfl))
      (try simp only [Act.put, List.setIfInBounds_toArray, List.set_cons_zero, List.set_cons_succ])
      refine wpAnyH_take (i := 9) (oi := ⟨some 65, _, _, _, _, _⟩) (v := ?_) rfl (by kernel_rfl) (by kernel_rfl) (by kernel_rfl) (fun _ _ _ h => h) (Or.inl ⟨by rfl, ?_⟩) (by assumption) ?_
      rotate_left
      · (intro wS hSw; (try dsimp only at hSw); (go_simp) <;> (with_reducible rfl))
      (try simp only [Act.put, List.setIfInBounds_toArray, List.set_cons_zero, List.set_cons_succ])
      refine wpAnyH_take (i := 10) (oi := ⟨some 66, _, _, _, _, _⟩) (v := ?_) rfl (by kernel_rfl) (by kernel_rfl) (by kernel_rfl) (fun _ _ _ h => h) (Or.inl ⟨by rfl, ?_⟩) (by assumption) ?_
      rotate_left
      · (intro wS hSw; (try dsimp only at hSw); (go_simp) <;> (with_reducible rfl))
      (try simp only [Act.put, List.setIfInBounds_toArray, List.set_cons_zero, List.set_cons_succ])
      refine wpAnyH_take (i := 11) (oi := ⟨some 67, _, _, _, _, _⟩) (v := ?_) rfl (by kernel_rfl) (by kernel_rfl) (by kernel_rfl) (fun _ _ _ h => h) (Or.inl ⟨by rfl, ?_⟩) (by assumption) ?_
      rotate_left
      · (intro wS hSw; (try dsimp only at hSw); (go_simp) <;> (with_reducible rfl))
      (try simp only [Act.put, List.setIfInBounds_toArray, List.set_cons_zero, List.set_cons_succ])
      refine wpAnyH_take (i := 12) (oi := ⟨some 68, _, _, _, _, _⟩) (v := ?_) rfl (by kernel_rfl) (by kernel_rfl) (by kernel_rfl) (fun _ _ _ h => h) (Or.inl ⟨by rfl, ?_⟩) (by assumption) ?_
      rotate_left
      · (intro wS hSw; (try dsimp only at hSw); (go_simp) <;> (with_reducible rfl))
      (try simp only [Act.put, List.setIfInBounds_toArray, List.set_cons_zero, List.set_cons_succ])
      refine wpAnyH_take (i := 13) (oi := ⟨some 69, _, _, _, _, _⟩) (v := ?_) rfl (by kernel_rfl) (by kernel_rfl) (by kernel_rfl) (fun _ _ _ h => h) (Or.inl ⟨by rfl, ?_⟩) (by assumption) ?_
      rotate_left
      · (intro wS hSw; (try dsimp only at hSw); (go_simp) <;> (with_reducible rfl))
      (try simp only [Act.put, List.setIfInBounds_toArray, List.set_cons_zero, List.set_cons_succ])
      refine wpAnyH_take (i := 14) (oi := ⟨some 70, _, _, _, _, _⟩) (v := ?_) rfl (by kernel_rfl) (by kernel_rfl) (by kernel_rfl) (fun _ _ _ h => h) (Or.inl ⟨by rfl, ?_⟩) (by assumption) ?_
      rotate_left
      · (intro wS hSw; (try dsimp only at hSw); (go_simp) <;> (with_reducible rfl))
      (try simp only [Act.put, List.setIfInBounds_toArray, List.set_cons_zero, List.set_cons_succ])
      refine wpAnyH_take (i := 15) (oi := ⟨some 71, _, _, _, _, _⟩) (v := ?_) rfl (by kernel_rfl) (by kernel_rfl) (by kernel_rfl) (fun _ _ _ h => h) (Or.inl ⟨by rfl, ?_⟩) (by assumption) ?_
      rotate_left
      · (intro wS hSw; (try dsimp only at hSw); (go_simp) <;> (with_reducible rfl))
      (try simp only [Act.put, List.setIfInBounds_toArray, List.set_cons_zero, List.set_cons_succ])
      refine wpAnyH_take (i := 16) (oi := ⟨some 72, _, _, _, _, _⟩) (v := ?_) rfl (by kernel_rfl) (by kernel_rfl) (by kernel_rfl) (fun _ _ _ h => h) (Or.inl ⟨by rfl, ?_⟩) (by assumption) ?_
      rotate_left
      · (intro wS hSw; (try dsimp only at hSw); (go_simp) <;> (with_reducible rfl))
      (try simp only [Act.put, List.setIfInBounds_toArray, List.set_cons_zero, List.set_cons_succ])
      refine wpAnyH_take (i := 17) (oi := ⟨some 73, _, _, _, _, _⟩) (v := ?_) rfl (by kernel_rfl) (by kernel_rfl) (by kernel_rfl) (fun _ _ _ h => h) (Or.inl ⟨by rfl, ?_⟩) (by assumption) ?_
      rotate_left
      · (intro wS hSw; (try dsimp only at hSw); (go_simp) <;> (with_reducible rfl))
      (try simp only [Act.put, List.setIfInBounds_toArray, List.set_cons_zero, List.set_cons_succ])
      refine wpAnyH_take (i := 18) (oi := ⟨some 74, _, _, _, _, _⟩) (v := ?_) rfl (by kernel_rfl) (by kernel_rfl) (by kernel_rfl) (fun _ _ _ h => h) (Or.inl ⟨by rfl, ?_⟩) (by assumption) ?_
      rotate_left
      · (intro wS hSw; (try dsimp only at hSw); (go_simp) <;> (with_reducible rfl))
      (try simp only [Act.put, List.setIfInBounds_toArray, List.set_cons_zero, List.set_cons_succ])
      refine wpAnyH_take (i := 19) (oi := ⟨some 75, _, _, _, _, _⟩) (v := ?_) rfl (by kernel_rfl) (by kernel_rfl) (by kernel_rfl) (fun _ _ _ h => h) (Or.inl ⟨by rfl, ?_⟩) (by assumption) ?_
      rotate_left
      · (intro wS hSw; (try dsimp only at hSw); (go_simp) <;> (with_reducible rfl))
      (try simp only [Act.put, List.setIfInBounds_toArray, List.set_cons_zero, List.set_cons_succ])
      refine wpAnyH_take (i := 20) (oi := ⟨some 76, _, _, _, _, _⟩) (v := ?_) rfl (by kernel_rfl) (by kernel_rfl) (by kernel_rfl) (fun _ _ _ h => h) (Or.inl ⟨by rfl, ?_⟩) (by assumption) ?_
      rotate_left
      · (intro wS hSw; (try dsimp only at hSw); (go_simp) <;> (with_reducible rfl))
      (try simp only [Act.put, List.setIfInBounds_toArray, List.set_cons_zero, List.set_cons_succ])
      refine wpAnyH_take (i := 21) (oi := ⟨some 77, _, _, _, _, _⟩) (v := ?_) rfl (by kernel_rfl) (by kernel_rfl) (by kernel_rfl) (fun _ _ _ h => h) (Or.inl ⟨by rfl, ?_⟩) (by assumption) ?_
      rotate_left
      · (intro wS hSw; (try dsimp only at hSw); (go_simp) <;> (with_reducible rfl))
      (try simp only [Act.put, List.setIfInBounds_toArray, List.set_cons_zero, List.set_cons_succ])
      refine wpAnyH_take (i := 22) (oi := ⟨some 78, _, _, _, _, _⟩) (v := ?_) rfl (by kernel_rfl) (by kernel_rfl) (by kernel_rfl) (fun _ _ _ h => h) (Or.inl ⟨by rfl, ?_⟩) (by assumption) ?_
      rotate_left
      · (intro wS hSw; (try dsimp only at hSw); (go_simp) <;> (with_reducible rfl))
      (try simp only [Act.put, List.setIfInBounds_toArray, List.set_cons_zero, List.set_cons_succ])
      refine wpAnyH_take (i := 23) (oi := ⟨some 79, _, _, _, _, _⟩) (v := ?_) rfl (by kernel_rfl) (by kernel_rfl) (by kernel_rfl) (fun _ _ _ h => h) (Or.inl ⟨by rfl, ?_⟩) (by assumption) ?_
      rotate_left
      · (intro wS hSw; (try dsimp only at hSw); (go_simp) <;> (with_reducible rfl))
      (try simp only [Act.put, List.setIfInBounds_toArray, List.set_cons_zero, List.set_cons_succ])
      refine wpAnyH_take (i := 24) (oi := ⟨some 80, _, _, _, _, _⟩) (v := ?_) rfl (by kernel_rfl) (by kernel_rfl) (by kernel_rfl) (fun _ _ _ h => h) (Or.inl ⟨by rfl, ?_⟩) (by assumption) ?_
      rotate_left
      · (intro wS hSw; (try dsimp only at hSw); (go_simp) <;> (with_reducible rfl))
      (try simp only [Act.put, List.setIfInBounds_toArray, List.set_cons_zero, List.set_cons_succ])
      refine wpAnyH_take (i := 25) (oi := ⟨some 81, _, _, _, _, _⟩) (v := ?_) rfl (by kernel_rfl) (by kernel_rfl) (by kernel_rfl) (fun _ _ _ h => h) (Or.inl ⟨by rfl, ?_⟩) (by assumption) ?_
      rotate_left
      · (intro wS hSw; (try dsimp only at hSw); (go_simp) <;> (with_reducible rfl))
      (try simp only [Act.put, List.setIfInBounds_toArray, List.set_cons_zero, List.set_cons_succ])
      refine wpAnyH_take (i := 26) (oi := ⟨some 82, _, _, _, _, _⟩) (v := ?_) rfl (by kernel_rfl) (by kernel_rfl) (by kernel_rfl) (fun _ _ _ h => h) (Or.inl ⟨by rfl, ?_⟩) (by assumption) ?_
      rotate_left
      · (intro wS hSw; (try dsimp only at hSw); (go_simp) <;> (with_reducible rfl))
      (try simp only [Act.put, List.setIfInBounds_toArray, List.set_cons_zero, List.set_cons_succ])
      refine wpAnyH_take (i := 27) (oi := ⟨some 83, _, _, _, _, _⟩) (v := ?_) rfl (by kernel_rfl) (by kernel_rfl) (by kernel_rfl) (fun _ _ _ h => h) (Or.inl ⟨by rfl, ?_⟩) (by assumption) ?_
      rotate_left
      · (intro wS hSw; (try dsimp only at hSw); (go_simp) <;> (with_reducible rfl))
      (try simp only [Act.put, List.setIfInBounds_toArray, List.set_cons_zero, List.set_cons_succ])
      refine wpAnyH_take (i := 28) (oi := ⟨some 84, _, _, _, _, _⟩) (v := ?_) rfl (by kernel_rfl) (by kernel_rfl) (by kernel_rfl) (fun _ _ _ h => h) (Or.inl ⟨by rfl, ?_⟩) (by assumption) ?_
      rotate_left
      · (intro wS hSw; (try dsimp only at hSw); (go_simp) <;> (with_reducible rfl))
      (try simp only [Act.put, List.setIfInBounds_toArray, List.set_cons_zero, List.set_cons_succ])
      refine wpAnyH_take (i := 29) (oi := ⟨some 85, _, _, _, _, _⟩) (v := ?_) rfl (by kernel_rfl) (by kernel_rfl) (by kernel_rfl) (fun _ _ _ h => h) (Or.inl ⟨by rfl, ?_⟩) (by assumption) ?_
      rotate_left
      · (intro wS hSw; (try dsimp only at hSw); (go_simp) <;> (with_reducible rfl))
      (try simp only [Act.put, List.setIfInBounds_toArray, List.set_cons_zero, List.set_cons_succ])
      refine wpAnyH_take (i := 30) (oi := ⟨some 86, _, _, _, _, _⟩) (v := ?_) rfl (by kernel_rfl) (by kernel_rfl) (by kernel_rfl) (fun _ _ _ h => h) (Or.inl ⟨by rfl, ?_⟩) (by assumption) ?_
      rotate_left
      · (intro wS hSw; (try dsimp only at hSw); (go_simp) <;> (with_reducible rfl))
      (try simp only [Act.put, List.setIfInBounds_toArray, List.set_cons_zero, List.set_cons_succ])
      refine wpAnyH_ready (rs := [31]) (by kernel_rfl) (by simp) ?_
      refine AllReadyH.cons (o := ⟨some 87, _, _, _, _, _⟩) rfl (fun K hK => ?_) AllReadyH.nil
      go_simp
      refine (HRB.out _).mono ?_
      rintro e w8 ⟨rfl, h8⟩
      have HB8 : Hid (Below w6.heap.size w6 w8) := HB7.out.trans (h8.mono HB7.out.size)
      clear h8
      go_wp2_with fail
      refine hK.out _ _ ?_ (fun hH31 => ?_)
      · exact HCC.out _ HB8.out
      clear hK K
      (try simp only [Act.put, List.setIfInBounds_toArray, List.set_cons_zero, List.set_cons_succ])
      refine wpAnyH_take (i := 32) (oi := ⟨some 88, _, _, _, _, _⟩) (v := ?_) rfl (by kernel_rfl) (by kernel_rfl) (by kernel_rfl) (fun _ _ _ h => h) (Or.inl ⟨by rfl, ?_⟩) (by assumption) ?_
      rotate_left
      · (intro wS hSw; (try dsimp only at hSw); (go_simp) <;> (with_reducible rfl))
      (try simp only [Act.put, List.setIfInBounds_toArray, List.set_cons_zero, List.set_cons_succ])
      refine wpAnyH_take (i := 33) (oi := ⟨some 89, _, _, _, _, _⟩) (v := ?_) rfl (by kernel_rfl) (by kernel_rfl) (by kernel_rfl) (fun _ _ _ h => h) (Or.inl ⟨by rfl, ?_⟩) (by assumption) ?_
      rotate_left
      · (intro wS hSw; (try dsimp only at hSw); (go_simp) <;> (with_reducible rfl))
      (try simp only [Act.put, List.setIfInBounds_toArray, List.set_cons_zero, List.set_cons_succ])
      refine wpAnyH_take (i := 34) (oi := ⟨some 90, _, _, _, _, _⟩) (v := ?_) rfl (by kernel_rfl) (by kernel_rfl) (by kernel_rfl) (fun _ _ _ h => h) (Or.inl ⟨by rfl, ?_⟩) (by assumption) ?_
      rotate_left
      · (intro wS hSw; (try dsimp only at hSw); (go_simp) <;> (with_reducible rfl))
      (try simp only [Act.put, List.setIfInBounds_toArray, List.set_cons_zero, List.set_cons_succ])
      refine wpAnyH_take (i := 35) (oi := ⟨some 91, _, _, _, _, _⟩) (v := ?_) rfl (by kernel_rfl) (by kernel_rfl) (by kernel_rfl) (fun _ _ _ h => h) (Or.inl ⟨by rfl, ?_⟩) (by assumption) ?_
      rotate_left
      · (intro wS hSw; (try dsimp only at hSw); (go_simp) <;> (with_reducible rfl))
      (try simp only [Act.put, List.setIfInBounds_toArray, List.set_cons_zero, List.set_cons_succ])
      refine wpAnyH_take (i := 36) (oi := ⟨some 92, _, _, _, _, _⟩) (v := ?_) rfl (by kernel_rfl) (by kernel_rfl) (by kernel_rfl) (fun _ _ _ h => h) (Or.inl ⟨by rfl, ?_⟩) (by assumption) ?_
      rotate_left
      · (intro wS hSw; (try dsimp only at hSw); (go_simp) <;> (with_reducible rfl))
      (try simp only [Act.put, List.setIfInBounds_toArray, List.set_cons_zero, List.set_cons_succ])
      refine wpAnyH_take (i := 38) (oi := ⟨some 94, _, _, _, _, _⟩) (v := ?_) rfl (by kernel_rfl) (by kernel_rfl) (by kernel_rfl) (fun _ _ _ h => h) (Or.inl ⟨by rfl, ?_⟩) (by assumption) ?_
      rotate_left
      · (intro wS hSw; (try dsimp only at hSw); (go_simp) <;> (with_reducible rfl))
      (try simp only [Act.put, List.setIfInBounds_toArray, List.set_cons_zero, List.set_cons_succ])
      refine wpAnyH_take (i := 39) (oi := ⟨some 95, _, _, _, _, _⟩) (v := ?_) rfl (by kernel_rfl) (by kernel_rfl) (by kernel_rfl) (fun _ _ _ h => h) (Or.inl ⟨by rfl, ?_⟩) (by assumption) ?_
      rotate_left
      · (intro wS hSw; (try dsimp only at hSw); (go_simp) <;> (with_reducible rfl))
      (try simp only [Act.put, List.setIfInBounds_toArray, List.set_cons_zero, List.set_cons_succ])
      refine wpAnyH_take (i := 41) (oi := ⟨some 97, _, _, _, _, _⟩) (v := ?_) rfl (by kernel_rfl) (by kernel_rfl) (by kernel_rfl) (fun _ _ _ h => h) (Or.inl ⟨by rfl, ?_⟩) (by assumption) ?_
      rotate_left
      · (intro wS hSw; (try dsimp only at hSw); (go_simp) <;> (with_reducible rfl))
      (try simp only [Act.put, List.setIfInBounds_toArray, List.set_cons_zero, List.set_cons_succ])
      refine wpAnyH_ready (rs := [37]) (by kernel_rfl) (by simp) ?_
      refine AllReadyH.cons (o := ⟨some 93, _, _, _, _, _⟩) rfl (fun K hK => ?_) AllReadyH.nil
      go_simp
      refine (HRB.out _).mono ?_
      rintro e w9 ⟨rfl, h9⟩
      have HB9 : Hid (Below w6.heap.size w6 w9) := HB8.out.trans (h9.mono HB8.out.size)
      clear h9
      go_wp2_with fail
      refine hK.out _ _ ?_ (fun hH37 => ?_)
      · exact HCC.out _ HB9.out
      clear hK K
      (try simp only [Act.put, List.setIfInBounds_toArray, List.set_cons_zero, List.set_cons_succ])
      refine wpAnyH_take (i := 40) (oi := ⟨some 96, _, _, _, _, _⟩) (v := ?_) rfl (by kernel_rfl) (by kernel_rfl) (by kernel_rfl) (fun _ _ _ h => h) (Or.inl ⟨by rfl, ?_⟩) (by assumption) ?_
      rotate_left
      · (intro wS hSw; (try dsimp only at hSw); (go_simp) <;> (with_reducible rfl))
      (try simp only [Act.put, List.setIfInBounds_toArray, List.set_cons_zero, List.set_cons_succ])
      refine wpAnyH_take (i := 42) (oi := ⟨some 98, _, _, _, _, _⟩) (v := ?_) rfl (by kernel_rfl) (by kernel_rfl) (by kernel_rfl) (fun _ _ _ h => h) (Or.inl ⟨by rfl, ?_⟩) (by assumption) ?_
      rotate_left
      · (intro wS hSw; (try dsimp only at hSw); (go_simp) <;> (with_reducible rfl))
      (try simp only [Act.put, List.setIfInBounds_toArray, List.set_cons_zero, List.set_cons_succ])
      refine wpAnyH_take (i := 43) (oi := ⟨some 99, _, _, _, _, _⟩) (v := ?_) rfl (by kernel_rfl) (by kernel_rfl) (by kernel_rfl) (fun _ _ _ h => h) (Or.inl ⟨by rfl, ?_⟩) (by assumption) ?_
      rotate_left
      · (intro wS hSw; (try dsimp only at hSw); (go_simp) <;> (with_reducible rfl))
      (try simp only [Act.put, List.setIfInBounds_toArray, List.set_cons_zero, List.set_cons_succ])
      refine wpAnyH_done (by kernel_rfl) ?_ _
      all_goals
        go_wp2
        go_roundw
        case rel => exact ⟨k + 1, d6, by omega, by go_num, HRD6, Lib.hid ((HDUW.out _ HB9.out).mono (fun i hi => hi.elim))⟩
        case measure => simp [intOf]; omega
    · obtain rfl : k = Q := by omega
      have hDL : D'.L = D.L := by obtain ⟨rd, hrd⟩ := HRD.out; rw [hrd]
      have HU1 := Lib.hid (liv_used HDU.out.liv)
      have HC2 := Lib.hid (fun g (hg : g = wr.heap.size) => liv_crash_lit [0, 0, 0] HDU.out.liv (by rw [hDL]; omega) (by unfold maxLen; decide) #[.int .i64 0, .int .i64 0, .int .i64 0] rfl 3 g 3 hg rfl)
      have HCL : Hid ((crashM D' [0, 0, 0]).L = D.L) := by show crashL D'.L _ = _; rw [hDL]; exact HAN.out _
      have HCD : Hid ((crashM D' [0, 0, 0]).down = false ∧ (crashM D' [0, 0, 0]).fuse = -1) := ⟨rfl, rfl⟩
      rw [hDL] at HU1
      have HBW : Hid (∀ W d, Liv (NewK w1) w1 W p d → Below w.heap.size w W) := fun W d h => HB1.out.trans ((h.frame (Nat.le_refl _) (fun i hi hk => by unfold NewK at hk; omega)).mono HB1.out.size)
      clear HDU HRD hDL HAN
      generalize crashM D' [0, 0, 0] = D2 at *
      go_wp2_with fail
      refine (HU1.out).mono ?_
      rintro e w6 ⟨rfl, rfl⟩
      go_wp2_with fail
      refine (HC2.out _ rfl).mono ?_
      rintro e w7 ⟨rfl, h7⟩
      have HL7 := Lib.hid h7
      clear h7 HC2
      go_wp2_with fail
      refine (HAL.out _).mono ?_
      rintro e w8 ⟨rfl, h8⟩
      have HL8 := Lib.hid (HL7.out.below h8)
      have HU2 := Lib.hid (liv_used HL8.out)
      rw [HCL.out] at HU2
      have HCT := Lib.hid (liv_create ⟨#[122, 122, 57]⟩ (by decide) ⟨0, [122, 122, 57], [], 0⟩ rfl rfl HL8.out (by rw [HCL.out]; omega))
      have hcu : ((doM D2 ⟨0, [122, 122, 57], [], 0⟩).2 == 50) = false := by
        have := create_up HCD.out.1 HCD.out.2 ⟨0, [122, 122, 57], [], 0⟩
        simpa using this
      have hcn : ¬ (doM D2 ⟨0, [122, 122, 57], [], 0⟩).2 = 50 := create_up HCD.out.1 HCD.out.2 _
      clear h8 HL7
      generalize doM D2 ⟨0, [122, 122, 57], [], 0⟩ = R at *
      go_wp2_with fail
      refine (HU2.out).mono ?_
      rintro e w9 ⟨rfl, rfl⟩
      go_wp2_with fail
      refine (HCT.out).mono ?_
      rintro e w10 ⟨rfl, h10⟩
      go_wp2
      go_ret
      exact ⟨retB (by simp [hcn]), HBW.out _ _ h10⟩

set_option maxRecDepth 100000 in
theorem lifted (os : Os) (started : os.Started) (H : Type) (enc : TypeId × Value → H) :
    ReturnsInHanded {} Try.checked os 5 .any (Rows.diskCrashesSpec.pre6 enc Try.prog Try.f5 Rows.diskCrashesRow.domain false) (Rows.diskCrashesSpec.post enc Try.prog Try.f5 false true false false) := by
  refine returnsInHanded_of_change_sized (C := Try.checked) own started (by kernel_rfl) Try.func5
    (ChangeSpec.witness6 (enc := enc) (C := Try.checked) false ⟨#[], #[.slice none 0 0, .slice none 0 0], []⟩ 8 (by kernel_rfl) (by kernel_rfl) (by kernel_rfl) (by kernel_rfl)) ?_
  intro W base args ds gs before hval0 hW hcnd hsz0 _
  have hval : ∀ (j : Nat) t v, Try.f5.params[j]? = some t → args[j]? = some v → Value.okWide Try.prog W .any base t v := hval0
  have hW' := hW
  have hlt := hW.lt
  obtain ⟨p, q, hA0, hV, rfl, hfz, hnd⟩ := hW
  have hA : DataW.TrodAll enc Try.prog W 0 (fun _ => true) true Try.f5.params.toList args.toList ds p := hA0
  rw [Try.params5] at hA hval
  obtain ⟨v0, vs0, d0, ds0, p0, q0, hargs, rfl, rfl, h0, r0⟩ := trodAll_cons hA
  obtain ⟨v1, vs1, d1, ds1, p1, q1, rfl, rfl, rfl, h1, r1⟩ := trodAll_cons r0
  obtain ⟨rfl, rfl, rfl⟩ := trodAll_nil r1
  obtain rfl : args = #[v0, v1] := by cases args; simp_all
  obtain ⟨rfl, rfl⟩ := trodVars_none hV
  obtain ⟨a0, c0, l0, rfl, s0, f0, m0⟩ := open_ops (hval 0 22 v0 rfl rfl) h0 (fun n hn => of_decide_eq_true (List.all_eq_true.1 hsz0 n (DataW.weights_mem_each (j := 0) (t := 22) (by kernel_rfl) rfl n hn)))
  obtain ⟨a1, c1, l1, rfl, s1, m1, n1⟩ := open_nums (hval 1 23 v1 rfl rfl) h1
  refine (walk W a0 c0 l0 s0 f0 m0 a1 c1 l1 s1 m1 n1).mono fun e W' ⟨he, hb⟩ => ?_
  subst he
  exact ⟨_, rfl, law_post rfl hW' (fun ds h => by match ds, h with | [_, _], _ => rfl) (by kernel_rfl) (by kernel_rfl) (by kernel_rfl) hb⟩

theorem over : Rows.diskCrashesRow.holds Try.pinned (OpenSpec.ofChange Rows.diskCrashesSpec) :=
  OpenClaim.holds_of_wide 5 Try.f5 rfl rfl rfl rfl rfl rfl rfl ⟨rfl, rfl, rfl, rfl, rfl⟩ rfl rfl rfl rfl rfl (by kernel_rfl) Try.func5 (by kernel_rfl)
    (of_decide_eq_true (by kernel_rfl)) (by unfold Func.isWrapper; first | (rw [if_pos (by decide +kernel)]; kernel_rfl) | (rw [if_neg (by decide +kernel)]; exact ⟨rfl, rfl⟩))
    (fun os started H enc _ => lifted os started H enc)

theorem proved : Rows.DiskCrashesSaid := over
end Go.Proofs.Ytammmhbkfdmbfaa.diskCrashes
