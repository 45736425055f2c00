/- DiskAll: each op, read, fuse and crash of any script leaves just the disk, and tells just the error, that the document says: for every limit, row of ops and row of numbers. No condition. -/
import Derived.Test.YtammmhbkfdmbfaaU10
import Derived.BigRegion
namespace Go.Proofs.Ytammmhbkfdmbfaa.diskAll
open Go.ChangeShapes Go.WideShapes Go.ChangeAt Go.RowKit
open Go.ChangeMaps (open_string shut_string)
set_option linter.unusedVariables false

set_option maxRecDepth 100000 in
set_option maxHeartbeats 8000000 in
theorem walk (w : World) (n : Int) (hn : (Lit.int .i64 n).wf = true) (a : Option Addr) (c : Nat) (l : List OpM) (hs : OpSl w a l) (hf : FitO l) (hm : l.length ≤ maxLen) (ka : Option Addr) (kc : Nat) (keep : List Int) (hks : Sl w ka (intV keep)) (hkl : keep.length ≤ kc) (hkm : kc ≤ maxLen) :
    Calls Try.prog 3 #[.int .i64 n, .slice a l.length c, .slice ka keep.length kc] w fun e w' => e = .returned (.bool true) ∧ Below w.heap.size w w' := by
  have HAL := Lib.hid alive_any
  have HFEW := Lib.hid (few_any a c l w hs hm hf)
  have HS := Lib.hid hs
  have HF := Lib.hid hf
  have HKS := Lib.hid hks
  have HKL := Lib.hid hkl
  have hkk : keep.length ≤ 9223372036854775807 := by unfold maxLen at hkm; omega
  have HKM := Lib.hid hkm
  have HFB : Hid (fewB l = true → l.length ≤ 60) := fun h => by
    unfold fewB at h; rw [Bool.and_eq_true, decide_eq_true_eq, decide_eq_true_eq] at h; exact h.2
  have HNEW : Hid (∀ W, Calls Try.prog 13 #[.int .i64 n] W fun r w1 => ∃ p, r = .returned (.pointer (some ⟨p, 0, none⟩)) ∧ Calls Try.prog 14 #[.int .i64 n] w1 fun r w' => ∃ a c, r = .returned (refV a c (newM n)) ∧ Duo (fun _ => False) W w' p (newM n) (newM n) a ∧ Below w1.heap.size w1 w') := fun W => duo_new n W
  have HRL : Hid ((newM n).L.length ≤ 0) := Nat.le_refl _
  obtain ⟨N, hN⟩ : ∃ N, N = l.length := ⟨_, rfl⟩
  have HN := Lib.hid hN
  obtain ⟨M, hM⟩ : ∃ M, M = keep.length := ⟨_, rfl⟩
  have HM := Lib.hid hM
  rw [← hN] at HFB HFEW ⊢
  rw [← hM] at hkk ⊢
  clear hN hM hs hf hks hkl hkm hm hn
  generalize newM n = D0 at *
  generalize fewB l = FB at *
  go_enter Try.func3, Try.ntmps3
  go_wp2_with fail
  refine (HFEW.out).mono ?_
  rintro e w1 ⟨rfl, hB1⟩
  have HB1 := Lib.hid hB1
  clear hB1 HFEW
  cases FB
  · go_wp2_with fail
    refine (HAL.out _).mono ?_
    rintro e w2 ⟨rfl, hB2⟩
    go_wp2
    go_ret
    exact ⟨rfl, HB1.out.trans (hB2.mono HB1.out.size)⟩
  by_cases h60 : 60 < M
  · go_wp2_with fail
    refine (HAL.out _).mono ?_
    rintro e w2 ⟨rfl, hB2⟩
    go_wp2
    go_ret
    exact ⟨rfl, HB1.out.trans (hB2.mono HB1.out.size)⟩
  have hN60 := HFB.out rfl
  go_wp2_with fail
  refine (HNEW.out _).mono ?_
  rintro e w2 ⟨p, rfl, HC1⟩
  go_wp2_with fail
  refine HC1.mono ?_
  rintro e w3 ⟨a0, c0, rfl, hD, _⟩
  have HD := Lib.hid (fun ob => (hD.alloc ob).mono (Y := fun i => i = w3.heap.size) (fun i hi => .inr hi))
  have hbx := Lib.hid (fun ob => heap_alloc_new w3 ob)
  clear hD HC1 HNEW
  unfold refV
  go_wp2_with fail
  have HD3 := Lib.hid (HD.out (.cells #[.slice a0 D0.L.length c0, .int .i64 D0.limit, .int .i64 D0.fuse, .int .i64 D0.ops, .int .i64 D0.reads, .bool D0.down] 30))
  have HX3 : Hid (BoxD (w3.alloc (.cells #[.slice a0 D0.L.length c0, .int .i64 D0.limit, .int .i64 D0.fuse, .int .i64 D0.ops, .int .i64 D0.reads, .bool D0.down] 30)) w3.heap.size a0 c0 D0) := hbx.out _
  clear HD hbx
  generalize w3.heap.size = B at *
  generalize (w3.alloc (.cells #[.slice a0 D0.L.length c0, .int .i64 D0.limit, .int .i64 D0.fuse, .int .i64 D0.ops, .int .i64 D0.reads, .bool D0.down] 30)) = W3 at *
  have HSM := Lib.hid (same_any W3 c0 HD3.out (by have := HRL.out; omega))
  unfold refV at HSM
  refine (HSM.out).mono ?_
  rintro e w4 ⟨rfl, h4, hk4⟩
  have HD4 := Lib.hid h4
  have HX4 : Hid (BoxD w4 B a0 c0 D0) := (hk4 B rfl).trans HX3.out
  clear h4 hk4 HX3 HD3 HSM
  go_wp2
  go_loopw [36] (fun i wr => ∃ (k : Nat) (D : DiskM) (a1 : Option Addr) (c1 : Nat), k ≤ N ∧ i = .int .i64 k ∧ Hid (D.L.length ≤ k) ∧ Hid (Duo (fun i => i = B) w1 wr p D D a1) ∧ Hid (BoxD wr B a1 c1 D)) (fun i _ => N - (intOf i).toNat)
  case atStart => exact ⟨0, D0, a0, c0, by omega, rfl, HRL, HD4, HX4⟩
  case round =>
    obtain ⟨k, D, a1, c1, hk, rfl, HDL, HDU, HBX⟩ := hrel
    by_cases hlt : k < N
    · have hkl : k < l.length := by have := HN.out; omega
      obtain ⟨b, off, rfl, hbl, hc0, hc1, hc2, hc3⟩ := ((HS.out.below HB1.out).below HDU.out.below).at hkl
      obtain ⟨f1, f2, f3⟩ := HF.out _ (List.getElem_mem hkl)
      have hlen : D.L.length ≤ 1000000 := by have := HDL.out; omega
      have HDS := Lib.hid (fun ob => (HDU.out.alloc ob).does_ c1 l[k] f1 f2 f3 keep ka kc HKL.out HKM.out hlen (Sl.below HKS.out HB1.out))
      have HDO := Lib.hid (fun W X e2 a2 (h : Duo X w1 W p D e2 a2) => h.do_ l[k] (by unfold maxLen; omega) (by unfold maxLen; omega) f3 keep ka kc HKL.out HKM.out hlen (Sl.below HKS.out HB1.out))
      rw [← HM.out] at HDO HDS
      have HST := Lib.hid (step_len D l[k] keep)
      have HOV : Hid (opV l[k] = .agg #[.int .i64 l[k].kind, .string (tx l[k].a), .string (tx l[k].b), .int .i64 l[k].n]) := rfl
      rw [HOV.out] at HDO HDS
      clear f1 f2 f3 HOV hlen
      generalize (stepM D l[k] keep) = ST at *
      generalize l[k].kind = v0 at *
      generalize tx l[k].a = v1 at *
      generalize tx l[k].b = v2 at *
      generalize l[k].n = v3 at *
      have hGr : B < wr.heap.size := (HDU.out.box B rfl).2
      have HG1 : Hid (∀ ob, BoxD (wr.alloc ob) B a1 c1 D) := fun ob => (Below.heap_alloc _ _ _ hGr).trans HBX.out
      have HOB : Hid (∀ ob, (wr.alloc ob).heap[wr.heap.size]? = some ob) := fun ob => heap_alloc_new _ _
      have hHs : Hid (∀ ob, wr.heap.size < (wr.alloc ob).heap.size) := fun ob => by rw [size1]; omega
      obtain ⟨⟨x0, x1, x2, x3, x4, x5⟩, e0, e1, e2, e3, e4, e5⟩ := cells6 HBX.out
      unfold refV at HDS
      go_wp2_with fail
      refine (HDS.out _).mono ?_
      rintro r w5 ⟨a2, c2, rfl, h5, hB5⟩
      have hop5 := (hB5.block wr.heap.size (hHs.out _)).trans (HOB.out _)
      have hb5 : BoxD w5 B a1 c1 D := (hB5.block B (by have := hHs.out (.cells #[.int .i64 v0, .string v1, .string v2, .int .i64 v3] 34); omega)).trans (HG1.out _)
      have HX5 := Lib.hid (fun ob => (Below.heap_alloc _ ob B (by obtain ⟨hlt, _⟩ := Array.getElem?_eq_some_iff.1 (hb5.set (a' := a2) (c' := c2) (d' := ST.1)); exact hlt)).trans (hb5.set (a' := a2) (c' := c2) (d' := ST.1)))
      have hset := h5.set6 (g := B) (.inl rfl) (.slice a2 ST.1.L.length c2) (.int .i64 ST.1.limit) (.int .i64 ST.1.fuse) (.int .i64 ST.1.ops) (.int .i64 ST.1.reads) (.bool ST.1.down)
      have HD5 := Lib.hid (fun ob => hset.below_ ((Below.refl _ _).alloc (Nat.le_refl _) ob))
      have hop6 := (set6_far (w := w5) (b := wr.heap.size) (g := B) (by omega) (.slice a2 ST.1.L.length c2) (.int .i64 ST.1.limit) (.int .i64 ST.1.fuse) (.int .i64 ST.1.ops) (.int .i64 ST.1.reads) (.bool ST.1.down)).trans hop5
      have HO5 := Lib.hid (fun ob => (Below.heap_alloc _ ob wr.heap.size (Array.getElem?_eq_some_iff.1 hop6).1).trans hop6)
      clear x0 x1 x2 x3 x4 x5 e0 e1 e2 e3 e4 e5
      obtain ⟨⟨x0, x1, x2, x3, x4, x5⟩, e0, e1, e2, e3, e4, e5⟩ := cells6 hb5
      have hH5 : wr.heap.size < w5.heap.size := (Array.getElem?_eq_some_iff.1 hop5).1
      have hBs : B < w5.heap.size := by omega
      clear h5 hB5 hop5 hb5 hset hop6 HDS HG1 HOB hHs HBX HDU hc0 hc1 hc2 hc3
      go_wp2_with fail
      have HD6 := Lib.hid (HD5.out (.cells #[.slice a2 ST.1.L.length c2, .int .i64 ST.1.limit, .int .i64 ST.1.fuse, .int .i64 ST.1.ops, .int .i64 ST.1.reads, .bool ST.1.down] 30))
      have HX6 : Hid (BoxD (((((((w5.setCell ⟨B, 0, none⟩ (.slice a2 ST.1.L.length c2)).setCell ⟨B, 1, none⟩ (.int .i64 ST.1.limit)).setCell ⟨B, 2, none⟩ (.int .i64 ST.1.fuse)).setCell ⟨B, 3, none⟩ (.int .i64 ST.1.ops)).setCell ⟨B, 4, none⟩ (.int .i64 ST.1.reads)).setCell ⟨B, 5, none⟩ (.bool ST.1.down)).alloc (.cells #[.slice a2 ST.1.L.length c2, .int .i64 ST.1.limit, .int .i64 ST.1.fuse, .int .i64 ST.1.ops, .int .i64 ST.1.reads, .bool ST.1.down] 30)) B a2 c2 ST.1) := HX5.out (.cells #[.slice a2 ST.1.L.length c2, .int .i64 ST.1.limit, .int .i64 ST.1.fuse, .int .i64 ST.1.ops, .int .i64 ST.1.reads, .bool ST.1.down] 30)
      have HO6 := Lib.hid (HO5.out (.cells #[.slice a2 ST.1.L.length c2, .int .i64 ST.1.limit, .int .i64 ST.1.fuse, .int .i64 ST.1.ops, .int .i64 ST.1.reads, .bool ST.1.down] 30))
      have hl2 : ST.1.L.length ≤ 60 := by have := HST.out; have := HDL.out; omega
      have HL2 : Hid (ST.1.L.length ≤ k + 1) := by have := HST.out; have := HDL.out; unfold Hid; omega
      have HSM := Lib.hid (fun W X (h : Duo X w1 W p ST.1 ST.1 a2) => same_any W c2 h hl2)
      unfold refV at HSM
      clear HD5 HX5 HO5 x0 x1 x2 x3 x4 x5 e0 e1 e2 e3 e4 e5 hH5 hBs hGr
      generalize (((((((w5.setCell ⟨B, 0, none⟩ (.slice a2 ST.1.L.length c2)).setCell ⟨B, 1, none⟩ (.int .i64 ST.1.limit)).setCell ⟨B, 2, none⟩ (.int .i64 ST.1.fuse)).setCell ⟨B, 3, none⟩ (.int .i64 ST.1.ops)).setCell ⟨B, 4, none⟩ (.int .i64 ST.1.reads)).setCell ⟨B, 5, none⟩ (.bool ST.1.down)).alloc (.cells #[.slice a2 ST.1.L.length c2, .int .i64 ST.1.limit, .int .i64 ST.1.fuse, .int .i64 ST.1.ops, .int .i64 ST.1.reads, .bool ST.1.down] 30)) = W5 at *
      generalize wr.heap.size = H at *
      have HSS : Hid (∀ W : World, (∀ i, (i = B ∨ i = H) → W.heap[i]? = W5.heap[i]?) → W.cell? ⟨H, 0, none⟩ = some (.int .i64 v0) ∧ W.cell? ⟨H, 1, none⟩ = some (.string v1) ∧ W.cell? ⟨H, 2, none⟩ = some (.string v2) ∧ W.cell? ⟨H, 3, none⟩ = some (.int .i64 v3) ∧ W.cell? ⟨B, 0, none⟩ = some (.slice a2 ST.1.L.length c2) ∧ W.cell? ⟨B, 1, none⟩ = some (.int .i64 ST.1.limit) ∧ W.cell? ⟨B, 2, none⟩ = some (.int .i64 ST.1.fuse) ∧ W.cell? ⟨B, 3, none⟩ = some (.int .i64 ST.1.ops) ∧ W.cell? ⟨B, 4, none⟩ = some (.int .i64 ST.1.reads) ∧ W.cell? ⟨B, 5, none⟩ = some (.bool ST.1.down)) := fun W hk => by
        obtain ⟨q0, q1, q2, q3⟩ := cells4 ((hk H (.inr rfl)).trans HO6.out)
        exact ⟨q0, q1, q2, q3, (cells6 ((hk B (.inl rfl)).trans HX6.out)).1⟩
      refine wp_region_held_drew (S := (fun W => W.cell? ⟨H, 0, none⟩ = some (.int .i64 v0) ∧ W.cell? ⟨H, 1, none⟩ = some (.string v1) ∧ W.cell? ⟨H, 2, none⟩ = some (.string v2) ∧ W.cell? ⟨H, 3, none⟩ = some (.int .i64 v3) ∧ W.cell? ⟨B, 0, none⟩ = some (.slice a2 ST.1.L.length c2) ∧ W.cell? ⟨B, 1, none⟩ = some (.int .i64 ST.1.limit) ∧ W.cell? ⟨B, 2, none⟩ = some (.int .i64 ST.1.fuse) ∧ W.cell? ⟨B, 3, none⟩ = some (.int .i64 ST.1.ops) ∧ W.cell? ⟨B, 4, none⟩ = some (.int .i64 ST.1.reads) ∧ W.cell? ⟨B, 5, none⟩ = some (.bool ST.1.down))) (by kernel_rfl) ?_ (fun hHeld => ?_)
      · exact HSS.out _ (fun i hi => rfl)
      refine wpAnyH_take (i := 0) (oi := ⟨some 48, _, _, _, _, _⟩) (v := ?_) rfl (by kernel_rfl) (by kernel_rfl) (by kernel_rfl) (fun _ _ _ h => h) (Or.inl ⟨by rfl, ?_⟩) (by assumption) ?_
      rotate_left
      · (intro wS hSw; (try dsimp only at hSw); (go_simp) <;> (with_reducible rfl))
      (try simp only [Act.put, List.setIfInBounds_toArray, List.set_cons_zero, List.set_cons_succ])
      refine wpAnyH_take (i := 1) (oi := ⟨some 49, _, _, _, _, _⟩) (v := ?_) rfl (by kernel_rfl) (by kernel_rfl) (by kernel_rfl) (fun _ _ _ h => h) (Or.inl ⟨by rfl, ?_⟩) (by assumption) ?_
      rotate_left
      · (intro wS hSw; (try dsimp only at hSw); (go_simp) <;> (with_reducible rfl))
      (try simp only [Act.put, List.setIfInBounds_toArray, List.set_cons_zero, List.set_cons_succ])
      refine wpAnyH_take (i := 2) (oi := ⟨some 50, _, _, _, _, _⟩) (v := ?_) rfl (by kernel_rfl) (by kernel_rfl) (by kernel_rfl) (fun _ _ _ h => h) (Or.inl ⟨by rfl, ?_⟩) (by assumption) ?_
      rotate_left
      · (intro wS hSw; (try dsimp only at hSw); (go_simp) <;> (with_reducible rfl))
      (try simp only [Act.put, List.setIfInBounds_toArray, List.set_cons_zero, List.set_cons_succ])
      refine wpAnyH_take (i := 4) (oi := ⟨some 52, _, _, _, _, _⟩) (v := ?_) rfl (by kernel_rfl) (by kernel_rfl) (by kernel_rfl) (fun _ _ _ h => h) (Or.inl ⟨by rfl, ?_⟩) (by assumption) ?_
      rotate_left
      · (intro wS hSw; (try dsimp only at hSw); (go_simp) <;> (with_reducible rfl))
      (try simp only [Act.put, List.setIfInBounds_toArray, List.set_cons_zero, List.set_cons_succ])
      refine wpAnyH_ready (rs := [3]) (by kernel_rfl) (by simp) ?_
      refine AllReadyH.cons (o := ⟨some 51, _, _, _, _, _⟩) rfl (fun K hK => ?_) AllReadyH.nil
      go_simp
      refine (HDO.out _ _ _ _ (HD6.out.below_ (Below.refl _ _).drew)).mono ?_
      rintro e w6 ⟨rfl, h6, hk6⟩
      have HD7 := Lib.hid h6
      have HK7 : Hid (∀ i, (i = B ∨ i = H) → w6.heap[i]? = W5.heap[i]?) := fun i hi => hk6 i hi
      clear h6 hk6
      go_wp2_with fail
      refine hK.out _ _ ?_ (fun hH3 => ?_)
      · exact HSS.out _ HK7.out
      clear hK K
      (try simp only [Act.put, List.setIfInBounds_toArray, List.set_cons_zero, List.set_cons_succ])
      refine wpAnyH_take (i := 5) (oi := ⟨some 53, _, _, _, _, _⟩) (v := ?_) rfl (by kernel_rfl) (by kernel_rfl) (by kernel_rfl) (fun _ _ _ h => h) (Or.inl ⟨by rfl, ?_⟩) (by assumption) ?_
      rotate_left
      · (intro wS hSw; (try dsimp only at hSw); (go_simp) <;> (with_reducible rfl))
      (try simp only [Act.put, List.setIfInBounds_toArray, List.set_cons_zero, List.set_cons_succ])
      refine wpAnyH_take (i := 6) (oi := ⟨some 54, _, _, _, _, _⟩) (v := ?_) rfl (by kernel_rfl) (by kernel_rfl) (by kernel_rfl) (fun _ _ _ h => h) (Or.inl ⟨by rfl, ?_⟩) (by assumption) ?_
      rotate_left
      · (intro wS hSw; (try dsimp only at hSw); (go_simp) <;> (with_reducible rfl))
      (try simp only [Act.put, List.setIfInBounds_toArray, List.set_cons_zero, List.set_cons_succ])
      refine wpAnyH_take (i := 7) (oi := ⟨some 55, _, _, _, _, _⟩) (v := ?_) rfl (by kernel_rfl) (by kernel_rfl) (by kernel_rfl) (fun _ _ _ h => h) (Or.inl ⟨by rfl, ?_⟩) (by assumption) ?_
      rotate_left
      · (intro wS hSw; (try dsimp only at hSw); (go_simp) <;> (with_reducible rfl))
      (try simp only [Act.put, List.setIfInBounds_toArray, List.set_cons_zero, List.set_cons_succ])
      refine wpAnyH_take (i := 8) (oi := ⟨some 56, _, _, _, _, _⟩) (v := ?_) rfl (by kernel_rfl) (by kernel_rfl) (by kernel_rfl) (fun _ _ _ h => h) (Or.inl ⟨by rfl, ?_⟩) (by assumption) ?_
      rotate_left
      · (intro wS hSw; (try dsimp only at hSw); (go_simp) <;> (with_reducible rfl))
      (try simp only [Act.put, List.setIfInBounds_toArray, List.set_cons_zero, List.set_cons_succ])
      refine wpAnyH_ready (rs := [9]) (by kernel_rfl) (by simp) ?_
      refine AllReadyH.cons (o := ⟨some 57, _, _, _, _, _⟩) rfl (fun K hK => ?_) AllReadyH.nil
      go_simp
      refine (HSM.out _ _ HD7.out).mono ?_
      rintro e w7 ⟨rfl, h7, hk7⟩
      have HD8 := Lib.hid h7
      have HK8 : Hid (∀ i, (i = B ∨ i = H) → w7.heap[i]? = W5.heap[i]?) := fun i hi => (hk7 i hi).trans (HK7.out i hi)
      clear h7 hk7
      go_wp2_with fail
      refine hK.out _ _ ?_ (fun hH9 => ?_)
      · exact HSS.out _ HK8.out
      clear hK K
      (try simp only [Act.put, List.setIfInBounds_toArray, List.set_cons_zero, List.set_cons_succ])
      refine wpAnyH_take (i := 10) (oi := ⟨some 58, _, _, _, _, _⟩) (v := ?_) rfl (by kernel_rfl) (by kernel_rfl) (by kernel_rfl) (fun _ _ _ h => h) (Or.inl ⟨by rfl, ?_⟩) (by assumption) ?_
      rotate_left
      · (intro wS hSw; (try dsimp only at hSw); (go_simp) <;> (with_reducible rfl))
      (try simp only [Act.put, List.setIfInBounds_toArray, List.set_cons_zero, List.set_cons_succ])
      refine wpAnyH_take (i := 11) (oi := ⟨some 59, _, _, _, _, _⟩) (v := ?_) rfl (by kernel_rfl) (by kernel_rfl) (by kernel_rfl) (fun _ _ _ h => h) (Or.inl ⟨by rfl, ?_⟩) (by assumption) ?_
      rotate_left
      · (intro wS hSw; (try dsimp only at hSw); (go_simp) <;> (with_reducible rfl))
      (try simp only [Act.put, List.setIfInBounds_toArray, List.set_cons_zero, List.set_cons_succ])
      refine wpAnyH_take (i := 12) (oi := ⟨some 60, _, _, _, _, _⟩) (v := ?_) rfl (by kernel_rfl) (by kernel_rfl) (by kernel_rfl) (fun _ _ _ h => h) (Or.inl ⟨by rfl, ?_⟩) (by assumption) ?_
      rotate_left
      · (intro wS hSw; (try dsimp only at hSw); (go_simp) <;> (with_reducible rfl))
      (try simp only [Act.put, List.setIfInBounds_toArray, List.set_cons_zero, List.set_cons_succ])
      refine wpAnyH_take (i := 13) (oi := ⟨some 61, _, _, _, _, _⟩) (v := ?_) rfl (by kernel_rfl) (by kernel_rfl) (by kernel_rfl) (fun _ _ _ h => h) (Or.inl ⟨by rfl, ?_⟩) (by assumption) ?_
      rotate_left
      · (intro wS hSw; (try dsimp only at hSw); (go_simp) <;> (with_reducible rfl))
      (try simp only [Act.put, List.setIfInBounds_toArray, List.set_cons_zero, List.set_cons_succ])
      refine wpAnyH_take (i := 15) (oi := ⟨some 63, _, _, _, _, _⟩) (v := ?_) rfl (by kernel_rfl) (by kernel_rfl) (by kernel_rfl) (fun _ _ _ h => h) (Or.inl ⟨by rfl, ?_⟩) (by assumption) ?_
      rotate_left
      · (intro wS hSw; (try dsimp only at hSw); (go_simp) <;> (with_reducible rfl))
      (try simp only [Act.put, List.setIfInBounds_toArray, List.set_cons_zero, List.set_cons_succ])
      refine wpAnyH_take (i := 16) (oi := ⟨some 64, _, _, _, _, _⟩) (v := ?_) rfl (by kernel_rfl) (by kernel_rfl) (by kernel_rfl) (fun _ _ _ h => h) (Or.inl ⟨by rfl, ?_⟩) (by assumption) ?_
      rotate_left
      · (intro wS hSw; (try dsimp only at hSw); (go_simp) <;> (with_reducible rfl))
      (try simp only [Act.put, List.setIfInBounds_toArray, List.set_cons_zero, List.set_cons_succ])
      refine wpAnyH_ready (rs := [14]) (by kernel_rfl) (by simp) ?_
      refine AllReadyH.cons (o := ⟨some 62, _, _, _, _, _⟩) rfl (fun K hK => ?_) AllReadyH.nil
      go_simp
      refine (liv_reads HD8.out.liv).mono ?_
      rintro e w8 ⟨rfl, rfl⟩
      go_wp2_with fail
      refine hK.out _ _ ?_ (fun hH14 => ?_)
      · exact HSS.out _ HK8.out
      clear hK K
      (try simp only [Act.put, List.setIfInBounds_toArray, List.set_cons_zero, List.set_cons_succ])
      refine wpAnyH_take (i := 17) (oi := ⟨some 65, _, _, _, _, _⟩) (v := ?_) rfl (by kernel_rfl) (by kernel_rfl) (by kernel_rfl) (fun _ _ _ h => h) (Or.inl ⟨by rfl, ?_⟩) (by assumption) ?_
      rotate_left
      · (intro wS hSw; (try dsimp only at hSw); (go_simp) <;> (with_reducible rfl))
      (try simp only [Act.put, List.setIfInBounds_toArray, List.set_cons_zero, List.set_cons_succ])
      refine wpAnyH_take (i := 18) (oi := ⟨some 66, _, _, _, _, _⟩) (v := ?_) rfl (by kernel_rfl) (by kernel_rfl) (by kernel_rfl) (fun _ _ _ h => h) (Or.inl ⟨by rfl, ?_⟩) (by assumption) ?_
      rotate_left
      · (intro wS hSw; (try dsimp only at hSw); (go_simp) <;> (with_reducible rfl))
      (try simp only [Act.put, List.setIfInBounds_toArray, List.set_cons_zero, List.set_cons_succ])
      refine wpAnyH_done (by kernel_rfl) ?_ _
      all_goals
        go_wp2
        go_roundw
        case rel => exact ⟨k + 1, ST.1, a2, c2, by omega, by go_num, HL2.out, HD8.out.mono (fun i hi => .inl hi), (HK8.out B (.inl rfl)).trans HX6.out⟩
        case measure => simp [intOf]; omega
    · obtain rfl : k = N := by omega
      go_wp2_with fail
      refine (HAL.out _).mono ?_
      rintro e w5 ⟨rfl, h5⟩
      have HB5 := Lib.hid (HB1.out.trans ((HDU.out.below.trans (h5.mono HDU.out.below.size)).mono HB1.out.size))
      clear h5
      go_wp2
      go_ret
      exact ⟨rfl, HB5.out⟩

set_option maxRecDepth 100000 in
theorem lifted (os : Os) (started : os.Started) (H : Type) (enc : TypeId × Value → H) :
    ReturnsInHanded {} Try.checked os 3 .any (Rows.diskAllSpec.pre6 enc Try.prog Try.f3 Rows.diskAllRow.domain false) (Rows.diskAllSpec.post enc Try.prog Try.f3 false true false false) := by
  refine returnsInHanded_of_change_sized (C := Try.checked) own started (by kernel_rfl) Try.func3
    (ChangeSpec.witness6 (enc := enc) (C := Try.checked) false ⟨#[], #[.int .i64 0, .slice none 0 0, .slice none 0 0], []⟩ 8 (by kernel_rfl) (by kernel_rfl) (by kernel_rfl) (by kernel_rfl)) ?_
  intro W base args ds gs before hval0 hW hcnd hsz0 _
  have hval : ∀ (j : Nat) t v, Try.f3.params[j]? = some t → args[j]? = some v → Value.okWide Try.prog W .any base t v := hval0
  have hW' := hW
  have hlt := hW.lt
  obtain ⟨p, q, hA0, hV, rfl, hfz, hnd⟩ := hW
  have hA : DataW.TrodAll enc Try.prog W 0 (fun _ => true) true Try.f3.params.toList args.toList ds p := hA0
  rw [Try.params3] at hA hval
  obtain ⟨v0, vs0, d0, ds0, p0, q0, hargs, rfl, rfl, h0, r0⟩ := trodAll_cons hA
  obtain ⟨v1, vs1, d1, ds1, p1, q1, rfl, rfl, rfl, h1, r1⟩ := trodAll_cons r0
  obtain ⟨v2, vs2, d2, ds2, p2, q2, rfl, rfl, rfl, h2, r2⟩ := trodAll_cons r1
  obtain ⟨rfl, rfl, rfl⟩ := trodAll_nil r2
  obtain rfl : args = #[v0, v1, v2] := by cases args; simp_all
  obtain ⟨rfl, rfl⟩ := trodVars_none hV
  obtain ⟨a0, rfl, -, -, w0⟩ := open_int Try.underlying3 (hval 0 3 v0 rfl rfl) h0
  obtain ⟨a1, c1, l1, rfl, s1, f1, m1⟩ := open_ops (hval 1 22 v1 rfl rfl) h1 (fun n hn => of_decide_eq_true (List.all_eq_true.1 hsz0 n (DataW.weights_mem_each (j := 1) (t := 22) (by kernel_rfl) rfl n hn)))
  obtain ⟨a2, c2, l2, rfl, s2, m2, n2⟩ := open_nums (hval 2 23 v2 rfl rfl) h2
  refine (walk W a0 w0 a1 c1 l1 s1 f1 m1 a2 c2 l2 s2 m2 n2).mono fun e W' ⟨he, hb⟩ => ?_
  subst he
  exact ⟨_, rfl, law_post rfl hW' (fun ds h => by match ds, h with | [_, _, _], _ => rfl) (by kernel_rfl) (by kernel_rfl) (by kernel_rfl) hb⟩

theorem over : Rows.diskAllRow.holds Try.pinned (OpenSpec.ofChange Rows.diskAllSpec) :=
  OpenClaim.holds_of_wide 3 Try.f3 rfl rfl rfl rfl rfl rfl rfl ⟨rfl, rfl, rfl, rfl, rfl⟩ rfl rfl rfl rfl rfl (by kernel_rfl) Try.func3 (by kernel_rfl)
    (of_decide_eq_true (by kernel_rfl)) (by unfold Func.isWrapper; first | (rw [if_pos (by decide +kernel)]; kernel_rfl) | (rw [if_neg (by decide +kernel)]; exact ⟨rfl, rfl⟩))
    (fun os started H enc _ => lifted os started H enc)

theorem proved : Rows.DiskAllSaid := over
end Go.Proofs.Ytammmhbkfdmbfaa.diskAll
