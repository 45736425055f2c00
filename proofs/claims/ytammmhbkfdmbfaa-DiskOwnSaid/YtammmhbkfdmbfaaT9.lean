/- Contracts of the document's own words of layer 5: a crash. -/
import Derived.Test.YtammmhbkfdmbfaaT8
import Derived.Test.YtammmhbkfdmbfaaS17
namespace Go.Proofs.Ytammmhbkfdmbfaa
open Go.RowKit
set_option linter.unusedVariables false

def NoB (_ : Nat) : Prop := False
theorem Bz.belowB {w W W' : World} {a : Option Addr} {c : Nat} {d : DiskM} (h : Bz w a c d W) (k : Below (w.heap.size + 2) W W') : Bz w a c d W' := Below.trans h k
theorem slice_to (s : ByteArray) (c : Nat) (h : c ≤ s.size) (W : World) : (Instr.slice 9 (.string s) none (some (.int .i64 (c : Int))) none).run Try.prog W = .ok (.string (s.extract 0 c)) W := by
  rw [run_slice_string_to_if W 9 s .i64 c Try.underlying9, if_pos (by omega)]
  simp
theorem settle_text (f : FileM) (x : Int) : fc (settleF f x) = [.string (tx f.name), .string (tx f.safe ++ (tx f.loose).extract 0 (kept x f.loose.length)), .string ⟨#[]⟩] := by
  unfold fc settleF
  have h : tx (f.safe ++ f.loose.take (kept x f.loose.length)) = tx f.safe ++ (tx f.loose).extract 0 (kept x f.loose.length) := by
    apply toL_inj
    rw [toL_tx]
    simp [toL, tx]
  simp only [h]
  rfl

theorem Bz.fin3 {w W : World} {a : Option Addr} {c : Nat} {d : DiskM} (h : Bz w a c d W) (x : Option Addr) (cx : Nat) (L : List FileM) (hs : FiSl W x L) (hx : ∀ b i, x = some ⟨b, i, none⟩ → w.heap.size + 2 ≤ b) :
    ∃ F, F = ((((((((((W.setCell ⟨w.heap.size, 0, none⟩ (.slice x L.length cx)).setCell ⟨w.heap.size, 5, none⟩ (.bool false)).setCell ⟨w.heap.size, 2, none⟩ (.int .i64 (-1))).setCell ⟨w.heap.size + 1, 0, none⟩ (.slice x L.length cx)).setCell ⟨w.heap.size + 1, 1, none⟩ (.int .i64 d.limit)).setCell ⟨w.heap.size + 1, 2, none⟩ (.int .i64 (-1))).setCell ⟨w.heap.size + 1, 3, none⟩ (.int .i64 d.ops)).setCell ⟨w.heap.size + 1, 4, none⟩ (.int .i64 d.reads)).setCell ⟨w.heap.size + 1, 5, none⟩ (.bool false))) ∧
      (loadVar 30 ⟨w.heap.size + 1, 0, none⟩).run Try.prog F = .ok (.agg #[.slice x L.length cx, .int .i64 d.limit, .int .i64 (-1), .int .i64 d.ops, .int .i64 d.reads, .bool false]) F ∧
      RefAt w.heap.size a d.L F (.agg #[.slice x L.length cx, .int .i64 d.limit, .int .i64 (-1), .int .i64 d.ops, .int .i64 d.reads, .bool false]) { d with L := L, down := false, fuse := -1 } ∧ Below w.heap.size w F := by
  refine ⟨_, rfl, load6 ((heap_set_far (by omega)).trans ((heap_set_far (by omega)).trans ((heap_set_far (by omega)).trans h.res))) _ _ _ _ _ _, ⟨x, cx, rfl, ?_, .inr fun b i e => by have := hx b i e; omega⟩, ?_⟩
  · have hne : ∀ b i, x = some ⟨b, i, none⟩ → b ≠ w.heap.size := fun b i e => by have := hx b i e; omega
    exact (((hs.set _ _ _ hne).set _ _ _ hne).set _ _ _ hne).set6 _ (fun b i e => by have := hx b i e; omega) _ _ _ _ _ _
  · exact (((h.frame.setCell (p := ⟨w.heap.size, 0, none⟩) (Nat.le_refl _) _).setCell (p := ⟨w.heap.size, 5, none⟩) (Nat.le_refl _) _).setCell (p := ⟨w.heap.size, 2, none⟩) (Nat.le_refl _) _).trans (below_set6 (Below.refl _ _) (by omega) _ _ _ _ _ _)
theorem settle_text0 (f : FileM) (x : Int) (h : kept x f.loose.length = 0) : fc (settleF f x) = [.string (tx f.name), .string (tx f.safe), .string ⟨#[]⟩] := by
  unfold fc settleF
  rw [h]
  simp only [List.take_zero, List.append_nil]
  rfl

set_option maxRecDepth 100000 in
set_option maxHeartbeats 2000000 in
theorem refCrash_any (keep : List Int) (ka : Option Addr) (kc : Nat) (hkc : keep.length ≤ kc) (hkm : kc ≤ maxLen) (a : Option Addr) (c : Nat) (d : DiskM) (w : World) (hko : Out NoB w ka (intV keep)) (h : FiSl w a d.L) (hl : d.L.length ≤ 1000000) (hf : FitM d.L) :
    Calls Try.prog 44 #[refV a c d, .slice ka keep.length kc] w fun e w' => ∃ v, e = .returned v ∧ RefAt w.heap.size a d.L w' v (crashM d keep) ∧ Below w.heap.size w w' := by
  obtain ⟨i0, hi, hz0, hz1, hz2⟩ := info_parts infoFile
  have HST := Lib.hid (Half.start d.L keep)
  have HSK := Lib.hid (fun k out r h1 h2 h3 => Half.skip (L := d.L) (keep := keep) (j := k) (pre := out) (r := r) h1 h2 h3)
  have HSE := Lib.hid (fun k out r h1 h2 h3 => Half.settle (L := d.L) (keep := keep) (j := k) (pre := out) (r := r) h1 h2 h3)
  have HALL := Lib.hid (fun out r h1 => Half.all (L := d.L) (keep := keep) (pre := out) (r := r) h1)
  have HFIT := Lib.hid hf
  have HS := Lib.hid (fun W (hx : Bz w a c d W) => h.below hx.frame)
  have HKO := Lib.hid hko
  have HBZ : Hid (Bz w a c d _) := Below.refl _ _
  have HC := Lib.hid (fun W (hx : Bz w a c d W) => (⟨cells6 hx.dblk, cells6 hx.res⟩ : _ ∧ _))
  obtain ⟨N, hN⟩ : ∃ N, N = d.L.length := ⟨_, rfl⟩
  have HN := Lib.hid hN
  have hNl : N ≤ 1000000 := by omega
  unfold refV
  have HKM := Lib.hid hkm
  clear hf h hko hl hkm
  unfold Bz at HBZ
  rw [← hN] at HBZ ⊢
  clear hN
  go_enter Try.func44, Try.ntmps44
  go_wp2
  go_loopw [1, 5, 6] (fun kv ov iv wr => ∃ (k : Nat) (r : List Int) (ka : Option Addr) (kc : Nat) (out : List FileM), k ≤ N ∧ iv = .int .i64 k ∧ kv = .slice ka r.length kc ∧ r.length ≤ kc ∧ kc ≤ 9223372036854775807 ∧ Hid (Out NoB w ka (intV r)) ∧ Hid (wr.ownsRow (w.heap.size + 2) 54 3 ov out.length (fiC out)) ∧ out.length ≤ k ∧ Hid (Half d.L keep k out r) ∧ Hid (Bz w a c d wr)) (fun _ _ i _ => N - (intOf i).toNat)
  case atStart => exact ⟨0, keep, ka, kc, [], by omega, rfl, rfl, hkc, HKM.out, HKO, ⟨rfl, .inl ⟨rfl, rfl⟩⟩, by simp, HST, (by unfold Hid Bz; rw [← HN.out]; exact HBZ.out)⟩
  case round =>
    obtain ⟨k, r, ka, kc, out, hk, rfl, rfl, hrc, hkc2, HK, HO, hol, HH, HZ⟩ := hrel
    obtain ⟨⟨⟨x0, x1, x2, x3, x4, x5⟩, f0, f1, f2, f3, f4, f5⟩, ⟨z0, z1, z2, z3, z4, z5⟩, g0, g1, g2, g3, g4, g5⟩ := HC.out _ HZ.out
    rw [← HN.out] at x0
    by_cases hlt : k < N
    · have hkl : k < d.L.length := by have := HN.out; omega
      obtain ⟨fb, fo, rfl, hfb, c0, c1, c2⟩ := (HS.out _ HZ.out).at hkl
      have hfit := HFIT.out _ (List.getElem_mem hkl)
      have HFC : Hid (fc d.L[k] = [.string (tx d.L[k].name), .string (tx d.L[k].safe), .string (tx d.L[k].loose)]) := rfl
      have HLV : Hid ((tx d.L[k].loose).size = d.L[k].loose.length) := tx_size _
      have hs1 : (tx d.L[k].safe).size ≤ 100000000000 := by rw [tx_size]; exact hfit.2.1
      have hs2 : (tx d.L[k].loose).size ≤ 100000000000 := by rw [tx_size]; exact hfit.2.2
      have hsz0 := HZ.out.size
      clear hfit
      by_cases hlo : d.L[k].loose = []
      · have HH2 := Lib.hid (HSK.out k out r HH.out hkl hlo)
        have HFS : Hid (fiC (out ++ [d.L[k]]) = fiC out ++ fc d.L[k]) := fiC_snoc _ _
        have HLS : Hid ((out ++ [d.L[k]]).length = out.length + 1) := by simp [Hid]
        have hnz : (tx d.L[k].loose).size = 0 := by rw [hlo]; rfl
        generalize out ++ [d.L[k]] = out2 at *
        have HOA : Hid (∀ o1 o2 : Obj, ((wr.alloc o1).alloc o2).ownsRow (w.heap.size + 2) 54 3 _ out.length (fiC out)) := fun o1 o2 => (HO.out.alloc o1).alloc o2
        have HBA : Hid (∀ o1 o2 : Obj, Below (w.heap.size + 2) wr ((wr.alloc o1).alloc o2)) := fun o1 o2 => ((Below.refl _ _).alloc hsz0 o1).alloc (by rw [size1]; omega) o2
        have HSB : Hid (∀ o1 o2 : Obj, w.heap.size + 2 ≤ ((wr.alloc o1).alloc o2).heap.size) := fun o1 o2 => by rw [size1, size1]; omega
        clear hlo HH HLV
        generalize tx d.L[k].name = m0 at *
        generalize tx d.L[k].safe = m1 at *
        generalize tx d.L[k].loose = m2 at *
        go_wp2_with (at_builtin; refine wpList_append_own _ rfl (.tmp 53) (.tmp 55) 28 rfl (w.heap.size + 2) 54 i0 _ 3 48 Try.underlying28 hi hz0 hz1 hz2 rfl (by decide) _ _ _ rfl (HOA.out _ _) ⟨_, 0, none⟩ 1 1 [.string m0, .string m1, .string m2] rfl rfl (news_at _ _ _ _ (by first | rfl | exact (size1 _ _).symm | (simp; done))) (one_cells3 _ _ _) (by unfold maxLen; omega) (by omega) (HSB.out _ _) ?_; intro v3 w3 hown' hgrow hiff; have HB3 := Lib.hid (app_below (HBA.out _ _) (HSB.out _ _) (HOA.out _ _) hgrow); have HO3 := Lib.hid hown'; clear hown' hgrow hiff)
        go_wp2
        go_roundw
        case rel => exact ⟨k + 1, r, ka, kc, out2, by omega, by go_num, rfl, by omega, by omega, HK, (by unfold Hid; rw [HLS.out, HFS.out, HFC.out]; exact HO3.out), by rw [HLS.out]; omega, HH2, HZ.out.belowB HB3.out⟩
        case measure => simp [intOf]; omega
      · have hnz : 0 < (tx d.L[k].loose).size := by
          rw [HLV.out]
          rcases Nat.eq_zero_or_pos d.L[k].loose.length with e | e
          · exact absurd (List.eq_nil_of_length_eq_zero e) hlo
          · exact e
        have HOD : Hid (∀ o1 o2 : Obj, (((wr.alloc o1).drew).alloc o2).ownsRow (w.heap.size + 2) 54 3 _ out.length (fiC out)) := fun o1 o2 => (Drew.own (show Drew (wr.alloc o1) (wr.alloc o1).drew from ⟨1, rfl⟩) (HO.out.alloc o1)).alloc o2
        have HBD : Hid (∀ o1 o2 : Obj, Below (w.heap.size + 2) wr (((wr.alloc o1).drew).alloc o2)) := fun o1 o2 => (((Below.refl _ _).alloc hsz0 o1).drew).alloc (by show _ ≤ (wr.alloc o1).heap.size; rw [size1]; omega) o2
        have HSD : Hid (∀ o1 o2 : Obj, w.heap.size + 2 ≤ (((wr.alloc o1).drew).alloc o2).heap.size) := fun o1 o2 => Nat.le_trans hsz0 (HBD.out o1 o2).size
        cases r with
        | nil =>
          have HFE := Lib.hid (settle_text0 d.L[k] 0 (by unfold kept; omega))
          have HH2 := Lib.hid (HSE.out k out [] HH.out hkl hlo)
          simp only [List.headD_nil, List.tail_nil] at HH2
          have HFS : Hid (fiC (out ++ [settleF d.L[k] 0]) = fiC out ++ fc (settleF d.L[k] 0)) := fiC_snoc _ _
          have HLS : Hid ((out ++ [settleF d.L[k] 0]).length = out.length + 1) := by simp [Hid]
          rw [HFE.out] at HFS
          generalize out ++ [settleF d.L[k] 0] = out2 at *
          clear HFE hlo HH HLV
          generalize tx d.L[k].name = m0 at *
          generalize tx d.L[k].safe = m1 at *
          generalize tx d.L[k].loose = m2 at *
          go_wp2
          go_region
          all_goals
            go_wp2_with (at_builtin; refine wpList_append_own _ rfl (.tmp 53) (.tmp 55) 28 rfl (w.heap.size + 2) 54 i0 _ 3 48 Try.underlying28 hi hz0 hz1 hz2 rfl (by decide) _ _ _ rfl (HOD.out _ _) ⟨_, 0, none⟩ 1 1 [.string m0, .string (m1), .string ⟨#[]⟩] rfl rfl (news_at _ _ _ _ (by first | rfl | exact (size1 _ _).symm | (simp; done))) (one_cells3 _ _ _) (by unfold maxLen; omega) (by omega) (HSD.out _ _) ?_; intro v3 w3 hown' hgrow hiff; have HB3 := Lib.hid (app_below (HBD.out _ _) (HSD.out _ _) (HOD.out _ _) hgrow); have HO3 := Lib.hid hown'; clear hown' hgrow hiff)
            go_wp2
            go_roundw
            case rel => exact ⟨k + 1, [], ka, kc, out2, by omega, by go_num, rfl, by omega, by omega, HK, (by unfold Hid; rw [HLS.out, HFS.out]; exact HO3.out), by rw [HLS.out]; omega, HH2, HZ.out.belowB HB3.out⟩
            case measure => simp [intOf]; omega
        | cons x r =>
          obtain ⟨kb, ko, rfl, hkb, _, hk0⟩ := (HK.out.below HZ.out.frame) 0 (by simp [intV])
          obtain ⟨ka2, kc2, hrun, hout2, hk1, hk2⟩ := keep_tail HK.out hrc
          have HK2 := Lib.hid hout2
          clear hout2
          have hk0' : wr.cell? ⟨kb, ko, none⟩ = some (.int .i64 x) := hk0
          clear hk0
          by_cases hx0 : x < 0
          · have hd0 : True := trivial
            have HFE := Lib.hid (settle_text0 d.L[k] x (by unfold kept; omega))
            have HH2 := Lib.hid (HSE.out k out (x :: r) HH.out hkl hlo)
            simp only [List.headD_cons, List.tail_cons] at HH2
            have HFS : Hid (fiC (out ++ [settleF d.L[k] x]) = fiC out ++ fc (settleF d.L[k] x)) := fiC_snoc _ _
            have HLS : Hid ((out ++ [settleF d.L[k] x]).length = out.length + 1) := by simp [Hid]
            rw [HFE.out] at HFS
            generalize out ++ [settleF d.L[k] x] = out2 at *
            clear HFE hlo HH HLV
            generalize tx d.L[k].name = m0 at *
            generalize tx d.L[k].safe = m1 at *
            generalize tx d.L[k].loose = m2 at *
            go_wp2
            go_region
            all_goals
              go_wp2_with (at_builtin; refine wpList_append_own _ rfl (.tmp 53) (.tmp 55) 28 rfl (w.heap.size + 2) 54 i0 _ 3 48 Try.underlying28 hi hz0 hz1 hz2 rfl (by decide) _ _ _ rfl (HOD.out _ _) ⟨_, 0, none⟩ 1 1 [.string m0, .string (m1), .string ⟨#[]⟩] rfl rfl (news_at _ _ _ _ (by first | rfl | exact (size1 _ _).symm | (simp; done))) (one_cells3 _ _ _) (by unfold maxLen; omega) (by omega) (HSD.out _ _) ?_; intro v3 w3 hown' hgrow hiff; have HB3 := Lib.hid (app_below (HBD.out _ _) (HSD.out _ _) (HOD.out _ _) hgrow); have HO3 := Lib.hid hown'; clear hown' hgrow hiff)
              go_wp2
              go_roundw
              case rel => exact ⟨k + 1, r, ka2, kc2, out2, by omega, by go_num, rfl, by omega, by omega, HK2, (by unfold Hid; rw [HLS.out, HFS.out]; exact HO3.out), by rw [HLS.out]; omega, HH2, HZ.out.belowB HB3.out⟩
              case measure => simp [intOf]; omega
          by_cases hx1 : ((tx d.L[k].loose).size : Int) < x
          · have hd0 : True := trivial
            have hsl := slice_to (tx d.L[k].loose) (tx d.L[k].loose).size (Nat.le_refl _)
            have HFE := Lib.hid (settle_text d.L[k] x)
            rw [← HLV.out] at HFE
            have HH2 := Lib.hid (HSE.out k out (x :: r) HH.out hkl hlo)
            simp only [List.headD_cons, List.tail_cons] at HH2
            rw [show kept x (tx d.L[k].loose).size = (tx d.L[k].loose).size by unfold kept; omega] at HFE
            have HFS : Hid (fiC (out ++ [settleF d.L[k] x]) = fiC out ++ fc (settleF d.L[k] x)) := fiC_snoc _ _
            have HLS : Hid ((out ++ [settleF d.L[k] x]).length = out.length + 1) := by simp [Hid]
            rw [HFE.out] at HFS
            generalize out ++ [settleF d.L[k] x] = out2 at *
            have hez : ((tx d.L[k].loose).extract 0 (tx d.L[k].loose).size).size ≤ 100000000000 := by simp; omega
            clear HFE hlo HH HLV
            generalize tx d.L[k].name = m0 at *
            generalize tx d.L[k].safe = m1 at *
            generalize hE : (tx d.L[k].loose).extract 0 (tx d.L[k].loose).size = E at *
            clear hE
            generalize tx d.L[k].loose = m2 at *
            go_wp2
            go_region
            all_goals
              go_wp2_with (at_builtin; refine wpList_append_own _ rfl (.tmp 53) (.tmp 55) 28 rfl (w.heap.size + 2) 54 i0 _ 3 48 Try.underlying28 hi hz0 hz1 hz2 rfl (by decide) _ _ _ rfl (HOD.out _ _) ⟨_, 0, none⟩ 1 1 [.string m0, .string (m1 ++ E), .string ⟨#[]⟩] rfl rfl (news_at _ _ _ _ (by first | rfl | exact (size1 _ _).symm | (simp; done))) (one_cells3 _ _ _) (by unfold maxLen; omega) (by omega) (HSD.out _ _) ?_; intro v3 w3 hown' hgrow hiff; have HB3 := Lib.hid (app_below (HBD.out _ _) (HSD.out _ _) (HOD.out _ _) hgrow); have HO3 := Lib.hid hown'; clear hown' hgrow hiff)
              go_wp2
              go_roundw
              case rel => exact ⟨k + 1, r, ka2, kc2, out2, by omega, by go_num, rfl, by omega, by omega, HK2, (by unfold Hid; rw [HLS.out, HFS.out]; exact HO3.out), by rw [HLS.out]; omega, HH2, HZ.out.belowB HB3.out⟩
              case measure => simp [intOf]; omega
          · obtain ⟨g, rfl⟩ : ∃ g : Nat, x = g := ⟨x.toNat, by omega⟩
            have hsl := slice_to (tx d.L[k].loose) g (by omega)
            have HFE := Lib.hid (settle_text d.L[k] (g : Int))
            rw [← HLV.out] at HFE
            have HH2 := Lib.hid (HSE.out k out ((g : Int) :: r) HH.out hkl hlo)
            simp only [List.headD_cons, List.tail_cons] at HH2
            rw [show kept (g : Int) (tx d.L[k].loose).size = g by unfold kept; omega] at HFE
            have HFS : Hid (fiC (out ++ [settleF d.L[k] (g : Int)]) = fiC out ++ fc (settleF d.L[k] (g : Int))) := fiC_snoc _ _
            have HLS : Hid ((out ++ [settleF d.L[k] (g : Int)]).length = out.length + 1) := by simp [Hid]
            rw [HFE.out] at HFS
            generalize out ++ [settleF d.L[k] (g : Int)] = out2 at *
            have hez : ((tx d.L[k].loose).extract 0 g).size ≤ 100000000000 := by simp; omega
            clear HFE hlo HH HLV
            generalize tx d.L[k].name = m0 at *
            generalize tx d.L[k].safe = m1 at *
            generalize hE : (tx d.L[k].loose).extract 0 g = E at *
            clear hE
            generalize tx d.L[k].loose = m2 at *
            go_wp2
            go_region
            all_goals
              go_wp2_with (at_builtin; refine wpList_append_own _ rfl (.tmp 53) (.tmp 55) 28 rfl (w.heap.size + 2) 54 i0 _ 3 48 Try.underlying28 hi hz0 hz1 hz2 rfl (by decide) _ _ _ rfl (HOD.out _ _) ⟨_, 0, none⟩ 1 1 [.string m0, .string (m1 ++ E), .string ⟨#[]⟩] rfl rfl (news_at _ _ _ _ (by first | rfl | exact (size1 _ _).symm | (simp; done))) (one_cells3 _ _ _) (by unfold maxLen; omega) (by omega) (HSD.out _ _) ?_; intro v3 w3 hown' hgrow hiff; have HB3 := Lib.hid (app_below (HBD.out _ _) (HSD.out _ _) (HOD.out _ _) hgrow); have HO3 := Lib.hid hown'; clear hown' hgrow hiff)
              go_wp2
              go_roundw
              case rel => exact ⟨k + 1, r, ka2, kc2, out2, by omega, by go_num, rfl, by omega, by omega, HK2, (by unfold Hid; rw [HLS.out, HFS.out]; exact HO3.out), by rw [HLS.out]; omega, HH2, HZ.out.belowB HB3.out⟩
              case measure => simp [intOf]; omega
    · obtain rfl : k = N := by omega
      have HE : Hid (crashL d.L keep = out) := by
        have h1 := HH.out
        rw [HN.out] at h1
        exact HALL.out _ _ h1
      obtain ⟨a1, c1, hv, hsl, hlow⟩ := own_fi_low HO.out
      subst hv
      obtain ⟨F, hF, q1, q2, q3⟩ := HZ.out.fin3 a1 c1 out hsl hlow
      have Q1 := Lib.hid q1
      have Q2 := Lib.hid q2
      have Q3 := Lib.hid q3
      have HF := Lib.hid hF
      have HCM : Hid (crashM d keep = { d with L := out, down := false, fuse := -1 }) := by unfold Hid crashM; rw [HE.out]
      clear q1 q2 q3 hF hsl hlow HO HE
      go_wp2
      refine bodyPost_ret (v := .agg #[.slice a1 out.length c1, .int .i64 d.limit, .int .i64 (-1), .int .i64 d.ops, .int .i64 d.reads, .bool false]) ?_ rfl ?_
      · rw [results_cell_one rfl]
        rw [HF.out] at Q1
        simp [asAddr, Result.andThen, Q1.out]
      · rw [HF.out] at Q2 Q3
        rw [HCM.out]
        exact ⟨_, rfl, Q2.out, Q3.out⟩
end Go.Proofs.Ytammmhbkfdmbfaa
