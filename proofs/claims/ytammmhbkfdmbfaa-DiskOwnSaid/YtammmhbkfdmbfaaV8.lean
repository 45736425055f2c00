/- DiskOwn: a copy is of its own: what is done to one changes nothing of the other one: for every two rows of ops. No condition. -/
import Derived.Test.YtammmhbkfdmbfaaU10
import Derived.BigRegion
namespace Go.Proofs.Ytammmhbkfdmbfaa.diskOwn
open Go.ChangeShapes Go.WideShapes Go.ChangeAt Go.RowKit
open Go.ChangeMaps (open_string shut_string)
set_option linter.unusedVariables false

theorem doNil {X : Nat → Prop} {w0 w : World} {p : Nat} {d e : DiskM} {a : Option Addr} (h : Duo X w0 w p d e a) (o : OpM) (ha : o.a.length ≤ maxLen) (hb : o.b.length ≤ maxLen) (hn : o.n ≤ 9223372036854775807) (hl : d.L.length ≤ 1000000) :
    Calls Try.prog 17 #[pt p, opV o, .slice none 0 0] w fun r w' => r = .returned (.int .i64 (stepM d o []).2) ∧ ∃ d', d' = (stepM d o []).1 ∧ Duo X w0 w' p d' e a ∧ Below w0.heap.size w w' ∧ ∀ i, X i → w'.heap[i]? = w.heap[i]? :=
  h.stepF fun K _ _ hL => (do_gen o ha hb hn [] none 0 (Nat.le_refl _) (by unfold maxLen; omega) hL hl (fun W S _ _ _ j hj => absurd hj (by simp [intV]))).mono fun r w' ⟨h1, h2⟩ => ⟨h1, _, rfl, h2⟩
/-- a copy, and what it was made of, apart -/
theorem split {X : Nat → Prop} {w0 w w1 w' : World} {p q : Nat} {d : DiskM} {a : Option Addr} {T : Nat → Prop} (hc : Duo X w0 w p d d a) (hb : Below w.heap.size w w1) (hT : DiskAt w1 q T d) (hT1 : ∀ i, T i → w.heap.size ≤ i) (hw : Below w0.heap.size w1 w') (hd : DiskAt w' q T d) (hk : ∀ i, X i → w'.heap[i]? = w1.heap[i]?) (hr : FiSl w' a d.L) : Duo X w0 w' q d d a := by
  obtain ⟨S, hS, h1, h2, h3⟩ := hc.ex
  refine ⟨⟨T, hd, fun i hi => by have := hT1 i hi; have := hc.below.size; omega, fun b o ea hne => ⟨fun ht => ?_, (h2 b o ea hne).2⟩, fun i hi ht => ?_⟩, hr, hc.ok, hc.oke, fun i hi => ⟨(hc.box i hi).1, ?_⟩, (hc.below.trans (hb.mono hc.below.size)).trans hw⟩
  · have := hT1 b ht
    subst ea
    have := hc.row.lt hne
    omega
  · have := hT1 i ht
    have := (hc.box i hi).2
    omega
  · have := (hc.box i hi).2
    have := hb.size
    have := hw.size
    omega
set_option maxRecDepth 100000 in
set_option maxHeartbeats 8000000 in
theorem walk (w : World) (a : Option Addr) (c : Nat) (l : List OpM) (hs : OpSl w a l) (hf : FitO l) (hm : l.length ≤ maxLen) (am : Option Addr) (cm : Nat) (m : List OpM) (hsm : OpSl w am m) (hfm : FitO m) (hmm : m.length ≤ maxLen) :
    Calls Try.prog 8 #[.slice a l.length c, .slice am m.length cm] w fun e w' => e = .returned (.bool true) ∧ Below w.heap.size w w' := by
  have HAL := Lib.hid alive_any
  have HFEW := Lib.hid (few_any a c l w hs hm hf)
  have HFEM := Lib.hid (fun W (hb : Below w.heap.size w W) => few_any am cm m W (hsm.below hb) hmm hfm)
  have HS := Lib.hid hsm
  have HF := Lib.hid hfm
  have HFB : Hid (fewB l = true → l.length ≤ 60) := fun h => by
    unfold fewB at h; rw [Bool.and_eq_true, decide_eq_true_eq, decide_eq_true_eq] at h; exact h.2
  have HFM : Hid (fewB m = true → m.length ≤ 60) := fun h => by
    unfold fewB at h; rw [Bool.and_eq_true, decide_eq_true_eq, decide_eq_true_eq] at h; exact h.2
  have HMD : Hid (∀ W, fewB l = true → Below w.heap.size w W → Calls Try.prog 19 #[.int .i64 1000, .slice a l.length c, .slice none 0 0] W fun r w' => ∃ p a' c', r = .returned (.tuple #[.pointer (some ⟨p, 0, none⟩), refV a' c' (runM (newM 1000) l [])]) ∧ Duo (fun _ => False) W w' p (runM (newM 1000) l []) (runM (newM 1000) l []) a') :=
    fun W h hb => made_any W 1000 a c l (hs.below hb) hf (HFB.out h) none 0 [] (Sl.nil _ _) (Nat.le_refl _) (by unfold maxLen; omega)
  have HOK := Lib.hid (runM_ok 1000 l hf [])
  have HLN : Hid (fewB l = true → (runM (newM 1000) l []).L.length ≤ 60) := fun h => Nat.le_trans (runM_len 1000 l []) (HFB.out h)
  obtain ⟨M, hM⟩ : ∃ M, M = m.length := ⟨_, rfl⟩
  have HM := Lib.hid hM
  rw [← hM] at HFEM HFM ⊢
  clear hs hf hm HFB hsm hfm hmm hM
  generalize runM (newM 1000) l [] = E at *
  generalize fewB l = FB at *
  generalize fewB m = FM at *
  generalize l.length = N at *
  go_enter Try.func8, Try.ntmps8
  go_wp2_with fail
  refine (HFEW.out).mono ?_
  rintro e w0 ⟨rfl, hB0⟩
  have HB0 := Lib.hid hB0
  clear hB0 HFEW
  cases FB
  · go_wp2_with fail
    refine (HAL.out _).mono ?_
    rintro e w2 ⟨rfl, hB2⟩
    go_wp2
    go_ret
    exact ⟨rfl, HB0.out.trans (hB2.mono HB0.out.size)⟩
  go_wp2_with fail
  refine (HFEM.out _ HB0.out).mono ?_
  rintro e w1 ⟨rfl, hB1⟩
  have HB1 := Lib.hid (HB0.out.trans (hB1.mono HB0.out.size))
  clear hB1 HFEM HB0
  cases FM
  · go_wp2_with fail
    refine (HAL.out _).mono ?_
    rintro e w2 ⟨rfl, hB2⟩
    go_wp2
    go_ret
    exact ⟨rfl, HB1.out.trans (hB2.mono HB1.out.size)⟩
  have hlen := HLN.out trivial
  have hM60 := HFM.out rfl
  go_wp2_with fail
  refine (HMD.out _ trivial HB1.out).mono ?_
  rintro e w2 ⟨p, a2, c2, rfl, hD⟩
  have HD := Lib.hid (fun ob => (hD.alloc ob).mono (Y := fun i => i = w2.heap.size) (fun i hi => .inr hi))
  have hbx := Lib.hid (fun ob => heap_alloc_new w2 ob)
  clear hD HMD HLN HFM
  unfold refV
  go_wp2_with fail
  have hD2 := HD.out (.cells #[.slice a2 E.L.length c2, .int .i64 E.limit, .int .i64 E.fuse, .int .i64 E.ops, .int .i64 E.reads, .bool E.down] 30)
  have hX2 : BoxD (w2.alloc (.cells #[.slice a2 E.L.length c2, .int .i64 E.limit, .int .i64 E.fuse, .int .i64 E.ops, .int .i64 E.reads, .bool E.down] 30)) w2.heap.size a2 c2 E := hbx.out _
  clear HD hbx
  generalize w2.heap.size = B at *
  generalize (w2.alloc (.cells #[.slice a2 E.L.length c2, .int .i64 E.limit, .int .i64 E.fuse, .int .i64 E.ops, .int .i64 E.reads, .bool E.down] 30)) = W at *
  obtain ⟨S0, hS0, hS1, hS2, hS3⟩ := hD2.ex
  refine (copy_any W p S0 E HOK.out (by omega) hS0).mono ?_
  rintro e w3 ⟨q, T, rfl, hT, hT1, hb3⟩
  obtain ⟨XX, hXX⟩ : ∃ XX : Nat → Prop, XX = (fun i => i = B ∨ (W.heap.size ≤ i ∧ i < w3.heap.size)) := ⟨_, rfl⟩
  have HD3 : Hid (Duo XX w1 w3 p E E a2) := by rw [hXX]; exact hD2.grow hb3
  have hTX : ∀ i, T i → XX i := fun i hi => by rw [hXX]; exact .inr ⟨hT1 i hi, hT.lt i hi⟩
  have HSP : Hid (∀ W' D', Duo XX w1 W' p D' E a2 → Below w1.heap.size w3 W' → (∀ i, XX i → W'.heap[i]? = w3.heap[i]?) → Duo (fun i => i = B) w1 W' q E E a2 ∧ BoxD W' B a2 c2 E) := fun W' D' hd hb hk =>
    ⟨split hD2 hb3 hT hT1 hb (hT.far hb (fun i hi => hk i (hTX i hi))) (fun i hi => hk i (by rw [hXX]; exact .inl hi)) hd.row, (hk B (by rw [hXX]; exact .inl rfl)).trans ((hb3.block B ((hD2.box B rfl).2)).trans hX2)⟩
  clear hS0 hS1 hS2 hS3 hT hT1 hb3 hTX hD2 hX2 hXX
  have HLE : Hid (E.L.length ≤ 60 + 0) := by unfold Hid; omega
  go_wp2
  go_loopw [35] (fun i wr => ∃ (k : Nat) (D : DiskM), k ≤ M ∧ i = .int .i64 k ∧ Hid (D.L.length ≤ 60 + k) ∧ Hid (Duo XX w1 wr p D E a2) ∧ Hid (Below w1.heap.size w3 wr) ∧ Hid (∀ i, XX i → wr.heap[i]? = w3.heap[i]?)) (fun i _ => M - (intOf i).toNat)
  case atStart => exact ⟨0, E, by omega, rfl, HLE, HD3, Below.refl _ _, fun i _ => rfl⟩
  case round =>
    obtain ⟨k, D, hk, rfl, HDL, HDU, HBW, HKW⟩ := hrel
    by_cases hlt : k < M
    · have hkl : k < m.length := by have := HM.out; omega
      obtain ⟨b, off, rfl, hbl, hc0, hc1, hc2, hc3⟩ := ((HS.out.below HB1.out).below HDU.out.below).at hkl
      obtain ⟨f1, f2, f3⟩ := HF.out _ (List.getElem_mem hkl)
      have hlenD : D.L.length ≤ 1000000 := by have := HDL.out; omega
      have HDO := Lib.hid (fun ob => doNil (HDU.out.alloc ob) m[k] (by unfold maxLen; omega) (by unfold maxLen; omega) f3 hlenD)
      have HST : Hid ((stepM D m[k] []).1.L.length ≤ 60 + (k + 1)) := by have h1 := step_len D m[k] []; have := HDL.out; unfold Hid; omega
      have HOV : Hid (opV m[k] = .agg #[.int .i64 m[k].kind, .string (tx m[k].a), .string (tx m[k].b), .int .i64 m[k].n]) := rfl
      rw [HOV.out] at HDO
      have HAX : Hid (∀ ob, Below w1.heap.size wr (wr.alloc ob)) := fun ob => (Below.refl _ _).alloc HDU.out.below.size ob
      have HKX : Hid (∀ ob i, XX i → (wr.alloc ob).heap[i]? = wr.heap[i]?) := fun ob i hi => Below.heap_alloc _ _ _ (HDU.out.box i hi).2
      clear f1 f2 f3 HOV hlenD
      generalize (stepM D m[k] []) = ST at *
      generalize m[k].kind = v0 at *
      generalize tx m[k].a = v1 at *
      generalize tx m[k].b = v2 at *
      generalize m[k].n = v3 at *
      go_wp2_with fail
      refine (HDO.out _).mono ?_
      rintro e wn ⟨rfl, dn, rfl, hn1, hn2, hn3⟩
      have HN1 := Lib.hid (hn1.mono (Y := XX) (fun i hi => .inl hi))
      have HN2 := Lib.hid ((HBW.out.trans (HAX.out _)).trans hn2)
      have HN3 : Hid (∀ i, XX i → wn.heap[i]? = w3.heap[i]?) := fun i hi => (hn3 i (.inl hi)).trans ((HKX.out _ i hi).trans (HKW.out i hi))
      clear hn1 hn2 hn3
      go_wp2
      go_roundw
      case rel => exact ⟨k + 1, ST.1, by omega, by go_num, HST.out, HN1.out, HN2.out, HN3.out⟩
      case measure => simp [intOf]; omega
    · obtain rfl : k = M := by omega
      obtain ⟨hd4, hx4⟩ := HSP.out _ _ HDU.out HBW.out HKW.out
      have hrow := hd4.row
      have HSM := Lib.hid (fun W (h : Duo (fun i => i = B) w1 W q E E a2) => same_any W c2 h hlen)
      unfold refV at HSM
      obtain ⟨⟨x0, x1, x2, x3, x4, x5⟩, _⟩ := cells6 hx4
      have HD4 := Lib.hid hd4
      have HX4 := Lib.hid hx4
      clear HDU HDL HBW HKW HSP HD3 hd4 hx4 hrow
      go_wp2_with fail
      refine (HSM.out _ HD4.out).mono ?_
      rintro e w5 ⟨rfl, h5, hk5⟩
      have hx5 : BoxD w5 B a2 c2 E := (hk5 B rfl).trans HX4.out
      clear x0 x1 x2 x3 x4 x5 HD4 HX4
      obtain ⟨U0, hU0, hU1, hU2, hU3⟩ := h5.ex
      have HCP := Lib.hid (copy_any w5 q U0 E HOK.out (by omega) hU0)
      go_wp2_with fail
      refine (HCP.out).mono ?_
      rintro e w6 ⟨r, V, rfl, hV, hV1, hb6⟩
      have HD6 : Hid (Duo (fun i => i = B ∨ U0 i) w1 w6 r E E a2) :=
        ⟨⟨V, hV, fun i hi => by have := hV1 i hi; have := h5.below.size; omega, fun b o ea hne => ⟨fun ht => by have := hV1 b ht; subst ea; have := h5.row.lt hne; omega, fun hx => by
            rcases hx with hx | hx
            · exact (hU2 b o ea hne).2 hx
            · exact (hU2 b o ea hne).1 hx⟩, fun i hi ht => by
            have := hV1 i ht
            rcases hi with hi | hi
            · have := (h5.box i hi).2; omega
            · have := hU0.lt i hi; omega⟩, h5.row.below hb6, h5.ok, h5.oke, fun i hi => by
            have := hb6.size
            rcases hi with hi | hi
            · have := h5.box i hi; omega
            · have := hU1 i hi; have := hU0.lt i hi; omega, h5.below.trans (hb6.mono h5.below.size)⟩
      have HSP : Hid (∀ W' D', Duo (fun i => i = B ∨ U0 i) w1 W' r D' E a2 → Below w1.heap.size w6 W' → (∀ i, (i = B ∨ U0 i) → W'.heap[i]? = w6.heap[i]?) → Duo (fun i => i = B) w1 W' q E E a2 ∧ BoxD W' B a2 c2 E) := fun W' D' hd hb hk =>
        ⟨⟨⟨U0, (hU0.below hb6).far hb (fun i hi => hk i (.inr hi)), hU1, hU2, hU3⟩, hd.row, h5.ok, h5.oke, fun i hi => hd.box i (.inl hi), hd.below⟩, (hk B (.inl rfl)).trans ((hb6.block B ((h5.box B rfl).2)).trans hx5)⟩
      clear hU0 hU1 hU2 hU3 hV hV1 hb6 h5 hk5 hx5 HCP
      obtain ⟨YY, hYY⟩ : ∃ YY : Nat → Prop, YY = (fun i => i = B ∨ U0 i) := ⟨_, rfl⟩
      rw [← hYY] at HD6
      have HSQ : Hid (∀ W' D', Duo YY w1 W' r D' E a2 → Below w1.heap.size w6 W' → (∀ i, YY i → W'.heap[i]? = w6.heap[i]?) → Duo (fun i => i = B) w1 W' q E E a2 ∧ BoxD W' B a2 c2 E) := by subst hYY; exact HSP.out
      clear HSP hYY
      go_wp2
      go_loopw [53] (fun i wr => ∃ (j : Nat) (D : DiskM), j ≤ k ∧ i = .int .i64 j ∧ Hid (D.L.length ≤ 60 + j) ∧ Hid (Duo YY w1 wr r D E a2) ∧ Hid (Below w1.heap.size w6 wr) ∧ Hid (∀ i, YY i → wr.heap[i]? = w6.heap[i]?)) (fun i _ => k - (intOf i).toNat)
      case atStart => exact ⟨0, E, by omega, rfl, HLE, HD6, Below.refl _ _, fun i _ => rfl⟩
      case round =>
        obtain ⟨k2, D2, hk2, rfl, HDL, HDU, HBW, HKW⟩ := hrel
        by_cases hlt2 : k2 < k
        · have hkl : k2 < m.length := by have := HM.out; omega
          obtain ⟨b, off, rfl, hbl, hc0, hc1, hc2, hc3⟩ := ((HS.out.below HB1.out).below HDU.out.below).at hkl
          obtain ⟨f1, f2, f3⟩ := HF.out _ (List.getElem_mem hkl)
          have hlenD : D2.L.length ≤ 1000000 := by have := HDL.out; omega
          have HDO := Lib.hid (fun ob => doNil (HDU.out.alloc ob) m[k2] (by unfold maxLen; omega) (by unfold maxLen; omega) f3 hlenD)
          have HST : Hid ((stepM D2 m[k2] []).1.L.length ≤ 60 + (k2 + 1)) := by have h1 := step_len D2 m[k2] []; have := HDL.out; unfold Hid; omega
          have HOV : Hid (opV m[k2] = .agg #[.int .i64 m[k2].kind, .string (tx m[k2].a), .string (tx m[k2].b), .int .i64 m[k2].n]) := rfl
          rw [HOV.out] at HDO
          have HAX : Hid (∀ ob, Below w1.heap.size wr (wr.alloc ob)) := fun ob => (Below.refl _ _).alloc HDU.out.below.size ob
          have HKX : Hid (∀ ob i, YY i → (wr.alloc ob).heap[i]? = wr.heap[i]?) := fun ob i hi => Below.heap_alloc _ _ _ (HDU.out.box i hi).2
          clear f1 f2 f3 HOV hlenD
          generalize (stepM D2 m[k2] []) = ST at *
          generalize m[k2].kind = v0 at *
          generalize tx m[k2].a = v1 at *
          generalize tx m[k2].b = v2 at *
          generalize m[k2].n = v3 at *
          go_wp2_with fail
          refine (HDO.out _).mono ?_
          rintro e wn ⟨rfl, dn, rfl, hn1, hn2, hn3⟩
          have HN1 := Lib.hid (hn1.mono (Y := YY) (fun i hi => .inl hi))
          have HN2 := Lib.hid ((HBW.out.trans (HAX.out _)).trans hn2)
          have HN3 : Hid (∀ i, YY i → wn.heap[i]? = w6.heap[i]?) := fun i hi => (hn3 i (.inl hi)).trans ((HKX.out _ i hi).trans (HKW.out i hi))
          clear hn1 hn2 hn3
          go_wp2
          go_roundw
          case rel => exact ⟨k2 + 1, ST.1, by omega, by go_num, HST.out, HN1.out, HN2.out, HN3.out⟩
          case measure => simp [intOf]; omega
        · obtain rfl : k2 = k := by omega
          obtain ⟨hd7, hx7⟩ := HSQ.out _ _ HDU.out HBW.out HKW.out
          have HD7 := Lib.hid hd7
          have HX7 := Lib.hid hx7
          clear HDU HDL HBW HKW HSQ HD6 hd7 hx7
          have HSS : Hid (∀ W : World, BoxD W B a2 c2 E → W.cell? ⟨B, 0, none⟩ = some (.slice a2 E.L.length c2) ∧ W.cell? ⟨B, 1, none⟩ = some (.int .i64 E.limit) ∧ W.cell? ⟨B, 2, none⟩ = some (.int .i64 E.fuse) ∧ W.cell? ⟨B, 3, none⟩ = some (.int .i64 E.ops) ∧ W.cell? ⟨B, 4, none⟩ = some (.int .i64 E.reads) ∧ W.cell? ⟨B, 5, none⟩ = some (.bool E.down)) := fun W h => (cells6 h).1
          go_wp2_with fail
          refine wp_region_held_drew (S := (fun W => W.cell? ⟨B, 0, none⟩ = some (.slice a2 E.L.length c2) ∧ W.cell? ⟨B, 1, none⟩ = some (.int .i64 E.limit) ∧ W.cell? ⟨B, 2, none⟩ = some (.int .i64 E.fuse) ∧ W.cell? ⟨B, 3, none⟩ = some (.int .i64 E.ops) ∧ W.cell? ⟨B, 4, none⟩ = some (.int .i64 E.reads) ∧ W.cell? ⟨B, 5, none⟩ = some (.bool E.down))) (by kernel_rfl) ?_ (fun hHeld => ?_)
          · exact HSS.out _ HX7.out
          refine wpAnyH_ready (rs := [0]) (by kernel_rfl) (by simp) ?_
          refine AllReadyH.cons (o := ⟨some 61, _, _, _, _, _⟩) rfl (fun K hK => ?_) AllReadyH.nil
          go_simp
          refine (HAL.out _).mono ?_
          rintro e w8 ⟨rfl, h8⟩
          have HD8 := Lib.hid ((HD7.out.below_ (Below.refl _ _).drew).below_ h8)
          have HX8 : Hid (BoxD w8 B a2 c2 E) := (h8.block B ((HD7.out.box B rfl).2)).trans HX7.out
          clear h8
          go_wp2_with fail
          refine hK.out _ _ ?_ (fun hH0 => ?_)
          · exact HSS.out _ HX8.out
          clear hK K
          (try simp only [Act.put, List.setIfInBounds_toArray, List.set_cons_zero, List.set_cons_succ])
          refine wpAnyH_take (i := 1) (oi := ⟨some 62, _, _, _, _, _⟩) (v := ?_) rfl (by kernel_rfl) (by kernel_rfl) (by kernel_rfl) (fun _ _ _ h => h) (Or.inl ⟨by rfl, ?_⟩) (by assumption) ?_
          rotate_left
          · (intro wS hSw; (try dsimp only at hSw); (go_simp) <;> (with_reducible rfl))
          (try simp only [Act.put, List.setIfInBounds_toArray, List.set_cons_zero, List.set_cons_succ])
          refine wpAnyH_take (i := 2) (oi := ⟨some 63, _, _, _, _, _⟩) (v := ?_) rfl (by kernel_rfl) (by kernel_rfl) (by kernel_rfl) (fun _ _ _ h => h) (Or.inl ⟨by rfl, ?_⟩) (by assumption) ?_
          rotate_left
          · (intro wS hSw; (try dsimp only at hSw); (go_simp) <;> (with_reducible rfl))
          (try simp only [Act.put, List.setIfInBounds_toArray, List.set_cons_zero, List.set_cons_succ])
          refine wpAnyH_take (i := 3) (oi := ⟨some 64, _, _, _, _, _⟩) (v := ?_) rfl (by kernel_rfl) (by kernel_rfl) (by kernel_rfl) (fun _ _ _ h => h) (Or.inl ⟨by rfl, ?_⟩) (by assumption) ?_
          rotate_left
          · (intro wS hSw; (try dsimp only at hSw); (go_simp) <;> (with_reducible rfl))
          (try simp only [Act.put, List.setIfInBounds_toArray, List.set_cons_zero, List.set_cons_succ])
          refine wpAnyH_ready (rs := [4]) (by kernel_rfl) (by simp) ?_
          refine AllReadyH.cons (o := ⟨some 65, _, _, _, _, _⟩) rfl (fun K hK => ?_) AllReadyH.nil
          go_simp
          refine (HSM.out _ HD8.out).mono ?_
          rintro e w9 ⟨rfl, h9, hk9⟩
          have HD9 := Lib.hid h9
          have HX9 : Hid (BoxD w9 B a2 c2 E) := (hk9 B rfl).trans HX8.out
          clear h9 hk9
          go_wp2_with fail
          refine hK.out _ _ ?_ (fun hH4 => ?_)
          · exact HSS.out _ HX9.out
          clear hK K
          (try simp only [Act.put, List.setIfInBounds_toArray, List.set_cons_zero, List.set_cons_succ])
          refine wpAnyH_take (i := 5) (oi := ⟨some 66, _, _, _, _, _⟩) (v := ?_) rfl (by kernel_rfl) (by kernel_rfl) (by kernel_rfl) (fun _ _ _ h => h) (Or.inl ⟨by rfl, ?_⟩) (by assumption) ?_
          rotate_left
          · (intro wS hSw; (try dsimp only at hSw); (go_simp) <;> (with_reducible rfl))
          (try simp only [Act.put, List.setIfInBounds_toArray, List.set_cons_zero, List.set_cons_succ])
          refine wpAnyH_take (i := 6) (oi := ⟨some 67, _, _, _, _, _⟩) (v := ?_) rfl (by kernel_rfl) (by kernel_rfl) (by kernel_rfl) (fun _ _ _ h => h) (Or.inl ⟨by rfl, ?_⟩) (by assumption) ?_
          rotate_left
          · (intro wS hSw; (try dsimp only at hSw); (go_simp) <;> (with_reducible rfl))
          (try simp only [Act.put, List.setIfInBounds_toArray, List.set_cons_zero, List.set_cons_succ])
          refine wpAnyH_take (i := 7) (oi := ⟨some 68, _, _, _, _, _⟩) (v := ?_) rfl (by kernel_rfl) (by kernel_rfl) (by kernel_rfl) (fun _ _ _ h => h) (Or.inl ⟨by rfl, ?_⟩) (by assumption) ?_
          rotate_left
          · (intro wS hSw; (try dsimp only at hSw); (go_simp) <;> (with_reducible rfl))
          (try simp only [Act.put, List.setIfInBounds_toArray, List.set_cons_zero, List.set_cons_succ])
          refine wpAnyH_take (i := 8) (oi := ⟨some 69, _, _, _, _, _⟩) (v := ?_) rfl (by kernel_rfl) (by kernel_rfl) (by kernel_rfl) (fun _ _ _ h => h) (Or.inl ⟨by rfl, ?_⟩) (by assumption) ?_
          rotate_left
          · (intro wS hSw; (try dsimp only at hSw); (go_simp) <;> (with_reducible rfl))
          (try simp only [Act.put, List.setIfInBounds_toArray, List.set_cons_zero, List.set_cons_succ])
          refine wpAnyH_take (i := 10) (oi := ⟨some 71, _, _, _, _, _⟩) (v := ?_) rfl (by kernel_rfl) (by kernel_rfl) (by kernel_rfl) (fun _ _ _ h => h) (Or.inl ⟨by rfl, ?_⟩) (by assumption) ?_
          rotate_left
          · (intro wS hSw; (try dsimp only at hSw); (go_simp) <;> (with_reducible rfl))
          (try simp only [Act.put, List.setIfInBounds_toArray, List.set_cons_zero, List.set_cons_succ])
          refine wpAnyH_take (i := 11) (oi := ⟨some 72, _, _, _, _, _⟩) (v := ?_) rfl (by kernel_rfl) (by kernel_rfl) (by kernel_rfl) (fun _ _ _ h => h) (Or.inl ⟨by rfl, ?_⟩) (by assumption) ?_
          rotate_left
          · (intro wS hSw; (try dsimp only at hSw); (go_simp) <;> (with_reducible rfl))
          (try simp only [Act.put, List.setIfInBounds_toArray, List.set_cons_zero, List.set_cons_succ])
          refine wpAnyH_ready (rs := [9]) (by kernel_rfl) (by simp) ?_
          refine AllReadyH.cons (o := ⟨some 70, _, _, _, _, _⟩) rfl (fun K hK => ?_) AllReadyH.nil
          go_simp
          refine (liv_reads HD9.out.liv).mono ?_
          rintro e w10 ⟨rfl, rfl⟩
          go_wp2_with fail
          refine hK.out _ _ ?_ (fun hH9 => ?_)
          · exact HSS.out _ HX9.out
          clear hK K
          (try simp only [Act.put, List.setIfInBounds_toArray, List.set_cons_zero, List.set_cons_succ])
          refine wpAnyH_take (i := 12) (oi := ⟨some 73, _, _, _, _, _⟩) (v := ?_) rfl (by kernel_rfl) (by kernel_rfl) (by kernel_rfl) (fun _ _ _ h => h) (Or.inl ⟨by rfl, ?_⟩) (by assumption) ?_
          rotate_left
          · (intro wS hSw; (try dsimp only at hSw); (go_simp) <;> (with_reducible rfl))
          (try simp only [Act.put, List.setIfInBounds_toArray, List.set_cons_zero, List.set_cons_succ])
          refine wpAnyH_take (i := 13) (oi := ⟨some 74, _, _, _, _, _⟩) (v := ?_) rfl (by kernel_rfl) (by kernel_rfl) (by kernel_rfl) (fun _ _ _ h => h) (Or.inl ⟨by rfl, ?_⟩) (by assumption) ?_
          rotate_left
          · (intro wS hSw; (try dsimp only at hSw); (go_simp) <;> (with_reducible rfl))
          (try simp only [Act.put, List.setIfInBounds_toArray, List.set_cons_zero, List.set_cons_succ])
          refine wpAnyH_take (i := 14) (oi := ⟨some 4, _, _, _, _, _⟩) (v := ?_) rfl (by kernel_rfl) (by kernel_rfl) (by kernel_rfl) (fun _ _ _ h => h) (Or.inl ⟨by rfl, ?_⟩) (by assumption) ?_
          rotate_left
          · (intro wS hSw; (try dsimp only at hSw); (go_simp) <;> (with_reducible rfl))
          (try simp only [Act.put, List.setIfInBounds_toArray, List.set_cons_zero, List.set_cons_succ])
          refine wpAnyH_done (by kernel_rfl) ?_ _
          all_goals
            go_wp2
            go_ret
            exact ⟨rfl, HB1.out.trans (HD9.out.below.mono HB1.out.size)⟩

set_option maxRecDepth 100000 in
theorem lifted (os : Os) (started : os.Started) (H : Type) (enc : TypeId × Value → H) :
    ReturnsInHanded {} Try.checked os 8 .any (Rows.diskOwnSpec.pre6 enc Try.prog Try.f8 Rows.diskOwnRow.domain false) (Rows.diskOwnSpec.post enc Try.prog Try.f8 false true false false) := by
  refine returnsInHanded_of_change_sized (C := Try.checked) own started (by kernel_rfl) Try.func8
    (ChangeSpec.witness6 (enc := enc) (C := Try.checked) false ⟨#[], #[.slice none 0 0, .slice none 0 0], []⟩ 8 (by kernel_rfl) (by kernel_rfl) (by kernel_rfl) (by kernel_rfl)) ?_
  intro W base args ds gs before hval0 hW hcnd hsz0 _
  have hval : ∀ (j : Nat) t v, Try.f8.params[j]? = some t → args[j]? = some v → Value.okWide Try.prog W .any base t v := hval0
  have hW' := hW
  have hlt := hW.lt
  obtain ⟨p, q, hA0, hV, rfl, hfz, hnd⟩ := hW
  have hA : DataW.TrodAll enc Try.prog W 0 (fun _ => true) true Try.f8.params.toList args.toList ds p := hA0
  rw [Try.params8] at hA hval
  obtain ⟨v0, vs0, d0, ds0, p0, q0, hargs, rfl, rfl, h0, r0⟩ := trodAll_cons hA
  obtain ⟨v1, vs1, d1, ds1, p1, q1, rfl, rfl, rfl, h1, r1⟩ := trodAll_cons r0
  obtain ⟨rfl, rfl, rfl⟩ := trodAll_nil r1
  obtain rfl : args = #[v0, v1] := by cases args; simp_all
  obtain ⟨rfl, rfl⟩ := trodVars_none hV
  obtain ⟨a0, c0, l0, rfl, s0, f0, m0⟩ := open_ops (hval 0 22 v0 rfl rfl) h0 (fun n hn => of_decide_eq_true (List.all_eq_true.1 hsz0 n (DataW.weights_mem_each (j := 0) (t := 22) (by kernel_rfl) rfl n hn)))
  obtain ⟨a1, c1, l1, rfl, s1, f1, m1⟩ := open_ops (hval 1 22 v1 rfl rfl) h1 (fun n hn => of_decide_eq_true (List.all_eq_true.1 hsz0 n (DataW.weights_mem_each (j := 1) (t := 22) (by kernel_rfl) rfl n hn)))
  refine (walk W a0 c0 l0 s0 f0 m0 a1 c1 l1 s1 f1 m1).mono fun e W' ⟨he, hb⟩ => ?_
  subst he
  exact ⟨_, rfl, law_post rfl hW' (fun ds h => by match ds, h with | [_, _], _ => rfl) (by kernel_rfl) (by kernel_rfl) (by kernel_rfl) hb⟩

theorem over : Rows.diskOwnRow.holds Try.pinned (OpenSpec.ofChange Rows.diskOwnSpec) :=
  OpenClaim.holds_of_wide 8 Try.f8 rfl rfl rfl rfl rfl rfl rfl ⟨rfl, rfl, rfl, rfl, rfl⟩ rfl rfl rfl rfl rfl (by kernel_rfl) Try.func8 (by kernel_rfl)
    (of_decide_eq_true (by kernel_rfl)) (by unfold Func.isWrapper; first | (rw [if_pos (by decide +kernel)]; kernel_rfl) | (rw [if_neg (by decide +kernel)]; exact ⟨rfl, rfl⟩))
    (fun os started H enc _ => lifted os started H enc)

theorem proved : Rows.DiskOwnSaid := over
end Go.Proofs.Ytammmhbkfdmbfaa.diskOwn
