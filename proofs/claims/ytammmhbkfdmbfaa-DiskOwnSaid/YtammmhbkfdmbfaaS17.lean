/- Contracts of layer 5: Crash, walked. -/
import Derived.Test.YtammmhbkfdmbfaaS16
namespace Go.Proofs.Ytammmhbkfdmbfaa
open Go.RowKit
set_option linter.unusedVariables false

/-- the disk while it crashes -/
def DiskM.half (d : DiskM) (L : List FileM) : DiskM := { d with L := L }
/-- the world while a disk crashes -/
structure CrashK (w : World) (p : Nat) (S : Nat → Prop) (d : DiskM) (keep : List Int) (an ka : Option Addr) (j : Nat) (r : List Int) (wr : World) : Prop where
  ex : ∃ pre T, Half d.L keep j pre r ∧ DiskAt wr p T (d.half (pre ++ d.L.drop j)) ∧ Out T wr an (nameV d.L) ∧ Out T wr ka (intV r) ∧ (∀ i, T i → S i ∨ w.heap.size ≤ i)
  stay : Kept S w wr

theorem nm_small {n : Nm} (h : rightN n = true) : n.length ≤ 20 := by
  unfold rightN at h
  simp only [Bool.and_eq_true, decide_eq_true_eq] at h
  exact h.1.2
theorem Ok.half {d : DiskM} (h : Ok d) {keep : List Int} {j : Nat} {pre : List FileM} {r : List Int} (hh : Half d.L keep j pre r) : usedL (pre ++ d.L.drop j) ≤ usedL d.L := by
  have h1 := crashL_used (d.L.take j) keep
  have h2 : usedL pre ≤ usedL (d.L.take j) := by
    have : pre = crashL (d.L.take j) keep := by
      clear h1 h
      have h3 := hh.1
      have key : ∀ (L : List FileM) (keep : List Int) (j : Nat), ∃ r', crashL L keep = crashL (L.take j) keep ++ crashL (L.drop j) r' := by
        intro L
        induction L with
        | nil => intro keep j; exact ⟨[], by simp [crashL]⟩
        | cons f t ih =>
          intro keep j
          cases j with
          | zero => exact ⟨keep, by simp [crashL]⟩
          | succ j =>
            rw [List.take_succ_cons, List.drop_succ_cons, crashL, crashL]
            split
            · obtain ⟨r', e⟩ := ih keep j
              exact ⟨r', by rw [e]; simp⟩
            · obtain ⟨r', e⟩ := ih keep.tail j
              exact ⟨r', by rw [e]; simp⟩
      obtain ⟨r', e⟩ := key d.L keep j
      have hl : pre.length = (crashL (d.L.take j) keep).length := by
        have := congrArg List.length hh.2
        rw [crashL_len]
        simpa using this
      exact (List.append_inj (h3.symm.trans e) hl).1
    rw [this]; exact h1
  rw [usedL_append]
  have h4 : usedL d.L = usedL (d.L.take j) + usedL (d.L.drop j) := by rw [← usedL_append, List.take_append_drop]
  omega

/-- one file of a disk that crashes is settled -/
theorem CrashK.settled {w wr w' : World} {p b : Nat} {S : Nat → Prop} {d : DiskM} {keep : List Int} {an ka' : Option Addr} {j : Nat} {r : List Int} {pre : List FileM} {T : Nat → Prop} {F : List (FileM × Value)} {v : Value} (hok : Ok d) (hj : j < d.L.length) (hl : d.L[j].loose ≠ [])
    (hh : Half d.L keep j pre r) (hn : Out T wr an (nameV d.L)) (hkr : Out T wr ka' (intV r.tail)) (hT : ∀ i, T i → S i ∨ w.heap.size ≤ i) (hk : Kept S w wr) (hp : (F.map (·.1)).Perm (pre ++ d.L.drop j))
    (h1 : DiskRaw w' p b (Grow T wr w') { (d.half (pre ++ d.L.drop j)).meta_ with used := (usedL (pre ++ d.L.drop j) : Int) - (d.L[j].loose.length - kept (r.headD 0) d.L[j].loose.length : Nat) } ((settleF d.L[j] (r.headD 0), v) :: F.filter (notN d.L[j].name)))
    (h2 : Kept T wr w') : CrashK w p S d keep an ka' (j + 1) r.tail w' := by
  have hr := hh.rise hok.rise
  rw [List.drop_eq_getElem_cons hj] at hp hr h1
  have hs := settle_used d.L[j] (r.headD 0)
  refine ⟨⟨pre ++ [settleF d.L[j] (r.headD 0)], Grow T wr w', hh.settle hj hl, DiskAt.of h1 ?_ ?_, hn.grow h2, hkr.grow h2, fun i hi => ?_⟩, hk.trans h2 (fun i hi e => ?_)⟩
  · simp only [DiskM.meta_, DiskM.half]
    congr 1
    rw [List.append_assoc, usedL_append, usedL_append, List.cons_append, usedL_cons, usedL_cons, List.nil_append]
    omega
  · show (_ : List FileM).Perm (pre ++ [settleF d.L[j] (r.headD 0)] ++ d.L.drop (j + 1))
    rw [List.map_cons]
    have := perm_wo hp d.L[j].name
    rw [mid_wo hr] at this
    refine (this.cons _).trans ?_
    rw [List.append_assoc]
    exact List.perm_middle.symm
  · rcases hi with hi | hi
    · exact hT i hi
    · exact .inr (Nat.le_trans hk.size hi.1)
  · rcases hT i e with e | e
    · exact e
    · omega

theorem CrashK.skipped {w wr w' : World} {p : Nat} {S : Nat → Prop} {d : DiskM} {keep : List Int} {an ka : Option Addr} {j : Nat} {r : List Int} (hj : j < d.L.length) (hl : d.L[j].loose = []) (h : CrashK w p S d keep an ka j r wr) (k : Below wr.heap.size wr w') : CrashK w p S d keep an ka (j + 1) r w' := by
  obtain ⟨⟨pre, T, h1, h2, h3, h4, h5⟩, h6⟩ := h
  refine ⟨⟨pre ++ [d.L[j]], T, h1.skip hj hl, ?_, h3.below k, h4.below k, h5⟩, h6.trans (Kept.of_below k S) (fun _ _ e => e)⟩
  have := h2.below k
  rw [List.drop_eq_getElem_cons hj] at this
  rw [List.append_assoc]
  exact this
theorem loose_mid {pre rest : List FileM} {f : FileM} (h : Rise (pre ++ f :: rest)) : looseN (pre ++ f :: rest) f.name = f.loose.length := by
  unfold looseN
  rw [mid_get h]

/-- settle, at any world on the way -/
theorem CrashK.settles {w wr W : World} {p : Nat} {S : Nat → Prop} {d : DiskM} {keep : List Int} {an ka ka2 : Option Addr} {j : Nat} {r : List Int} {pre : List FileM} {T : Nat → Prop} (hok : Ok d) (hl : d.L.length ≤ 1000000) (hj : j < d.L.length) (hlo : d.L[j].loose ≠ [])
    (hc : CrashK w p S d keep an ka j r wr) (hh : Half d.L keep j pre r) (hD : DiskAt wr p T (d.half (pre ++ d.L.drop j))) (hNo : Out T wr an (nameV d.L)) (hT : ∀ i, T i → S i ∨ w.heap.size ≤ i) (h2 : Out T wr ka2 (intV r.tail)) (k : Below wr.heap.size wr W) :
    Calls Try.prog 47 #[pt p, .string (tx d.L[j].name), .int .i64 (r.headD 0)] W fun e w' => e = .returned (.tuple #[]) ∧ CrashK w p S d keep an ka2 (j + 1) r.tail w' := by
  obtain ⟨b, F, hr, hp⟩ := hD.below k
  have hrise := hh.rise hok.rise
  have hsz : (tx d.L[j].name).size ≤ maxLen := by
    rw [tx_size]
    have := nm_small (hok.names _ (List.getElem_mem hj))
    unfold maxLen; omega
  have hget : getL (pre ++ d.L.drop j) (toL (tx d.L[j].name)) = some d.L[j] := by
    rw [toL_tx]
    rw [List.drop_eq_getElem_cons hj] at hrise ⊢
    exact mid_get hrise
  have hu := hok.half hh
  have hroom := hok.room
  have hmost := hok.most
  have hlen : F.length ≤ 1000000 := by
    rw [perm_len hp]
    show (pre ++ d.L.drop j).length ≤ _
    have := congrArg List.length hh.names
    rw [List.length_map, List.length_map] at this
    omega
  refine (settle_any (tx d.L[j].name) hsz (r.headD 0) W p b T _ F (pre ++ d.L.drop j) hr hp d.L[j] hget (ok_len hok (List.getElem_mem hj)) hlen (by simp only [DiskM.meta_, DiskM.half]; omega)).mono ?_
  rintro e w' ⟨rfl, v, k1, k2⟩
  rw [toL_tx] at k1
  exact ⟨rfl, CrashK.settled hok hj hlo hh (hNo.below k) (h2.below k) hT (hc.stay.trans (Kept.of_below k S) (fun _ _ e => e)) hp k1 k2⟩

set_option maxRecDepth 100000 in
set_option maxHeartbeats 2000000 in
theorem crash_any (keep : List Int) (ka : Option Addr) (kc : Nat) (hkc : keep.length ≤ kc) (hkm : kc ≤ maxLen) (w : World) (p : Nat) (S : Nat → Prop) (d : DiskM) (hok : Ok d) (hl : d.L.length ≤ 1000000) (h : DiskAt w p S d) (hko : Out S w ka (intV keep)) :
    Calls Try.prog 28 #[pt p, .slice ka keep.length kc] w fun e w' => e = .returned (.tuple #[]) ∧ DiskAt w' p (Grow S w w') (crashM d keep) ∧ Kept S w w' := by
  have HF := Lib.hid (files_any w p S d hok hl h)
  have HD := Lib.hid h
  have HKO := Lib.hid hko
  have hlt := h.lt
  have HLT := Lib.hid hlt
  clear h hko hlt
  unfold maxLen at hkm
  go_enter Try.func28, Try.ntmps28
  go_wp2_with fail
  refine HF.out.mono ?_
  rintro e w1 ⟨v, rfl, hown, hB⟩
  obtain ⟨an, nc, rfl, hn1, hn2, hno, _⟩ := Out.of_own hown HLT.out
  have HC0 : Hid (CrashK w p S d keep an ka 0 keep w1) := ⟨⟨[], S, Half.start _ _, HD.out.below hB, hno, HKO.out.below hB, fun i e => .inl e⟩, Kept.of_below hB S⟩
  obtain ⟨N, hN⟩ : ∃ N, N = d.L.length := ⟨_, rfl⟩
  have HN := Lib.hid hN
  rw [← hN] at hl hn1 ⊢
  clear hown hB hno hN HF
  unfold maxLen at hn2
  go_wp2
  go_loopw [1, 10] (fun v i wr => ∃ (j : Nat) (r : List Int) (ka' : Option Addr) (kc' : Nat), j ≤ N ∧ i = .int .i64 j ∧ v = .slice ka' r.length kc' ∧ r.length ≤ kc' ∧ kc' ≤ 9223372036854775807 ∧ Hid (CrashK w p S d keep an ka' j r wr)) (fun _ i _ => N - (intOf i).toNat)
  case atStart => exact ⟨0, keep, ka, kc, by omega, rfl, rfl, hkc, by omega, HC0.out⟩
  case round =>
    obtain ⟨j, r, ka', kc', hj, rfl, rfl, hrc, hkc', HC⟩ := hrel
    by_cases hlt : j < N
    · have hjl : j < d.L.length := by have := HN.out; omega
      obtain ⟨pre, T, hh, hD, hNo, hKo, hT⟩ := HC.out.ex
      obtain ⟨nb, off, rfl, hnb, _, hcell⟩ := hNo j (by unfold nameV; rw [List.length_map]; exact hjl)
      have hcell' : wr.cell? ⟨nb, off + j, none⟩ = some (.string (tx d.L[j].name)) := by rw [hcell]; simp [nameV]
      clear hcell
      have hsz : (tx d.L[j].name).size ≤ maxLen := by
        rw [tx_size]
        have := nm_small (hok.names _ (List.getElem_mem hjl))
        unfold maxLen; omega
      have hrise := hh.rise hok.rise
      have hlm : looseN (pre ++ d.L.drop j) d.L[j].name = d.L[j].loose.length := by
        rw [List.drop_eq_getElem_cons hjl] at hrise ⊢
        exact loose_mid hrise
      have HL := Lib.hid (loose_any (tx d.L[j].name) hsz wr p T _ hD)
      rw [toL_tx, show (d.half (pre ++ d.L.drop j)).L = pre ++ d.L.drop j from rfl, hlm] at HL
      by_cases hlo : d.L[j].loose = []
      · have HS := Lib.hid (fun w' k => HC.out.skipped (w' := w') hjl hlo k)
        rw [hlo] at HL
        clear hh hD hNo hKo hT hrise hlm hsz hlo
        generalize tx d.L[j].name = nm at *
        go_wp2_with fail
        refine HL.out.mono ?_
        rintro e w2 ⟨rfl, hB2⟩
        have HC2 := Lib.hid (HS.out w2 hB2)
        clear hB2 HL HS
        go_wp2
        go_roundw
        case rel => exact ⟨j + 1, r, ka', kc', by omega, by go_num, rfl, hrc, hkc', HC2⟩
        case measure => simp [intOf]; omega
      · have HSET := Lib.hid (fun W ka2 (h2 : Out T wr ka2 (intV r.tail)) k => CrashK.settles (ka2 := ka2) (W := W) hok (by rw [← HN.out]; exact hl) hjl hlo HC.out hh hD hNo hT h2 k)
        have hne : ¬ ((d.L[j].loose.length : Int) = 0) := by
          intro e
          exact hlo (List.eq_nil_of_length_eq_zero (by omega))
        have hne2 : ((d.L[j].loose.length : Int) == 0) = false := beq_eq_false_iff_ne.2 hne
        have HKO2 := Lib.hid hKo
        clear hh hD hNo hKo hT hrise hlm hsz hlo
        generalize (d.L[j].loose.length : Int) = ll at *
        generalize tx d.L[j].name = nm at *
        go_wp2_with fail
        refine HL.out.mono ?_
        rintro e w2 ⟨rfl, hB2⟩
        have HB2 := Lib.hid hB2
        cases r with
        | nil =>
          have HS0 := Lib.hid (HSET.out w2 none (Out.nil _ _ _) hB2)
          have HS1 := Lib.hid (HSET.out w2 ka' (Out.nil _ _ _) hB2)
          simp only [List.headD_nil, List.tail_nil] at HS1
          clear hB2 HL HSET HS0
          go_wp2_with fail
          refine HS1.out.mono ?_
          rintro e w3 ⟨rfl, hC3⟩
          have HC3 := Lib.hid hC3
          clear hC3
          go_wp2
          go_roundw
          case rel => exact ⟨j + 1, [], ka', kc', by omega, by go_num, rfl, hrc, hkc', HC3⟩
          case measure => simp [intOf]; omega
        | cons x r' =>
          obtain ⟨kb, koff, rfl, hkb, _, hkcell⟩ := HKO2.out 0 (by simp [intV])
          have hkc2 : w2.cell? ⟨kb, koff, none⟩ = some (.int .i64 x) := by
            have := (hB2.cell (p := ⟨kb, koff + 0, none⟩) hkb).trans hkcell
            rw [Nat.add_zero] at this
            rw [this]; simp [intV]
          clear hkcell
          simp only [List.length_cons] at hrc
          obtain ⟨a2, c2, hsl, ho2, hc2, hc3⟩ := keep_tail HKO2.out (by omega)
          have HO2 := Lib.hid ho2
          have HS1 := Lib.hid (fun W (k : Below w2.heap.size w2 W) => HSET.out W a2 HO2.out (hB2.trans (k.mono hB2.size)))
          simp only [List.headD_cons, List.tail_cons] at HS1
          have hkb2 : kb < w2.heap.size := Nat.lt_of_lt_of_le hkb hB2.size
          simp only [List.length_cons]
          clear hB2 HL HSET ho2
          generalize hl1 : r'.length + 1 = n1 at *
          have hn1' : 0 < n1 := by omega
          clear hl1
          go_wp2
          go_quiet (fail)
          go_wp2_with fail
          refine (HS1.out _ (Drew.below (show Drew w2 (w2.drewN _) from ⟨_, rfl⟩) _)).mono ?_
          rintro e w3 ⟨rfl, hC3⟩
          have HC3 := Lib.hid hC3
          clear hC3
          go_wp2
          go_roundw
          case rel => exact ⟨j + 1, r', a2, c2, by omega, by go_num, rfl, hc2, by omega, HC3⟩
          case measure => simp [intOf]; omega
    · obtain rfl : j = N := by omega
      have HFIN : Hid (∃ T, DiskAt wr p T (d.half (crashL d.L keep)) ∧ (∀ i, T i → S i ∨ w.heap.size ≤ i)) := by
        obtain ⟨pre, T, hh, hD, hNo, hKo, hT⟩ := HC.out.ex
        rw [HN.out] at hh hD
        refine ⟨T, ?_, hT⟩
        rw [hh.all]
        rw [List.drop_length, List.append_nil] at hD
        exact hD
      have HST := Lib.hid HC.out.stay
      clear HC
      obtain ⟨T, hT1, hT2⟩ := HFIN.out
      have hlt := hT1.lt
      obtain ⟨b, F, hr, hp⟩ := hT1
      have f5 := hr.free 5
      have f6 := hr.free 6
      have c5 := hr.cells.2.2.2.2.2.1
      have c6 := hr.cells.2.2.2.2.2.2
      have HFN : Hid (DiskAt ((wr.setCell ⟨p, 6, none⟩ (.bool false)).setCell ⟨p, 5, none⟩ (.int .i64 (-1))) p (Grow S w ((wr.setCell ⟨p, 6, none⟩ (.bool false)).setCell ⟨p, 5, none⟩ (.int .i64 (-1)))) (crashM d keep) ∧ Kept S w ((wr.setCell ⟨p, 6, none⟩ (.bool false)).setCell ⟨p, 5, none⟩ (.int .i64 (-1)))) := by
        have h1 := (hr.setDown false).setFuse (-1)
        have hs : ((wr.setCell ⟨p, 6, none⟩ (.bool false)).setCell ⟨p, 5, none⟩ (.int .i64 (-1))).heap.size = wr.heap.size := by simp [World.setCell]
        refine ⟨DiskAt.mono (DiskAt.of h1 rfl hp) (fun i hi => ?_) (fun i hi => ?_), ?_⟩
        · rcases hT2 i hi with e | e
          · exact .inl e
          · exact .inr ⟨e, by rw [hs]; exact hlt i hi⟩
        · rcases hi with hi | hi
          · rw [hs]; exact Nat.lt_of_lt_of_le (HLT.out i hi) HST.out.size
          · exact hi.2
        · rcases hT2 p hr.sp with e | e
          · exact (HST.out.setCell (.inl e) 6 _).setCell (.inl e) 5 _
          · exact (HST.out.setCell (.inr e) 6 _).setCell (.inr e) 5 _
      clear hr hp hT2 hlt HFIN
      go_wp2
      go_end0
      exact ⟨rfl, HFN.out⟩
end Go.Proofs.Ytammmhbkfdmbfaa
