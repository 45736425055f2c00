/- Contracts: the words of a line, in the program and in the document's own way. -/
import Derived.Test.YtollhemkjnkalaaGreatDoorD9
import Derived.Laws.DeepStrings4
namespace Go.Proofs.YtollhemkjnkalaaGreatDoor
open Go.RowKit Go.Shelf
set_option linter.unusedVariables false
set_option maxRecDepth 100000

/-- a row of new memory that holds these texts -/
def GivesRow (w : World) (zs : List (List UInt8)) (e : Ending) (w' : World) : Prop := ∃ v, e = .returned v ∧ w'.ownsRow w.heap.size 9 1 v zs.length (strs (zs.map tx)) ∧ Below w.heap.size w w'

theorem split_pieces (s : ByteArray) : Lib.splitB blank 0 (Lib.countB s blank) s = (cut [] (toL s)).map tx ∧ (cut [] (toL s)).length = Lib.countB s blank + 1 := by
  have h := splitB_cut _ s rfl
  have h2 : (Lib.splitB blank 0 (Lib.countB s blank) s) = (cut [] (toL s)).map tx := by
    show _ = (cut [] s.data.toList).map tx
    rw [← h, List.map_map]
    conv => lhs; rw [← List.map_id (Lib.splitB blank 0 (Lib.countB s blank) s)]
    exact List.map_congr_left fun b _ => (tx_toL b).symm
  refine ⟨h2, ?_⟩
  have h3 := Lib.splitB_all blank (by decide) 0 (Lib.countB s blank) s rfl
  rw [h2, List.length_map] at h3
  exact h3
theorem strings_Split_cut (s : ByteArray) (m : Int) (w : World) (hs : s.size < 4294967281) (hm : w.cell? ⟨Tryz.laysSplit_ren.g 1, 0, none⟩ = some (.int .i64 m)) :
    Calls Tryz.prog 62 #[.string s, .string ⟨#[32]⟩] w fun e w' => e = .returned (.slice (some ⟨w.heap.size, 0, none⟩) ((cut [] (toL s)).map tx).length ((cut [] (toL s)).map tx).length) ∧ w' = w.alloc (.cells (strs ((cut [] (toL s)).map tx)).toArray 9) := by
  have h := Any.strings_Split { Tryz.laysSplit with } Tryz.laysSplit.i9 s ⟨#[32]⟩ m w hs hm (by decide)
  obtain ⟨e1, e2⟩ := split_pieces s
  rw [show (⟨#[32]⟩ : ByteArray) = blank from rfl, e1] at h
  rw [List.length_map, e2]
  exact h
theorem cut_len (wd s : List UInt8) : (cut wd s).length ≤ s.length + 1 := by
  induction s generalizing wd with
  | nil => simp [cut]
  | cons c r ih =>
    unfold cut
    split
    · have := ih []; simp only [List.length_cons]; omega
    · have := ih (wd ++ [c]); simp only [List.length_cons]; omega
theorem cut_sum (wd s : List UInt8) : lsum ((cut wd s).map tx) = wd.length + s.length + 1 := by
  induction s generalizing wd with
  | nil => simp [cut, lsum, tx_size]
  | cons c r ih =>
    unfold cut
    split
    · simp only [List.map_cons, lsum, tx_size]
      rw [ih]
      simp only [List.length_nil, List.length_cons]; omega
    · rw [ih]; simp only [List.length_append, List.length_cons, List.length_nil]; omega
theorem lsum_mem (l : List ByteArray) (x : ByteArray) (h : x ∈ l) : x.size + 1 ≤ lsum l := by
  induction l with
  | nil => cases h
  | cons y r ih =>
    simp only [lsum]
    rcases List.mem_cons.1 h with e | e
    · subst e; omega
    · have := ih e; omega
theorem lsum_length (l : List ByteArray) : l.length ≤ lsum l := by
  induction l with
  | nil => simp [lsum]
  | cons y r ih => simp only [lsum, List.length_cons]; omega
theorem fits_of_sum (l : List ByteArray) (h : lsum l ≤ 140737488355328) : Fits l := ⟨by have := lsum_length l; unfold maxLen; omega, fun x hx => by have := lsum_mem l x hx; unfold maxLen; omega⟩
theorem map_tx_toL (l : List (List UInt8)) : (l.map tx).map toL = l := by
  rw [List.map_map]
  conv => rhs; rw [← List.map_id l]
  exact List.map_congr_left fun b _ => toL_tx b
theorem map_toL_tx (l : List ByteArray) : (l.map toL).map tx = l := by
  rw [List.map_map]
  conv => rhs; rw [← List.map_id l]
  exact List.map_congr_left fun b _ => tx_toL b
theorem own_alloc (w : World) (l : List ByteArray) (h : l.length ≤ maxLen) : (w.alloc (.cells (strs l).toArray 9)).ownsRow w.heap.size 9 1 (.slice (some ⟨w.heap.size, 0, none⟩) l.length l.length) l.length (strs l) := by
  have := World.ownsRow_lit (base := w.heap.size) (e := 9) (size := 1) w (strs l).toArray l.length (Nat.le_refl _) h (by simp [strs])
  simpa using this

set_option maxHeartbeats 400000 in
theorem split_any (s : ByteArray) (m : Int) (w : World) (hs : s.size ≤ 4294967200) (hm : w.cell? ⟨Tryz.laysSplit_ren.g 1, 0, none⟩ = some (.int .i64 m)) :
    Calls Tryz.prog 33 #[.string s] w (GivesRow w (splitOf (toL s))) := by
  have HS := Lib.hid (strings_Split_cut s m w (by omega) hm)
  have hsum : lsum ((cut [] (toL s)).map tx) ≤ 140737488355328 := by rw [cut_sum, toL_length]; simp only [List.length_nil]; omega
  have hfit := fits_of_sum _ hsum
  have hall : ((cut [] (toL s)).map tx).all wordB = (cut [] (toL s)).all isWord := by rw [← all_words, map_tx_toL]
  have HL := Lib.hid (line_split (toL s))
  generalize hp : (cut [] (toL s)).map tx = ps at *
  have HW : Hid (∀ W, Sl W (some ⟨w.heap.size, 0, none⟩) (strs ps) → Calls Tryz.prog 55 #[.slice (some ⟨w.heap.size, 0, none⟩) ps.length ps.length] W fun e w' => e = .returned (.bool (ps.all wordB)) ∧ W = w') := fun W hW => words_any _ _ _ W hW hfit
  have HSL : Hid (Sl (w.alloc (.cells (strs ps).toArray 9)) (some ⟨w.heap.size, 0, none⟩) (strs ps)) := by
    have h : Sl (w.alloc (.cells (strs ps).toArray 9)) (some ⟨w.heap.size, 0, none⟩) (strs ps) := by
      have := sl_lit w (strs ps).toArray 9
      simpa using this
    exact h
  have HO := Lib.hid (own_alloc w ps hfit.1)
  have HB : Hid (Below w.heap.size w (w.alloc (.cells (strs ps).toArray 9))) := (Below.refl _ _).alloc (Nat.le_refl _) _
  have HP := Lib.hid hp
  rcases HL.out with ⟨h1, h2⟩ | ⟨h1, h2, h3⟩
  · rw [hall, h2] at HW
    have HE := Lib.hid h1
    clear hall hsum hfit hm hp HL h1 h2
    generalize (w.alloc (.cells (strs ps).toArray 9)) = w1 at *
    go_enter Tryz.func33, Tryz.ntmps33
    go_wp2_with (first | (go_at_call 62; refine HS.out.mono ?_; rintro e w' ⟨rfl, rfl⟩) | (go_at_call 55; refine (HW.out _ HSL.out).mono ?_; rintro e w' ⟨rfl, rfl⟩))
    go_ret
    refine ⟨_, rfl, ?_, HB.out⟩
    rw [HE.out]
    exact World.ownsRow_nil _ _ _ _
  · rw [hall, h1] at HW
    have HE := Lib.hid h2
    clear hall hsum hfit hm hp HL h1 h2 h3
    generalize (w.alloc (.cells (strs ps).toArray 9)) = w1 at *
    go_enter Tryz.func33, Tryz.ntmps33
    go_wp2_with (first | (go_at_call 62; refine HS.out.mono ?_; rintro e w' ⟨rfl, rfl⟩) | (go_at_call 55; refine (HW.out _ HSL.out).mono ?_; rintro e w' ⟨rfl, rfl⟩))
    go_ret
    refine ⟨_, rfl, ?_, HB.out⟩
    rw [HE.out, HP.out]
    have hl : (cut [] (toL s)).length = ps.length := by rw [← HP.out, List.length_map]
    rw [hl]
    exact HO.out

/-! ### the document's own way -/
/-- what is read so far: the words that are done, and the one that is under way -/
def CutAt (s : ByteArray) (k : Nat) (done : List (List UInt8)) (wd : List UInt8) : Prop :=
  (k ≤ s.size ∧ cut [] (toL s) = done ++ cut wd ((toL s).drop k)) ∨ (k = s.size + 1 ∧ cut [] (toL s) = done)
theorem CutAt.start (s : ByteArray) : CutAt s 0 [] [] := .inl ⟨Nat.zero_le _, by simp⟩
theorem CutAt.letter {s : ByteArray} {k : Nat} {done : List (List UInt8)} {wd : List UInt8} (h : CutAt s k done wd) (hk : k < s.size) (hc : s[k] ≠ 32) : CutAt s (k + 1) done (wd ++ [s[k]]) := by
  rcases h with ⟨_, h⟩ | ⟨h, _⟩
  · refine .inl ⟨by omega, ?_⟩
    rw [h]
    congr 1
    show cut wd (s.data.toList.drop k) = _
    rw [drop_at s k hk]
    conv => lhs; unfold cut
    rw [if_neg hc]; rfl
  · omega
theorem CutAt.blank {s : ByteArray} {k : Nat} {done : List (List UInt8)} {wd : List UInt8} (h : CutAt s k done wd) (hk : k < s.size) (hc : s[k] = 32) : CutAt s (k + 1) (done ++ [wd]) [] := by
  rcases h with ⟨_, h⟩ | ⟨h, _⟩
  · refine .inl ⟨by omega, ?_⟩
    rw [h, List.append_assoc]
    congr 1
    show cut wd (s.data.toList.drop k) = _
    rw [drop_at s k hk]
    conv => lhs; unfold cut
    rw [if_pos hc]; rfl
  · omega
theorem CutAt.last {s : ByteArray} {k : Nat} {done : List (List UInt8)} {wd : List UInt8} (h : CutAt s k done wd) (hk : k = s.size) : CutAt s (k + 1) (done ++ [wd]) [] := by
  rcases h with ⟨_, h⟩ | ⟨h, _⟩
  · refine .inr ⟨by omega, ?_⟩
    rw [h]
    congr 1
    show cut wd (s.data.toList.drop k) = _
    rw [drop_all s k (by omega)]; rfl
  · omega
theorem CutAt.all {s : ByteArray} {k : Nat} {done : List (List UInt8)} {wd : List UInt8} (h : CutAt s k done wd) (hk : s.size < k) : cut [] (toL s) = done := by
  rcases h with ⟨h, _⟩ | ⟨_, h⟩
  · omega
  · exact h
theorem extract_one (s : ByteArray) (k : Nat) (h : k < s.size) (wd : List UInt8) : tx wd ++ s.extract k (k + 1) = tx (wd ++ [s[k]]) := by
  apply toL_inj
  have e : (s.extract k (k + 1)).data.toList = [s[k]] := by
    rw [Lib.extract_data, show k + 1 - k = 1 by omega, drop_at s k h]; rfl
  rw [toL_tx]
  unfold toL
  rw [show (tx wd ++ s.extract k (k + 1)).data.toList = (tx wd).data.toList ++ (s.extract k (k + 1)).data.toList by simp, e, tx_data]
theorem slice_one (s : ByteArray) (k : Nat) (h : k < s.size) (W : World) : (Instr.slice 9 (.string s) (some (.int .i64 (k : Int))) (some (.int .i64 ((k : Int) + 1))) none).run Tryz.prog W = .ok (.string (s.extract k (k + 1))) W := by
  rw [run_slice_string_if (P := Tryz.prog) W 9 s .i64 .i64 (k : Int) ((k : Int) + 1) Tryz.underlying9, if_pos (by omega), if_pos (by omega)]
  rfl
theorem strs_snoc (l : List (List UInt8)) (x : List UInt8) : strs (l.map tx) ++ [.string (tx x)] = strs ((l ++ [x]).map tx) := by simp [strs]

set_option maxHeartbeats 2000000 in
theorem refSplit_any (s : ByteArray) (w : World) (hs : s.size ≤ 2000) :
    Calls Tryz.prog 53 #[.string s] w (GivesRow w (splitOf (toL s))) := by
  obtain ⟨i0, hi, hz0, hz1, hz2⟩ := info_parts Tryz.infoStr
  go_enter Tryz.func53, Tryz.ntmps53
  go_wp2
  go_loopw [3, 4, 5] (fun v o i wr => ∃ (k : Nat) (done : List (List UInt8)) (wd : List UInt8), k ≤ s.size + 1 ∧ i = .int .i64 k ∧ o = .string (tx wd) ∧ done.length ≤ k ∧ wd.length ≤ k ∧ Hid (CutAt s k done wd) ∧ wr.ownsRow w.heap.size 9 1 v done.length (strs (done.map tx)) ∧ Below w.heap.size w wr) (fun _ _ i _ => s.size + 1 - (intOf i).toNat)
  case atStart => exact ⟨0, [], [], by omega, rfl, rfl, by simp, by simp, CutAt.start s, World.ownsRow_nil _ _ _ _, Below.refl _ _⟩
  case round =>
    obtain ⟨k, done, wd, hk, rfl, rfl, hdl, hwl, HA, hown, hB⟩ := hrel
    by_cases hle : k ≤ s.size
    · by_cases hlt : k < s.size
      · have hbyte : 0 ≤ (s[k].toNat : Int) ∧ (s[k].toNat : Int) ≤ 255 := ⟨by omega, by have := s[k].toNat_lt; omega⟩
        by_cases h32 : s[k] = 32
        · have HN := Lib.hid (HA.out.blank hlt h32)
          have hq : ((s[k].toNat : Int) != 32) = false := by rw [h32]; rfl
          have hBs := hB.size
          clear h32
          go_wp2_with (at_builtin; refine wpList_append_own _ rfl (.tmp 29) (.tmp 31) 73 rfl w.heap.size 9 i0 (.string ⟨#[]⟩) 1 16 Tryz.underlying73 hi hz0 hz1 hz2 rfl (by decide) _ _ _ rfl (hown.alloc _) ⟨wr.heap.size, 0, none⟩ 1 1 [.string (tx wd)] rfl rfl (cell_one_new _ _ _) (by intro u hu; simp at hu; subst hu; rfl) (by unfold maxLen; omega) (by omega) (by simp; omega) ?_; intro v3 w3 hown3 hgw3 _)
          have R := own_next hB hBs hown hown3 hgw3
          clear hgw3 hown
          go_wp2
          go_roundw
          case rel => exact ⟨k + 1, done ++ [wd], [], by omega, by go_num, rfl, by simp; omega, by simp, HN, by rw [← strs_snoc]; simpa using hown3, R.1⟩
          case measure => simp [intOf]; omega
        · have HN := Lib.hid (HA.out.letter hlt h32)
          have hq : ((s[k].toNat : Int) != 32) = true := by
            rw [bne_iff_ne]
            exact fun e => h32 (UInt8.toNat_inj.1 (by show s[k].toNat = 32; omega))
          have HX := Lib.hid (extract_one s k hlt wd)
          have hsz : (tx wd).size ≤ 3000 := by rw [tx_size]; omega
          have hcut := fun W => slice_one s k hlt W
          clear h32
          go_wp2
          go_roundw
          case rel => exact ⟨k + 1, done, wd ++ [s[k]], by omega, by go_num, by rw [← HX.out], by omega, by simp; omega, HN, hown, hB⟩
          case measure => simp [intOf]; omega
      · have hks : k = s.size := by omega
        have HN := Lib.hid (HA.out.last hks)
        have hBs := hB.size
        clear hks
        go_wp2_with (at_builtin; refine wpList_append_own _ rfl (.tmp 29) (.tmp 31) 73 rfl w.heap.size 9 i0 (.string ⟨#[]⟩) 1 16 Tryz.underlying73 hi hz0 hz1 hz2 rfl (by decide) _ _ _ rfl (hown.alloc _) ⟨wr.heap.size, 0, none⟩ 1 1 [.string (tx wd)] rfl rfl (cell_one_new _ _ _) (by intro u hu; simp at hu; subst hu; rfl) (by unfold maxLen; omega) (by omega) (by simp; omega) ?_; intro v3 w3 hown3 hgw3 _)
        have R := own_next hB hBs hown hown3 hgw3
        clear hgw3 hown
        go_wp2
        go_roundw
        case rel => exact ⟨k + 1, done ++ [wd], [], by omega, by go_num, rfl, by simp; omega, by simp, HN, by rw [← strs_snoc]; simpa using hown3, R.1⟩
        case measure => simp [intOf]; omega
    · have HC := Lib.hid (HA.out.all (by omega))
      by_cases hz : s.size = 0
      · have HE : Hid (splitOf (toL s) = []) := by
          unfold Hid
          rw [List.eq_nil_of_length_eq_zero (show (toL s).length = 0 by rw [toL_length]; exact hz)]
          exact split_nil
        go_wp2
        go_ret
        refine ⟨_, rfl, ?_, hB⟩
        rw [HE.out]
        exact World.ownsRow_nil _ _ _ _
      · have hne : ((s.size : Int) == 0) = false := beq_eq_false_iff_ne.2 (by omega)
        have HE : Hid ((if lineOf done = toL s then done else []) = splitOf (toL s)) := by
          unfold Hid
          rw [← HC.out]
          exact refSplit_eq (toL s) (fun e => hz (by rw [← toL_length, e]; rfl))
        obtain ⟨a3, c3, rfl, _, _, hsl, _, _⟩ := own_slice hown
        have hsum : lsum (done.map tx) ≤ 140737488355328 := by rw [← HC.out, cut_sum, toL_length]; simp only [List.length_nil]; omega
        have hline : Calls Tryz.prog 45 #[.slice a3 done.length c3] wr fun e w' => e = .returned (.string (tx (lineOf done))) ∧ wr = w' := by
          have := refLine_any a3 c3 (done.map tx) wr hsl (fits_of_sum _ hsum) hsum
          rwa [map_tx_toL, List.length_map] at this
        have HL := Lib.hid hline
        have HO := Lib.hid hown
        clear hline hsl hsum hown
        by_cases hd : lineOf done = toL s
        · have heq : ((tx (lineOf done)).toList == s.toList) = true := by rw [toList_tx, toList_data, hd]; exact beq_self_eq_true _
          have HF : Hid (splitOf (toL s) = done) := by unfold Hid; rw [← HE.out, if_pos hd]
          clear hd HE
          go_wp2_with (go_at_call 45; refine HL.out.mono ?_; rintro e w' ⟨rfl, rfl⟩)
          go_ret
          refine ⟨_, rfl, ?_, hB⟩
          rw [HF.out]
          exact HO.out
        · have heq : ((tx (lineOf done)).toList == s.toList) = false := by rw [toList_tx, toList_data]; exact beq_eq_false_iff_ne.2 hd
          have HF : Hid (splitOf (toL s) = []) := by unfold Hid; rw [← HE.out, if_neg hd]
          clear hd HE
          go_wp2_with (go_at_call 45; refine HL.out.mono ?_; rintro e w' ⟨rfl, rfl⟩)
          go_ret
          refine ⟨_, rfl, ?_, hB⟩
          rw [HF.out]
          exact World.ownsRow_nil _ _ _ _
end Go.Proofs.YtollhemkjnkalaaGreatDoor
