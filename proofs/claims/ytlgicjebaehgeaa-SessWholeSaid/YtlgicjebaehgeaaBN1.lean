/- Names of a row, as the document puts one into a row, and sorts a row: plain words and a contract. -/
import Derived.Test.YtlgicjebaehgeaaAA1
namespace Go.Proofs.Ytlgicjebaehgeaa
open Go.RowKit
set_option linter.unusedVariables false
set_option maxRecDepth 100000
/-- one text is put into a row: one step of the loop -/
def putStep (s : ByteArray) (p : List ByteArray × Bool) (x : ByteArray) : List ByteArray × Bool :=
  if Lib.compareBytes s.data.toList x.data.toList == 0 then (p.1 ++ [x], true)
  else if decide (Lib.compareBytes s.data.toList x.data.toList < 0) && !p.2 then (p.1 ++ [s] ++ [x], true)
  else (p.1 ++ [x], p.2)
def putTo (l : List ByteArray) (s : ByteArray) (k : Nat) : List ByteArray × Bool := (l.take k).foldl (putStep s) ([], false)
def put (l : List ByteArray) (s : ByteArray) : List ByteArray := if (putTo l s l.length).2 then (putTo l s l.length).1 else (putTo l s l.length).1 ++ [s]
theorem putTo_next (l : List ByteArray) (s : ByteArray) (k : Nat) (h : k < l.length) : putTo l s (k + 1) = putStep s (putTo l s k) l[k] := by
  unfold putTo; rw [List.take_succ_eq_append_getElem h, List.foldl_append]; rfl
theorem putStep_len (s : ByteArray) (p : List ByteArray × Bool) (x : ByteArray) (n : Nat) (h : p.1.length + (if p.2 then 0 else 1) ≤ n + 1) :
    (putStep s p x).1.length + (if (putStep s p x).2 then 0 else 1) ≤ n + 2 := by
  obtain ⟨p1, p2⟩ := p
  unfold putStep
  split
  · cases p2 <;> simp at h ⊢ <;> omega
  · cases p2 <;> simp at h ⊢ <;> (try split) <;> (try simp) <;> omega
theorem putTo_len (l : List ByteArray) (s : ByteArray) : ∀ k, (putTo l s k).1.length + (if (putTo l s k).2 then 0 else 1) ≤ k + 1
  | 0 => by simp [putTo]
  | k + 1 => by
    by_cases h : k < l.length
    · rw [putTo_next l s k h]
      exact putStep_len s _ _ k (putTo_len l s k)
    · have e : putTo l s (k + 1) = putTo l s k := by unfold putTo; rw [List.take_of_length_le (by omega), List.take_of_length_le (by omega)]
      rw [e]
      have := putTo_len l s k
      omega

set_option maxHeartbeats 1000000 in
theorem nput_any (a : Option Addr) (c : Nat) (l : List ByteArray) (s : ByteArray) (w : World) (hr : Sl w a (strs l)) (hf : Fits l) (hs : s.size ≤ maxLen) (hl : l.length ≤ 1048576) :
    Calls Try.prog 55 #[.slice a l.length c, .string s] w fun e w' => ∃ v, e = .returned v ∧ w'.ownsRow w.heap.size 9 1 v (put l s).length (strs (put l s)) ∧ Below w.heap.size w w' := by
  obtain ⟨i0, hi, hz0, hz1, hz2⟩ := info_parts Try.infoStr
  have HR := Lib.hid hr
  have HF := Lib.hid hf
  clear hr hf
  go_enter Try.func55, Try.ntmps55
  go_wp2
  go_loopw [5, 6, 7] (fun v d i wr => ∃ k : Nat, k ≤ l.length ∧ i = .int .i64 k ∧ d = .bool (putTo l s k).2 ∧ wr.ownsRow w.heap.size 9 1 v (putTo l s k).1.length (strs (putTo l s k).1) ∧ Below w.heap.size w wr) (fun _ _ i _ => l.length - (intOf i).toNat)
  case atStart => exact ⟨0, by omega, rfl, rfl, World.ownsRow_nil _ _ _ _, Below.refl _ _⟩
  case round =>
    obtain ⟨k, hk, rfl, rfl, hown, hB⟩ := hrel
    have hlen := putTo_len l s k
    have HN := Lib.hid (putTo_next l s k)
    generalize hp : putTo l s k = p at *
    obtain ⟨p1, p2⟩ := p
    have HP := Lib.hid hp
    clear hp
    simp only at hown hlen
    by_cases hlt : k < l.length
    · obtain ⟨b, off, rfl, hbl, hcell⟩ := HR.out.str hlt
      have hsz : l[k].size ≤ maxLen := HF.out.2 _ (List.getElem_mem hlt)
      have HN := Lib.hid (HN.out hlt)
      obtain ⟨c, hc⟩ : ∃ c, c = Lib.compareBytes s.data.toList l[k].data.toList := ⟨_, rfl⟩
      have HC := Lib.hid (show ∀ W, Calls Try.prog 71 #[.string s, .string l[k]] W fun e w' => e = .returned (.int .i64 c) ∧ Drew W w' from fun W => by rw [hc]; exact refCmp_any s l[k] W hs hsz)
      have hcellr := (hB.cell (p := ⟨b, off + k, none⟩) hbl).trans hcell
      unfold putStep at HN
      rw [← hc] at HN
      have hBs := hB.size
      have HCELL := Lib.hid hcell
      clear hc hcell
      cases h0 : (c == 0)
      · cases h1 : decide (c < 0)
        · have HE : Hid (putTo l s (k + 1) = (p1 ++ [l[k]], p2)) := by rw [HN.out, h0, h1]; rfl
          go_wp2_with (first | (go_at_call 71; refine (HC.out _).mono ?_; rintro e w2 ⟨rfl, HD⟩; have hs2 := HD.le hBs; have hown2 := HD.own hown; have hcell2 := (HD.cell _).trans hcellr; have hB2 := hB.trans (HD.below _)) | (at_builtin; refine wpList_append_own _ rfl (.tmp 33) (.tmp 38) 67 rfl w.heap.size 9 i0 (.string ⟨#[]⟩) 1 16 Try.underlying67 hi hz0 hz1 hz2 rfl (by decide) _ _ _ rfl (hown2.alloc _) ⟨w2.heap.size, 0, none⟩ 1 1 [.string l[k]] rfl rfl (cell_one_new _ _ _) (by intro u hu; simp at hu; subst hu; rfl) (by unfold maxLen; omega) (by omega) (by simp; omega) ?_; intro v3 w3 hown3 hgw3 _))
          have R := own_next hB2 hs2 hown2 hown3 hgw3
          clear hgw3 hown2 hcell2
          go_wp2
          go_roundw
          case rel => exact ⟨k + 1, by omega, by go_num, by rw [HE.out], by rw [HE.out]; simpa [strs] using hown3, R.1⟩
          case measure => simp [intOf]; omega
        · cases p2
          · have HE : Hid (putTo l s (k + 1) = (p1 ++ [s] ++ [l[k]], true)) := by rw [HN.out, h0, h1]; rfl
            simp only [Bool.false_eq_true, ↓reduceIte] at hlen
            go_wp2_with (first | (go_at_call 71; refine (HC.out _).mono ?_; rintro e w2 ⟨rfl, HD⟩; have hs2 := HD.le hBs; have hown2 := HD.own hown; have hcell2 := (HD.cell _).trans hcellr; have hB2 := hB.trans (HD.below _)) | (at_builtin; refine wpList_append_own _ rfl (.tmp 29) (.tmp 31) 67 rfl w.heap.size 9 i0 (.string ⟨#[]⟩) 1 16 Try.underlying67 hi hz0 hz1 hz2 rfl (by decide) _ _ _ rfl (hown2.alloc _) ⟨w2.heap.size, 0, none⟩ 1 1 [.string s] rfl rfl (cell_one_new _ _ _) (by intro u hu; simp at hu; subst hu; rfl) (by unfold maxLen; omega) (by omega) (by simp; omega) ?_; intro v3 w3 hown3 hgw3 _; have R := own_next hB2 hs2 hown2 hown3 hgw3; have hcell3 := (R.1.cell (p := ⟨b, off + k, none⟩) hbl).trans HCELL.out; have hs3 := R.2; have hB3 := R.1; clear R hgw3 hown2 hcell2) | (at_builtin; refine wpList_append_own _ rfl (.tmp 33) (.tmp 38) 67 rfl w.heap.size 9 i0 (.string ⟨#[]⟩) 1 16 Try.underlying67 hi hz0 hz1 hz2 rfl (by decide) _ _ _ rfl (hown3.alloc _) ⟨w3.heap.size, 0, none⟩ 1 1 [.string l[k]] rfl rfl (cell_one_new _ _ _) (by intro u hu; simp at hu; subst hu; rfl) (by unfold maxLen; omega) (by omega) (by simp; omega) ?_; intro v4 w4 hown4 hgw4 _))
            have R := own_next hB3 hs3 hown3 hown4 hgw4
            clear hgw4 hown3 hcell3
            go_wp2
            go_roundw
            case rel => exact ⟨k + 1, by omega, by go_num, by rw [HE.out], by rw [HE.out]; simpa [strs] using hown4, R.1⟩
            case measure => simp [intOf]; omega
          · have HE : Hid (putTo l s (k + 1) = (p1 ++ [l[k]], true)) := by rw [HN.out, h0, h1]; rfl
            go_wp2_with (first | (go_at_call 71; refine (HC.out _).mono ?_; rintro e w2 ⟨rfl, HD⟩; have hs2 := HD.le hBs; have hown2 := HD.own hown; have hcell2 := (HD.cell _).trans hcellr; have hB2 := hB.trans (HD.below _)) | (at_builtin; refine wpList_append_own _ rfl (.tmp 33) (.tmp 38) 67 rfl w.heap.size 9 i0 (.string ⟨#[]⟩) 1 16 Try.underlying67 hi hz0 hz1 hz2 rfl (by decide) _ _ _ rfl (hown2.alloc _) ⟨w2.heap.size, 0, none⟩ 1 1 [.string l[k]] rfl rfl (cell_one_new _ _ _) (by intro u hu; simp at hu; subst hu; rfl) (by unfold maxLen; omega) (by omega) (by simp; omega) ?_; intro v3 w3 hown3 hgw3 _))
            have R := own_next hB2 hs2 hown2 hown3 hgw3
            clear hgw3 hown2 hcell2
            go_wp2
            go_roundw
            case rel => exact ⟨k + 1, by omega, by go_num, by rw [HE.out], by rw [HE.out]; simpa [strs] using hown3, R.1⟩
            case measure => simp [intOf]; omega
      · have h1 : decide (c < 0) = false := by have := eq_of_beq h0; simp; omega
        have HE : Hid (putTo l s (k + 1) = (p1 ++ [l[k]], true)) := by rw [HN.out, h0, h1]; rfl
        go_wp2_with (first | (go_at_call 71; refine (HC.out _).mono ?_; rintro e w2 ⟨rfl, HD⟩; have hs2 := HD.le hBs; have hown2 := HD.own hown; have hcell2 := (HD.cell _).trans hcellr; have hB2 := hB.trans (HD.below _)) | (at_builtin; refine wpList_append_own _ rfl (.tmp 33) (.tmp 38) 67 rfl w.heap.size 9 i0 (.string ⟨#[]⟩) 1 16 Try.underlying67 hi hz0 hz1 hz2 rfl (by decide) _ _ _ rfl (hown2.alloc _) ⟨w2.heap.size, 0, none⟩ 1 1 [.string l[k]] rfl rfl (cell_one_new _ _ _) (by intro u hu; simp at hu; subst hu; rfl) (by unfold maxLen; omega) (by omega) (by simp; omega) ?_; intro v3 w3 hown3 hgw3 _))
        have R := own_next hB2 hs2 hown2 hown3 hgw3
        clear hgw3 hown2 hcell2
        go_wp2
        go_roundw
        case rel => exact ⟨k + 1, by omega, by go_num, by rw [HE.out], by rw [HE.out]; simpa [strs] using hown3, R.1⟩
        case measure => simp [intOf]; omega
    · have hkl : k = l.length := by omega
      have HL : Hid (putTo l s l.length = (p1, p2)) := by rw [← hkl]; exact HP.out
      cases p2
      · have HE : Hid (put l s = p1 ++ [s]) := by unfold put Hid; rw [HL.out]; rfl
        simp only [Bool.false_eq_true, ↓reduceIte] at hlen
        have hBs := hB.size
        clear hkl
        go_wp2_with (at_builtin; refine wpList_append_own _ rfl (.tmp 42) (.tmp 44) 67 rfl w.heap.size 9 i0 (.string ⟨#[]⟩) 1 16 Try.underlying67 hi hz0 hz1 hz2 rfl (by decide) _ _ _ rfl (hown.alloc _) ⟨wr.heap.size, 0, none⟩ 1 1 [.string s] rfl rfl (cell_one_new _ _ _) (by intro u hu; simp at hu; subst hu; rfl) (by unfold maxLen; omega) (by omega) (by simp; omega) ?_; intro v3 w3 hown3 hgw3 _)
        have R := own_next hB hBs hown hown3 hgw3
        clear hgw3 hown
        go_wp2
        go_ret
        exact ⟨_, rfl, by rw [HE.out]; simpa [strs] using hown3, R.1⟩
      · have HE : Hid (put l s = p1) := by unfold put Hid; rw [HL.out]; rfl
        clear hkl
        go_wp2
        go_ret
        exact ⟨_, rfl, by rw [HE.out]; exact hown, hB⟩
theorem mem_putTo (l : List ByteArray) (s : ByteArray) : ∀ k x, x ∈ (putTo l s k).1 → x ∈ l ∨ x = s
  | 0, x, h => by simp [putTo] at h
  | k + 1, x, h => by
    by_cases hk : k < l.length
    · rw [putTo_next l s k hk] at h
      have ih := mem_putTo l s k x
      unfold putStep at h
      split at h
      · simp at h; rcases h with h | h
        · exact ih h
        · subst h; exact .inl (List.getElem_mem hk)
      · split at h
        · simp at h; rcases h with h | h | h
          · exact ih h
          · exact .inr h
          · subst h; exact .inl (List.getElem_mem hk)
        · simp at h; rcases h with h | h
          · exact ih h
          · subst h; exact .inl (List.getElem_mem hk)
    · have e : putTo l s (k + 1) = putTo l s k := by unfold putTo; rw [List.take_of_length_le (by omega), List.take_of_length_le (by omega)]
      rw [e] at h
      exact mem_putTo l s k x h
theorem mem_put (l : List ByteArray) (s x : ByteArray) (h : x ∈ put l s) : x ∈ l ∨ x = s := by
  unfold put at h
  split at h
  · exact mem_putTo l s _ x h
  · rw [List.mem_append] at h
    rcases h with h | h
    · exact mem_putTo l s _ x h
    · exact .inr (by simpa using h)
theorem put_len (l : List ByteArray) (s : ByteArray) : (put l s).length ≤ l.length + 1 := by
  have := putTo_len l s l.length
  unfold put
  split <;> simp_all

/-- a row, each text of it put into the row of those ahead of it -/
def srt (l : List ByteArray) : List ByteArray := l.foldl put []
theorem srt_next (l : List ByteArray) (k : Nat) (h : k < l.length) : srt (l.take (k + 1)) = put (srt (l.take k)) l[k] := by
  unfold srt; rw [List.take_succ_eq_append_getElem h, List.foldl_append]; rfl
theorem srt_snoc (l : List ByteArray) (x : ByteArray) : srt (l ++ [x]) = put (srt l) x := by unfold srt; rw [List.foldl_append]; rfl
theorem srt_mem_aux (l : List ByteArray) : ∀ acc x, x ∈ l.foldl put acc → x ∈ acc ∨ x ∈ l := by
  induction l with
  | nil => intro acc x h; exact .inl h
  | cons y r ih =>
    intro acc x h
    rcases ih (put acc y) x h with h | h
    · rcases mem_put acc y x h with h | h
      · exact .inl h
      · exact .inr (by simp [h])
    · exact .inr (by simp [h])
theorem srt_mem (l : List ByteArray) (x : ByteArray) (h : x ∈ srt l) : x ∈ l := by
  rcases srt_mem_aux l [] x h with h | h
  · cases h
  · exact h
theorem srt_len_aux (l : List ByteArray) : ∀ acc, (l.foldl put acc).length ≤ acc.length + l.length := by
  induction l with
  | nil => intro acc; simp
  | cons y r ih =>
    intro acc
    have h1 := ih (put acc y)
    have h2 := put_len acc y
    simp only [List.foldl_cons, List.length_cons]
    omega
theorem srt_len (l : List ByteArray) : (srt l).length ≤ l.length := by
  have := srt_len_aux l []
  simpa [srt] using this

end Go.Proofs.Ytlgicjebaehgeaa
