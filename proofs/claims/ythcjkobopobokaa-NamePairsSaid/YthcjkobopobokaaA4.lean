/- The document's own rows: Put and Sorted, walked: what they give is the row of the plain functions below. -/
import Derived.Test.YthcjkobopobokaaA3
import Derived.OwnWalk
import Derived.Maps.AppendAt
namespace Go.Proofs.Ythcjkobopobokaa
open Go.RowKit
set_option linter.unusedVariables false

/-- the world is as it was, but for the count of draws -/
def Drew (w w' : World) : Prop := ∃ n, w' = w.drewN n
theorem Drew.refl (w : World) : Drew w w := ⟨0, rfl⟩
theorem Drew.heap {w w' : World} (h : Drew w w') : w'.heap = w.heap := by obtain ⟨n, rfl⟩ := h; rfl
theorem Drew.le {w w' : World} (h : Drew w w') {B : Nat} (hB : B ≤ w.heap.size) : B ≤ w'.heap.size := by rw [h.heap]; exact hB
theorem Drew.below {w w' : World} (h : Drew w w') (B : Nat) : Below B w w' := by obtain ⟨n, rfl⟩ := h; exact ⟨rfl, rfl, rfl, Nat.le_refl _, fun _ _ => rfl⟩
theorem Drew.own {w w' : World} (h : Drew w w') {B e k : Nat} {v : Value} {n : Nat} {xs : List Value} (ho : w.ownsRow B e k v n xs) : w'.ownsRow B e k v n xs := by
  obtain ⟨n, rfl⟩ := h; exact ho
theorem Drew.cell {w w' : World} (h : Drew w w') (a : Addr) : w'.cell? a = w.cell? a := by obtain ⟨n, rfl⟩ := h; rfl

/-- one text is put into a row: one step of the loop -/
def putStep (s : ByteArray) (p : List ByteArray × Bool) (x : ByteArray) : List ByteArray × Bool :=
  if Lib.compareBytes s.data.toList x.data.toList == 0 then (p.1 ++ [x], true)
  else if decide (Lib.compareBytes s.data.toList x.data.toList < 0) && !p.2 then (p.1 ++ [s] ++ [x], true)
  else (p.1 ++ [x], p.2)
def putTo (l : List ByteArray) (s : ByteArray) (k : Nat) : List ByteArray × Bool := (l.take k).foldl (putStep s) ([], false)
def put (l : List ByteArray) (s : ByteArray) : List ByteArray := if (putTo l s l.length).2 then (putTo l s l.length).1 else (putTo l s l.length).1 ++ [s]
theorem putTo_next (l : List ByteArray) (s : ByteArray) (k : Nat) (h : k < l.length) : putTo l s (k + 1) = putStep s (putTo l s k) l[k] := by
  unfold putTo; rw [List.take_succ_eq_append_getElem h, List.foldl_append]; rfl
theorem putStep_len (s : ByteArray) (p : List ByteArray × Bool) (x : ByteArray) (n : Nat) (h : p.1.length + (if p.2 then 0 else 1) ≤ n + 1) :
    (putStep s p x).1.length + (if (putStep s p x).2 then 0 else 1) ≤ n + 2 := by
  obtain ⟨p1, p2⟩ := p
  unfold putStep
  split
  · cases p2 <;> simp at h ⊢ <;> omega
  · cases p2 <;> simp at h ⊢ <;> (try split) <;> (try simp) <;> omega
theorem putTo_len (l : List ByteArray) (s : ByteArray) : ∀ k, (putTo l s k).1.length + (if (putTo l s k).2 then 0 else 1) ≤ k + 1
  | 0 => by simp [putTo]
  | k + 1 => by
    by_cases h : k < l.length
    · rw [putTo_next l s k h]
      exact putStep_len s _ _ k (putTo_len l s k)
    · have e : putTo l s (k + 1) = putTo l s k := by unfold putTo; rw [List.take_of_length_le (by omega), List.take_of_length_le (by omega)]
      rw [e]
      have := putTo_len l s k
      omega

theorem Try.infoStr : (Try.prog.info? 9).map (fun i => (i.zero, i.size, i.bytes)) = some (some (.string ⟨#[]⟩), 1, 16) := by kernel_rfl


/-- what is behind an append of one text, in the words of the loop -/
theorem own_next {W w1 w2 : World} {B : Nat} {v v' : Value} {n : Nat} {xs ys : List Value} {o : Obj} (hB : Below B W w1) (hs : B ≤ w1.heap.size) (hown : w1.ownsRow B 9 1 v n xs)
    (hown' : w2.ownsRow B 9 1 v' (n + 1) ys) (hg : (w1.alloc o).grownBy w2 v.ownBlock) : Below B W w2 ∧ B ≤ w2.heap.size := by
  have h1 : Below B W (w1.alloc o) := hB.alloc hs o
  have h2 := h1.grown hg (by simp; omega) (fun k hk => (hown.lt k hk).1)
  exact ⟨h2, by have := hg.size; simp at this; omega⟩

set_option maxHeartbeats 1000000 in
theorem put_any (a : Option Addr) (c : Nat) (l : List ByteArray) (s : ByteArray) (w : World) (hr : Sl w a (strs l)) (hf : Fits l) (hs : s.size ≤ maxLen) (hl : l.length ≤ 1048576) :
    Calls Try.prog 27 #[.slice a l.length c, .string s] w fun e w' => ∃ v, e = .returned v ∧ w'.ownsRow w.heap.size 9 1 v (put l s).length (strs (put l s)) ∧ Below w.heap.size w w' := by
  obtain ⟨i0, hi, hz0, hz1, hz2⟩ := info_parts Try.infoStr
  have HR := Lib.hid hr
  have HF := Lib.hid hf
  clear hr hf
  go_enter Try.func27, Try.ntmps27
  go_wp2
  go_loopw [5, 6, 7] (fun v d i wr => ∃ k : Nat, k ≤ l.length ∧ i = .int .i64 k ∧ d = .bool (putTo l s k).2 ∧ wr.ownsRow w.heap.size 9 1 v (putTo l s k).1.length (strs (putTo l s k).1) ∧ Below w.heap.size w wr) (fun _ _ i _ => l.length - (intOf i).toNat)
  case atStart => exact ⟨0, by omega, rfl, rfl, World.ownsRow_nil _ _ _ _, Below.refl _ _⟩
  case round =>
    obtain ⟨k, hk, rfl, rfl, hown, hB⟩ := hrel
    have hlen := putTo_len l s k
    have HN := Lib.hid (putTo_next l s k)
    generalize hp : putTo l s k = p at *
    obtain ⟨p1, p2⟩ := p
    have HP := Lib.hid hp
    clear hp
    simp only at hown hlen
    by_cases hlt : k < l.length
    · obtain ⟨b, off, rfl, hbl, hcell⟩ := HR.out.str hlt
      have hsz : l[k].size ≤ maxLen := HF.out.2 _ (List.getElem_mem hlt)
      have HN := Lib.hid (HN.out hlt)
      obtain ⟨c, hc⟩ : ∃ c, c = Lib.compareBytes s.data.toList l[k].data.toList := ⟨_, rfl⟩
      have HC := Lib.hid (show ∀ W, Calls Try.prog 14 #[.string s, .string l[k]] W fun e w' => e = .returned (.int .i64 c) ∧ Drew W w' from fun W => by rw [hc]; exact refCmp_any s l[k] W hs hsz)
      have hcellr := (hB.cell (p := ⟨b, off + k, none⟩) hbl).trans hcell
      unfold putStep at HN
      rw [← hc] at HN
      have hBs := hB.size
      have HCELL := Lib.hid hcell
      clear hc hcell
      cases h0 : (c == 0)
      · cases h1 : decide (c < 0)
        · have HE : Hid (putTo l s (k + 1) = (p1 ++ [l[k]], p2)) := by rw [HN.out, h0, h1]; rfl
          go_wp2_with (first | (go_at_call 14; refine (HC.out _).mono ?_; rintro e w2 ⟨rfl, HD⟩; have hs2 := HD.le hBs; have hown2 := HD.own hown; have hcell2 := (HD.cell _).trans hcellr; have hB2 := hB.trans (HD.below _)) | (at_builtin; refine wpList_append_own _ rfl (.tmp 33) (.tmp 38) 22 rfl w.heap.size 9 i0 (.string ⟨#[]⟩) 1 16 Try.underlying22 hi hz0 hz1 hz2 rfl (by decide) _ _ _ rfl (hown2.alloc _) ⟨w2.heap.size, 0, none⟩ 1 1 [.string l[k]] rfl rfl (cell_one_new _ _ _) (by intro u hu; simp at hu; subst hu; rfl) (by unfold maxLen; omega) (by omega) (by simp; omega) ?_; intro v3 w3 hown3 hgw3 _))
          have R := own_next hB2 hs2 hown2 hown3 hgw3
          clear hgw3 hown2 hcell2
          go_wp2
          go_roundw
          case rel => exact ⟨k + 1, by omega, by go_num, by rw [HE.out], by rw [HE.out]; simpa [strs] using hown3, R.1⟩
          case measure => simp [intOf]; omega
        · cases p2
          · have HE : Hid (putTo l s (k + 1) = (p1 ++ [s] ++ [l[k]], true)) := by rw [HN.out, h0, h1]; rfl
            simp only [Bool.false_eq_true, ↓reduceIte] at hlen
            go_wp2_with (first | (go_at_call 14; refine (HC.out _).mono ?_; rintro e w2 ⟨rfl, HD⟩; have hs2 := HD.le hBs; have hown2 := HD.own hown; have hcell2 := (HD.cell _).trans hcellr; have hB2 := hB.trans (HD.below _)) | (at_builtin; refine wpList_append_own _ rfl (.tmp 29) (.tmp 31) 22 rfl w.heap.size 9 i0 (.string ⟨#[]⟩) 1 16 Try.underlying22 hi hz0 hz1 hz2 rfl (by decide) _ _ _ rfl (hown2.alloc _) ⟨w2.heap.size, 0, none⟩ 1 1 [.string s] rfl rfl (cell_one_new _ _ _) (by intro u hu; simp at hu; subst hu; rfl) (by unfold maxLen; omega) (by omega) (by simp; omega) ?_; intro v3 w3 hown3 hgw3 _; have R := own_next hB2 hs2 hown2 hown3 hgw3; have hcell3 := (R.1.cell (p := ⟨b, off + k, none⟩) hbl).trans HCELL.out; have hs3 := R.2; have hB3 := R.1; clear R hgw3 hown2 hcell2) | (at_builtin; refine wpList_append_own _ rfl (.tmp 33) (.tmp 38) 22 rfl w.heap.size 9 i0 (.string ⟨#[]⟩) 1 16 Try.underlying22 hi hz0 hz1 hz2 rfl (by decide) _ _ _ rfl (hown3.alloc _) ⟨w3.heap.size, 0, none⟩ 1 1 [.string l[k]] rfl rfl (cell_one_new _ _ _) (by intro u hu; simp at hu; subst hu; rfl) (by unfold maxLen; omega) (by omega) (by simp; omega) ?_; intro v4 w4 hown4 hgw4 _))
            have R := own_next hB3 hs3 hown3 hown4 hgw4
            clear hgw4 hown3 hcell3
            go_wp2
            go_roundw
            case rel => exact ⟨k + 1, by omega, by go_num, by rw [HE.out], by rw [HE.out]; simpa [strs] using hown4, R.1⟩
            case measure => simp [intOf]; omega
          · have HE : Hid (putTo l s (k + 1) = (p1 ++ [l[k]], true)) := by rw [HN.out, h0, h1]; rfl
            go_wp2_with (first | (go_at_call 14; refine (HC.out _).mono ?_; rintro e w2 ⟨rfl, HD⟩; have hs2 := HD.le hBs; have hown2 := HD.own hown; have hcell2 := (HD.cell _).trans hcellr; have hB2 := hB.trans (HD.below _)) | (at_builtin; refine wpList_append_own _ rfl (.tmp 33) (.tmp 38) 22 rfl w.heap.size 9 i0 (.string ⟨#[]⟩) 1 16 Try.underlying22 hi hz0 hz1 hz2 rfl (by decide) _ _ _ rfl (hown2.alloc _) ⟨w2.heap.size, 0, none⟩ 1 1 [.string l[k]] rfl rfl (cell_one_new _ _ _) (by intro u hu; simp at hu; subst hu; rfl) (by unfold maxLen; omega) (by omega) (by simp; omega) ?_; intro v3 w3 hown3 hgw3 _))
            have R := own_next hB2 hs2 hown2 hown3 hgw3
            clear hgw3 hown2 hcell2
            go_wp2
            go_roundw
            case rel => exact ⟨k + 1, by omega, by go_num, by rw [HE.out], by rw [HE.out]; simpa [strs] using hown3, R.1⟩
            case measure => simp [intOf]; omega
      · have h1 : decide (c < 0) = false := by have := eq_of_beq h0; simp; omega
        have HE : Hid (putTo l s (k + 1) = (p1 ++ [l[k]], true)) := by rw [HN.out, h0, h1]; rfl
        go_wp2_with (first | (go_at_call 14; refine (HC.out _).mono ?_; rintro e w2 ⟨rfl, HD⟩; have hs2 := HD.le hBs; have hown2 := HD.own hown; have hcell2 := (HD.cell _).trans hcellr; have hB2 := hB.trans (HD.below _)) | (at_builtin; refine wpList_append_own _ rfl (.tmp 33) (.tmp 38) 22 rfl w.heap.size 9 i0 (.string ⟨#[]⟩) 1 16 Try.underlying22 hi hz0 hz1 hz2 rfl (by decide) _ _ _ rfl (hown2.alloc _) ⟨w2.heap.size, 0, none⟩ 1 1 [.string l[k]] rfl rfl (cell_one_new _ _ _) (by intro u hu; simp at hu; subst hu; rfl) (by unfold maxLen; omega) (by omega) (by simp; omega) ?_; intro v3 w3 hown3 hgw3 _))
        have R := own_next hB2 hs2 hown2 hown3 hgw3
        clear hgw3 hown2 hcell2
        go_wp2
        go_roundw
        case rel => exact ⟨k + 1, by omega, by go_num, by rw [HE.out], by rw [HE.out]; simpa [strs] using hown3, R.1⟩
        case measure => simp [intOf]; omega
    · have hkl : k = l.length := by omega
      have HL : Hid (putTo l s l.length = (p1, p2)) := by rw [← hkl]; exact HP.out
      cases p2
      · have HE : Hid (put l s = p1 ++ [s]) := by unfold put Hid; rw [HL.out]; rfl
        simp only [Bool.false_eq_true, ↓reduceIte] at hlen
        have hBs := hB.size
        clear hkl
        go_wp2_with (at_builtin; refine wpList_append_own _ rfl (.tmp 42) (.tmp 44) 22 rfl w.heap.size 9 i0 (.string ⟨#[]⟩) 1 16 Try.underlying22 hi hz0 hz1 hz2 rfl (by decide) _ _ _ rfl (hown.alloc _) ⟨wr.heap.size, 0, none⟩ 1 1 [.string s] rfl rfl (cell_one_new _ _ _) (by intro u hu; simp at hu; subst hu; rfl) (by unfold maxLen; omega) (by omega) (by simp; omega) ?_; intro v3 w3 hown3 hgw3 _)
        have R := own_next hB hBs hown hown3 hgw3
        clear hgw3 hown
        go_wp2
        go_ret
        exact ⟨_, rfl, by rw [HE.out]; simpa [strs] using hown3, R.1⟩
      · have HE : Hid (put l s = p1) := by unfold put Hid; rw [HL.out]; rfl
        clear hkl
        go_wp2
        go_ret
        exact ⟨_, rfl, by rw [HE.out]; exact hown, hB⟩
end Go.Proofs.Ythcjkobopobokaa
