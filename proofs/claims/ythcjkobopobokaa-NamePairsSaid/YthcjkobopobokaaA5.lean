/- The document's own sorting, walked: the row that one text after the other is put into. -/
import Derived.Test.YthcjkobopobokaaA4
namespace Go.Proofs.Ythcjkobopobokaa
open Go.RowKit
set_option linter.unusedVariables false

theorem own_slice {w : World} {B e n : Nat} {v : Value} {xs : List Value} (h : w.ownsRow B e 1 v n xs) : ∃ a c, v = .slice a n c ∧ n ≤ c ∧ c ≤ maxLen ∧ Sl w a xs ∧ (∀ b o, a = some ⟨b, o, none⟩ → B ≤ b) := by
  rcases h.2 with ⟨rfl, rfl⟩ | ⟨g, cap, cur, rfl, hg, hh, hn, hc, hsz, ht⟩
  · refine ⟨none, 0, rfl, Nat.le_refl _, by unfold maxLen; omega, ?_, fun b o e => by cases e⟩
    have : xs = [] := List.eq_nil_of_length_eq_zero (by simpa using h.1)
    subst this
    exact Sl.nil _ _
  · refine ⟨_, cap, rfl, hn, hc, fun k hk => ⟨g, 0, rfl, ?_, ?_⟩, fun b o e => by cases e; exact hg⟩
    · rcases Nat.lt_or_ge g w.heap.size with h1 | h1
      · exact h1
      · rw [Array.getElem?_eq_none h1] at hh; cases hh
    · have hl := h.1
      simp only [Nat.mul_one] at hl ht
      rw [cell_of_row w g (0 + k) cur e (0, 0) hh, Nat.zero_add]
      subst ht
      simp at hk
      simp [Array.getElem?_eq_getElem (show k < cur.size by omega)]
theorem own_base {w : World} {B B' e k n : Nat} {v : Value} {xs : List Value} (h : w.ownsRow B e k v n xs) (hB : B' ≤ B) : w.ownsRow B' e k v n xs := by
  refine ⟨h.1, ?_⟩
  rcases h.2 with h | ⟨g, cap, cur, r1, r2, r3⟩
  · exact .inl h
  · exact .inr ⟨g, cap, cur, r1, Nat.le_trans hB r2, r3⟩

theorem mem_putTo (l : List ByteArray) (s : ByteArray) : ∀ k x, x ∈ (putTo l s k).1 → x ∈ l ∨ x = s
  | 0, x, h => by simp [putTo] at h
  | k + 1, x, h => by
    by_cases hk : k < l.length
    · rw [putTo_next l s k hk] at h
      have ih := mem_putTo l s k x
      unfold putStep at h
      split at h
      · simp at h; rcases h with h | h
        · exact ih h
        · subst h; exact .inl (List.getElem_mem hk)
      · split at h
        · simp at h; rcases h with h | h | h
          · exact ih h
          · exact .inr h
          · subst h; exact .inl (List.getElem_mem hk)
        · simp at h; rcases h with h | h
          · exact ih h
          · subst h; exact .inl (List.getElem_mem hk)
    · have e : putTo l s (k + 1) = putTo l s k := by unfold putTo; rw [List.take_of_length_le (by omega), List.take_of_length_le (by omega)]
      rw [e] at h
      exact mem_putTo l s k x h
theorem mem_put (l : List ByteArray) (s x : ByteArray) (h : x ∈ put l s) : x ∈ l ∨ x = s := by
  unfold put at h
  split at h
  · exact mem_putTo l s _ x h
  · rw [List.mem_append] at h
    rcases h with h | h
    · exact mem_putTo l s _ x h
    · exact .inr (by simpa using h)
theorem put_len (l : List ByteArray) (s : ByteArray) : (put l s).length ≤ l.length + 1 := by
  have := putTo_len l s l.length
  unfold put
  split <;> simp_all

/-- a row, each text of it put into the row of those ahead of it -/
def srt (l : List ByteArray) : List ByteArray := l.foldl put []
theorem srt_next (l : List ByteArray) (k : Nat) (h : k < l.length) : srt (l.take (k + 1)) = put (srt (l.take k)) l[k] := by
  unfold srt; rw [List.take_succ_eq_append_getElem h, List.foldl_append]; rfl
theorem srt_snoc (l : List ByteArray) (x : ByteArray) : srt (l ++ [x]) = put (srt l) x := by unfold srt; rw [List.foldl_append]; rfl
theorem srt_mem_aux (l : List ByteArray) : ∀ acc x, x ∈ l.foldl put acc → x ∈ acc ∨ x ∈ l := by
  induction l with
  | nil => intro acc x h; exact .inl h
  | cons y r ih =>
    intro acc x h
    rcases ih (put acc y) x h with h | h
    · rcases mem_put acc y x h with h | h
      · exact .inl h
      · exact .inr (by simp [h])
    · exact .inr (by simp [h])
theorem srt_mem (l : List ByteArray) (x : ByteArray) (h : x ∈ srt l) : x ∈ l := by
  rcases srt_mem_aux l [] x h with h | h
  · cases h
  · exact h
theorem srt_len_aux (l : List ByteArray) : ∀ acc, (l.foldl put acc).length ≤ acc.length + l.length := by
  induction l with
  | nil => intro acc; simp
  | cons y r ih =>
    intro acc
    have h1 := ih (put acc y)
    have h2 := put_len acc y
    simp only [List.foldl_cons, List.length_cons]
    omega
theorem srt_len (l : List ByteArray) : (srt l).length ≤ l.length := by
  have := srt_len_aux l []
  simpa [srt] using this

set_option maxHeartbeats 1000000 in
theorem refSorted_any (a : Option Addr) (c : Nat) (l : List ByteArray) (w : World) (hr : Sl w a (strs l)) (hf : Fits l) (hl : l.length ≤ 1048576) :
    Calls Try.prog 16 #[.slice a l.length c] w fun e w' => ∃ v, e = .returned v ∧ w'.ownsRow w.heap.size 9 1 v (srt l).length (strs (srt l)) ∧ Below w.heap.size w w' := by
  have HR := Lib.hid hr
  have HF := Lib.hid hf
  clear hr hf
  go_enter Try.func16, Try.ntmps16
  go_wp2
  go_loopw [3, 4] (fun v i wr => ∃ k : Nat, k ≤ l.length ∧ i = .int .i64 k ∧ wr.ownsRow w.heap.size 9 1 v (srt (l.take k)).length (strs (srt (l.take k))) ∧ Below w.heap.size w wr) (fun _ i _ => l.length - (intOf i).toNat)
  case atStart => exact ⟨0, by omega, rfl, World.ownsRow_nil _ _ _ _, Below.refl _ _⟩
  case round =>
    obtain ⟨k, hk, rfl, hown, hB⟩ := hrel
    by_cases hlt : k < l.length
    · obtain ⟨b, off, rfl, hbl, hcell⟩ := HR.out.str hlt
      have hcellr := (hB.cell (p := ⟨b, off + k, none⟩) hbl).trans hcell
      have hsz : l[k].size ≤ maxLen := HF.out.2 _ (List.getElem_mem hlt)
      have HN := Lib.hid (srt_next l k hlt)
      have hlen := srt_len (l.take k)
      have hlen2 : (l.take k).length = k := by rw [List.length_take]; omega
      have hfits : Fits (srt (l.take k)) := ⟨by unfold maxLen; omega, fun x hx => HF.out.2 x (List.mem_of_mem_take (srt_mem _ x hx))⟩
      generalize srt (l.take k) = r at *
      obtain ⟨a2, c2, rfl, _, _, hsl, _⟩ := own_slice hown
      have HC := Lib.hid (put_any a2 c2 r l[k] wr hsl hfits hsz (by omega))
      have hBs := hB.size
      clear hsl hown hcell hfits hlen2
      go_wp2_with (go_at_call 27; refine HC.out.mono ?_; rintro e w2 ⟨v2, rfl, hown2, hB2⟩)
      go_roundw
      case rel => exact ⟨k + 1, by omega, by go_num, by rw [HN.out]; exact own_base hown2 hBs, hB.trans (hB2.mono hBs)⟩
      case measure => simp [intOf]; omega
    · have hkl : k = l.length := by omega
      have HE : Hid (srt (l.take k) = srt l) := by unfold Hid; rw [List.take_of_length_le (by omega)]
      clear hkl
      go_wp2
      go_ret
      exact ⟨_, rfl, by rw [← HE.out]; exact hown, hB⟩
end Go.Proofs.Ythcjkobopobokaa
