/- Layer 5's laws: a file, read block by block. -/
import Derived.Test.YtammmhbkfdmbfaaU3
namespace Go.Proofs.Ytammmhbkfdmbfaa
open Go.RowKit
set_option linter.unusedVariables false

/-- how long the text in a slot is -/
def strSz : Value → Nat | .string T => T.size | _ => 0
def textL (L : List FileM) (n : Nm) : Nm := match getL L n with | none => [] | some f => f.bytes
theorem textL_len (L : List FileM) (n : Nm) : (textL L n).length = sizeN L n := by
  unfold textL sizeN
  cases getL L n <;> rfl
theorem text_used {L : List FileM} (n : Nm) : (textL L n).length ≤ usedL L := by
  rw [textL_len]; unfold sizeN
  cases h : getL L n with
  | none => exact Nat.zero_le _
  | some f => exact used_le (getL_some h).1
theorem readE_in {d : DiskM} {n : Nm} {k : Nat} (hd : d.down = false) (hh : hasL d.L n = true) (hk : k ≤ (textL d.L n).length) : readE d n (k : Int) = 0 := by
  obtain ⟨f, hf⟩ := getL_has hh
  unfold textL at hk
  rw [hf] at hk
  unfold readE
  rw [hd, hf]
  dsimp only at hk ⊢
  rw [if_neg (by simp), if_neg (by omega)]
theorem readT_in {d : DiskM} {n : Nm} {k : Nat} (hd : d.down = false) (hh : hasL d.L n = true) (hk : k ≤ (textL d.L n).length) : readT d n (k : Int) = ((textL d.L n).drop k).take 64 := by
  have h1 := readE_in hd hh hk
  unfold readT
  rw [h1]
  obtain ⟨f, hf⟩ := getL_has hh
  unfold textL
  rw [hf]
  simp
theorem readD_in {d : DiskM} {n : Nm} {k : Nat} (hd : d.down = false) (hh : hasL d.L n = true) (hk : k ≤ (textL d.L n).length) : readD d n (k : Int) = { d with reads := IntKind.i64.wrap (d.reads + 1) } := by
  unfold readD
  rw [readE_in hd hh hk]; simp
theorem take_on {α : Type} (t : List α) (k m : Nat) : t.take k ++ (t.drop k).take m = t.take (k + m) := by rw [List.take_add]

variable {K : Nat → Prop} {w0 w : World} {p : Nat} {d d' : DiskM}
set_option maxHeartbeats 1000000 in
theorem bytes_any (n : Nm) (hn : n.length ≤ 140737488351232) (hd : d.down = false) (h : Liv K w0 w p d) :
    Calls Try.prog 31 #[pt p, .string (tx n)] w fun e w' => e = .returned (.tuple #[.string (tx (textL d.L n)), .bool (hasL d.L n)]) ∧ ∃ r, Liv K w0 w' p { d with reads := r } := by
  have hnz : (tx n).size ≤ maxLen := by rw [tx_size]; unfold maxLen; omega
  have HSI := Lib.hid (liv_size (tx n) hnz h)
  rw [toL_tx, ← textL_len] at HSI
  have hroom : (textL d.L n).length ≤ 1073741824 := by
    have h1 := text_used (L := d.L) n
    have h2 := h.ok.room
    have h3 := h.ok.most
    omega
  have HRD := Lib.hid (fun (k r : Nat → Int) => True.intro)
  have HR : Hid (∀ (k : Nat) (r : Int) (W : World), hasL d.L n = true → k ≤ (textL d.L n).length → Liv K w0 W p { d with reads := r } →
      Calls Try.prog 20 #[pt p, .string (tx n), .int .i64 (k : Int)] W fun e w' => e = .returned (.tuple #[.string (tx (((textL d.L n).drop k).take 64)), .int .i64 0]) ∧ ∃ r, Liv K w0 w' p { d with reads := r }) := fun k r W hh hk hL => by
    have h1 := liv_read (tx n) hnz (k : Int) hL
    rw [toL_tx, readT_in (d := { d with reads := r }) hd hh hk, readE_in (d := { d with reads := r }) hd hh hk, readD_in (d := { d with reads := r }) hd hh hk] at h1
    refine h1.mono ?_
    rintro e w' ⟨q1, q2⟩
    exact ⟨q1, _, q2⟩
  have h0 : Hid (hasL d.L n = false → textL d.L n = []) := fun hh => by unfold textL; rw [getL_none.2 hh]
  clear HRD
  generalize hasL d.L n = hb at *
  generalize textL d.L n = t at *
  go_enter Try.func31, Try.ntmps31
  go_wp2_with fail
  refine (HSI.out).mono ?_
  rintro e w1 ⟨rfl, h1⟩
  have H1 : Hid (∃ r, Liv K w0 w1 p { d with reads := r }) := ⟨d.reads, h1⟩
  clear h1 HSI h
  cases hb
  · obtain rfl : t = [] := h0.out rfl
    go_wp2
    go_loopw [8] (fun s wr => s = .string ⟨#[]⟩ ∧ wr = w1) (fun _ _ => 0)
    case atStart => exact ⟨rfl, rfl⟩
    case round =>
      obtain ⟨rfl, rfl⟩ := hrel
      go_wp2
      go_ret2
      exact ⟨rfl, H1.out⟩
  · obtain ⟨N, hN⟩ : ∃ N, N = t.length := ⟨_, rfl⟩
    have HN := Lib.hid hN
    rw [← hN] at hroom ⊢
    clear hN
    go_wp2
    go_loopw [8] (fun s wr => ∃ (k : Nat) (T : ByteArray), k ≤ N ∧ s = .string T ∧ T.size = k ∧ Hid (T = tx (t.take k)) ∧ Hid (∃ r, Liv K w0 wr p { d with reads := r })) (fun s _ => N - strSz s)
    case atStart => exact ⟨0, ⟨#[]⟩, by omega, rfl, rfl, rfl, H1.out⟩
    case round =>
      obtain ⟨k, T, hk, rfl, hT, HT, HL⟩ := hrel
      by_cases hlt : k < N
      · obtain ⟨r, hL⟩ := HL.out
        have HC := Lib.hid (HR.out k r _ trivial (by rw [← HN.out]; exact hk) hL)
        have HZ : Hid ((tx ((t.drop k).take 64)).size = min 64 (N - k)) := by unfold Hid; rw [tx_size, List.length_take, List.length_drop, ← HN.out]
        have HNX : Hid (tx (t.take k) ++ tx ((t.drop k).take 64) = tx (t.take (k + 64))) := by unfold Hid; rw [tx_append, take_on]
        have heq : ((tx ((t.drop k).take 64)).toList == (⟨#[]⟩ : ByteArray).toList) = false := by
          rw [show (⟨#[]⟩ : ByteArray) = tx [] from rfl, eqT]
          refine decide_eq_false fun e => ?_
          have := congrArg List.length e
          rw [List.length_take, List.length_drop, ← HN.out] at this
          simp at this
          omega
        have hem : (tx ((t.drop k).take 64)).toList.isEmpty = false := by
          rw [toList_tx]
          refine List.isEmpty_eq_false_iff.2 fun e => ?_
          have := congrArg List.length e
          rw [List.length_take, List.length_drop, ← HN.out] at this
          simp at this
          omega
        clear hL HL
        generalize tx ((t.drop k).take 64) = X at *
        have hz := HZ.out
        go_wp2_with fail
        refine (HC.out).mono ?_
        rintro e w2 ⟨rfl, h2⟩
        have H2 := Lib.hid h2
        clear h2
        go_wp2
        go_roundw
        case rel =>
          refine ⟨min (k + 64) N, _, by omega, rfl, ?_, ?_, H2⟩
          · rw [ByteArray.size_append]; omega
          · unfold Hid
            rw [HT.out, HNX.out]
            congr 1
            rcases Nat.le_total (k + 64) N with h | h
            · rw [Nat.min_eq_left h]
            · rw [Nat.min_eq_right h, List.take_of_length_le (by rw [← HN.out]; exact h), HN.out, List.take_length]
        case measure => simp only [strSz, ByteArray.size_append]; omega
      · obtain rfl : k = N := by omega
        have HE : Hid (T = tx t) := by unfold Hid; rw [HT.out, HN.out, List.take_length]
        go_wp2
        go_ret2
        refine ⟨?_, HL.out⟩
        rw [HE.out]
        rfl
end Go.Proofs.Ytammmhbkfdmbfaa
