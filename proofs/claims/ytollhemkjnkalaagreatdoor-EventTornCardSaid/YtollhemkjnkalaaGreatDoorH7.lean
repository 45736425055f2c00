/- Layer 4, plain mathematics: what was packed is read as it was; cut off, or followed by a byte that can't stand there; a Mark stands in front alone. -/
import Derived.Test.YtollhemkjnkalaaGreatDoorH5
namespace Go.Proofs.YtollhemkjnkalaaGreatDoor
set_option linter.unusedVariables false
set_option maxRecDepth 100000

theorem goodF_take {long i : Nat} {l : List UInt8} (n : Nat) (h : goodF long i l = true) : goodF long i (l.take n) = true := by
  rw [← List.take_append_drop n l, goodF_append, Bool.and_eq_true] at h
  exact h.1
theorem goodF_drop {long i : Nat} {l : List UInt8} (n : Nat) (hn : n ≤ l.length) (h : goodF long i l = true) : goodF long (i + n) (l.drop n) = true := by
  rw [← List.take_append_drop n l, goodF_append, Bool.and_eq_true, List.length_take, Nat.min_eq_left hn] at h
  exact h.2
theorem G_zero_iff (long i n : Nat) (s : List UInt8) : G long i n s = 0 ↔ goodF long i (s.take n) = true ∧ n ≤ s.length := by
  unfold G
  split
  · split
    · constructor
      · intro h; cases h
      · intro h; omega
    · constructor
      · intro _; exact ⟨‹_›, by omega⟩
      · intro _; rfl
  · constructor
    · intro h; cases h
    · intro h; exact absurd h.1 ‹_›
theorem G_cut {long i n : Nat} {l : List UInt8} (h : goodF long i l = true) (hn : l.length < n) : G long i n l = 43 := by
  unfold G
  rw [if_pos (goodF_take n h), if_pos hn]
theorem G_bad {long i n : Nat} {l : List UInt8} (h : goodF long i l = true) (hn : l.length < n) (x : UInt8) (hx : okAt long (i + l.length) x = false) (r : List UInt8) : G long i n (l ++ x :: r) = 44 := by
  unfold G
  rw [if_neg]
  obtain ⟨m, rfl⟩ : ∃ m, n = l.length + (m + 1) := ⟨n - l.length - 1, by omega⟩
  rw [take_add', List.take_left, List.drop_left, goodF_append, List.take_succ_cons]
  simp [goodF, hx]
theorem okAt_zero (long i : Nat) : okAt long i 0 = false := by
  unfold okAt
  split
  · decide
  · split
    · decide
    · split
      · decide
      · decide
theorem longOf_take {s t : List UInt8} (h : s.take 6 = t.take 6) : longOf s = longOf t := by
  have e : ∀ l : List UInt8, (l.drop 2).take 4 = (l.take 6).drop 2 := fun l => by rw [List.drop_take]
  unfold longOf longI
  rw [e s, e t, h]

theorem hexV_dig (c : UInt8) (h : isDigB c = true) : 0 ≤ hexV c := by
  unfold isDigB at h
  unfold hexV
  simp at h
  split
  · omega
  · split <;> omega
theorem numF_dig : ∀ (l : List UInt8) (n k : Nat), l.all isDigB = true → n < 16 ^ k → k + l.length ≤ 12 → ∃ m : Nat, numF hexV 16 most48 l (n : Int) = some (m : Int)
  | [], n, k, _, _, _ => ⟨n, rfl⟩
  | c :: l, n, k, h, hn, hk => by
    rw [List.all_cons, Bool.and_eq_true] at h
    rw [List.length_cons] at hk
    have hv := hexV_dig c h.1
    have hv2 := hexV_lt c
    have hp := pow12 (k + 1) (by omega)
    have hq := pow16 k
    obtain ⟨v, hv3⟩ : ∃ v : Nat, hexV c = v := ⟨(hexV c).toNat, by omega⟩
    rw [hv3] at hv hv2
    have e : (16 : Int) * n + v = ((16 * n + v : Nat) : Int) := by omega
    rw [numF_next hexV 16 most48 c l n (by omega) (by rw [hv3]; unfold most48; omega), hv3, e]
    exact numF_dig l (16 * n + v) (k + 1) h.2 (by omega) (by omega)

/-! ### what was packed -/
section
variable {k : UInt8} {b : List UInt8}
theorem pack_low (h : packE k b = 0) : goodF 0 0 ((packT k b).take 6) = true := by
  rw [goodF_low 0 b.length _ 0 (by rw [List.length_take]; omega)]
  exact goodF_take 6 (packT_good h)
theorem pack_long (h : packE k b = 0) : longOf (packT k b) = b.length := by
  have e : ((packT k b).drop 2).take 4 = hexL b.length 4 := by
    unfold packT midT
    simp only [List.cons_append, List.drop_succ_cons, List.drop_zero, List.append_assoc]
    exact List.take_left' (hexL_length _ _)
  obtain ⟨_, h2, _⟩ := packE_zero h
  unfold longOf longI
  rw [e, unhex_hexL _ 4 (by decide) (by decide) (by omega)]; simp
theorem pack_rest (h : packE k b = 0) : goodF b.length 6 ((packT k b).drop 6) = true := by
  have := goodF_drop 6 (by rw [packT_len]; omega) (packT_good h)
  simpa using this
theorem bodyE_pack (h : packE k b = 0) (s : List UInt8) (hs : s.take 6 = (packT k b).take 6) (hl : 6 ≤ s.length) : bodyE s = 0 ∧ longOf s = b.length := by
  have e := (longOf_take hs).trans (pack_long h)
  refine ⟨?_, e⟩
  have hG : G 0 0 6 s = 0 := (G_zero_iff 0 0 6 s).2 ⟨by rw [hs]; exact pack_low h, hl⟩
  obtain ⟨_, h2, _⟩ := packE_zero h
  unfold bodyE
  rw [if_neg (by simp [hG]), if_neg (by omega)]
theorem pack_parts : packT k b = 254 :: midT k b ++ sumT (midT k b) := rfl
/-- what was packed is read as it was, whatever is behind it -/
theorem nextL_pack (h : packE k b = 0) (r : List UInt8) : nextL (packT k b ++ r) = .ok k b := by
  have hlen := packT_len k b
  obtain ⟨h1, h2⟩ := bodyE_pack h (packT k b ++ r) (List.take_append_of_le_length (by omega)) (by rw [List.length_append]; omega)
  have e1 : (packT k b ++ r).take (6 + b.length) = 254 :: midT k b := by
    rw [List.take_append_of_le_length (by omega), pack_parts]
    exact List.take_left' (by rw [List.length_cons, midT_len]; omega)
  have e2 : (packT k b ++ r).take (6 + b.length + 8) = packT k b := List.take_left' (by omega)
  have hG : G b.length 6 (b.length + 8) ((packT k b ++ r).drop 6) = 0 := by
    refine (G_zero_iff _ _ _ _).2 ⟨?_, by rw [List.length_drop, List.length_append]; omega⟩
    rw [List.drop_append_of_le_length (by omega), List.take_left' (by rw [List.length_drop]; omega)]
    exact pack_rest h
  have := nextL_ok (packT k b ++ r) h1 (by rw [h2]; exact hG) (by
    rw [h2, e1, e2, List.drop_succ_cons, List.drop_zero, pack_parts]
    exact (List.drop_left' (by rw [List.length_cons, midT_len]; omega)).symm)
  rw [this, h2, e1]
  rfl
/-- a beginning of it is short -/
theorem nextL_cut (h : packE k b = 0) (c : Nat) (hc : c < 14 + b.length) : nextL ((packT k b).take c) = .err 43 := by
  have hlen := packT_len k b
  have hl : ((packT k b).take c).length = c := by rw [List.length_take]; omega
  by_cases h6 : c < 6
  · have hg : goodF 0 0 ((packT k b).take c) = true := by
      have := goodF_take c (pack_low h)
      rwa [List.take_take, Nat.min_eq_left (by omega)] at this
    have e := G_cut hg (n := 6) (by omega)
    have hb : bodyE ((packT k b).take c) = 43 := by unfold bodyE; rw [e]; rfl
    rw [nextL_head _ (by omega), hb]
  · obtain ⟨h1, h2⟩ := bodyE_pack h ((packT k b).take c) (by rw [List.take_take, Nat.min_eq_left (by omega)]) (by omega)
    have e : G b.length 6 (b.length + 8) (((packT k b).take c).drop 6) = 43 := by
      refine G_cut ?_ (by rw [List.length_drop]; omega)
      rw [List.drop_take]
      exact goodF_take _ (pack_rest h)
    rw [nextL_rest _ h1 (by rw [h2, e]; decide), h2, e]
/-- with a byte behind it that can't stand there it is amiss -/
theorem nextL_amiss (h : packE k b = 0) (c : Nat) (hc : c < 14 + b.length) (r : List UInt8) : nextL ((packT k b).take c ++ 0 :: r) = .err 44 := by
  have hlen := packT_len k b
  have hl : ((packT k b).take c).length = c := by rw [List.length_take]; omega
  by_cases h6 : c < 6
  · have hg : goodF 0 0 ((packT k b).take c) = true := by
      have := goodF_take c (pack_low h)
      rwa [List.take_take, Nat.min_eq_left (by omega)] at this
    have e := G_bad hg (n := 6) (by omega) 0 (okAt_zero _ _) r
    have hb : bodyE ((packT k b).take c ++ 0 :: r) = 44 := by unfold bodyE; rw [e]; rfl
    rw [nextL_head _ (by omega), hb]
  · obtain ⟨h1, h2⟩ := bodyE_pack h ((packT k b).take c ++ 0 :: r) (by rw [List.take_append_of_le_length (by omega), List.take_take, Nat.min_eq_left (by omega)]) (by rw [List.length_append]; omega)
    have e : G b.length 6 (b.length + 8) (((packT k b).take c ++ 0 :: r).drop 6) = 44 := by
      rw [List.drop_append_of_le_length (by omega)]
      refine G_bad ?_ (by rw [List.length_drop]; omega) 0 (okAt_zero _ _) r
      rw [List.drop_take]
      exact goodF_take _ (pack_rest h)
    rw [nextL_rest _ h1 (by rw [h2, e]; decide), h2, e]
end

/-! ### what is read -/
theorem nextL_cases (s : List UInt8) : (∃ e, e ≠ 0 ∧ nextL s = .err e) ∨ (bodyE s = 0 ∧ G (longOf s) 6 (longOf s + 8) (s.drop 6) = 0 ∧ sumT ((s.take (6 + longOf s)).drop 1) = (s.take (6 + longOf s + 8)).drop (6 + longOf s) ∧ nextL s = .ok (s.getD 1 0) ((s.take (6 + longOf s)).drop 6)) := by
  by_cases h1 : bodyE s = 0
  · by_cases h2 : G (longOf s) 6 (longOf s + 8) (s.drop 6) = 0
    · by_cases h3 : sumT ((s.take (6 + longOf s)).drop 1) = (s.take (6 + longOf s + 8)).drop (6 + longOf s)
      · exact .inr ⟨h1, h2, h3, nextL_ok s h1 h2 h3⟩
      · exact .inl ⟨45, by decide, nextL_sum s h1 h2 h3⟩
    · exact .inl ⟨_, h2, nextL_rest s h1 h2⟩
  · exact .inl ⟨_, h1, nextL_head s h1⟩
theorem six_cons (s : List UInt8) (h : 6 ≤ s.length) : ∃ c0 c1 c2 c3 c4 c5 t, s = c0 :: c1 :: c2 :: c3 :: c4 :: c5 :: t := by
  rcases s with _ | ⟨c0, _ | ⟨c1, _ | ⟨c2, _ | ⟨c3, _ | ⟨c4, _ | ⟨c5, t⟩⟩⟩⟩⟩⟩
  all_goals first | exact ⟨_, _, _, _, _, _, _, rfl⟩ | (simp at h)
theorem nextL_inv {s : List UInt8} {k : UInt8} {b : List UInt8} (h : nextL s = .ok k b) : packE k b = 0 ∧ s.take (14 + b.length) = packT k b ∧ 14 + b.length ≤ s.length := by
  rcases nextL_cases s with ⟨e, _, he⟩ | ⟨h1, h2, h3, h4⟩
  · rw [he] at h; cases h
  rw [h4] at h
  injection h with hk hb
  obtain ⟨_, hlong, h6⟩ := bodyE_zero h1
  obtain ⟨hg2, hl2⟩ := (G_zero_iff _ _ _ _).1 h2
  rw [List.length_drop] at hl2
  have hG : G 0 0 6 s = 0 := by
    unfold bodyE at h1
    split at h1
    · omega
    · omega
  obtain ⟨hg1, _⟩ := (G_zero_iff _ _ _ _).1 hG
  have hbl : b.length = longOf s := by rw [← hb, List.length_drop, List.length_take]; omega
  -- the head, byte by byte
  obtain ⟨c0, c1, c2, c3, c4, c5, t, rfl⟩ := six_cons s h6
  have ht : (c0 :: c1 :: c2 :: c3 :: c4 :: c5 :: t).take 6 = [c0, c1, c2, c3, c4, c5] := by simp
  rw [ht] at hg1
  simp only [goodF, okAt, Bool.and_true, Bool.and_eq_true] at hg1
  simp at hg1
  obtain ⟨g0, g1, g2, g3, g4, g5⟩ := hg1
  have hk' : c1 = k := by simpa using hk
  have hmark : c0 = 254 := by
    unfold isMarkB at g0
    rw [decide_eq_true_eq] at g0
    exact UInt8.toNat_inj.1 g0
  have hd : ((c0 :: c1 :: c2 :: c3 :: c4 :: c5 :: t).drop 2).take 4 = [c2, c3, c4, c5] := by simp
  obtain ⟨m, hm⟩ := numF_dig [c2, c3, c4, c5] 0 0 (by simp [g2, g3, g4, g5]) (by decide) (by simp)
  have hu : unhexL [c2, c3, c4, c5] = some (m : Int) := by
    unfold unhexL
    rw [if_pos (by simp)]; exact hm
  have hlm : longOf (c0 :: c1 :: c2 :: c3 :: c4 :: c5 :: t) = m := by
    unfold longOf longI
    rw [hd, hu]; simp
  have hx := (hexOf_unhex _ _ hu).1
  rw [hlm] at hbl hlong hg2 hl2 h3 hb
  have hhex : hexL m 4 = [c2, c3, c4, c5] := by
    rw [← hx]
    exact (hexOf_nat m 4 (by decide) (by decide) (by omega)).symm
  have hbt : b = t.take m := by
    rw [← hb]
    rw [show 6 + m = m + 6 by omega]
    simp
  have hmid : ((c0 :: c1 :: c2 :: c3 :: c4 :: c5 :: t).take (6 + m)).drop 1 = midT k b := by
    rw [show 6 + m = m + 6 by omega]
    unfold midT
    rw [hbl, hhex, hbt, ← hk']
    simp
  have hsum : ((c0 :: c1 :: c2 :: c3 :: c4 :: c5 :: t).take (6 + m + 8)).drop (6 + m) = sumT (midT k b) := by rw [← h3, hmid]
  refine ⟨?_, ?_, by rw [hbl]; simp at hl2 ⊢; omega⟩
  · refine packE_ok (by rw [← hk']; exact g1) (by omega) ?_
    rw [show (c0 :: c1 :: c2 :: c3 :: c4 :: c5 :: t).drop 6 = t by simp, take_add', goodF_append, Bool.and_eq_true] at hg2
    have := hg2.1
    rw [goodF_all m inBodyB (t.take m) 6 (fun j a1 a2 c => by rw [List.length_take] at a2; unfold okAt; rw [if_neg (by omega), if_neg (by omega), if_neg (by omega)])] at this
    rw [hbt]; exact this
  · rw [hbl, show 14 + m = 6 + m + 8 by omega, pack_parts]
    rw [← List.take_append_drop (6 + m) ((c0 :: c1 :: c2 :: c3 :: c4 :: c5 :: t).take (6 + m + 8)), hsum, List.take_take, Nat.min_eq_left (by omega)]
    have e6 : (c0 :: c1 :: c2 :: c3 :: c4 :: c5 :: t).take (6 + m) = 254 :: midT k b := by
      rw [← hmid, show 6 + m = m + 6 by omega]
      simp [hmark]
    rw [e6]
theorem nextL_err {s : List UInt8} (h : ∀ k b, nextL s ≠ .ok k b) : ∃ e, e ≠ 0 ∧ nextL s = .err e := by
  rcases nextL_cases s with h1 | ⟨_, _, _, h4⟩
  · exact h1
  · exact absurd h4 (h _ _)
end Go.Proofs.YtollhemkjnkalaaGreatDoor
