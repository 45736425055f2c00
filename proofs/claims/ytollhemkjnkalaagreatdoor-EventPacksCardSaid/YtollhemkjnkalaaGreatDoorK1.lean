/- Layer 6: the plain laws of events: the event of a frame is the one whose frame it is. -/
import Derived.Test.YtollhemkjnkalaaGreatDoorJ13
namespace Go.Proofs.YtollhemkjnkalaaGreatDoor
open Go.RowKit Go.Shelf Go.Lib
set_option linter.unusedVariables false
set_option maxRecDepth 100000

theorem isB_isW (c : UInt8) (h : nm.isB c = true) : isW c = true :=
  byte_all (fun c => nm.isB c = true → isW c = true) (by decide +kernel) c h
theorem isW_body (c : UInt8) (h : isW c = true) : inBodyB c = true :=
  byte_all (fun c => isW c = true → inBodyB c = true) (by decide +kernel) c h
theorem name_word {s : ByteArray} (h : isN s = true) : isWord (toL s) = true := by
  unfold isN nm.isName at h
  simp only [Bool.and_eq_true, decide_eq_true_eq] at h
  obtain ⟨⟨h1, _⟩, h3⟩ := h
  unfold isWord
  rw [Bool.and_eq_true]
  refine ⟨?_, ?_⟩
  · unfold toL
    cases hd : s.data.toList with
    | nil => rw [hd] at h1; exact absurd h1 (by simp)
    | cons c r => rfl
  · rw [List.all_eq_true] at h3 ⊢
    exact fun c hc => isB_isW c (h3 c hc)
theorem decDigits_isW : ∀ u : Nat, (decDigits u).all isW = true := by
  intro u
  induction u using Nat.strongRecOn with
  | _ u ih =>
    by_cases h : u < 10
    · rw [decDigits_small h]
      have : ∀ u : Nat, u < 10 → isW (UInt8.ofNat (48 + u)) = true := by decide
      rw [List.all_cons, this u h]; rfl
    · rw [decDigits_big h, List.all_append, ih (u / 10) (by omega)]
      have : ∀ u : Nat, u < 10 → isW (UInt8.ofNat (48 + u)) = true := by decide
      rw [List.all_cons, this (u % 10) (by omega)]; rfl
theorem dec_word {n : Int} (h : 0 ≤ n) (h2 : n ≤ 1099511627776) : isWord (decOf n) = true := by
  have hne := (undec_decOf n h h2).2
  unfold isWord
  rw [Bool.and_eq_true]
  refine ⟨?_, ?_⟩
  · cases hd : decOf n with
    | nil => exact absurd hd hne
    | cons c r => rfl
  · unfold decOf
    rw [if_pos ⟨h, h2⟩]
    exact decDigits_isW _
theorem noT_nil {s : ByteArray} (h : noT s = true) : s = ⟨#[]⟩ := by
  unfold noT at h
  have := eq_of_beq h
  rw [toList_data, toList_data] at this
  exact toL_inj this
theorem right_form {e : EvM} (h : rightE e = true) : (0 ≤ e.at_ ∧ e.at_ ≤ 1099511627775) ∧ (
    ((e.kind = 1 ∨ e.kind = 2) ∧ isN e.user = true ∧ e.other = ⟨#[]⟩ ∧ (1 ≤ e.n ∧ e.n ≤ 999) ∧ (1 ≤ e.status ∧ e.status ≤ 4)) ∨
    (e.kind = 3 ∧ isN e.user = true ∧ e.other = ⟨#[]⟩ ∧ (1 ≤ e.n ∧ e.n ≤ 999) ∧ e.status = 0) ∨
    (e.kind = 7 ∧ isN e.user = true ∧ e.other = ⟨#[]⟩ ∧ e.n = 0 ∧ e.status = 0) ∨
    ((e.kind = 4 ∨ e.kind = 5) ∧ isN e.user = true ∧ isN e.other = true ∧ e.n = 0 ∧ e.status = 0) ∨
    (e.kind = 6 ∧ e.user = ⟨#[]⟩ ∧ e.other = ⟨#[]⟩ ∧ (0 ≤ e.n ∧ e.n ≤ 1099511627775) ∧ e.status = 0)) := by
  obtain ⟨k, a, u, o, n, s⟩ := e
  unfold rightE isK inB rText at h
  simp only [Bool.and_eq_true, decide_eq_true_eq] at h
  obtain ⟨⟨k1, k7⟩, ha, h1, h2, h3, h4⟩ := h
  refine ⟨ha, ?_⟩
  dsimp only at *
  have hc : k = 1 ∨ k = 2 ∨ k = 3 ∨ k = 4 ∨ k = 5 ∨ k = 6 ∨ k = 7 := by omega
  rcases hc with rfl | rfl | rfl | rfl | rfl | rfl | rfl
  · exact .inl ⟨.inl rfl, h1, noT_nil h2, h3, h4⟩
  · exact .inl ⟨.inr rfl, h1, noT_nil h2, h3, h4⟩
  · exact .inr (.inl ⟨rfl, h1, noT_nil h2, h3, Int.le_antisymm h4.2 h4.1⟩)
  · exact .inr (.inr (.inr (.inl ⟨.inl rfl, h1, h2, Int.le_antisymm h3.2 h3.1, Int.le_antisymm h4.2 h4.1⟩)))
  · exact .inr (.inr (.inr (.inl ⟨.inr rfl, h1, h2, Int.le_antisymm h3.2 h3.1, Int.le_antisymm h4.2 h4.1⟩)))
  · exact .inr (.inr (.inr (.inr ⟨rfl, noT_nil h1, noT_nil h2, h3, Int.le_antisymm h4.2 h4.1⟩)))
  · exact .inr (.inr (.inl ⟨rfl, h1, noT_nil h2, Int.le_antisymm h3.2 h3.1, Int.le_antisymm h4.2 h4.1⟩))
theorem sh_1 {k : Int} (h : k = 1 ∨ k = 2) : shK k = ⟨true, false, 1, 999, 1, 4⟩ := by rcases h with rfl | rfl <;> rfl
theorem sh_4 {k : Int} (h : k = 4 ∨ k = 5) : shK k = ⟨true, true, 0, 0, 0, 0⟩ := by rcases h with rfl | rfl <;> rfl
theorem words_are {e : EvM} (h : rightE e = true) : ((wordsE e).map toL).all isWord = true ∧ (wordsE e).map toL ≠ [] := by
  obtain ⟨⟨a0, a1⟩, hf⟩ := right_form h
  have ha := dec_word a0 (by omega)
  obtain ⟨k, a, u, o, n, s⟩ := e
  dsimp only at *
  rcases hf with ⟨hk, hu, ho, hn, hs⟩ | ⟨hk, hu, ho, hn, hs⟩ | ⟨hk, hu, ho, hn, hs⟩ | ⟨hk, hu, ho, hn, hs⟩ | ⟨hk, hu, ho, hn, hs⟩
  · have d1 := dec_word (n := n) (by omega) (by omega)
    have d2 := dec_word (n := s) (by omega) (by omega)
    unfold wordsE wordsS
    rw [sh_1 hk]
    simp [toL_tx, ha, d1, d2, name_word hu]
  · have d1 := dec_word (n := n) (by omega) (by omega)
    unfold wordsE wordsS
    subst hk
    rw [show shK 3 = ⟨true, false, 1, 999, 0, 0⟩ from rfl]
    simp [toL_tx, ha, d1, name_word hu]
  · unfold wordsE wordsS
    subst hk
    rw [show shK 7 = ⟨true, false, 0, 0, 0, 0⟩ from rfl]
    simp [toL_tx, ha, name_word hu]
  · unfold wordsE wordsS
    rw [sh_4 hk]
    simp [toL_tx, ha, name_word hu, name_word ho]
  · have d1 := dec_word (n := n) (by omega) (by omega)
    unfold wordsE wordsS
    subst hk
    rw [show shK 6 = ⟨false, false, 0, 1099511627775, 0, 0⟩ from rfl]
    simp [toL_tx, ha, d1]
theorem numW_dec {n : Int} (h : 0 ≤ n) (h2 : n ≤ 1099511627776) : numW (tx (decOf n)) = n := by
  unfold numW
  rw [tx_data, (undec_decOf n h h2).1]
  rfl
theorem numW_nil : numW ⟨#[]⟩ = 0 := by unfold numW; rw [show (⟨#[]⟩ : ByteArray).data.toList = [] from rfl, undec_nil]; rfl
theorem guess_words {e : EvM} (h : rightE e = true) : fromW e.kind (wordsE e) = e := by
  obtain ⟨⟨a0, a1⟩, hf⟩ := right_form h
  have ha := numW_dec a0 (by omega)
  obtain ⟨k, a, u, o, n, s⟩ := e
  dsimp only at *
  rcases hf with ⟨hk, hu, ho, hn, hs⟩ | ⟨hk, hu, ho, hn, hs⟩ | ⟨hk, hu, ho, hn, hs⟩ | ⟨hk, hu, ho, hn, hs⟩ | ⟨hk, hu, ho, hn, hs⟩
  · have d1 := numW_dec (n := n) (by omega) (by omega)
    have d2 := numW_dec (n := s) (by omega) (by omega)
    unfold fromW wordsE wordsS fromS
    rw [sh_1 hk]
    simp [headW, tailW, ha, d1, d2, ho]
  · have d1 := numW_dec (n := n) (by omega) (by omega)
    unfold fromW wordsE wordsS fromS
    subst hk hs
    rw [show shK 3 = ⟨true, false, 1, 999, 0, 0⟩ from rfl]
    simp [headW, tailW, ha, d1, ho]
  · unfold fromW wordsE wordsS fromS
    subst hk hs hn
    rw [show shK 7 = ⟨true, false, 0, 0, 0, 0⟩ from rfl]
    simp [headW, tailW, ha, ho]
  · unfold fromW wordsE wordsS fromS
    subst hs hn
    rw [sh_4 hk]
    simp [headW, tailW, ha]
  · have d1 := numW_dec (n := n) (by omega) (by omega)
    unfold fromW wordsE wordsS fromS
    subst hk hs hu ho
    rw [show shK 6 = ⟨false, false, 0, 1099511627775, 0, 0⟩ from rfl]
    simp [headW, tailW, ha, d1]
theorem line_join {e : EvM} (h : rightE e = true) : lineE e = Lib.join ((wordsE e).map toL) [32] := by
  unfold lineE lineOf
  rw [if_pos (words_are h).1]
theorem split_line {e : EvM} (h : rightE e = true) : (splitOf (toL (tx (lineE e)))).map tx = wordsE e := by
  obtain ⟨h1, h2⟩ := words_are h
  rw [toL_tx, line_join h]
  unfold splitOf
  rw [cut_join _ h2 h1, if_pos h1, List.map_map]
  conv => rhs; rw [← List.map_id (wordsE e)]
  exact List.map_congr_left fun b _ => tx_toL b
theorem right_kind {e : EvM} (h : rightE e = true) : 1 ≤ e.kind ∧ e.kind ≤ 7 := by
  obtain ⟨_, hf⟩ := right_form h
  rcases hf with ⟨hk, _⟩ | ⟨hk, _⟩ | ⟨hk, _⟩ | ⟨hk, _⟩ | ⟨hk, _⟩ <;> omega
theorem let_letter {k : Int} (h : 1 ≤ k ∧ k ≤ 7) : letP (letterE k) + 1 = k := by
  have hc : k = 1 ∨ k = 2 ∨ k = 3 ∨ k = 4 ∨ k = 5 ∨ k = 6 ∨ k = 7 := by omega
  rcases hc with rfl | rfl | rfl | rfl | rfl | rfl | rfl <;> decide
theorem guess_frame {e : EvM} (h : rightE e = true) : guessE (letterE e.kind) (tx (lineE e)) = e := by
  unfold guessE
  rw [let_letter (right_kind h), split_line h, guess_words h]
theorem is_frame {e : EvM} (h : rightE e = true) : isF (letterE e.kind) (tx (lineE e)) = true := by
  unfold isF
  rw [guess_frame h, h, toList_tx]
  simp
theorem of_frame {e : EvM} (h : rightE e = true) : ofE (letterE e.kind) (tx (lineE e)) = e := by
  unfold ofE
  rw [if_pos (is_frame h), guess_frame h]
theorem isF_inv {k : UInt8} {b : ByteArray} (h : isF k b = true) : rightE (guessE k b) = true ∧ letterE (guessE k b).kind = k ∧ tx (lineE (guessE k b)) = b := by
  unfold isF at h
  simp only [Bool.and_eq_true, decide_eq_true_eq] at h
  obtain ⟨h1, h2, h3⟩ := h
  refine ⟨h1, h2, ?_⟩
  have := eq_of_beq h3
  rw [toList_data, toList_data, tx_data] at this
  exact toL_inj (by rw [toL_tx]; exact this)
theorem isF_zero : isF 0 ⟨#[]⟩ = false := by
  cases h : isF 0 ⟨#[]⟩ with
  | false => rfl
  | true =>
    obtain ⟨h1, h2, _⟩ := isF_inv h
    have hk := right_kind h1
    have hc : ∀ k : Int, 1 ≤ k ∧ k ≤ 7 → letterE k ≠ 0 := fun k hk => by
      have hc : k = 1 ∨ k = 2 ∨ k = 3 ∨ k = 4 ∨ k = 5 ∨ k = 6 ∨ k = 7 := by omega
      rcases hc with rfl | rfl | rfl | rfl | rfl | rfl | rfl <;> decide
    exact absurd h2 (hc _ hk)
theorem ofE_no {k : UInt8} {b : ByteArray} (h : isF k b = false) : ofE k b = zeroE := by unfold ofE; rw [h]; rfl
theorem ofE_yes {k : UInt8} {b : ByteArray} (h : isF k b = true) : ofE k b = guessE k b := by unfold ofE; rw [h]; rfl
theorem zero_not : rightE zeroE = false := by decide +kernel
theorem right_of (k : UInt8) (b : ByteArray) : rightE (ofE k b) = isF k b := by
  cases h : isF k b with
  | false => rw [ofE_no h]; exact zero_not
  | true => rw [ofE_yes h]; exact (isF_inv h).1

/-! ### the document's guesses -/
def refG (k : Int) : List ByteArray → EvM
  | a :: b :: r => if k = 6 then ⟨k, numW a, ⟨#[]⟩, ⟨#[]⟩, numW b, 0⟩ else if k = 4 ∨ k = 5 then ⟨k, numW a, b, headW r, 0, 0⟩ else ⟨k, numW a, b, ⟨#[]⟩, numW (headW r), numW (headW (tailW r))⟩
  | _ => ⟨k, 0, ⟨#[]⟩, ⟨#[]⟩, 0, 0⟩
theorem refG_kind (k : Int) (L : List ByteArray) : (refG k L).kind = k := by
  unfold refG
  split
  · split
    · rfl
    · split <;> rfl
  · rfl
theorem refG_words {e : EvM} (h : rightE e = true) : refG e.kind (wordsE e) = e := by
  obtain ⟨⟨a0, a1⟩, hf⟩ := right_form h
  have ha := numW_dec a0 (by omega)
  obtain ⟨k, a, u, o, n, s⟩ := e
  dsimp only at *
  rcases hf with ⟨hk, hu, ho, hn, hs⟩ | ⟨hk, hu, ho, hn, hs⟩ | ⟨hk, hu, ho, hn, hs⟩ | ⟨hk, hu, ho, hn, hs⟩ | ⟨hk, hu, ho, hn, hs⟩
  · have d1 := numW_dec (n := n) (by omega) (by omega)
    have d2 := numW_dec (n := s) (by omega) (by omega)
    unfold wordsE wordsS
    rw [sh_1 hk]
    have q1 : ¬ k = 6 := by omega
    have q2 : ¬ (k = 4 ∨ k = 5) := by omega
    simp [refG, headW, tailW, ha, d1, d2, ho, q1, q2]
  · have d1 := numW_dec (n := n) (by omega) (by omega)
    unfold wordsE wordsS
    subst hk hs
    rw [show shK 3 = ⟨true, false, 1, 999, 0, 0⟩ from rfl]
    simp [refG, headW, tailW, ha, d1, ho, numW_nil]
  · unfold wordsE wordsS
    subst hk hs hn
    rw [show shK 7 = ⟨true, false, 0, 0, 0, 0⟩ from rfl]
    simp [refG, headW, tailW, ha, ho, numW_nil]
  · unfold wordsE wordsS
    subst hs hn
    rw [sh_4 hk]
    have q1 : ¬ k = 6 := by omega
    simp [refG, headW, ha, q1, hk]
  · have d1 := numW_dec (n := n) (by omega) (by omega)
    unfold wordsE wordsS
    subst hk hs hu ho
    rw [show shK 6 = ⟨false, false, 0, 1099511627775, 0, 0⟩ from rfl]
    simp [refG, ha, d1]
/-- is the frame the one of the document's guess at a kind? -/
def okG (k : UInt8) (b : ByteArray) (i : Int) : Bool :=
  rightE (refG i ((splitOf (toL b)).map tx)) && (decide (letterE i = k) && ((tx (lineE (refG i ((splitOf (toL b)).map tx)))).toList == b.toList))
theorem okG_yes {k : UInt8} {b : ByteArray} {i : Int} (h : okG k b i = true) : isF k b = true ∧ guessE k b = refG i ((splitOf (toL b)).map tx) := by
  unfold okG at h
  simp only [Bool.and_eq_true, decide_eq_true_eq] at h
  obtain ⟨h1, h2, h3⟩ := h
  have hk := refG_kind i ((splitOf (toL b)).map tx)
  generalize refG i ((splitOf (toL b)).map tx) = e at *
  have hb : tx (lineE e) = b := by
    have := eq_of_beq h3
    rw [toList_data, toList_data, tx_data] at this
    exact toL_inj (by rw [toL_tx]; exact this)
  have g := guess_frame h1
  have f := is_frame h1
  rw [hb, hk, h2] at g f
  exact ⟨f, g⟩
theorem okG_of {k : UInt8} {b : ByteArray} (h : isF k b = true) : okG k b (guessE k b).kind = true ∧ 1 ≤ (guessE k b).kind ∧ (guessE k b).kind ≤ 7 := by
  obtain ⟨h1, h2, h3⟩ := isF_inv h
  have hs := split_line h1
  rw [h3] at hs
  have hg := refG_words h1
  refine ⟨?_, right_kind h1⟩
  unfold okG
  rw [hs, hg, h1, h2, h3]
  simp
theorem letter_inj {i j : Int} (hi : 1 ≤ i ∧ i ≤ 7) (hj : 1 ≤ j ∧ j ≤ 7) (h : letterE i = letterE j) : i = j := by
  have a := let_letter hi
  have b := let_letter hj
  rw [h] at a
  omega
/-- up to a kind no guess of the document's is right -/
def NoG (k : UInt8) (b : ByteArray) (n : Int) : Prop := ∀ i : Int, 1 ≤ i → i < n → okG k b i = false
theorem NoG.start (k : UInt8) (b : ByteArray) : NoG k b 1 := fun i h1 h2 => by omega
theorem NoG.next {k : UInt8} {b : ByteArray} {n : Int} (h : NoG k b n) (h2 : okG k b n = false) : NoG k b (n + 1) := fun i h1 h3 => by
  by_cases e : i = n
  · rw [e]; exact h2
  · exact h i h1 (by omega)
theorem NoG.all {k : UInt8} {b : ByteArray} {n : Int} (h : NoG k b n) (hn : 8 ≤ n) : isF k b = false ∧ ofE k b = zeroE := by
  have : isF k b = false := by
    cases hf : isF k b with
    | false => rfl
    | true =>
      obtain ⟨h1, h2, h3⟩ := okG_of hf
      rw [h _ h2 (by omega)] at h1
      cases h1
  exact ⟨this, ofE_no this⟩
theorem okG_ofE {k : UInt8} {b : ByteArray} {i : Int} (h : okG k b i = true) : ofE k b = refG i ((splitOf (toL b)).map tx) ∧ isF k b = true := by
  obtain ⟨h1, h2⟩ := okG_yes h
  exact ⟨by rw [ofE_yes h1, h2], h1⟩
end Go.Proofs.YtollhemkjnkalaaGreatDoor
