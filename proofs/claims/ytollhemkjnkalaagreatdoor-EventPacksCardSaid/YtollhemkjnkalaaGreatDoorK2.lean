/- Layer 6: rows of events in memory; rows of events in a text. -/
import Derived.Test.YtollhemkjnkalaaGreatDoorK1
namespace Go.Proofs.YtollhemkjnkalaaGreatDoor
open Go.RowKit Go.Shelf Go.Lib
set_option linter.unusedVariables false
set_option maxRecDepth 100000

/-- the cells of a row of events -/
def evs (l : List EvM) : List Value := l.flatMap evc
theorem evc_len (e : EvM) : (evc e).length = 6 := rfl
theorem evs_nil : evs [] = [] := rfl
theorem evs_cons (e : EvM) (l : List EvM) : evs (e :: l) = evc e ++ evs l := by simp [evs]
theorem evs_len (l : List EvM) : (evs l).length = l.length * 6 := by
  induction l with
  | nil => rfl
  | cons e l ih => rw [evs_cons, List.length_append, evc_len, ih, List.length_cons]; omega
theorem evs_snoc (l : List EvM) (x : EvM) : evs (l ++ [x]) = evs l ++ [.int .i64 x.kind, .int .i64 x.at_, .string x.user, .string x.other, .int .i64 x.n, .int .i64 x.status] := by simp [evs, evc]
theorem evs_get (l : List EvM) : ∀ (k i : Nat) (h : k < l.length) (hi : i < 6), (evs l)[k * 6 + i]? = (evc l[k])[i]? := by
  induction l with
  | nil => intro k i h; exact absurd h (by simp)
  | cons x l ih =>
    intro k i h hi
    rw [evs_cons]
    cases k with
    | zero => rw [List.getElem?_append_left (by rw [evc_len]; omega)]; simp
    | succ k =>
      rw [List.getElem?_append_right (by rw [evc_len]; omega), evc_len, show (k + 1) * 6 + i - 6 = k * 6 + i by omega]
      exact ih k i (by simpa using h) hi
/-- the row that begins at a holds these events -/
def EvSl (w : World) (a : Option Addr) (l : List EvM) : Prop := ∀ k (h : k < l.length), ∃ b off, a = some ⟨b, off, none⟩ ∧ b < w.heap.size ∧ ∀ i, i < 6 → w.cell? ⟨b, off + k * 6 + i, none⟩ = (evc l[k])[i]?
theorem EvSl.nil (w : World) (a : Option Addr) : EvSl w a [] := fun k h => absurd h (by simp)
theorem EvSl.below {w w' : World} {a : Option Addr} {l : List EvM} (h : EvSl w a l) (hb : Below w.heap.size w w') : EvSl w' a l := fun k hk => by
  obtain ⟨b, off, e, hlt, h0⟩ := h k hk
  exact ⟨b, off, e, Nat.lt_of_lt_of_le hlt hb.size, fun i hi => (hb.cell (p := ⟨b, off + k * 6 + i, none⟩) hlt).trans (h0 i hi)⟩
theorem EvSl.drew {w : World} {a : Option Addr} {l : List EvM} (h : EvSl w a l) : EvSl w.drew a l := h.below (Below.refl _ _).drew
theorem EvSl.take {w : World} {a : Option Addr} {l : List EvM} (h : EvSl w a l) (n : Nat) : EvSl w a (l.take n) := fun k hk => by
  have hk' : k < l.length := by rw [List.length_take] at hk; omega
  obtain ⟨b, off, e, hlt, h0⟩ := h k hk'
  exact ⟨b, off, e, hlt, fun i hi => by rw [List.getElem_take]; exact h0 i hi⟩
theorem EvSl.at_ {w : World} {a : Option Addr} {l : List EvM} (h : EvSl w a l) {k : Nat} (hk : k < l.length) : ∃ b off, a = some ⟨b, off, none⟩ ∧ b < w.heap.size ∧
    w.cell? ⟨b, off + k * 6, none⟩ = some (.int .i64 l[k].kind) ∧ w.cell? ⟨b, off + k * 6 + 1, none⟩ = some (.int .i64 l[k].at_) ∧ w.cell? ⟨b, off + k * 6 + 2, none⟩ = some (.string l[k].user) ∧
    w.cell? ⟨b, off + k * 6 + 3, none⟩ = some (.string l[k].other) ∧ w.cell? ⟨b, off + k * 6 + 4, none⟩ = some (.int .i64 l[k].n) ∧ w.cell? ⟨b, off + k * 6 + 5, none⟩ = some (.int .i64 l[k].status) := by
  obtain ⟨b, off, e, hlt, h0⟩ := h k hk
  exact ⟨b, off, e, hlt, h0 0 (by decide), h0 1 (by decide), h0 2 (by decide), h0 3 (by decide), h0 4 (by decide), h0 5 (by decide)⟩
theorem own_ev {w : World} {B e : Nat} {v : Value} {l : List EvM} (h : w.ownsRow B e 6 v l.length (evs l)) : ∃ a c, v = .slice a l.length c ∧ l.length ≤ c ∧ EvSl w a l := by
  rcases h.2 with ⟨rfl, hn⟩ | ⟨g, cap, cur, rfl, hg, hh, hn, hc, hsz, ht⟩
  · have : l = [] := List.eq_nil_of_length_eq_zero hn
    subst this
    exact ⟨none, 0, rfl, Nat.le_refl _, EvSl.nil _ _⟩
  · refine ⟨_, cap, rfl, hn, fun k hk => ⟨g, 0, rfl, ?_, fun i hi => ?_⟩⟩
    · rcases Nat.lt_or_ge g w.heap.size with h1 | h1
      · exact h1
      · rw [Array.getElem?_eq_none h1] at hh; cases hh
    · have hg := evs_get l k i hk hi
      rw [← ht, List.getElem?_take, if_pos (by omega), Array.getElem?_toList] at hg
      rw [cell_of_row w g _ cur e (0, 0) hh, Nat.zero_add, hg]
theorem six_cells (e : EvM) : ∀ u ∈ [Value.int .i64 e.kind, .int .i64 e.at_, .string e.user, .string e.other, .int .i64 e.n, .int .i64 e.status], u.oneCell' = true := by
  intro u hu
  simp only [List.mem_cons, List.mem_nil_iff, or_false] at hu
  rcases hu with rfl | rfl | rfl | rfl | rfl | rfl <;> rfl
/-- what events a row may hold for the calls: texts and numbers that a machine has -/
def FitsE (l : List EvM) : Prop := ∀ e ∈ l, EFits e ∧ EInts e
theorem FitsE.at_ {l : List EvM} (h : FitsE l) {k : Nat} (hk : k < l.length) : EFits l[k] ∧ EInts l[k] := h _ (List.getElem_mem hk)

/-! ### the texts of events -/
def frP (e : EvM) : List UInt8 := packT (letterE e.kind) (lineE e)
def flatE (l : List EvM) : List UInt8 := l.flatMap frP
/-- what Pack gives -/
def packAll (l : List EvM) : List UInt8 := if l.all rightE then flatE l else []
theorem flatE_nil : flatE [] = [] := rfl
theorem flatE_cons (e : EvM) (l : List EvM) : flatE (e :: l) = frP e ++ flatE l := by simp [flatE]
theorem flatE_take (l : List EvM) (j : Nat) (h : j < l.length) : flatE (l.take (j + 1)) = flatE (l.take j) ++ frP l[j] := by
  unfold flatE
  rw [List.take_succ_eq_append_getElem h, List.flatMap_append]; simp
theorem letter_kind {k : Int} (h : 1 ≤ k ∧ k ≤ 7) : isKindB (letterE k) = true := by
  have hc : k = 1 ∨ k = 2 ∨ k = 3 ∨ k = 4 ∨ k = 5 ∨ k = 6 ∨ k = 7 := by omega
  rcases hc with rfl | rfl | rfl | rfl | rfl | rfl | rfl <;> decide
theorem word_body {l : List UInt8} (h : isWord l = true) : l.all inBodyB = true := by
  unfold isWord at h
  rw [Bool.and_eq_true, List.all_eq_true] at h
  rw [List.all_eq_true]
  exact fun c hc => isW_body c (h.2 c hc)
theorem join_body : ∀ (ls : List (List UInt8)), ls.all isWord = true → (Lib.join ls [32]).all inBodyB = true
  | [], _ => rfl
  | x :: r, h => by
    rw [List.all_cons, Bool.and_eq_true] at h
    rw [Lib.join_cons, List.all_append, word_body h.1, Bool.true_and]
    have key : ∀ r : List (List UInt8), r.all isWord = true → (Lib.joinTail [32] r).all inBodyB = true := by
      intro r
      induction r with
      | nil => intro _; rfl
      | cons y r ih =>
        intro h
        rw [List.all_cons, Bool.and_eq_true] at h
        rw [joinTail_cons, List.all_append, List.all_append, word_body h.1, ih h.2]
        rfl
    exact key r h.2
theorem dec_short {n : Int} (h : 0 ≤ n) (h2 : n ≤ 1099511627776) : (decOf n).length ≤ 13 := by
  unfold decOf
  rw [if_pos ⟨h, h2⟩]
  have key : ∀ (k u : Nat), u < 10 ^ (k + 1) → (decDigits u).length ≤ k + 1 := by
    intro k
    induction k with
    | zero => intro u hu; rw [decDigits_small (by simpa using hu)]; exact Nat.le_refl _
    | succ k ih =>
      intro u hu
      by_cases hs : u < 10
      · rw [decDigits_small hs]; simp
      · rw [decDigits_big hs, List.length_append]
        have := ih (u / 10) (by rw [Nat.pow_succ] at hu; omega)
        simp only [List.length_cons, List.length_nil]; omega
  exact key 12 n.toNat (by omega)
theorem joinTail_len (r : List (List UInt8)) (B : Nat) (h : ∀ x ∈ r, x.length ≤ B) : (Lib.joinTail [32] r).length ≤ r.length * (B + 1) := by
  induction r with
  | nil => simp [Lib.joinTail]
  | cons y r ih =>
    have h1 := h y (by simp)
    have h2 := ih (fun x hx => h x (List.mem_cons_of_mem _ hx))
    rw [joinTail_cons, List.length_append, List.length_append]
    simp only [List.length_cons, List.length_nil]
    rw [Nat.add_mul]; omega
theorem mem_opt {α : Type} {c : Prop} [Decidable c] {b x : α} (h : b ∈ (if c then [x] else [])) : b = x := by
  split at h
  · exact List.mem_singleton.1 h
  · cases h
theorem words_short {e : EvM} (h : rightE e = true) : ∀ x ∈ (wordsE e).map toL, x.length ≤ 13 := by
  obtain ⟨⟨a0, a1⟩, hf⟩ := right_form h
  have ha := dec_short a0 (by omega)
  have hn : 0 ≤ e.n ∧ e.n ≤ 1099511627776 := by rcases hf with ⟨hk, hu, ho, hn, hs⟩ | ⟨hk, hu, ho, hn, hs⟩ | ⟨hk, hu, ho, hn, hs⟩ | ⟨hk, hu, ho, hn, hs⟩ | ⟨hk, hu, ho, hn, hs⟩ <;> omega
  have hs : 0 ≤ e.status ∧ e.status ≤ 1099511627776 := by rcases hf with ⟨hk, hu, ho, hn, hs⟩ | ⟨hk, hu, ho, hn, hs⟩ | ⟨hk, hu, ho, hn, hs⟩ | ⟨hk, hu, ho, hn, hs⟩ | ⟨hk, hu, ho, hn, hs⟩ <;> omega
  have d1 := dec_short hn.1 hn.2
  have d2 := dec_short hs.1 hs.2
  have tu : e.user.size ≤ 13 := by
    rcases hf with ⟨_, hu, _⟩ | ⟨_, hu, _⟩ | ⟨_, hu, _⟩ | ⟨_, hu, _⟩ | ⟨_, hu, _⟩
    · exact Nat.le_trans (isN_len hu) (by decide)
    · exact Nat.le_trans (isN_len hu) (by decide)
    · exact Nat.le_trans (isN_len hu) (by decide)
    · exact Nat.le_trans (isN_len hu) (by decide)
    · rw [hu]; exact Nat.zero_le _
  have tov : e.other.size ≤ 13 := by
    rcases hf with ⟨_, _, hu, _⟩ | ⟨_, _, hu, _⟩ | ⟨_, _, hu, _⟩ | ⟨_, _, hu, _⟩ | ⟨_, _, hu, _⟩
    · rw [hu]; exact Nat.zero_le _
    · rw [hu]; exact Nat.zero_le _
    · rw [hu]; exact Nat.zero_le _
    · exact Nat.le_trans (isN_len hu) (by decide)
    · rw [hu]; exact Nat.zero_le _
  rw [← toL_length] at tu tov
  intro x hx
  rw [List.mem_map] at hx
  obtain ⟨b, hb, rfl⟩ := hx
  unfold wordsE wordsS at hb
  simp only [List.mem_append] at hb
  rcases hb with (((h | h) | h) | h) | h
  · rw [List.mem_singleton.1 h, toL_tx]; exact ha
  · rw [mem_opt h]; exact tu
  · rw [mem_opt h]; exact tov
  · rw [mem_opt h, toL_tx]; exact d1
  · rw [mem_opt h, toL_tx]; exact d2
theorem words_few (e : EvM) : ((wordsE e).map toL).length ≤ 5 := by
  unfold wordsE wordsS
  generalize shK e.kind = s
  obtain ⟨u, o, n0, n1, s0, s1⟩ := s
  by_cases q1 : 0 < n1 <;> by_cases q2 : 0 < s1 <;> cases u <;> cases o <;> simp [q1, q2]
theorem line_short {e : EvM} (h : rightE e = true) : (lineE e).length ≤ 100 := by
  rw [line_join h]
  have h1 := words_short h
  have h2 := words_few e
  generalize (wordsE e).map toL = ls at *
  cases ls with
  | nil => exact Nat.zero_le _
  | cons x r =>
    rw [Lib.join_cons, List.length_append]
    have a := h1 x (by simp)
    have b := joinTail_len r 13 (fun y hy => h1 y (List.mem_cons_of_mem _ hy))
    simp only [List.length_cons] at h2
    omega
theorem right_packs {e : EvM} (h : rightE e = true) : packE (letterE e.kind) (lineE e) = 0 := by
  refine packE_ok (letter_kind (right_kind h)) (by have := line_short h; omega) ?_
  rw [line_join h]
  exact join_body _ (words_are h).1
theorem frP_len {e : EvM} (h : rightE e = true) : (frP e).length ≤ 114 := by
  unfold frP
  rw [packT_len]
  have := line_short h
  omega
theorem flatE_len : ∀ (l : List EvM), l.all rightE = true → (flatE l).length ≤ 114 * l.length
  | [], _ => by simp [flatE_nil]
  | e :: l, h => by
    rw [List.all_cons, Bool.and_eq_true] at h
    rw [flatE_cons, List.length_append, List.length_cons]
    have a := frP_len h.1
    have b := flatE_len l h.2
    omega
theorem packAll_len (l : List EvM) : (packAll l).length ≤ 114 * l.length := by
  unfold packAll
  split
  · rename_i h; exact flatE_len l h
  · exact Nat.zero_le _
/-- the events with which a text begins, and how many bytes they have -/
inductive EvReads : List UInt8 → List EvM → Nat → Prop
  | err {s : List UInt8} {E : Nat} : nextL s = .err E → EvReads s [] 0
  | no {s : List UInt8} {k : UInt8} {b : List UInt8} : nextL s = .ok k b → isF k (tx b) = false → EvReads s [] 0
  | step {s : List UInt8} {k : UInt8} {b : List UInt8} {l : List EvM} {n : Nat} : nextL s = .ok k b → isF k (tx b) = true → EvReads (s.drop (14 + b.length)) l n → EvReads s (ofE k (tx b) :: l) (14 + b.length + n)
theorem EvReads.only {s : List UInt8} {l : List EvM} {n : Nat} (h : EvReads s l n) : ∀ {l' : List EvM} {n' : Nat}, EvReads s l' n' → l = l' ∧ n = n' := by
  induction h with
  | err h =>
    intro l' n' k
    cases k with
    | err _ => exact ⟨rfl, rfl⟩
    | no h2 _ => exact ⟨rfl, rfl⟩
    | step h2 _ _ => rw [h] at h2; cases h2
  | no h hf =>
    intro l' n' k
    cases k with
    | err _ => exact ⟨rfl, rfl⟩
    | no h2 _ => exact ⟨rfl, rfl⟩
    | step h2 hf2 _ => rw [h] at h2; cases h2; rw [hf] at hf2; cases hf2
  | step h hf _ ih =>
    intro l' n' k
    cases k with
    | err h2 => rw [h] at h2; cases h2
    | no h2 hf2 => rw [h] at h2; cases h2; rw [hf] at hf2; cases hf2
    | step h2 hf2 k2 =>
      rw [h] at h2; cases h2
      obtain ⟨rfl, rfl⟩ := ih k2
      exact ⟨rfl, rfl⟩
theorem next_frP {e : EvM} (h : rightE e = true) (r : List UInt8) : nextL (frP e ++ r) = .ok (letterE e.kind) (lineE e) := nextL_pack (right_packs h) r
theorem reads_flat {r : List UInt8} (hr : EvReads r [] 0) : ∀ (l : List EvM), l.all rightE = true → EvReads (flatE l ++ r) l (flatE l).length
  | [], _ => hr
  | e :: l, h => by
    rw [List.all_cons, Bool.and_eq_true] at h
    have ih := reads_flat hr l h.2
    have hn := next_frP h.1 (flatE l ++ r)
    have hd : (frP e ++ (flatE l ++ r)).drop (14 + (lineE e).length) = flatE l ++ r := by
      rw [← packT_len (letterE e.kind) (lineE e)]
      exact List.drop_left
    have hs := EvReads.step hn (is_frame h.1) (by rw [hd]; exact ih)
    rw [of_frame h.1] at hs
    rw [flatE_cons, List.append_assoc, List.length_append]
    have hl : (frP e).length = 14 + (lineE e).length := packT_len _ _
    rw [hl]
    exact hs
/-- what a loop has read so far -/
def EvGo (s : List UInt8) (l : List EvM) (a : Nat) : Prop := ∀ m n, EvReads (s.drop a) m n → EvReads s (l ++ m) (a + n)
theorem EvGo.start (s : List UInt8) : EvGo s [] 0 := fun m n h => by simpa using h
theorem EvGo.next {s : List UInt8} {l : List EvM} {a : Nat} {k : UInt8} {b : List UInt8} (h : EvGo s l a) (hn : nextL (s.drop a) = .ok k b) (hf : isF k (tx b) = true) : EvGo s (l ++ [ofE k (tx b)]) (a + (14 + b.length)) := fun m n hm => by
  rw [List.append_assoc, Nat.add_assoc]
  refine h _ _ (EvReads.step hn hf ?_)
  rw [List.drop_drop]
  exact hm
theorem EvGo.err {s : List UInt8} {l : List EvM} {a e : Nat} (h : EvGo s l a) (hn : nextL (s.drop a) = .err e) : EvReads s l a := by
  have := h [] 0 (.err hn)
  rwa [List.append_nil, Nat.add_zero] at this
theorem EvGo.no {s : List UInt8} {l : List EvM} {a : Nat} {k : UInt8} {b : List UInt8} (h : EvGo s l a) (hn : nextL (s.drop a) = .ok k b) (hf : isF k (tx b) = false) : EvReads s l a := by
  have := h [] 0 (.no hn hf)
  rwa [List.append_nil, Nat.add_zero] at this
end Go.Proofs.YtollhemkjnkalaaGreatDoor
