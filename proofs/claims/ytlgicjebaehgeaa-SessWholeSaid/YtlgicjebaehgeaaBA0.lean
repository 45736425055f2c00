/- Layer 10: plain mathematics of open sessions: which one has a number, one more, one less, what they stayed, which rise. -/
import Derived.Test.YtlgicjebaehgeaaZ0
import Derived.Test.YtlgicjebaehgeaaAA0
namespace Go.Proofs.Ytlgicjebaehgeaa
set_option linter.unusedVariables false

/-- an open session: its number, a user, a status, since when -/
structure OpM where
  n : Int
  u : ByteArray
  s : Int
  f : Int
def opZ : OpM := ⟨0, ⟨#[]⟩, 0, 0⟩
instance : Inhabited OpM := ⟨opZ⟩
theorem OpM.same {a b : OpM} (h1 : a.n = b.n) (h2 : a.u = b.u) (h3 : a.s = b.s) (h4 : a.f = b.f) : a = b := by
  obtain ⟨_, _, _, _⟩ := a
  obtain ⟨_, _, _, _⟩ := b
  simp only at h1 h2 h3 h4
  rw [h1, h2, h3, h4]
theorem OpM.iff {a b : OpM} : a = b ↔ a.n = b.n ∧ a.u = b.u ∧ a.s = b.s ∧ a.f = b.f := ⟨fun h => by rw [h]; exact ⟨rfl, rfl, rfl, rfl⟩, fun h => OpM.same h.1 h.2.1 h.2.2.1 h.2.2.2⟩
instance opDec : DecidableEq OpM := fun a b => decidable_of_iff (a.n = b.n ∧ a.u = b.u ∧ a.s = b.s ∧ a.f = b.f) OpM.iff.symm

/-! ### where the first one stands -/
structure IsFst {α : Type} (p : α → Bool) (l : List α) (k : Nat) : Prop where
  le : k ≤ l.length
  low : ∀ i (h : i < l.length), i < k → p l[i] = false
  hit : ∀ (h : k < l.length), p l[k] = true
theorem fst_idx {α : Type} (p : α → Bool) (l : List α) : IsFst p l (l.findIdx p) :=
  ⟨List.findIdx_le_length, fun i h h1 => by simpa using List.not_of_lt_findIdx h1, fun h => List.findIdx_getElem (w := h)⟩
theorem IsFst.only {α : Type} {p : α → Bool} {l : List α} {a b : Nat} (ha : IsFst p l a) (hb : IsFst p l b) : a = b := by
  have h1 := ha.le
  have h2 := hb.le
  rcases Nat.lt_trichotomy a b with h | h | h
  · have k1 := ha.hit (by omega)
    rw [hb.low a (by omega) h] at k1
    cases k1
  · exact h
  · have k1 := hb.hit (by omega)
    rw [ha.low b (by omega) h] at k1
    cases k1
theorem IsFst.idx {α : Type} {p : α → Bool} {l : List α} {k : Nat} (h : IsFst p l k) : l.findIdx p = k := (fst_idx p l).only h
theorem IsFst.any {α : Type} {p : α → Bool} {l : List α} {k : Nat} (h : IsFst p l k) : l.any p = decide (k < l.length) := by
  by_cases h1 : k < l.length
  · rw [decide_eq_true h1, List.any_eq_true]
    exact ⟨_, List.getElem_mem h1, h.hit h1⟩
  · rw [decide_eq_false h1, List.any_eq_false]
    intro x hx
    obtain ⟨i, hi, rfl⟩ := List.getElem_of_mem hx
    rw [h.low i hi (by omega)]
    exact Bool.false_ne_true
theorem IsFst.take {α : Type} {p : α → Bool} {l : List α} {k : Nat} (h : IsFst p l k) : ∀ x ∈ l.take k, p x = false := fun x hx => by
  obtain ⟨j, hj, hjk, rfl⟩ := mem_take_get hx
  exact h.low j hj hjk
/-- so far there was none -/
def LoTo {α : Type} (p : α → Bool) (l : List α) (j : Nat) : Prop := ∀ i (h : i < l.length), i < j → p l[i] = false
theorem LoTo.zero {α : Type} (p : α → Bool) (l : List α) : LoTo p l 0 := fun i _ h => absurd h (by omega)
theorem LoTo.next {α : Type} {p : α → Bool} {l : List α} {j : Nat} (h : LoTo p l j) (hj : j < l.length) (hp : p l[j] = false) : LoTo p l (j + 1) := fun i hi hij => by
  rcases Nat.lt_or_ge i j with h1 | h1
  · exact h i hi h1
  · obtain rfl : i = j := by omega
    exact hp
theorem LoTo.hit {α : Type} {p : α → Bool} {l : List α} {j : Nat} (h : LoTo p l j) (hj : j < l.length) (hp : p l[j] = true) : IsFst p l j := ⟨Nat.le_of_lt hj, h, fun _ => hp⟩
theorem LoTo.miss {α : Type} {p : α → Bool} {l : List α} (h : LoTo p l l.length) : IsFst p l l.length := ⟨Nat.le_refl _, h, fun h => absurd h (by omega)⟩
/-- where the first one stands, below 0: nowhere -/
def idxO {α : Type} (p : α → Bool) (l : List α) : Int := if l.findIdx p < l.length then (l.findIdx p : Nat) else -1
theorem idxO_hit {α : Type} {p : α → Bool} {l : List α} {k : Nat} (h : IsFst p l k) (hk : k < l.length) : idxO p l = k := by
  unfold idxO
  rw [h.idx, if_pos hk]
theorem idxO_miss {α : Type} {p : α → Bool} {l : List α} (h : IsFst p l l.length) : idxO p l = -1 := by
  unfold idxO
  rw [h.idx, if_neg (by omega)]
theorem idxO_any {α : Type} (p : α → Bool) (l : List α) : decide (0 ≤ idxO p l) = l.any p := by
  have h := fst_idx p l
  rw [h.any]
  by_cases h1 : l.findIdx p < l.length
  · rw [idxO_hit h h1, decide_eq_true h1]
    exact decide_eq_true (by omega)
  · rw [decide_eq_false h1]
    unfold idxO
    rw [if_neg h1]
    rfl

/-! ### open, find, change, close -/
/-- is it number n? -/
def hasN (n : Int) (e : OpM) : Bool := decide (e.n = n)
/-- is its number greater? -/
def abvN (n : Int) (e : OpM) : Bool := decide (n < e.n)
theorem hasN_iff {n : Int} {e : OpM} : hasN n e = true ↔ e.n = n := decide_eq_true_iff
theorem abvN_iff {n : Int} {e : OpM} : abvN n e = true ↔ n < e.n := decide_eq_true_iff
def openS (l : List OpM) (e : OpM) : List OpM := l.take (l.findIdx (abvN e.n)) ++ e :: l.drop (l.findIdx (abvN e.n))
def openC (l : List OpM) (e : OpM) : Int := if l.any (hasN e.n) = true then 100 else if 16 ≤ l.length then 103 else 0
/-- what is told of the row: nothing with an error -/
def openR (l : List OpM) (e : OpM) : List OpM := if openC l e = 0 then openS l e else []
theorem open_at {l : List OpM} {e : OpM} {k : Nat} (h : IsFst (abvN e.n) l k) : openS l e = l.take k ++ e :: l.drop k := by
  unfold openS
  rw [h.idx]
theorem open_len (l : List OpM) (e : OpM) : (openS l e).length = l.length + 1 := by
  have h := (fst_idx (abvN e.n) l).le
  unfold openS
  generalize l.findIdx _ = k at *
  simp only [List.length_append, List.length_take, List.length_cons, List.length_drop]
  omega
theorem openR_len (l : List OpM) (e : OpM) : (openR l e).length ≤ l.length + 1 := by
  unfold openR
  split
  · rw [open_len]; omega
  · simp
def findC (l : List OpM) (n : Int) (u : ByteArray) : Int := match l.find? (hasN n) with
  | none => 101
  | some e => if e.u = u then 0 else 102
def findE (l : List OpM) (n : Int) (u : ByteArray) : OpM := match l.find? (hasN n) with
  | none => opZ
  | some e => if e.u = u then e else opZ
/-- where it stands, 0 with an error -/
def findP (l : List OpM) (n : Int) (u : ByteArray) : Nat := if findC l n u = 0 then l.findIdx (hasN n) else 0
theorem find_hit {l : List OpM} {n : Int} {k : Nat} (h : IsFst (hasN n) l k) (hk : k < l.length) : l.find? (hasN n) = some l[k] := by
  rw [List.find?_eq_some_iff_getElem]
  exact ⟨h.hit hk, k, hk, rfl, fun j hj => by rw [h.low j (by omega) hj]; rfl⟩
theorem find_miss {l : List OpM} {n : Int} (h : IsFst (hasN n) l l.length) : l.find? (hasN n) = none := by
  rw [List.find?_eq_none]
  intro x hx
  obtain ⟨j, hj, rfl⟩ := List.getElem_of_mem hx
  rw [h.low j hj hj]
  exact Bool.false_ne_true
theorem fc_miss {l : List OpM} {n : Int} (h : IsFst (hasN n) l l.length) (u : ByteArray) : findC l n u = 101 ∧ findE l n u = opZ ∧ findP l n u = 0 := by
  have h1 : findC l n u = 101 := by unfold findC; rw [find_miss h]
  refine ⟨h1, by unfold findE; rw [find_miss h], ?_⟩
  unfold findP
  rw [h1, if_neg (by decide)]
theorem fc_user {l : List OpM} {n : Int} {k : Nat} (h : IsFst (hasN n) l k) (hk : k < l.length) {u : ByteArray} (hu : ¬ l[k].u = u) : findC l n u = 102 ∧ findE l n u = opZ ∧ findP l n u = 0 := by
  have h1 : findC l n u = 102 := by unfold findC; rw [find_hit h hk]; exact if_neg hu
  refine ⟨h1, by unfold findE; rw [find_hit h hk]; exact if_neg hu, ?_⟩
  unfold findP
  rw [h1, if_neg (by decide)]
theorem fc_hit {l : List OpM} {n : Int} {k : Nat} (h : IsFst (hasN n) l k) (hk : k < l.length) {u : ByteArray} (hu : l[k].u = u) : findC l n u = 0 ∧ findE l n u = l[k] ∧ findP l n u = k := by
  have h1 : findC l n u = 0 := by unfold findC; rw [find_hit h hk]; exact if_pos hu
  refine ⟨h1, by unfold findE; rw [find_hit h hk]; exact if_pos hu, ?_⟩
  unfold findP
  rw [h1, if_pos rfl, h.idx]
theorem fc_three (l : List OpM) (n : Int) (u : ByteArray) : (findC l n u = 0 ∧ ∃ k, ∃ h : k < l.length, IsFst (hasN n) l k ∧ l[k].n = n ∧ l[k].u = u ∧ findE l n u = l[k] ∧ findP l n u = k) ∨ ((findC l n u = 101 ∨ findC l n u = 102) ∧ findE l n u = opZ ∧ findP l n u = 0) := by
  have h := fst_idx (hasN n) l
  generalize l.findIdx (hasN n) = k at h
  by_cases hk : k < l.length
  · by_cases hu : l[k].u = u
    · obtain ⟨h1, h2, h3⟩ := fc_hit h hk hu
      exact .inl ⟨h1, k, hk, h, hasN_iff.1 (h.hit hk), hu, h2, h3⟩
    · obtain ⟨h1, h2, h3⟩ := fc_user h hk hu
      exact .inr ⟨.inr h1, h2, h3⟩
  · obtain rfl : k = l.length := by have := h.le; omega
    obtain ⟨h1, h2, h3⟩ := fc_miss h u
    exact .inr ⟨.inl h1, h2, h3⟩
/-- the one at k has another status, from another time on -/
def chgAt (l : List OpM) (k : Nat) (s f : Int) : List OpM := match l[k]? with
  | some e => l.take k ++ ⟨e.n, e.u, s, f⟩ :: l.drop (k + 1)
  | none => l
theorem chgAt_at {l : List OpM} {k : Nat} (h : k < l.length) (s f : Int) : chgAt l k s f = l.take k ++ ⟨l[k].n, l[k].u, s, f⟩ :: l.drop (k + 1) := by
  unfold chgAt
  rw [List.getElem?_eq_getElem h]
theorem chgAt_len (l : List OpM) (k : Nat) (s f : Int) : (chgAt l k s f).length = l.length := by
  by_cases h : k < l.length
  · rw [chgAt_at h]
    simp only [List.length_append, List.length_take, List.length_cons, List.length_drop]
    omega
  · unfold chgAt
    rw [List.getElem?_eq_none (by omega)]
def cutAt (l : List OpM) (k : Nat) : List OpM := l.take k ++ l.drop (k + 1)
theorem cutAt_len (l : List OpM) (k : Nat) : (cutAt l k).length ≤ l.length := by
  unfold cutAt
  simp only [List.length_append, List.length_take, List.length_drop]
  omega
def stayO (e : OpM) (w : Int) : StM := ⟨e.f, w, e.n, e.s⟩
def stZ : StM := ⟨0, 0, 0, 0⟩
/-- what a change tells: a row, a stay -/
def chgR (l : List OpM) (n : Int) (u : ByteArray) (s w : Int) : List OpM := if findC l n u = 0 then chgAt l (findP l n u) s w else []
def cloR (l : List OpM) (n : Int) (u : ByteArray) : List OpM := if findC l n u = 0 then cutAt l (findP l n u) else []
def fndS (l : List OpM) (n : Int) (u : ByteArray) (w : Int) : StM := if findC l n u = 0 then stayO (findE l n u) w else stZ
theorem chgR_len (l : List OpM) (n : Int) (u : ByteArray) (s w : Int) : (chgR l n u s w).length ≤ l.length := by
  unfold chgR
  split
  · rw [chgAt_len]; omega
  · simp
theorem cloR_len (l : List OpM) (n : Int) (u : ByteArray) : (cloR l n u).length ≤ l.length := by
  unfold cloR
  split
  · exact cutAt_len _ _
  · simp

/-! ### nothing of another one is changed -/
theorem find_mid {α : Type} {p : α → Bool} (a b : List α) {x y : α} (hx : p x = false) (hy : p y = false) : (a ++ x :: b).find? p = (a ++ y :: b).find? p := by
  rw [List.find?_append, List.find?_append, List.find?_cons_of_neg (by rw [hx]; exact Bool.false_ne_true), List.find?_cons_of_neg (by rw [hy]; exact Bool.false_ne_true)]
theorem find_less {α : Type} {p : α → Bool} (a b : List α) {x : α} (hx : p x = false) : (a ++ x :: b).find? p = (a ++ b).find? p := by
  rw [List.find?_append, List.find?_append, List.find?_cons_of_neg (by rw [hx]; exact Bool.false_ne_true)]
theorem other_open {l : List OpM} {e : OpM} {n : Int} (h : ¬ n = e.n) : (openS l e).find? (hasN n) = l.find? (hasN n) := by
  unfold openS
  have h1 : hasN n e = false := decide_eq_false fun h1 => h h1.symm
  rw [find_less (p := hasN n) _ _ h1, List.take_append_drop]
theorem other_chg {l : List OpM} {k : Nat} {n s f : Int} (hk : k < l.length) (h : ¬ l[k].n = n) : (chgAt l k s f).find? (hasN n) = l.find? (hasN n) := by
  rw [chgAt_at hk]
  have h1 := find_mid (p := hasN n) (l.take k) (l.drop (k + 1)) (x := ⟨l[k].n, l[k].u, s, f⟩) (y := l[k]) (decide_eq_false h) (decide_eq_false h)
  rw [h1, ← List.drop_eq_getElem_cons hk, List.take_append_drop]
theorem other_cut {l : List OpM} {k : Nat} {n : Int} (hk : k < l.length) (h : ¬ l[k].n = n) : (cutAt l k).find? (hasN n) = l.find? (hasN n) := by
  unfold cutAt
  have h1 := find_less (p := hasN n) (l.take k) (l.drop (k + 1)) (x := l[k]) (decide_eq_false h)
  rw [← h1, ← List.drop_eq_getElem_cons hk, List.take_append_drop]
theorem fc_same {l m : List OpM} {n : Int} (h : m.find? (hasN n) = l.find? (hasN n)) (u : ByteArray) : findC m n u = findC l n u ∧ findE m n u = findE l n u := by
  unfold findC findE
  rw [h]
  exact ⟨rfl, rfl⟩
theorem oth_open {l : List OpM} {e : OpM} {n : Int} (u : ByteArray) (h : ¬ n = e.n) (hc : openC l e = 0) : findC (openR l e) n u = findC l n u ∧ findE (openR l e) n u = findE l n u := by
  unfold openR
  rw [if_pos hc]
  exact fc_same (other_open h) u
theorem oth_chg {l : List OpM} {n m : Int} {v : ByteArray} {s w : Int} (u : ByteArray) (h : ¬ n = m) (hc : findC l m v = 0) : findC (chgR l m v s w) n u = findC l n u ∧ findE (chgR l m v s w) n u = findE l n u := by
  unfold chgR
  rw [if_pos hc]
  rcases fc_three l m v with ⟨_, k, hk, _, h1, _, _, h2⟩ | ⟨h1 | h1, _⟩
  · rw [h2]
    exact fc_same (other_chg hk fun h3 => h (h3.symm.trans h1)) u
  · rw [hc] at h1; exact absurd h1 (by decide)
  · rw [hc] at h1; exact absurd h1 (by decide)
theorem oth_clo {l : List OpM} {n m : Int} {v : ByteArray} (u : ByteArray) (h : ¬ n = m) (hc : findC l m v = 0) : findC (cloR l m v) n u = findC l n u ∧ findE (cloR l m v) n u = findE l n u := by
  unfold cloR
  rw [if_pos hc]
  rcases fc_three l m v with ⟨_, k, hk, _, h1, _, _, h2⟩ | ⟨h1 | h1, _⟩
  · rw [h2]
    exact fc_same (other_cut hk fun h3 => h (h3.symm.trans h1)) u
  · rw [hc] at h1; exact absurd h1 (by decide)
  · rw [hc] at h1; exact absurd h1 (by decide)

/-! ### which rise -/
def nameO (s : ByteArray) : Bool := isName s.data.toList
def OkO (e : OpM) : Prop := nameO e.u = true ∧ 1 ≤ e.n ∧ e.n ≤ 999 ∧ 1 ≤ e.s ∧ e.s ≤ 4 ∧ 0 ≤ e.f ∧ e.f ≤ 1099511627775
instance okODec (e : OpM) : Decidable (OkO e) := by unfold OkO; infer_instance
def RiseO (l : List OpM) : Prop := l.length ≤ 16 ∧ ∀ k (h : k < l.length), OkO l[k] ∧ (0 < k → (l[k - 1]'(by omega)).n < l[k].n)
instance riseODec (l : List OpM) : Decidable (RiseO l) := by unfold RiseO; infer_instance
theorem riseO_iff {l : List OpM} : RiseO l ↔ l.length ≤ 16 ∧ (∀ e ∈ l, OkO e) ∧ l.Pairwise (fun a b => a.n < b.n) := by
  constructor
  · rintro ⟨h0, h⟩
    refine ⟨h0, fun s hs => ?_, ?_⟩
    · obtain ⟨k, hk, rfl⟩ := List.getElem_of_mem hs
      exact (h k hk).1
    · rw [List.pairwise_iff_getElem]
      intro i j hi hj hij
      induction j with
      | zero => omega
      | succ j ih =>
        have h1 := (h (j + 1) hj).2 (by omega)
        rcases Nat.lt_or_ge i j with h2 | h2
        · exact Int.lt_trans (ih (by omega) h2) h1
        · obtain rfl : i = j := by omega
          exact h1
  · rintro ⟨h0, h1, h2⟩
    exact ⟨h0, fun k hk => ⟨h1 _ (List.getElem_mem hk), fun h0 => List.pairwise_iff_getElem.1 h2 (k - 1) k (by omega) hk (by omega)⟩⟩
theorem openC_ok {l : List OpM} {e : OpM} (h : openC l e = 0) : l.length < 16 ∧ ∀ x ∈ l, ¬ x.n = e.n := by
  unfold openC at h
  split at h
  · exact absurd h (by decide)
  · rename_i h1
    split at h
    · exact absurd h (by decide)
    · rename_i h2
      refine ⟨by omega, fun x hx hn => h1 ?_⟩
      rw [List.any_eq_true]
      exact ⟨x, hx, hasN_iff.2 hn⟩
theorem open_rise {l : List OpM} {e : OpM} (hc : openC l e = 0) (hl : RiseO l) (he : RiseO [e]) : RiseO (openR l e) := by
  unfold openR
  rw [if_pos hc]
  obtain ⟨hlen, hno⟩ := openC_ok hc
  obtain ⟨_, hok, hpw⟩ := riseO_iff.1 hl
  have hoe : OkO e := (riseO_iff.1 he).2.1 e (by simp)
  have hf := fst_idx (abvN e.n) l
  rw [riseO_iff, open_len]
  refine ⟨by omega, ?_, ?_⟩
  · unfold openS
    intro x hx
    rcases List.mem_append.1 hx with h | h
    · exact hok x (List.mem_of_mem_take h)
    · rcases List.mem_cons.1 h with rfl | h
      · exact hoe
      · exact hok x (List.mem_of_mem_drop h)
  · unfold openS
    generalize l.findIdx (abvN e.n) = k at *
    have hlow : ∀ x ∈ l.take k, x.n < e.n := fun x hx => by
      have h1 := hf.take x hx
      have h2 := hno x (List.mem_of_mem_take hx)
      have h3 : ¬ e.n < x.n := of_decide_eq_false h1
      omega
    have hup : ∀ y ∈ l.drop k, e.n < y.n := fun y hy => by
      obtain ⟨j, hj, hjk, rfl⟩ := mem_drop_get hy
      have h1 := abvN_iff.1 (hf.hit (by omega))
      rcases Nat.lt_or_ge k j with h2 | h2
      · exact Int.lt_trans h1 (List.pairwise_iff_getElem.1 hpw k j (by omega) hj h2)
      · obtain rfl : k = j := by omega
        exact h1
    rw [List.pairwise_append]
    refine ⟨hpw.sublist (List.take_sublist _ _), ?_, fun x hx y hy => ?_⟩
    · rw [List.pairwise_cons]
      exact ⟨fun y hy => hup y hy, hpw.sublist (List.drop_sublist _ _)⟩
    · rcases List.mem_cons.1 hy with rfl | hy
      · exact hlow x hx
      · exact Int.lt_trans (hlow x hx) (hup y hy)

/-! ### opened, changed, closed -/
/-- the row with the session that was opened, at its place -/
def midO (l : List OpM) (e : OpM) (s f : Int) : List OpM := l.take (l.findIdx (abvN e.n)) ++ ⟨e.n, e.u, s, f⟩ :: l.drop (l.findIdx (abvN e.n))
theorem mid_open (l : List OpM) (e : OpM) : openS l e = midO l e e.s e.f := rfl
theorem mid_find {l : List OpM} {e : OpM} (hno : ∀ x ∈ l, ¬ x.n = e.n) (s f : Int) : findC (midO l e s f) e.n e.u = 0 ∧ findE (midO l e s f) e.n e.u = ⟨e.n, e.u, s, f⟩ ∧ chgR (midO l e s f) e.n e.u = (fun s2 f2 => midO l e s2 f2) ∧ cloR (midO l e s f) e.n e.u = l := by
  have hk := (fst_idx (abvN e.n) l).le
  generalize hkk : l.findIdx (abvN e.n) = k at *
  have hm : ∀ s f, midO l e s f = l.take k ++ ⟨e.n, e.u, s, f⟩ :: l.drop k := fun s f => by unfold midO; rw [hkk]
  have hlt : (l.take k).length = k := by rw [List.length_take]; omega
  have hlen : k < (midO l e s f).length := by
    rw [hm, List.length_append, hlt, List.length_cons]; omega
  have hat : (midO l e s f)[k] = ⟨e.n, e.u, s, f⟩ := by
    simp only [hm]
    rw [List.getElem_append_right (by omega)]
    simp [hlt]
  have hfst : IsFst (hasN e.n) (midO l e s f) k := by
    refine ⟨Nat.le_of_lt hlen, fun i hi hik => ?_, fun h => ?_⟩
    · have h1 : (midO l e s f)[i] = l[i]'(by omega) := by
        simp only [hm]
        rw [List.getElem_append_left (by omega), List.getElem_take]
      rw [h1]
      exact decide_eq_false (hno _ (List.getElem_mem _))
    · rw [hat]; exact decide_eq_true rfl
  obtain ⟨h1, h2, h3⟩ := fc_hit hfst hlen (u := e.u) (by rw [hat])
  rw [hat] at h2
  have hdrop : (midO l e s f).drop (k + 1) = l.drop k := by
    rw [hm, List.drop_append, hlt]
    have : k + 1 - k = 1 := by omega
    rw [this, List.drop_of_length_le (by omega : (l.take k).length ≤ k + 1)]
    rfl
  have htake : (midO l e s f).take k = l.take k := by
    rw [hm, List.take_append, hlt, Nat.sub_self, List.take_zero, List.append_nil, List.take_of_length_le (by omega)]
  refine ⟨h1, h2, ?_, ?_⟩
  · funext s2 f2
    unfold chgR
    rw [if_pos h1, h3, chgAt_at hlen, hat, htake, hdrop, hm]
  · unfold cloR cutAt
    rw [if_pos h1, h3, htake, hdrop, List.take_append_drop]

/-! ### what they stayed, and without a user -/
def isU (u : ByteArray) (e : OpM) : Bool := decide (e.u = u)
def notU (u : ByteArray) (e : OpM) : Bool := decide (¬ e.u = u)
def stU (u : ByteArray) (w : Int) (e : OpM) : Bool := decide (e.u = u) && decide (e.f < w)
def rawO (l : List OpM) (u : ByteArray) (w : Int) : List StM := (l.filter (stU u w)).map fun e => stayO e w
def staysO (l : List OpM) (u : ByteArray) (w : Int) : List StM := l.foldl (fun r e => if e.u = u then addS r (stayO e w) else r) []
theorem rawO_next (l : List OpM) (u : ByteArray) (w : Int) (j : Nat) (h : j < l.length) : rawO (l.take (j + 1)) u w = if stU u w l[j] = true then rawO (l.take j) u w ++ [stayO l[j] w] else rawO (l.take j) u w := by
  unfold rawO
  rw [List.take_succ_eq_append_getElem h, List.filter_append, List.filter_cons, List.filter_nil, List.map_append]
  split
  · rfl
  · rw [List.map_nil, List.append_nil]
theorem rawO_len (l : List OpM) (u : ByteArray) (w : Int) : (rawO l u w).length ≤ l.length := by
  unfold rawO
  rw [List.length_map]
  exact List.length_filter_le _ _
theorem staysO_next (l : List OpM) (u : ByteArray) (w : Int) (j : Nat) (h : j < l.length) : staysO (l.take (j + 1)) u w = if l[j].u = u then addS (staysO (l.take j) u w) (stayO l[j] w) else staysO (l.take j) u w := by
  unfold staysO
  rw [List.take_succ_eq_append_getElem h, List.foldl_append]
  rfl
theorem stays_is (l : List OpM) (u : ByteArray) (w : Int) : ∀ j, j ≤ l.length → (staysO (l.take j) u w).Perm (rawO (l.take j) u w) ∧ SortedS (staysO (l.take j) u w)
  | 0, _ => by
    rw [List.take_zero]
    exact ⟨List.Perm.refl _, List.Pairwise.nil⟩
  | j + 1, h => by
    obtain ⟨h1, h2⟩ := stays_is l u w j (by omega)
    rw [staysO_next l u w j (by omega), rawO_next l u w j (by omega)]
    generalize staysO (l.take j) u w = a at *
    generalize rawO (l.take j) u w = b at *
    generalize l[j] = e at *
    by_cases hu : e.u = u
    · rw [if_pos hu]
      by_cases hw : e.f < w
      · have : stU u w e = true := by unfold stU; rw [decide_eq_true hu, decide_eq_true hw]; rfl
        rw [if_pos this]
        refine ⟨?_, addS_sorted h2⟩
        have h3 : addS a (stayO e w) = putS a (stayO e w) := if_neg (show ¬ w ≤ e.f by omega)
        rw [h3]
        refine (putS_perm _ _).trans ((h1.cons _).trans ?_)
        exact (List.perm_append_singleton _ _).symm
      · have : ¬ stU u w e = true := by unfold stU; rw [decide_eq_false hw, Bool.and_false]; exact Bool.false_ne_true
        rw [if_neg this]
        have h3 : addS a (stayO e w) = a := if_pos (show w ≤ e.f by omega)
        rw [h3]
        exact ⟨h1, h2⟩
    · have : ¬ stU u w e = true := by unfold stU; rw [decide_eq_false hu]; exact Bool.false_ne_true
      rw [if_neg hu, if_neg this]
      exact ⟨h1, h2⟩
theorem stays_only {l : List OpM} {u : ByteArray} {w : Int} {m : List StM} (hp : m.Perm (rawO l u w)) (hs : m.Pairwise fun a b => ¬ ltSt b a) : m = staysO l u w := by
  have h := stays_is l u w l.length (Nat.le_refl _)
  rw [List.take_of_length_le (Nat.le_refl _)] at h
  exact sorted_only hs h.2 (hp.trans h.1.symm)
theorem staysO_len (l : List OpM) (u : ByteArray) (w : Int) (j : Nat) : (staysO (l.take j) u w).length ≤ j := by
  rcases Nat.lt_or_ge l.length j with h | h
  · rw [List.take_of_length_le (Nat.le_of_lt h)]
    have h1 := (stays_is l u w l.length (Nat.le_refl _)).1.length_eq
    rw [List.take_of_length_le (Nat.le_refl _)] at h1
    have := rawO_len l u w
    omega
  · have h1 := (stays_is l u w j h).1.length_eq
    have h2 := rawO_len (l.take j) u w
    have h3 : (l.take j).length ≤ j := by simp; omega
    omega

/-! ### stays that follow one another -/
/-- the stays from a on up to b, one behind the other -/
structure Chn (a b : Int) (l : List StM) : Prop where
  le : a ≤ b
  top : ∀ s ∈ l, s.t ≤ b
  has : ∀ x, HasL (l.map StM.sp) x ↔ a ≤ x ∧ x < b
theorem Chn.nil (a : Int) : Chn a a [] := ⟨Int.le_refl _, fun s h => absurd h (by simp), fun x => ⟨fun h => absurd h HasL.nil, fun h => by omega⟩⟩
theorem Chn.snoc {a b c : Int} {l : List StM} (h : Chn a b l) {s : StM} (hf : s.f = b) (ht : s.t = c) (hc : b ≤ c) : Chn a c (l ++ [s]) := by
  refine ⟨Int.le_trans h.le hc, fun x hx => ?_, fun x => ?_⟩
  · rcases List.mem_append.1 hx with h1 | h1
    · have := h.top x h1; omega
    · obtain rfl := List.mem_singleton.1 h1
      omega
  · have h1 := h.has x
    have h2 := h.le
    unfold HasL at *
    rw [List.map_append]
    constructor
    · rintro ⟨y, hy, h3⟩
      rcases List.mem_append.1 hy with h4 | h4
      · have := h1.1 ⟨y, h4, h3⟩; omega
      · rw [List.map_cons, List.map_nil] at h4
        obtain rfl := List.mem_singleton.1 h4
        have e1 : s.sp.f = s.f := rfl
        have e2 : s.sp.t = s.t := rfl
        omega
    · intro h3
      by_cases h4 : x < b
      · obtain ⟨y, hy, h5⟩ := h1.2 ⟨h3.1, h4⟩
        exact ⟨y, List.mem_append_left _ hy, h5⟩
      · refine ⟨s.sp, List.mem_append_right _ (by simp), ?_⟩
        have e1 : s.sp.f = s.f := rfl
        have e2 : s.sp.t = s.t := rfl
        omega
end Go.Proofs.Ytlgicjebaehgeaa
