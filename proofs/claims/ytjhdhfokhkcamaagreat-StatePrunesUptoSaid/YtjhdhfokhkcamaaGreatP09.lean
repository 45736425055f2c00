/- Texts of mine, one behind the other, of each what is wanted: Z0 BA0 DA0 DA1 DA2 DA4 Z1 BA1 W17 AB2 AB17 Z19. -/
import Derived.Test.YtjhdhfokhkcamaaGreatProg
import Derived.WalkKit
import Derived.WalkLawsBesides
import Derived.Lib.Hide
import Derived.Lib.Bytealg
import Derived.Deep.QuietTactic
import Derived.BigQuiet
import Derived.Deep.Draws
import Derived.Below
import Derived.WalkSmall
import Derived.OwnWalk
import Derived.Maps.AppendAt
import Derived.Laws.AppendOwnNone
import Derived.Deep.SlicePairs
import Derived.Lib.SmallJoins
import Derived.Shelf.SlSortCmp.WholeK
import Derived.Shelf.SlSortCmp.NoneTotal
import Derived.Shelf.SlicesG.Cmp
import Derived.Test.YtjhdhfokhkcamaaGreatShelf
import Derived.ArgAppend
import Derived.Deep.RegionHeld3
import Derived.Shelf.Spec.SlicesGrow
import Derived.Test.YtjhdhfokhkcamaaGreatP01
import Derived.Test.YtjhdhfokhkcamaaGreatP02
import Derived.Test.YtjhdhfokhkcamaaGreatP03
import Derived.Test.YtjhdhfokhkcamaaGreatP04
import Derived.Test.YtjhdhfokhkcamaaGreatP06
import Derived.Test.YtjhdhfokhkcamaaGreatP07
import Derived.Test.YtjhdhfokhkcamaaGreatP08
namespace Go.Proofs.YtjhdhfokhkcamaaGreat
set_option linter.unusedVariables false
set_option maxRecDepth 100000
structure StM where
  f : Int
  t : Int
  n : Int
  s : Int
instance : Inhabited StM := ⟨⟨0, 0, 0, 0⟩⟩
theorem StM.same {a b : StM} (h1 : a.f = b.f) (h2 : a.t = b.t) (h3 : a.n = b.n) (h4 : a.s = b.s) : a = b := by
  obtain ⟨_, _, _, _⟩ := a
  obtain ⟨_, _, _, _⟩ := b
  simp only at h1 h2 h3 h4
  rw [h1, h2, h3, h4]
theorem StM.iff {a b : StM} : a = b ↔ a.f = b.f ∧ a.t = b.t ∧ a.n = b.n ∧ a.s = b.s := ⟨fun h => by rw [h]; exact ⟨rfl, rfl, rfl, rfl⟩, fun h => StM.same h.1 h.2.1 h.2.2.1 h.2.2.2⟩
instance stDec : DecidableEq StM := fun a b => decidable_of_iff (a.f = b.f ∧ a.t = b.t ∧ a.n = b.n ∧ a.s = b.s) StM.iff.symm
def ltSt (a b : StM) : Prop := a.f < b.f ∨ (a.f = b.f ∧ (a.t < b.t ∨ (a.t = b.t ∧ (a.n < b.n ∨ (a.n = b.n ∧ a.s < b.s)))))
instance ltStDec (a b : StM) : Decidable (ltSt a b) := by unfold ltSt; infer_instance
theorem ltSt_irrefl (a : StM) : ¬ ltSt a a := by unfold ltSt; omega
theorem ltSt_trans {a b c : StM} (h : ltSt a b) (k : ltSt b c) : ltSt a c := by unfold ltSt at *; omega
theorem ltSt_asymm {a b : StM} (h : ltSt a b) : ¬ ltSt b a := by unfold ltSt at *; omega
theorem ltSt_tri {a b : StM} (h : ¬ ltSt a b) (k : ¬ ltSt b a) : a = b := by
  unfold ltSt at *
  exact StM.same (by omega) (by omega) (by omega) (by omega)
theorem leSt_trans {a b c : StM} (h : ¬ ltSt b a) (k : ¬ ltSt c b) : ¬ ltSt c a := by unfold ltSt at *; omega
theorem ltSt_of_le {a b : StM} (h : ¬ ltSt b a) (k : a ≠ b) : ltSt a b := by
  by_cases h1 : ltSt a b
  · exact h1
  · exact absurd (ltSt_tri h1 h) k
def cmpSt (a b : StM) : Int := if ltSt a b then -1 else if ltSt b a then 1 else 0
def SortedS (l : List StM) : Prop := l.Pairwise (fun a b => ¬ ltSt b a)
theorem sorted_only {a b : List StM} (ha : SortedS a) (hb : SortedS b) (h : a.Perm b) : a = b :=
  h.eq_of_pairwise (fun x y _ _ h1 h2 => ltSt_tri h2 h1) ha hb
def RiseS (l : List StM) : Prop := ∀ k (h : k < l.length), l[k].f < l[k].t ∧ (0 < k → ltSt (l[k - 1]'(by omega)) l[k])
instance riseDec (l : List StM) : Decidable (RiseS l) := by unfold RiseS; infer_instance
theorem rise_iff {l : List StM} : RiseS l ↔ (∀ s ∈ l, s.f < s.t) ∧ l.Pairwise ltSt := by
  constructor
  · intro h
    refine ⟨fun s hs => ?_, ?_⟩
    · obtain ⟨k, hk, rfl⟩ := List.getElem_of_mem hs
      exact (h k hk).1
    · rw [List.pairwise_iff_getElem]
      intro i j hi hj hij
      induction j with
      | zero => omega
      | succ j ih =>
        have h1 := (h (j + 1) hj).2 (by omega)
        rcases Nat.lt_or_ge i j with h2 | h2
        · exact ltSt_trans (ih (by omega) h2) h1
        · obtain rfl : i = j := by omega
          exact h1
  · rintro ⟨h1, h2⟩ k hk
    exact ⟨h1 _ (List.getElem_mem hk), fun h0 => List.pairwise_iff_getElem.1 h2 (k - 1) k (by omega) hk (by omega)⟩
theorem rise_sorted {l : List StM} (h : RiseS l) : SortedS l := (rise_iff.1 h).2.imp ltSt_asymm
structure IsPos (l : List StM) (s : StM) (k : Nat) : Prop where
  le : k ≤ l.length
  up : ∀ j (h : j < l.length), k ≤ j → ltSt s l[j]
  low : ∀ (h : 0 < k) (h1 : k - 1 < l.length), ¬ ltSt s l[k - 1]
theorem IsPos.only {l : List StM} {s : StM} {a b : Nat} (ha : IsPos l s a) (hb : IsPos l s b) : a = b := by
  have h1 := ha.le
  have h2 := hb.le
  rcases Nat.lt_trichotomy a b with h | h | h
  · exact absurd (ha.up (b - 1) (by omega) (by omega)) (hb.low (by omega) (by omega))
  · exact h
  · exact absurd (hb.up (a - 1) (by omega) (by omega)) (ha.low (by omega) (by omega))
def posS : List StM → StM → Nat
  | [], _ => 0
  | x :: l, s => if posS l s = 0 then (if ltSt s x then 0 else 1) else posS l s + 1
theorem get_pred {l : List StM} {x : StM} {q : Nat} (h0 : ¬ q = 0) (hq : q ≤ l.length) (h1 : q + 1 - 1 < (x :: l).length) : (x :: l)[q + 1 - 1] = l[q - 1]'(by omega) := by
  obtain ⟨p, rfl⟩ : ∃ p, q = p + 1 := ⟨q - 1, by omega⟩
  rfl
theorem posS_is (s : StM) : ∀ l : List StM, IsPos l s (posS l s)
  | [] => ⟨Nat.le_refl _, fun j h => absurd h (by simp), fun h => absurd h (by simp [posS])⟩
  | x :: l => by
    have ih := posS_is s l
    unfold posS
    by_cases h0 : posS l s = 0
    · rw [if_pos h0]
      by_cases h1 : ltSt s x
      · rw [if_pos h1]
        refine ⟨Nat.zero_le _, fun j h _ => ?_, fun h => absurd h (by omega)⟩
        cases j with
        | zero => exact h1
        | succ j => exact ih.up j (by simpa using h) (by omega)
      · rw [if_neg h1]
        refine ⟨by simp, fun j h hj => ?_, fun _ _ => h1⟩
        cases j with
        | zero => omega
        | succ j => exact ih.up j (by simpa using h) (by omega)
    · rw [if_neg h0]
      refine ⟨by have := ih.le; simp; omega, fun j h hj => ?_, fun _ h1 => ?_⟩
      · cases j with
        | zero => omega
        | succ j => exact ih.up j (by simpa using h) (by omega)
      · have h3 := ih.le
        have h2 := ih.low (by omega) (by omega)
        rw [get_pred h0 h3]
        exact h2
theorem posS_eq {l : List StM} {s : StM} {k : Nat} (h : IsPos l s k) : k = posS l s := h.only (posS_is s l)
def putS (l : List StM) (s : StM) : List StM := l.take (posS l s) ++ s :: l.drop (posS l s)
def addS (l : List StM) (s : StM) : List StM := if s.t ≤ s.f then l else putS l s
theorem putS_at {l : List StM} {s : StM} {k : Nat} (h : IsPos l s k) : putS l s = l.take k ++ s :: l.drop k := by unfold putS; rw [← posS_eq h]
theorem putS_len (l : List StM) (s : StM) : (putS l s).length = l.length + 1 := by
  have := (posS_is s l).le
  simp [putS]; omega
theorem addS_len (l : List StM) (s : StM) : (addS l s).length ≤ l.length + 1 := by
  unfold addS
  split
  · omega
  · rw [putS_len]; omega
theorem putS_perm (l : List StM) (s : StM) : (putS l s).Perm (s :: l) := by
  have h : (l.take (posS l s) ++ s :: l.drop (posS l s)).Perm (s :: (l.take (posS l s) ++ l.drop (posS l s))) := List.perm_middle
  rw [List.take_append_drop] at h
  exact h
theorem mem_take_get {α : Type} {l : List α} {k : Nat} {x : α} (h : x ∈ l.take k) : ∃ j, ∃ hj : j < l.length, j < k ∧ l[j] = x := by
  obtain ⟨j, hj, e⟩ := List.getElem_of_mem h
  have h1 : j < k ∧ j < l.length := by simp at hj; omega
  exact ⟨j, h1.2, h1.1, by rw [← e, List.getElem_take]⟩
theorem mem_drop_get {α : Type} {l : List α} {k : Nat} {x : α} (h : x ∈ l.drop k) : ∃ j, ∃ hj : j < l.length, k ≤ j ∧ l[j] = x := by
  obtain ⟨j, hj, e⟩ := List.getElem_of_mem h
  have h1 : j < l.length - k := by simpa using hj
  exact ⟨k + j, by omega, by omega, by rw [← e, List.getElem_drop]⟩
theorem putS_sorted {l : List StM} {s : StM} (h : SortedS l) : SortedS (putS l s) := by
  have hp := posS_is s l
  unfold putS
  generalize posS l s = k at *
  have hle : ∀ x ∈ l.take k, ¬ ltSt s x := fun x hx => by
    obtain ⟨j, hj, hjk, rfl⟩ := mem_take_get hx
    have h1 := hp.le
    have h2 := hp.low (by omega) (by omega)
    rcases Nat.lt_or_ge j (k - 1) with h3 | h3
    · exact leSt_trans (List.pairwise_iff_getElem.1 h j (k - 1) hj (by omega) h3) h2
    · have : j = k - 1 := by omega
      subst this
      exact h2
  have hup : ∀ y ∈ l.drop k, ltSt s y := fun y hy => by
    obtain ⟨j, hj, hjk, rfl⟩ := mem_drop_get hy
    exact hp.up j hj hjk
  unfold SortedS
  rw [List.pairwise_append]
  refine ⟨h.sublist (List.take_sublist _ _), ?_, fun x hx y hy => ?_⟩
  · rw [List.pairwise_cons]
    exact ⟨fun y hy => ltSt_asymm (hup y hy), h.sublist (List.drop_sublist _ _)⟩
  · rcases List.mem_cons.1 hy with rfl | hy
    · exact hle x hx
    · exact leSt_trans (hle x hx) (ltSt_asymm (hup y hy))
theorem addS_sorted {l : List StM} {s : StM} (h : SortedS l) : SortedS (addS l s) := by
  unfold addS
  split
  · exact h
  · exact putS_sorted h
theorem addS_rise {l : List StM} {s : StM} (h : RiseS l) : RiseS (addS l s) ↔ s ∉ l := by
  obtain ⟨h1, h2⟩ := rise_iff.1 h
  unfold addS
  split
  · rename_i hs
    exact ⟨fun _ hm => by have := h1 s hm; omega, fun _ => h⟩
  · rename_i hs
    constructor
    · intro hr hm
      have h3 := (rise_iff.1 hr).2
      have hp : (putS l s).Nodup := h3.imp (fun {a b} h e => by subst e; exact ltSt_irrefl _ h)
      have := (putS_perm l s).nodup_iff.1 hp
      rw [List.nodup_cons] at this
      exact this.1 hm
    · intro hm
      have hsort := putS_sorted (s := s) (rise_sorted h)
      have hp := putS_perm l s
      have hnd : l.Nodup := h2.imp (fun {a b} h e => by subst e; exact ltSt_irrefl _ h)
      have hnd2 : (putS l s).Nodup := hp.nodup_iff.2 (List.nodup_cons.2 ⟨hm, hnd⟩)
      refine rise_iff.2 ⟨fun x hx => ?_, ?_⟩
      · rcases List.mem_cons.1 (hp.mem_iff.1 hx) with rfl | hx
        · omega
        · exact h1 x hx
      · exact List.Pairwise.imp (fun {a b} (hab : (¬ ltSt b a) ∧ a ≠ b) => ltSt_of_le hab.1 hab.2) (List.pairwise_and_iff.2 ⟨hsort, hnd2⟩)
def aftS (l : List StM) (t : Int) : List StM := l.filter fun s => decide (t < s.t)
end Go.Proofs.YtjhdhfokhkcamaaGreat
namespace Go.Proofs.YtjhdhfokhkcamaaGreat
set_option linter.unusedVariables false
set_option maxRecDepth 100000
structure OpM where
  n : Int
  u : ByteArray
  s : Int
  f : Int
def opZ : OpM := ⟨0, ⟨#[]⟩, 0, 0⟩
instance : Inhabited OpM := ⟨opZ⟩
theorem OpM.same {a b : OpM} (h1 : a.n = b.n) (h2 : a.u = b.u) (h3 : a.s = b.s) (h4 : a.f = b.f) : a = b := by
  obtain ⟨_, _, _, _⟩ := a
  obtain ⟨_, _, _, _⟩ := b
  simp only at h1 h2 h3 h4
  rw [h1, h2, h3, h4]
theorem OpM.iff {a b : OpM} : a = b ↔ a.n = b.n ∧ a.u = b.u ∧ a.s = b.s ∧ a.f = b.f := ⟨fun h => by rw [h]; exact ⟨rfl, rfl, rfl, rfl⟩, fun h => OpM.same h.1 h.2.1 h.2.2.1 h.2.2.2⟩
instance opDec : DecidableEq OpM := fun a b => decidable_of_iff (a.n = b.n ∧ a.u = b.u ∧ a.s = b.s ∧ a.f = b.f) OpM.iff.symm
structure IsFst {α : Type} (p : α → Bool) (l : List α) (k : Nat) : Prop where
  le : k ≤ l.length
  low : ∀ i (h : i < l.length), i < k → p l[i] = false
  hit : ∀ (h : k < l.length), p l[k] = true
theorem fst_idx {α : Type} (p : α → Bool) (l : List α) : IsFst p l (l.findIdx p) :=
  ⟨List.findIdx_le_length, fun i h h1 => by simpa using List.not_of_lt_findIdx h1, fun h => List.findIdx_getElem (w := h)⟩
theorem IsFst.only {α : Type} {p : α → Bool} {l : List α} {a b : Nat} (ha : IsFst p l a) (hb : IsFst p l b) : a = b := by
  have h1 := ha.le
  have h2 := hb.le
  rcases Nat.lt_trichotomy a b with h | h | h
  · have k1 := ha.hit (by omega)
    rw [hb.low a (by omega) h] at k1
    cases k1
  · exact h
  · have k1 := hb.hit (by omega)
    rw [ha.low b (by omega) h] at k1
    cases k1
theorem IsFst.idx {α : Type} {p : α → Bool} {l : List α} {k : Nat} (h : IsFst p l k) : l.findIdx p = k := (fst_idx p l).only h
theorem IsFst.any {α : Type} {p : α → Bool} {l : List α} {k : Nat} (h : IsFst p l k) : l.any p = decide (k < l.length) := by
  by_cases h1 : k < l.length
  · rw [decide_eq_true h1, List.any_eq_true]
    exact ⟨_, List.getElem_mem h1, h.hit h1⟩
  · rw [decide_eq_false h1, List.any_eq_false]
    intro x hx
    obtain ⟨i, hi, rfl⟩ := List.getElem_of_mem hx
    rw [h.low i hi (by omega)]
    exact Bool.false_ne_true
theorem IsFst.take {α : Type} {p : α → Bool} {l : List α} {k : Nat} (h : IsFst p l k) : ∀ x ∈ l.take k, p x = false := fun x hx => by
  obtain ⟨j, hj, hjk, rfl⟩ := mem_take_get hx
  exact h.low j hj hjk
def LoTo {α : Type} (p : α → Bool) (l : List α) (j : Nat) : Prop := ∀ i (h : i < l.length), i < j → p l[i] = false
theorem LoTo.zero {α : Type} (p : α → Bool) (l : List α) : LoTo p l 0 := fun i _ h => absurd h (by omega)
theorem LoTo.next {α : Type} {p : α → Bool} {l : List α} {j : Nat} (h : LoTo p l j) (hj : j < l.length) (hp : p l[j] = false) : LoTo p l (j + 1) := fun i hi hij => by
  rcases Nat.lt_or_ge i j with h1 | h1
  · exact h i hi h1
  · obtain rfl : i = j := by omega
    exact hp
theorem LoTo.hit {α : Type} {p : α → Bool} {l : List α} {j : Nat} (h : LoTo p l j) (hj : j < l.length) (hp : p l[j] = true) : IsFst p l j := ⟨Nat.le_of_lt hj, h, fun _ => hp⟩
theorem LoTo.miss {α : Type} {p : α → Bool} {l : List α} (h : LoTo p l l.length) : IsFst p l l.length := ⟨Nat.le_refl _, h, fun h => absurd h (by omega)⟩
def idxO {α : Type} (p : α → Bool) (l : List α) : Int := if l.findIdx p < l.length then (l.findIdx p : Nat) else -1
theorem idxO_hit {α : Type} {p : α → Bool} {l : List α} {k : Nat} (h : IsFst p l k) (hk : k < l.length) : idxO p l = k := by
  unfold idxO
  rw [h.idx, if_pos hk]
theorem idxO_miss {α : Type} {p : α → Bool} {l : List α} (h : IsFst p l l.length) : idxO p l = -1 := by
  unfold idxO
  rw [h.idx, if_neg (by omega)]
theorem idxO_any {α : Type} (p : α → Bool) (l : List α) : decide (0 ≤ idxO p l) = l.any p := by
  have h := fst_idx p l
  rw [h.any]
  by_cases h1 : l.findIdx p < l.length
  · rw [idxO_hit h h1, decide_eq_true h1]
    exact decide_eq_true (by omega)
  · rw [decide_eq_false h1]
    unfold idxO
    rw [if_neg h1]
    rfl
def hasN (n : Int) (e : OpM) : Bool := decide (e.n = n)
def abvN (n : Int) (e : OpM) : Bool := decide (n < e.n)
theorem hasN_iff {n : Int} {e : OpM} : hasN n e = true ↔ e.n = n := decide_eq_true_iff
theorem abvN_iff {n : Int} {e : OpM} : abvN n e = true ↔ n < e.n := decide_eq_true_iff
def openS (l : List OpM) (e : OpM) : List OpM := l.take (l.findIdx (abvN e.n)) ++ e :: l.drop (l.findIdx (abvN e.n))
def openC (l : List OpM) (e : OpM) : Int := if l.any (hasN e.n) = true then 100 else if 16 ≤ l.length then 103 else 0
def openR (l : List OpM) (e : OpM) : List OpM := if openC l e = 0 then openS l e else []
theorem open_at {l : List OpM} {e : OpM} {k : Nat} (h : IsFst (abvN e.n) l k) : openS l e = l.take k ++ e :: l.drop k := by
  unfold openS
  rw [h.idx]
theorem open_len (l : List OpM) (e : OpM) : (openS l e).length = l.length + 1 := by
  have h := (fst_idx (abvN e.n) l).le
  unfold openS
  generalize l.findIdx _ = k at *
  simp only [List.length_append, List.length_take, List.length_cons, List.length_drop]
  omega
theorem openR_len (l : List OpM) (e : OpM) : (openR l e).length ≤ l.length + 1 := by
  unfold openR
  split
  · rw [open_len]; omega
  · simp
def findC (l : List OpM) (n : Int) (u : ByteArray) : Int := match l.find? (hasN n) with
  | none => 101
  | some e => if e.u = u then 0 else 102
def findE (l : List OpM) (n : Int) (u : ByteArray) : OpM := match l.find? (hasN n) with
  | none => opZ
  | some e => if e.u = u then e else opZ
def findP (l : List OpM) (n : Int) (u : ByteArray) : Nat := if findC l n u = 0 then l.findIdx (hasN n) else 0
theorem find_hit {l : List OpM} {n : Int} {k : Nat} (h : IsFst (hasN n) l k) (hk : k < l.length) : l.find? (hasN n) = some l[k] := by
  rw [List.find?_eq_some_iff_getElem]
  exact ⟨h.hit hk, k, hk, rfl, fun j hj => by rw [h.low j (by omega) hj]; rfl⟩
theorem find_miss {l : List OpM} {n : Int} (h : IsFst (hasN n) l l.length) : l.find? (hasN n) = none := by
  rw [List.find?_eq_none]
  intro x hx
  obtain ⟨j, hj, rfl⟩ := List.getElem_of_mem hx
  rw [h.low j hj hj]
  exact Bool.false_ne_true
theorem fc_miss {l : List OpM} {n : Int} (h : IsFst (hasN n) l l.length) (u : ByteArray) : findC l n u = 101 ∧ findE l n u = opZ ∧ findP l n u = 0 := by
  have h1 : findC l n u = 101 := by unfold findC; rw [find_miss h]
  refine ⟨h1, by unfold findE; rw [find_miss h], ?_⟩
  unfold findP
  rw [h1, if_neg (by decide)]
theorem fc_user {l : List OpM} {n : Int} {k : Nat} (h : IsFst (hasN n) l k) (hk : k < l.length) {u : ByteArray} (hu : ¬ l[k].u = u) : findC l n u = 102 ∧ findE l n u = opZ ∧ findP l n u = 0 := by
  have h1 : findC l n u = 102 := by unfold findC; rw [find_hit h hk]; exact if_neg hu
  refine ⟨h1, by unfold findE; rw [find_hit h hk]; exact if_neg hu, ?_⟩
  unfold findP
  rw [h1, if_neg (by decide)]
theorem fc_hit {l : List OpM} {n : Int} {k : Nat} (h : IsFst (hasN n) l k) (hk : k < l.length) {u : ByteArray} (hu : l[k].u = u) : findC l n u = 0 ∧ findE l n u = l[k] ∧ findP l n u = k := by
  have h1 : findC l n u = 0 := by unfold findC; rw [find_hit h hk]; exact if_pos hu
  refine ⟨h1, by unfold findE; rw [find_hit h hk]; exact if_pos hu, ?_⟩
  unfold findP
  rw [h1, if_pos rfl, h.idx]
theorem fc_three (l : List OpM) (n : Int) (u : ByteArray) : (findC l n u = 0 ∧ ∃ k, ∃ h : k < l.length, IsFst (hasN n) l k ∧ l[k].n = n ∧ l[k].u = u ∧ findE l n u = l[k] ∧ findP l n u = k) ∨ ((findC l n u = 101 ∨ findC l n u = 102) ∧ findE l n u = opZ ∧ findP l n u = 0) := by
  have h := fst_idx (hasN n) l
  generalize l.findIdx (hasN n) = k at h
  by_cases hk : k < l.length
  · by_cases hu : l[k].u = u
    · obtain ⟨h1, h2, h3⟩ := fc_hit h hk hu
      exact .inl ⟨h1, k, hk, h, hasN_iff.1 (h.hit hk), hu, h2, h3⟩
    · obtain ⟨h1, h2, h3⟩ := fc_user h hk hu
      exact .inr ⟨.inr h1, h2, h3⟩
  · obtain rfl : k = l.length := by have := h.le; omega
    obtain ⟨h1, h2, h3⟩ := fc_miss h u
    exact .inr ⟨.inl h1, h2, h3⟩
def chgAt (l : List OpM) (k : Nat) (s f : Int) : List OpM := match l[k]? with
  | some e => l.take k ++ ⟨e.n, e.u, s, f⟩ :: l.drop (k + 1)
  | none => l
theorem chgAt_at {l : List OpM} {k : Nat} (h : k < l.length) (s f : Int) : chgAt l k s f = l.take k ++ ⟨l[k].n, l[k].u, s, f⟩ :: l.drop (k + 1) := by
  unfold chgAt
  rw [List.getElem?_eq_getElem h]
theorem chgAt_len (l : List OpM) (k : Nat) (s f : Int) : (chgAt l k s f).length = l.length := by
  by_cases h : k < l.length
  · rw [chgAt_at h]
    simp only [List.length_append, List.length_take, List.length_cons, List.length_drop]
    omega
  · unfold chgAt
    rw [List.getElem?_eq_none (by omega)]
def cutAt (l : List OpM) (k : Nat) : List OpM := l.take k ++ l.drop (k + 1)
theorem cutAt_len (l : List OpM) (k : Nat) : (cutAt l k).length ≤ l.length := by
  unfold cutAt
  simp only [List.length_append, List.length_take, List.length_drop]
  omega
def stayO (e : OpM) (w : Int) : StM := ⟨e.f, w, e.n, e.s⟩
def stZ : StM := ⟨0, 0, 0, 0⟩
def chgR (l : List OpM) (n : Int) (u : ByteArray) (s w : Int) : List OpM := if findC l n u = 0 then chgAt l (findP l n u) s w else []
def cloR (l : List OpM) (n : Int) (u : ByteArray) : List OpM := if findC l n u = 0 then cutAt l (findP l n u) else []
def fndS (l : List OpM) (n : Int) (u : ByteArray) (w : Int) : StM := if findC l n u = 0 then stayO (findE l n u) w else stZ
theorem chgR_len (l : List OpM) (n : Int) (u : ByteArray) (s w : Int) : (chgR l n u s w).length ≤ l.length := by
  unfold chgR
  split
  · rw [chgAt_len]; omega
  · simp
theorem cloR_len (l : List OpM) (n : Int) (u : ByteArray) : (cloR l n u).length ≤ l.length := by
  unfold cloR
  split
  · exact cutAt_len _ _
  · simp
def nameO (s : ByteArray) : Bool := isName s.data.toList
def OkO (e : OpM) : Prop := nameO e.u = true ∧ 1 ≤ e.n ∧ e.n ≤ 999 ∧ 1 ≤ e.s ∧ e.s ≤ 4 ∧ 0 ≤ e.f ∧ e.f ≤ 1099511627775
instance okODec (e : OpM) : Decidable (OkO e) := by unfold OkO; infer_instance
def RiseO (l : List OpM) : Prop := l.length ≤ 16 ∧ ∀ k (h : k < l.length), OkO l[k] ∧ (0 < k → (l[k - 1]'(by omega)).n < l[k].n)
instance riseODec (l : List OpM) : Decidable (RiseO l) := by unfold RiseO; infer_instance
theorem riseO_iff {l : List OpM} : RiseO l ↔ l.length ≤ 16 ∧ (∀ e ∈ l, OkO e) ∧ l.Pairwise (fun a b => a.n < b.n) := by
  constructor
  · rintro ⟨h0, h⟩
    refine ⟨h0, fun s hs => ?_, ?_⟩
    · obtain ⟨k, hk, rfl⟩ := List.getElem_of_mem hs
      exact (h k hk).1
    · rw [List.pairwise_iff_getElem]
      intro i j hi hj hij
      induction j with
      | zero => omega
      | succ j ih =>
        have h1 := (h (j + 1) hj).2 (by omega)
        rcases Nat.lt_or_ge i j with h2 | h2
        · exact Int.lt_trans (ih (by omega) h2) h1
        · obtain rfl : i = j := by omega
          exact h1
  · rintro ⟨h0, h1, h2⟩
    exact ⟨h0, fun k hk => ⟨h1 _ (List.getElem_mem hk), fun h0 => List.pairwise_iff_getElem.1 h2 (k - 1) k (by omega) hk (by omega)⟩⟩
theorem openC_ok {l : List OpM} {e : OpM} (h : openC l e = 0) : l.length < 16 ∧ ∀ x ∈ l, ¬ x.n = e.n := by
  unfold openC at h
  split at h
  · exact absurd h (by decide)
  · rename_i h1
    split at h
    · exact absurd h (by decide)
    · rename_i h2
      refine ⟨by omega, fun x hx hn => h1 ?_⟩
      rw [List.any_eq_true]
      exact ⟨x, hx, hasN_iff.2 hn⟩
theorem open_rise {l : List OpM} {e : OpM} (hc : openC l e = 0) (hl : RiseO l) (he : RiseO [e]) : RiseO (openR l e) := by
  unfold openR
  rw [if_pos hc]
  obtain ⟨hlen, hno⟩ := openC_ok hc
  obtain ⟨_, hok, hpw⟩ := riseO_iff.1 hl
  have hoe : OkO e := (riseO_iff.1 he).2.1 e (by simp)
  have hf := fst_idx (abvN e.n) l
  rw [riseO_iff, open_len]
  refine ⟨by omega, ?_, ?_⟩
  · unfold openS
    intro x hx
    rcases List.mem_append.1 hx with h | h
    · exact hok x (List.mem_of_mem_take h)
    · rcases List.mem_cons.1 h with rfl | h
      · exact hoe
      · exact hok x (List.mem_of_mem_drop h)
  · unfold openS
    generalize l.findIdx (abvN e.n) = k at *
    have hlow : ∀ x ∈ l.take k, x.n < e.n := fun x hx => by
      have h1 := hf.take x hx
      have h2 := hno x (List.mem_of_mem_take hx)
      have h3 : ¬ e.n < x.n := of_decide_eq_false h1
      omega
    have hup : ∀ y ∈ l.drop k, e.n < y.n := fun y hy => by
      obtain ⟨j, hj, hjk, rfl⟩ := mem_drop_get hy
      have h1 := abvN_iff.1 (hf.hit (by omega))
      rcases Nat.lt_or_ge k j with h2 | h2
      · exact Int.lt_trans h1 (List.pairwise_iff_getElem.1 hpw k j (by omega) hj h2)
      · obtain rfl : k = j := by omega
        exact h1
    rw [List.pairwise_append]
    refine ⟨hpw.sublist (List.take_sublist _ _), ?_, fun x hx y hy => ?_⟩
    · rw [List.pairwise_cons]
      exact ⟨fun y hy => hup y hy, hpw.sublist (List.drop_sublist _ _)⟩
    · rcases List.mem_cons.1 hy with rfl | hy
      · exact hlow x hx
      · exact Int.lt_trans (hlow x hx) (hup y hy)
def isU (u : ByteArray) (e : OpM) : Bool := decide (e.u = u)
def notU (u : ByteArray) (e : OpM) : Bool := decide (¬ e.u = u)
def stU (u : ByteArray) (w : Int) (e : OpM) : Bool := decide (e.u = u) && decide (e.f < w)
def rawO (l : List OpM) (u : ByteArray) (w : Int) : List StM := (l.filter (stU u w)).map fun e => stayO e w
def staysO (l : List OpM) (u : ByteArray) (w : Int) : List StM := l.foldl (fun r e => if e.u = u then addS r (stayO e w) else r) []
theorem rawO_next (l : List OpM) (u : ByteArray) (w : Int) (j : Nat) (h : j < l.length) : rawO (l.take (j + 1)) u w = if stU u w l[j] = true then rawO (l.take j) u w ++ [stayO l[j] w] else rawO (l.take j) u w := by
  unfold rawO
  rw [List.take_succ_eq_append_getElem h, List.filter_append, List.filter_cons, List.filter_nil, List.map_append]
  split
  · rfl
  · rw [List.map_nil, List.append_nil]
theorem rawO_len (l : List OpM) (u : ByteArray) (w : Int) : (rawO l u w).length ≤ l.length := by
  unfold rawO
  rw [List.length_map]
  exact List.length_filter_le _ _
theorem staysO_next (l : List OpM) (u : ByteArray) (w : Int) (j : Nat) (h : j < l.length) : staysO (l.take (j + 1)) u w = if l[j].u = u then addS (staysO (l.take j) u w) (stayO l[j] w) else staysO (l.take j) u w := by
  unfold staysO
  rw [List.take_succ_eq_append_getElem h, List.foldl_append]
  rfl
theorem stays_is (l : List OpM) (u : ByteArray) (w : Int) : ∀ j, j ≤ l.length → (staysO (l.take j) u w).Perm (rawO (l.take j) u w) ∧ SortedS (staysO (l.take j) u w)
  | 0, _ => by
    rw [List.take_zero]
    exact ⟨List.Perm.refl _, List.Pairwise.nil⟩
  | j + 1, h => by
    obtain ⟨h1, h2⟩ := stays_is l u w j (by omega)
    rw [staysO_next l u w j (by omega), rawO_next l u w j (by omega)]
    generalize staysO (l.take j) u w = a at *
    generalize rawO (l.take j) u w = b at *
    generalize l[j] = e at *
    by_cases hu : e.u = u
    · rw [if_pos hu]
      by_cases hw : e.f < w
      · have : stU u w e = true := by unfold stU; rw [decide_eq_true hu, decide_eq_true hw]; rfl
        rw [if_pos this]
        refine ⟨?_, addS_sorted h2⟩
        have h3 : addS a (stayO e w) = putS a (stayO e w) := if_neg (show ¬ w ≤ e.f by omega)
        rw [h3]
        refine (putS_perm _ _).trans ((h1.cons _).trans ?_)
        exact (List.perm_append_singleton _ _).symm
      · have : ¬ stU u w e = true := by unfold stU; rw [decide_eq_false hw, Bool.and_false]; exact Bool.false_ne_true
        rw [if_neg this]
        have h3 : addS a (stayO e w) = a := if_pos (show w ≤ e.f by omega)
        rw [h3]
        exact ⟨h1, h2⟩
    · have : ¬ stU u w e = true := by unfold stU; rw [decide_eq_false hu]; exact Bool.false_ne_true
      rw [if_neg hu, if_neg this]
      exact ⟨h1, h2⟩
theorem stays_only {l : List OpM} {u : ByteArray} {w : Int} {m : List StM} (hp : m.Perm (rawO l u w)) (hs : m.Pairwise fun a b => ¬ ltSt b a) : m = staysO l u w := by
  have h := stays_is l u w l.length (Nat.le_refl _)
  rw [List.take_of_length_le (Nat.le_refl _)] at h
  exact sorted_only hs h.2 (hp.trans h.1.symm)
theorem staysO_len (l : List OpM) (u : ByteArray) (w : Int) (j : Nat) : (staysO (l.take j) u w).length ≤ j := by
  rcases Nat.lt_or_ge l.length j with h | h
  · rw [List.take_of_length_le (Nat.le_of_lt h)]
    have h1 := (stays_is l u w l.length (Nat.le_refl _)).1.length_eq
    rw [List.take_of_length_le (Nat.le_refl _)] at h1
    have := rawO_len l u w
    omega
  · have h1 := (stays_is l u w j h).1.length_eq
    have h2 := rawO_len (l.take j) u w
    have h3 : (l.take j).length ≤ j := by simp; omega
    omega
end Go.Proofs.YtjhdhfokhkcamaaGreat
namespace Go.Proofs.YtjhdhfokhkcamaaGreat
set_option linter.unusedVariables false
set_option maxRecDepth 100000
theorem cmpS_irr (a : ByteArray) : ¬ cmpS a a < 0 := by rw [cmpS_self]; decide
theorem cmpS_asym {a b : ByteArray} (h : cmpS a b < 0) : ¬ cmpS b a < 0 := by rw [cmpS_neg]; omega
theorem cmpS_ne {a b : ByteArray} (h : cmpS a b < 0) : a ≠ b := fun e => by rw [e] at h; exact cmpS_irr _ h
theorem cmpS_tri (a b : ByteArray) : cmpS a b < 0 ∨ a = b ∨ cmpS b a < 0 := by
  rcases Int.lt_trichotomy (cmpS a b) 0 with h | h | h
  · exact .inl h
  · exact .inr (.inl (cmpS_eq.1 h))
  · exact .inr (.inr (by rw [cmpS_neg]; omega))
def RiseK {α : Type} (key : α → ByteArray) (l : List α) : Prop := l.Pairwise (fun a b => cmpS (key a) (key b) < 0)
theorem riseK_ext {α : Type} {key : α → ByteArray} : ∀ {l m : List α}, RiseK key l → RiseK key m → (∀ x, x ∈ l ↔ x ∈ m) → l = m
  | [], [], _, _, _ => rfl
  | [], b :: m, _, _, h => absurd ((h b).2 (List.mem_cons_self ..)) (by simp)
  | a :: l, [], _, _, h => absurd ((h a).1 (List.mem_cons_self ..)) (by simp)
  | a :: l, b :: m, hl, hm, h => by
    obtain ⟨hl1, hl2⟩ := List.pairwise_cons.1 hl
    obtain ⟨hm1, hm2⟩ := List.pairwise_cons.1 hm
    have hab : a = b := by
      rcases List.mem_cons.1 ((h a).1 (List.mem_cons_self ..)) with h1 | h1
      · exact h1
      · rcases List.mem_cons.1 ((h b).2 (List.mem_cons_self ..)) with h2 | h2
        · exact h2.symm
        · exact absurd (hl1 _ h2) (cmpS_asym (hm1 _ h1))
    subst hab
    have ht : l = m := riseK_ext hl2 hm2 fun x => by
      constructor
      · intro hx
        rcases List.mem_cons.1 ((h x).1 (List.mem_cons_of_mem _ hx)) with h1 | h1
        · subst h1; exact absurd (hl1 _ hx) (cmpS_irr _)
        · exact h1
      · intro hx
        rcases List.mem_cons.1 ((h x).2 (List.mem_cons_of_mem _ hx)) with h1 | h1
        · subst h1; exact absurd (hm1 _ hx) (cmpS_irr _)
        · exact h1
    rw [ht]
theorem riseK_one {α : Type} {key : α → ByteArray} {l : List α} (h : RiseK key l) {x y : α} (hx : x ∈ l) (hy : y ∈ l) (e : key x = key y) : x = y := by
  obtain ⟨i, hi, rfl⟩ := List.getElem_of_mem hx
  obtain ⟨j, hj, rfl⟩ := List.getElem_of_mem hy
  rcases Nat.lt_trichotomy i j with h1 | h1 | h1
  · exact absurd e (cmpS_ne (List.pairwise_iff_getElem.1 h i j hi hj h1))
  · subst h1; rfl
  · exact absurd e.symm (cmpS_ne (List.pairwise_iff_getElem.1 h j i hj hi h1))
theorem riseK_at {α : Type} {key : α → ByteArray} {l : List α} : RiseK key l ↔ ∀ k (h : k < l.length), 0 < k → cmpS (key (l[k - 1]'(by omega))) (key l[k]) < 0 := by
  constructor
  · intro h k hk h0
    exact List.pairwise_iff_getElem.1 h (k - 1) k (by omega) hk (by omega)
  · intro h
    unfold RiseK
    rw [List.pairwise_iff_getElem]
    intro i j hi hj hij
    induction j with
    | zero => omega
    | succ j ih =>
      have h1 := h (j + 1) hj (by omega)
      rcases Nat.lt_or_ge i j with h2 | h2
      · exact cmpS_trans (ih (by omega) h2) h1
      · obtain rfl : i = j := by omega
        exact h1
def isKy {α : Type} (key : α → ByteArray) (u : ByteArray) (x : α) : Bool := decide (key x = u)
def belK {α : Type} (key : α → ByteArray) (u : ByteArray) (x : α) : Bool := decide (cmpS (key x) u < 0)
def abvK {α : Type} (key : α → ByteArray) (u : ByteArray) (x : α) : Bool := decide (cmpS u (key x) < 0)
def insK {α : Type} (key : α → ByteArray) (u : ByteArray) (m l : List α) : List α := l.filter (belK key u) ++ (m ++ l.filter (abvK key u))
theorem belK_iff {α : Type} {key : α → ByteArray} {u : ByteArray} {x : α} : belK key u x = true ↔ cmpS (key x) u < 0 := decide_eq_true_iff
theorem abvK_iff {α : Type} {key : α → ByteArray} {u : ByteArray} {x : α} : abvK key u x = true ↔ cmpS u (key x) < 0 := decide_eq_true_iff
theorem isKy_iff {α : Type} {key : α → ByteArray} {u : ByteArray} {x : α} : isKy key u x = true ↔ key x = u := decide_eq_true_iff
theorem insK_mem {α : Type} {key : α → ByteArray} {u : ByteArray} {m l : List α} {x : α} : x ∈ insK key u m l ↔ x ∈ m ∨ (x ∈ l ∧ key x ≠ u) := by
  unfold insK
  rw [List.mem_append, List.mem_append, List.mem_filter, List.mem_filter, belK_iff, abvK_iff]
  constructor
  · rintro (⟨h1, h2⟩ | h1 | ⟨h1, h2⟩)
    · exact .inr ⟨h1, cmpS_ne h2⟩
    · exact .inl h1
    · exact .inr ⟨h1, fun e => cmpS_ne h2 e.symm⟩
  · rintro (h1 | ⟨h1, h2⟩)
    · exact .inr (.inl h1)
    · rcases cmpS_tri (key x) u with h3 | h3 | h3
      · exact .inl ⟨h1, h3⟩
      · exact absurd h3 h2
      · exact .inr (.inr ⟨h1, h3⟩)
theorem insK_rise {α : Type} {key : α → ByteArray} {u : ByteArray} {m l : List α} (h : RiseK key l) (hm : ∀ x ∈ m, key x = u) (h1 : m.length ≤ 1) : RiseK key (insK key u m l) := by
  unfold insK RiseK
  rw [List.pairwise_append, List.pairwise_append]
  refine ⟨List.Pairwise.filter _ h, ⟨?_, List.Pairwise.filter _ h, fun x hx y hy => ?_⟩, fun x hx y hy => ?_⟩
  · rcases m with _ | ⟨a, _ | ⟨b, m⟩⟩
    · exact .nil
    · exact List.pairwise_singleton _ _
    · simp at h1
  · rw [hm x hx]; exact abvK_iff.1 (List.mem_filter.1 hy).2
  · have hx1 := belK_iff.1 (List.mem_filter.1 hx).2
    rcases List.mem_append.1 hy with h2 | h2
    · rw [hm y h2]; exact hx1
    · exact cmpS_trans hx1 (abvK_iff.1 (List.mem_filter.1 h2).2)
theorem insK_len {α : Type} {key : α → ByteArray} {u : ByteArray} {m l : List α} : (insK key u m l).length ≤ l.length + m.length := by
  have h : ∀ l : List α, (l.filter (belK key u)).length + (l.filter (abvK key u)).length ≤ l.length := by
    intro l
    induction l with
    | nil => simp
    | cons a l ih =>
      rw [List.filter_cons, List.filter_cons]
      by_cases h1 : belK key u a = true
      · have h2 : ¬ abvK key u a = true := fun h2 => cmpS_asym (belK_iff.1 h1) (abvK_iff.1 h2)
        rw [if_pos h1, if_neg h2, List.length_cons, List.length_cons]; omega
      · rw [if_neg h1]
        split <;> (simp only [List.length_cons]; omega)
  have := h l
  unfold insK
  rw [List.length_append, List.length_append]
  omega
theorem find_key {α : Type} {key : α → ByteArray} {l : List α} (h : RiseK key l) {u : ByteArray} {x : α} : l.find? (isKy key u) = some x ↔ x ∈ l ∧ key x = u := by
  constructor
  · intro h1
    exact ⟨List.mem_of_find?_eq_some h1, isKy_iff.1 (List.find?_some h1)⟩
  · rintro ⟨h1, h2⟩
    cases hf : l.find? (isKy key u) with
    | none => exact absurd (isKy_iff.2 h2) (List.find?_eq_none.1 hf x h1)
    | some y =>
      have h3 := List.mem_of_find?_eq_some hf
      have h4 := isKy_iff.1 (List.find?_some hf)
      rw [riseK_one h h3 h1 (h4.trans h2.symm)]
theorem find_ins_other {α : Type} {key : α → ByteArray} {l m : List α} (h : RiseK key l) {u v : ByteArray} (hm : ∀ x ∈ m, key x = u) (h1 : m.length ≤ 1) (hv : v ≠ u) : (insK key u m l).find? (isKy key v) = l.find? (isKy key v) := by
  have hr := insK_rise h hm h1
  cases hf : l.find? (isKy key v) with
  | none =>
    rw [List.find?_eq_none] at hf ⊢
    intro x hx hk
    rcases insK_mem.1 hx with h2 | h2
    · exact hv ((isKy_iff.1 hk).symm.trans (hm x h2))
    · exact hf x h2.1 hk
  | some x =>
    obtain ⟨h2, h3⟩ := (find_key h).1 hf
    exact (find_key hr).2 ⟨insK_mem.2 (.inr ⟨h2, fun e => hv (h3.symm.trans e)⟩), h3⟩
theorem find_ins_self {α : Type} {key : α → ByteArray} {l : List α} (h : RiseK key l) {u : ByteArray} {x : α} (hx : key x = u) : (insK key u [x] l).find? (isKy key u) = some x :=
  (find_key (insK_rise h (fun y hy => by rw [List.mem_singleton.1 hy]; exact hx) (by simp))).2 ⟨insK_mem.2 (.inl (by simp)), hx⟩
theorem find_ins_none {α : Type} {key : α → ByteArray} {l : List α} {u : ByteArray} : (insK key u [] l).find? (isKy key u) = none := by
  rw [List.find?_eq_none]
  intro x hx hk
  rcases insK_mem.1 hx with h2 | h2
  · cases h2
  · exact h2.2 (isKy_iff.1 hk)
structure UsM where
  u : ByteArray
  l : List StM
structure TbM where
  u : ByteArray
  a : Int
structure SaM where
  now : Int
  hor : Int
  op : List OpM
  us : List UsM
  su : List EnM
  tb : List TbM
def saZ : SaM := ⟨0, 0, [], [], [], []⟩
instance : Inhabited UsM := ⟨⟨⟨#[]⟩, []⟩⟩
instance : Inhabited TbM := ⟨⟨⟨#[]⟩, 0⟩⟩
instance : Inhabited SaM := ⟨saZ⟩
def ofU (l : List UsM) (u : ByteArray) : List StM := match l.find? (isKy UsM.u u) with
  | none => []
  | some x => x.l
def rowU (u : ByteArray) (r : List StM) : List UsM := if r.isEmpty then [] else [⟨u, r⟩]
def putU (l : List UsM) (u : ByteArray) (r : List StM) : List UsM := insK UsM.u u (rowU u r) l
def addU (l : List UsM) (u : ByteArray) (x : StM) : List UsM := if x.f < x.t then putU l u (addS (ofU l u) x) else l
def tombU (l : List TbM) (u : ByteArray) (a : Int) : List TbM := insK TbM.u u [⟨u, a⟩] l
theorem rowU_u {u : ByteArray} {r : List StM} : ∀ x ∈ rowU u r, x.u = u := fun x hx => by
  unfold rowU at hx
  split at hx
  · cases hx
  · rw [List.mem_singleton.1 hx]
theorem rowU_len {u : ByteArray} {r : List StM} : (rowU u r).length ≤ 1 := by
  unfold rowU
  split <;> simp
theorem rowU_mem {u : ByteArray} {r : List StM} {x : UsM} : x ∈ rowU u r ↔ x = ⟨u, r⟩ ∧ r ≠ [] := by
  unfold rowU
  cases r with
  | nil => simp
  | cons a r => simp
theorem putU_rise {l : List UsM} {u : ByteArray} {r : List StM} (h : RiseK UsM.u l) : RiseK UsM.u (putU l u r) := insK_rise h rowU_u rowU_len
theorem putU_mem {l : List UsM} {u : ByteArray} {r : List StM} {x : UsM} : x ∈ putU l u r ↔ (x = ⟨u, r⟩ ∧ r ≠ []) ∨ (x ∈ l ∧ x.u ≠ u) := by
  unfold putU
  rw [insK_mem, rowU_mem]
theorem ofU_put {l : List UsM} {u : ByteArray} {r : List StM} (h : RiseK UsM.u l) : ofU (putU l u r) u = r := by
  unfold ofU putU rowU
  cases r with
  | nil =>
    have h1 := find_ins_none (key := UsM.u) (l := l) (u := u)
    have e : (if ([] : List StM).isEmpty = true then [] else [(⟨u, []⟩ : UsM)]) = [] := rfl
    rw [e, h1]
  | cons a r =>
    have e : (if (a :: r).isEmpty = true then [] else [(⟨u, a :: r⟩ : UsM)]) = [⟨u, a :: r⟩] := rfl
    have h1 := find_ins_self (key := UsM.u) h (x := ⟨u, a :: r⟩) rfl
    rw [e, h1]
theorem ofU_other {l : List UsM} {u v : ByteArray} {r : List StM} (h : RiseK UsM.u l) (hv : v ≠ u) : ofU (putU l u r) v = ofU l v := by
  unfold ofU putU
  rw [find_ins_other h rowU_u rowU_len hv]
theorem ofU_mem {l : List UsM} (h : RiseK UsM.u l) {x : UsM} (hx : x ∈ l) : ofU l x.u = x.l := by
  unfold ofU
  rw [(find_key h).2 ⟨hx, rfl⟩]
theorem ofU_nil {l : List UsM} {u : ByteArray} (h : ∀ x ∈ l, x.u ≠ u) : ofU l u = [] := by
  unfold ofU
  have : l.find? (isKy UsM.u u) = none := List.find?_eq_none.2 fun x hx hk => h x hx (isKy_iff.1 hk)
  rw [this]
theorem ofU_cases (l : List UsM) (u : ByteArray) : ofU l u = [] ∨ ⟨u, ofU l u⟩ ∈ l := by
  unfold ofU
  cases hf : l.find? (isKy UsM.u u) with
  | none => exact .inl rfl
  | some x =>
    have h1 := List.mem_of_find?_eq_some hf
    have h2 := isKy_iff.1 (List.find?_some hf)
    refine .inr ?_
    obtain ⟨xu, xl⟩ := x
    simp only at h2
    subst h2
    exact h1
theorem addU_rise {l : List UsM} {u : ByteArray} {x : StM} (h : RiseK UsM.u l) : RiseK UsM.u (addU l u x) := by
  unfold addU
  split
  · exact putU_rise h
  · exact h
theorem ofU_add {l : List UsM} {u : ByteArray} {x : StM} (h : RiseK UsM.u l) : ofU (addU l u x) u = addS (ofU l u) x := by
  unfold addU
  split
  · rw [ofU_put h]
  · rename_i h1
    unfold addS
    rw [if_pos (by omega)]
theorem ofU_add_other {l : List UsM} {u v : ByteArray} {x : StM} (h : RiseK UsM.u l) (hv : v ≠ u) : ofU (addU l u x) v = ofU l v := by
  unfold addU
  split
  · rw [ofU_other h hv]
  · rfl
theorem tombU_rise {l : List TbM} {u : ByteArray} {a : Int} (h : RiseK TbM.u l) : RiseK TbM.u (tombU l u a) :=
  insK_rise h (fun x hx => by rw [List.mem_singleton.1 hx]) (by simp)
theorem tombU_mem {l : List TbM} {u : ByteArray} {a : Int} {x : TbM} : x ∈ tombU l u a ↔ x = ⟨u, a⟩ ∨ (x ∈ l ∧ x.u ≠ u) := by
  unfold tombU
  rw [insK_mem, List.mem_singleton]
theorem users_ext {l m : List UsM} (hl : RiseK UsM.u l) (hm : RiseK UsM.u m) (h1 : ∀ x ∈ l, x.l ≠ []) (h2 : ∀ x ∈ m, x.l ≠ []) (h : ∀ u, ofU l u = ofU m u) : l = m := by
  refine riseK_ext hl hm fun x => ?_
  have key : ∀ {l m : List UsM}, RiseK UsM.u l → (∀ x ∈ l, x.l ≠ []) → (∀ u, ofU l u = ofU m u) → x ∈ l → x ∈ m := by
    intro l m hl h1 h hx
    have h3 := ofU_mem hl hx
    have h4 := h1 x hx
    rw [h x.u] at h3
    rcases ofU_cases m x.u with h5 | h5
    · exact absurd (h3.symm.trans h5) h4
    · rw [h3] at h5; exact h5
  exact ⟨key hl h1 h, key hm h2 fun u => (h u).symm⟩
end Go.Proofs.YtjhdhfokhkcamaaGreat
namespace Go.Proofs.YtjhdhfokhkcamaaGreat
set_option linter.unusedVariables false
set_option maxRecDepth 100000
def OkSt (now : Int) (op : List OpM) (x : StM) : Prop := 0 ≤ x.f ∧ x.t ≤ now ∧ 1 ≤ x.n ∧ x.n ≤ 999 ∧ 1 ≤ x.s ∧ x.s ≤ 4 ∧ ∀ o ∈ op, o.n = x.n → x.t ≤ o.f
def OkU (now : Int) (op : List OpM) (x : UsM) : Prop := nameB x.u = true ∧ x.l ≠ [] ∧ RiseS x.l ∧ ∀ s ∈ x.l, OkSt now op s
def OkT (now : Int) (x : TbM) : Prop := nameB x.u = true ∧ 0 ≤ x.a ∧ x.a ≤ now
structure RightS (s : SaM) : Prop where
  now : 0 ≤ s.now ∧ s.now < 1099511627776
  hor : 0 ≤ s.hor ∧ s.hor < 1099511627776
  op : RiseO s.op
  frm : ∀ e ∈ s.op, e.f ≤ s.now
  us : ∀ x ∈ s.us, OkU s.now s.op x
  ur : RiseK UsM.u s.us
  su : GoE s.su s.now
  tb : ∀ x ∈ s.tb, OkT s.now x
  tr : RiseK TbM.u s.tb
theorem RightS.zero : RightS saZ :=
  ⟨⟨Int.le_refl _, by decide⟩, ⟨Int.le_refl _, by decide⟩, ⟨by decide, fun k h => absurd h (by simp [saZ])⟩, fun e h => (by cases h), fun e h => (by cases h), .nil, .nil, fun e h => (by cases h), .nil⟩
theorem addS_mem {l : List StM} {x y : StM} : y ∈ addS l x ↔ (y = x ∧ x.f < x.t) ∨ y ∈ l := by
  unfold addS
  split
  · exact ⟨fun h => .inr h, fun h => h.elim (fun h => by omega) id⟩
  · rw [(putS_perm l x).mem_iff, List.mem_cons]
    exact ⟨fun h => h.imp (fun h => ⟨h, by omega⟩) id, fun h => h.imp And.left id⟩
theorem addS_some {l : List StM} {x : StM} (h : x.f < x.t) : addS l x ≠ [] := by
  unfold addS
  rw [if_neg (by omega)]
  intro h1
  have := putS_len l x
  rw [h1] at this
  simp at this
theorem riseS_nil : RiseS [] := fun k h => absurd h (by simp)
theorem ofU_okst {now : Int} {op : List OpM} {us : List UsM} {u : ByteArray} (h : ∀ x ∈ us, OkU now op x) : RiseS (ofU us u) ∧ ∀ y ∈ ofU us u, OkSt now op y := by
  rcases ofU_cases us u with h1 | h1
  · rw [h1]; exact ⟨riseS_nil, fun y hy => by cases hy⟩
  · have h2 := h _ h1
    exact ⟨h2.2.2.1, h2.2.2.2⟩
theorem addU_ok {now : Int} {op : List OpM} {us : List UsM} {u : ByteArray} {x : StM} (h : ∀ x ∈ us, OkU now op x) (hu : nameB u = true) (hx : x.f < x.t → OkSt now op x) (hn : x.f < x.t → x ∉ ofU us u) : ∀ y ∈ addU us u x, OkU now op y := by
  unfold addU
  split
  · rename_i h1
    intro y hy
    rcases putU_mem.1 hy with ⟨rfl, h2⟩ | ⟨h2, _⟩
    · obtain ⟨h3, h4⟩ := ofU_okst (u := u) h
      refine ⟨hu, h2, (addS_rise h3).2 (hn h1), fun z hz => ?_⟩
      rcases addS_mem.1 hz with ⟨rfl, _⟩ | h5
      · exact hx h1
      · exact h4 z h5
    · exact h y h2
  · exact h
theorem OkSt.mono {a b : Int} {op op' : List OpM} {x : StM} (h : OkSt a op x) (hab : a ≤ b) (ho : ∀ o ∈ op', o.n = x.n → x.t ≤ o.f) : OkSt b op' x := by
  obtain ⟨h1, h2, h3, h4, h5, h6, h7⟩ := h
  exact ⟨h1, by omega, h3, h4, h5, h6, ho⟩
theorem OkU.mono {a b : Int} {op op' : List OpM} {x : UsM} (h : OkU a op x) (hab : a ≤ b) (ho : ∀ y, OkSt a op y → ∀ o ∈ op', o.n = y.n → y.t ≤ o.f) : OkU b op' x :=
  ⟨h.1, h.2.1, h.2.2.1, fun s hs => (h.2.2.2 s hs).mono hab (ho s (h.2.2.2 s hs))⟩
theorem pw_mid {l : List OpM} (h : l.Pairwise fun a b => a.n < b.n) {k : Nat} (hk : k < l.length) : (∀ y ∈ l.take k, y.n < l[k].n) ∧ (∀ y ∈ l.drop (k + 1), l[k].n < y.n) := by
  rw [List.pairwise_iff_getElem] at h
  constructor
  · intro y hy
    obtain ⟨j, hj, hjk, rfl⟩ := mem_take_get hy
    exact h j k hj hk hjk
  · intro y hy
    obtain ⟨j, hj, hjk, rfl⟩ := mem_drop_get hy
    exact h k j hk hj (by omega)
theorem mem_chg {l : List OpM} (h : l.Pairwise fun a b => a.n < b.n) {k : Nat} (hk : k < l.length) {s f : Int} {y : OpM} (hy : y ∈ chgAt l k s f) : y = ⟨l[k].n, l[k].u, s, f⟩ ∨ (y ∈ l ∧ y.n ≠ l[k].n) := by
  obtain ⟨h1, h2⟩ := pw_mid h hk
  rw [chgAt_at hk] at hy
  rcases List.mem_append.1 hy with h3 | h3
  · have := h1 y h3
    exact .inr ⟨List.mem_of_mem_take h3, by omega⟩
  · rcases List.mem_cons.1 h3 with h3 | h3
    · exact .inl h3
    · have := h2 y h3
      exact .inr ⟨List.mem_of_mem_drop h3, by omega⟩
theorem mem_cut {l : List OpM} (h : l.Pairwise fun a b => a.n < b.n) {k : Nat} (hk : k < l.length) {y : OpM} (hy : y ∈ cutAt l k) : y ∈ l ∧ y.n ≠ l[k].n := by
  obtain ⟨h1, h2⟩ := pw_mid h hk
  unfold cutAt at hy
  rcases List.mem_append.1 hy with h3 | h3
  · have := h1 y h3
    exact ⟨List.mem_of_mem_take h3, by omega⟩
  · have := h2 y h3
    exact ⟨List.mem_of_mem_drop h3, by omega⟩
theorem chg_n {l : List OpM} {k : Nat} (hk : k < l.length) (s f : Int) : (chgAt l k s f).map OpM.n = l.map OpM.n := by
  have h : l = l.take k ++ l[k] :: l.drop (k + 1) := by rw [← List.drop_eq_getElem_cons hk, List.take_append_drop]
  rw [chgAt_at hk]
  conv => rhs; rw [h]
  rw [List.map_append, List.map_append, List.map_cons, List.map_cons]
theorem pw_n {l : List OpM} : (l.Pairwise fun a b => a.n < b.n) ↔ (l.map OpM.n).Pairwise (· < ·) := by
  rw [List.pairwise_map]
theorem chg_rise {l : List OpM} (h : RiseO l) {k : Nat} (hk : k < l.length) {s f : Int} (hs : 1 ≤ s ∧ s ≤ 4) (hf : 0 ≤ f ∧ f ≤ 1099511627775) : RiseO (chgAt l k s f) := by
  obtain ⟨h0, h1, h2⟩ := riseO_iff.1 h
  rw [riseO_iff, chgAt_len, pw_n, chg_n hk, ← pw_n]
  refine ⟨h0, fun e he => ?_, h2⟩
  rcases mem_chg h2 hk he with rfl | ⟨h3, _⟩
  · obtain ⟨k1, k2, k3, _⟩ := h1 _ (List.getElem_mem hk)
    exact ⟨k1, k2, k3, hs.1, hs.2, hf.1, hf.2⟩
  · exact h1 e h3
theorem cut_rise {l : List OpM} (h : RiseO l) {k : Nat} : RiseO (cutAt l k) := by
  obtain ⟨h0, h1, h2⟩ := riseO_iff.1 h
  have hsub : (cutAt l k).Sublist l := by
    unfold cutAt
    have h3 : (l.take k ++ l.drop (k + 1)).Sublist (l.take k ++ l.drop k) := by
      refine List.Sublist.append_left ?_ _
      rw [← List.drop_drop]
      exact List.drop_sublist _ _
    rwa [List.take_append_drop] at h3
  rw [riseO_iff]
  exact ⟨Nat.le_trans (cutAt_len l k) h0, fun e he => h1 e (hsub.subset he), h2.sublist hsub⟩
theorem rise_filterO {l : List OpM} (h : RiseO l) (p : OpM → Bool) : RiseO (l.filter p) := by
  obtain ⟨h0, h1, h2⟩ := riseO_iff.1 h
  rw [riseO_iff]
  exact ⟨Nat.le_trans (List.length_filter_le _ _) h0, fun e he => h1 e (List.mem_filter.1 he).1, h2.filter _⟩
def RightV (k a n st : Int) (u o : ByteArray) : Prop :=
  0 ≤ a ∧ a < 1099511627776 ∧ (((k = 1 ∨ k = 2) ∧ 1 ≤ n ∧ n ≤ 999 ∧ nameB u = true ∧ o = ⟨#[]⟩ ∧ 1 ≤ st ∧ st ≤ 4)
    ∨ (k = 3 ∧ 1 ≤ n ∧ n ≤ 999 ∧ nameB u = true ∧ o = ⟨#[]⟩ ∧ st = 0)
    ∨ ((k = 4 ∨ k = 5) ∧ nameB u = true ∧ nameB o = true ∧ n = 0 ∧ st = 0)
    ∨ (k = 6 ∧ u = ⟨#[]⟩ ∧ o = ⟨#[]⟩ ∧ st = 0 ∧ 0 ≤ n ∧ n < 1099511627776)
    ∨ (k = 7 ∧ nameB u = true ∧ o = ⟨#[]⟩ ∧ n = 0 ∧ st = 0))
instance rightVDec (k a n st : Int) (u o : ByteArray) : Decidable (RightV k a n st u o) := by unfold RightV; infer_instance
def errK (s : SaM) (k a n st : Int) (u o : ByteArray) : Int :=
  if k = 1 then openC s.op ⟨n, u, st, a⟩ else if k = 2 ∨ k = 3 then findC s.op n u
  else if k = 4 then (if s.su.any (infE u o) = true then 90 else 0) else if k = 5 then (if s.su.any (infE u o) = true then 0 else 91) else 0
def errS (s : SaM) (k a n st : Int) (u o : ByteArray) : Int := if RightV k a n st u o then (if a < s.now then 111 else errK s k a n st u o) else 110
def goS (s : SaM) (k a n st : Int) (u o : ByteArray) : SaM :=
  if k = 1 then { s with now := a, op := openR s.op ⟨n, u, st, a⟩ }
  else if k = 2 then { s with now := a, op := chgR s.op n u st a, us := addU s.us u (fndS s.op n u a) }
  else if k = 3 then { s with now := a, op := cloR s.op n u, us := addU s.us u (fndS s.op n u a) }
  else if k = 4 then { s with now := a, su := grantS s.su (mkE u o a) }
  else if k = 5 then { s with now := a, su := revokeS s.su u o a }
  else if k = 6 then { s with now := a, hor := max s.hor n }
  else { s with now := a, op := s.op.filter (notU u), su := withoutS s.su u, us := putU s.us u [], tb := tombU s.tb u a }
def tellS (s : SaM) (k a n st : Int) (u o : ByteArray) : SaM := if errS s k a n st u o = 0 then goS s k a n st u o else saZ
theorem errS_ok {s : SaM} {k a n st : Int} {u o : ByteArray} (h : errS s k a n st u o = 0) : RightV k a n st u o ∧ s.now ≤ a ∧ errK s k a n st u o = 0 := by
  unfold errS at h
  split at h
  · rename_i h1
    split at h
    · exact absurd h (by decide)
    · exact ⟨h1, by omega, h⟩
  · exact absurd h (by decide)
theorem GoE.mono {m : List EnM} {a b : Int} (h : GoE m a) (hab : a ≤ b) : GoE m b :=
  ⟨h.rise, fun e he => by obtain ⟨h1, h2, h3⟩ := h.bnd e he; exact ⟨h1, by omega, h3.imp id (by omega)⟩⟩
theorem GoE.filter {m : List EnM} {a : Int} (h : GoE m a) (p : EnM → Bool) : GoE (m.filter p) a :=
  ⟨rise_filter h.rise p, fun e he => h.bnd e (List.mem_filter.1 he).1⟩
theorem OkT.mono {a b : Int} {x : TbM} (h : OkT a x) (hab : a ≤ b) : OkT b x := by
  obtain ⟨h1, h2, h3⟩ := h
  exact ⟨h1, h2, by omega⟩
theorem right_open {s : SaM} (h : RightS s) {a n st : Int} {u : ByteArray} (hn : 1 ≤ n ∧ n ≤ 999) (hs : 1 ≤ st ∧ st ≤ 4) (ha : s.now ≤ a) (hb : a < 1099511627776) (hu : nameB u = true) (hc : openC s.op ⟨n, u, st, a⟩ = 0) :
    RightS { s with now := a, op := openR s.op ⟨n, u, st, a⟩ } := by
  have h0 := h.now
  have hnew : ∀ y ∈ openR s.op ⟨n, u, st, a⟩, y = ⟨n, u, st, a⟩ ∨ y ∈ s.op := fun y hy => by
    unfold openR at hy
    rw [if_pos hc] at hy
    unfold openS at hy
    rcases List.mem_append.1 hy with h1 | h1
    · exact .inr (List.mem_of_mem_take h1)
    · rcases List.mem_cons.1 h1 with h1 | h1
      · exact .inl h1
      · exact .inr (List.mem_of_mem_drop h1)
  refine ⟨⟨by simp only; omega, hb⟩, h.hor, open_rise hc h.op ?_, fun e he => ?_, fun x hx => (h.us x hx).mono ha fun y hy z hz hzn => ?_, h.ur, h.su.mono ha, fun x hx => (h.tb x hx).mono ha, h.tr⟩
  · rw [riseO_iff]
    refine ⟨by simp, fun e he => ?_, List.pairwise_singleton _ _⟩
    rw [List.mem_singleton.1 he]
    exact ⟨hu, hn.1, hn.2, hs.1, hs.2, by simp only; omega, by simp only; omega⟩
  · rcases hnew e he with rfl | h1
    · exact Int.le_refl _
    · exact Int.le_trans (h.frm e h1) ha
  · rcases hnew z hz with rfl | h1
    · exact Int.le_trans hy.2.1 ha
    · exact hy.2.2.2.2.2.2 z h1 hzn
theorem right_stay {s : SaM} (h : RightS s) {a st : Int} {k : Nat} (hk : k < s.op.length) (ha : s.now ≤ a) {op' : List OpM} (hop : ∀ y ∈ op', y.n = s.op[k].n → a ≤ y.f) (hb : a < 1099511627776)
    (hkeep : ∀ y ∈ op', y.n ≠ s.op[k].n → y ∈ s.op) (hu : nameB s.op[k].u = true) : ∀ y ∈ addU s.us s.op[k].u (stayO s.op[k] a), OkU a op' y := by
  obtain ⟨h1, h2, h3⟩ := riseO_iff.1 h.op
  obtain ⟨k1, k2, k3, k4, k5, k6, k7⟩ := h2 _ (List.getElem_mem hk)
  have hold : ∀ x ∈ s.us, OkU a op' x := fun x hx => (h.us x hx).mono ha fun y hy z hz hzn => by
    by_cases hzk : z.n = s.op[k].n
    · exact Int.le_trans (Int.le_trans hy.2.1 ha) (hop z hz hzk)
    · exact hy.2.2.2.2.2.2 z (hkeep z hz hzk) hzn
  refine addU_ok hold hu (fun hlt => ?_) (fun hlt hm => ?_)
  · exact ⟨k6, Int.le_refl _, k2, k3, k4, k5, fun o ho hon => hop o ho hon⟩
  · have h4 := (ofU_okst (u := s.op[k].u) h.us).2 _ hm
    have h5 := h4.2.2.2.2.2.2 _ (List.getElem_mem hk) rfl
    have h6 : s.op[k].f < a := hlt
    have h7 : a ≤ s.op[k].f := h5
    omega
theorem right_change {s : SaM} (h : RightS s) {a n st : Int} {u : ByteArray} (hs : 1 ≤ st ∧ st ≤ 4) (ha : s.now ≤ a) (hb : a < 1099511627776) (hc : findC s.op n u = 0) :
    RightS { s with now := a, op := chgR s.op n u st a, us := addU s.us u (fndS s.op n u a) } := by
  have h0 := h.now
  rcases fc_three s.op n u with ⟨_, k, hk, hf, h1, h2, h3, h4⟩ | ⟨h1 | h1, _⟩
  · obtain ⟨_, h6, h7⟩ := riseO_iff.1 h.op
    have hcr : chgR s.op n u st a = chgAt s.op k st a := by unfold chgR; rw [if_pos hc, h4]
    have hst : fndS s.op n u a = stayO s.op[k] a := by unfold fndS; rw [if_pos hc, h3]
    have hmem : ∀ y ∈ chgAt s.op k st a, y = ⟨s.op[k].n, s.op[k].u, st, a⟩ ∨ (y ∈ s.op ∧ y.n ≠ s.op[k].n) := fun y hy => mem_chg h7 hk hy
    rw [hcr, hst, ← h2]
    refine ⟨⟨by simp only; omega, hb⟩, h.hor, chg_rise h.op hk hs ⟨by omega, by omega⟩, fun e he => ?_, right_stay (st := st) h hk ha (fun y hy hyn => ?_) hb (fun y hy hyn => ?_) (h6 _ (List.getElem_mem hk)).1, addU_rise h.ur, h.su.mono ha, fun x hx => (h.tb x hx).mono ha, h.tr⟩
    · rcases hmem e he with rfl | ⟨h8, _⟩
      · exact Int.le_refl _
      · exact Int.le_trans (h.frm e h8) ha
    · rcases hmem y hy with rfl | ⟨_, h8⟩
      · exact Int.le_refl _
      · exact absurd hyn h8
    · rcases hmem y hy with rfl | ⟨h8, _⟩
      · exact absurd rfl hyn
      · exact h8
  · rw [hc] at h1; exact absurd h1 (by decide)
  · rw [hc] at h1; exact absurd h1 (by decide)
theorem right_close {s : SaM} (h : RightS s) {a n : Int} {u : ByteArray} (ha : s.now ≤ a) (hb : a < 1099511627776) (hc : findC s.op n u = 0) :
    RightS { s with now := a, op := cloR s.op n u, us := addU s.us u (fndS s.op n u a) } := by
  have h0 := h.now
  rcases fc_three s.op n u with ⟨_, k, hk, hf, h1, h2, h3, h4⟩ | ⟨h1 | h1, _⟩
  · obtain ⟨_, h6, h7⟩ := riseO_iff.1 h.op
    have hcr : cloR s.op n u = cutAt s.op k := by unfold cloR; rw [if_pos hc, h4]
    have hst : fndS s.op n u a = stayO s.op[k] a := by unfold fndS; rw [if_pos hc, h3]
    have hmem : ∀ y ∈ cutAt s.op k, y ∈ s.op ∧ y.n ≠ s.op[k].n := fun y hy => mem_cut h7 hk hy
    rw [hcr, hst, ← h2]
    exact ⟨⟨by simp only; omega, hb⟩, h.hor, cut_rise h.op, fun e he => Int.le_trans (h.frm e (hmem e he).1) ha, right_stay (st := 1) h hk ha (fun y hy hyn => absurd hyn (hmem y hy).2) hb (fun y hy hyn => (hmem y hy).1) (h6 _ (List.getElem_mem hk)).1, addU_rise h.ur, h.su.mono ha, fun x hx => (h.tb x hx).mono ha, h.tr⟩
  · rw [hc] at h1; exact absurd h1 (by decide)
  · rw [hc] at h1; exact absurd h1 (by decide)
theorem right_erase {s : SaM} (h : RightS s) {a : Int} {u : ByteArray} (ha : s.now ≤ a) (hb : a < 1099511627776) (hu : nameB u = true) :
    RightS { s with now := a, op := s.op.filter (notU u), su := withoutS s.su u, us := putU s.us u [], tb := tombU s.tb u a } := by
  have h0 := h.now
  refine ⟨⟨by simp only; omega, hb⟩, h.hor, rise_filterO h.op _, fun e he => Int.le_trans (h.frm e (List.mem_filter.1 he).1) ha, fun x hx => ?_, putU_rise h.ur, (h.su.mono ha).filter _, fun x hx => ?_, tombU_rise h.tr⟩
  · rcases putU_mem.1 hx with ⟨_, h1⟩ | ⟨h1, _⟩
    · exact absurd rfl h1
    · exact (h.us x h1).mono ha fun y hy z hz hzn => hy.2.2.2.2.2.2 z (List.mem_filter.1 hz).1 hzn
  · rcases tombU_mem.1 hx with rfl | ⟨h1, _⟩
    · exact ⟨hu, by simp only; omega, Int.le_refl _⟩
    · exact (h.tb x h1).mono ha
theorem right_go {s : SaM} (h : RightS s) {k a n st : Int} {u o : ByteArray} (he : errS s k a n st u o = 0) : RightS (goS s k a n st u o) := by
  obtain ⟨hv, ha, hk⟩ := errS_ok he
  have h0 := h.now
  obtain ⟨ha0, hb, hv⟩ := hv
  have hold : ∀ x ∈ s.us, OkU a s.op x := fun x hx => (h.us x hx).mono ha fun y hy z hz hzn => hy.2.2.2.2.2.2 z hz hzn
  unfold errK at hk
  unfold goS
  rcases hv with ⟨h1 | h1, h2, h3, h4, _, h5, h6⟩ | ⟨h1, h2, h3, h4, _, _⟩ | ⟨h1 | h1, h2, h3, _, _⟩ | ⟨h1, _, _, _, h2, h3⟩ | ⟨h1, h2, _, _, _⟩
  · subst h1
    exact right_open h ⟨h2, h3⟩ ⟨h5, h6⟩ ha hb h4 hk
  · subst h1
    exact right_change h ⟨h5, h6⟩ ha hb hk
  · subst h1
    exact right_close h ha hb hk
  · subst h1
    have hi : s.su.any (infE u o) = false := by
      rw [if_neg (by decide), if_neg (by decide), if_pos rfl] at hk
      split at hk
      · exact absurd hk (by decide)
      · rename_i h4; exact Bool.eq_false_iff.2 h4
    exact ⟨⟨ha0, hb⟩, h.hor, h.op, fun e he => Int.le_trans (h.frm e he) ha, hold, h.ur, (h.su.grant h0.1 ha hb h2 h3 hi).1, fun x hx => (h.tb x hx).mono ha, h.tr⟩
  · subst h1
    have hi : s.su.any (infE u o) = true := by
      rw [if_neg (by decide), if_neg (by decide), if_neg (by decide), if_pos rfl] at hk
      split at hk
      · rename_i h4; exact h4
      · exact absurd hk (by decide)
    exact ⟨⟨ha0, hb⟩, h.hor, h.op, fun e he => Int.le_trans (h.frm e he) ha, hold, h.ur, (h.su.revoke h0.1 ha hb hi).1, fun x hx => (h.tb x hx).mono ha, h.tr⟩
  · subst h1
    have h4 := h.hor
    exact ⟨⟨ha0, hb⟩, ⟨Int.le_trans h4.1 (Int.le_max_left _ _), Int.max_lt.2 ⟨h4.2, h3⟩⟩, h.op, fun e he => Int.le_trans (h.frm e he) ha, hold, h.ur, h.su.mono ha, fun x hx => (h.tb x hx).mono ha, h.tr⟩
  · subst h1
    exact right_erase h ha hb h2
end Go.Proofs.YtjhdhfokhkcamaaGreat
namespace Go.Proofs.YtjhdhfokhkcamaaGreat
set_option linter.unusedVariables false
set_option maxRecDepth 100000
def resetU (l : List OpM) (now : Int) (us : List UsM) : List UsM := l.foldl (fun r e => addU r e.u (stayO e now)) us
def resetS (s : SaM) : SaM := { s with op := [], us := resetU s.op s.now s.us }
theorem resetU_rise (now : Int) : ∀ (l : List OpM) {us : List UsM}, RiseK UsM.u us → RiseK UsM.u (resetU l now us)
  | [], _, h => h
  | e :: l, _, h => resetU_rise now l (addU_rise h)
theorem resetU_ok (now : Int) : ∀ (l : List OpM) {us : List UsM}, (∀ e ∈ l, OkO e ∧ e.f ≤ now) → l.Pairwise (fun a b => a.n < b.n) → (∀ x ∈ us, OkU now l x) → ∀ x ∈ resetU l now us, OkU now [] x
  | [], _, _, _, h => h
  | e :: l, us, ho, hp, h => by
    obtain ⟨hp1, hp2⟩ := List.pairwise_cons.1 hp
    obtain ⟨⟨k1, k2, k3, k4, k5, k6, k7⟩, k8⟩ := ho e (List.mem_cons_self ..)
    refine resetU_ok now l (fun x hx => ho x (List.mem_cons_of_mem _ hx)) hp2 (addU_ok ?_ k1 (fun hlt => ?_) fun hlt hm => ?_)
    · exact fun x hx => (h x hx).mono (Int.le_refl _) fun y hy o hop => hy.2.2.2.2.2.2 o (List.mem_cons_of_mem _ hop)
    · refine ⟨k6, Int.le_refl _, k2, k3, k4, k5, fun o hop hon => ?_⟩
      have h1 := hp1 o hop
      have h2 : o.n = e.n := hon
      omega
    · have h4 := (ofU_okst (u := e.u) h).2 _ hm
      have h5 : now ≤ e.f := h4.2.2.2.2.2.2 e (List.mem_cons_self ..) rfl
      have h6 : e.f < now := hlt
      omega
theorem right_reset {s : SaM} (h : RightS s) : RightS (resetS s) := by
  obtain ⟨h1, h2, h3⟩ := riseO_iff.1 h.op
  exact ⟨h.now, h.hor, ⟨Nat.zero_le _, fun k hk => absurd hk (Nat.not_lt_zero _)⟩, fun e he => (by cases he), resetU_ok s.now s.op (fun e he => ⟨h2 e he, h.frm e he⟩) h3 h.us, resetU_rise _ _ h.ur, h.su, h.tb, h.tr⟩
def pruneU (l : List UsM) (t : Int) : List UsM := (l.map fun x => (⟨x.u, aftS x.l t⟩ : UsM)).filter fun x => !x.l.isEmpty
def pruneS (s : SaM) : SaM := { s with us := pruneU s.us s.hor, su := aftE s.su s.hor }
theorem pruneU_mem {l : List UsM} {t : Int} {x : UsM} : x ∈ pruneU l t ↔ (∃ y ∈ l, x = ⟨y.u, aftS y.l t⟩) ∧ x.l ≠ [] := by
  unfold pruneU
  rw [List.mem_filter, List.mem_map]
  have h : (!x.l.isEmpty) = true ↔ x.l ≠ [] := by
    cases x.l <;> simp
  rw [h]
  exact ⟨fun h => ⟨h.1.elim fun y hy => ⟨y, hy.1, hy.2.symm⟩, h.2⟩, fun h => ⟨h.1.elim fun y hy => ⟨y, hy.1, hy.2.symm⟩, h.2⟩⟩
theorem pruneU_rise {l : List UsM} {t : Int} (h : RiseK UsM.u l) : RiseK UsM.u (pruneU l t) := by
  unfold pruneU RiseK
  refine List.Pairwise.filter _ ?_
  rw [List.pairwise_map]
  exact h
theorem aft_rise {l : List StM} {t : Int} (h : RiseS l) : RiseS (aftS l t) := by
  obtain ⟨h1, h2⟩ := rise_iff.1 h
  exact rise_iff.2 ⟨fun s hs => h1 s (List.mem_filter.1 hs).1, h2.filter _⟩
theorem pruneU_ok {now : Int} {op : List OpM} {us : List UsM} {t : Int} (h : ∀ x ∈ us, OkU now op x) : ∀ x ∈ pruneU us t, OkU now op x := fun x hx => by
  obtain ⟨⟨y, hy, rfl⟩, h1⟩ := pruneU_mem.1 hx
  have h2 := h y hy
  exact ⟨h2.1, h1, aft_rise h2.2.2.1, fun s hs => h2.2.2.2 s (List.mem_filter.1 hs).1⟩
theorem right_prune {s : SaM} (h : RightS s) : RightS (pruneS s) :=
  ⟨h.now, h.hor, h.op, h.frm, pruneU_ok h.us, pruneU_rise h.ur, h.su.filter _, h.tb, h.tr⟩
theorem aft_twice (l : List StM) {t t' : Int} (h : t ≤ t') : aftS (aftS l t) t' = aftS l t' := by
  unfold aftS
  rw [List.filter_filter]
  refine List.filter_congr fun s _ => ?_
  by_cases h1 : t' < s.t
  · have : t < s.t := by omega
    simp [h1, this]
  · simp [h1]
theorem ofU_prune {l : List UsM} {t : Int} (h : RiseK UsM.u l) (u : ByteArray) : ofU (pruneU l t) u = aftS (ofU l u) t := by
  by_cases hu : ∃ x ∈ l, x.u = u
  · obtain ⟨x, hx, rfl⟩ := hu
    rw [ofU_mem h hx]
    by_cases h1 : aftS x.l t = []
    · rw [h1]
      refine ofU_nil fun y hy hyu => ?_
      obtain ⟨⟨z, hz, rfl⟩, h2⟩ := pruneU_mem.1 hy
      have := riseK_one h hz hx hyu
      subst this
      exact h2 h1
    · exact ofU_mem (x := ⟨x.u, aftS x.l t⟩) (pruneU_rise h) (pruneU_mem.2 ⟨⟨x, hx, rfl⟩, h1⟩)
  · rw [ofU_nil (l := l) fun x hx e => hu ⟨x, hx, e⟩]
    refine (ofU_nil fun y hy hyu => ?_).trans (by rfl)
    obtain ⟨⟨z, hz, rfl⟩, _⟩ := pruneU_mem.1 hy
    exact hu ⟨z, hz, hyu⟩
structure Alike (t : Int) (a b : List UsM) : Prop where
  ra : RiseK UsM.u a
  rb : RiseK UsM.u b
  sa : ∀ u, SortedS (ofU a u)
  sb : ∀ u, SortedS (ofU b u)
  at_ : ∀ u, aftS (ofU a u) t = aftS (ofU b u) t
theorem addS_perm (l : List StM) (x : StM) : (addS l x).Perm (if x.f < x.t then x :: l else l) := by
  unfold addS
  by_cases h : x.f < x.t
  · rw [if_neg (by omega), if_pos h]; exact putS_perm l x
  · rw [if_pos (by omega), if_neg h]
theorem aft_sorted {l : List StM} {t : Int} (h : SortedS l) : SortedS (aftS l t) := List.Pairwise.filter _ h
theorem aft_add {a b : List StM} {t : Int} (ha : SortedS a) (hb : SortedS b) (h : aftS a t = aftS b t) (x : StM) : aftS (addS a x) t = aftS (addS b x) t := by
  refine sorted_only (aft_sorted (addS_sorted ha)) (aft_sorted (addS_sorted hb)) ?_
  refine ((addS_perm a x).filter _).trans (List.Perm.trans ?_ ((addS_perm b x).filter _).symm)
  unfold aftS at h
  split
  · rw [List.filter_cons, List.filter_cons, h]
  · rw [h]
theorem Alike.add {t : Int} {a b : List UsM} (h : Alike t a b) (u : ByteArray) (x : StM) : Alike t (addU a u x) (addU b u x) := by
  refine ⟨addU_rise h.ra, addU_rise h.rb, fun v => ?_, fun v => ?_, fun v => ?_⟩
  · by_cases hv : v = u
    · subst hv; rw [ofU_add h.ra]; exact addS_sorted (h.sa v)
    · rw [ofU_add_other h.ra hv]; exact h.sa v
  · by_cases hv : v = u
    · subst hv; rw [ofU_add h.rb]; exact addS_sorted (h.sb v)
    · rw [ofU_add_other h.rb hv]; exact h.sb v
  · by_cases hv : v = u
    · subst hv; rw [ofU_add h.ra, ofU_add h.rb]; exact aft_add (h.sa v) (h.sb v) (h.at_ v) x
    · rw [ofU_add_other h.ra hv, ofU_add_other h.rb hv]; exact h.at_ v
theorem Alike.reset {t now : Int} : ∀ (l : List OpM) {a b : List UsM}, Alike t a b → Alike t (resetU l now a) (resetU l now b)
  | [], _, _, h => h
  | e :: l, _, _, h => Alike.reset l (h.add e.u (stayO e now))
theorem Alike.gone {t : Int} {a b : List UsM} (h : Alike t a b) (u : ByteArray) : Alike t (putU a u []) (putU b u []) := by
  refine ⟨putU_rise h.ra, putU_rise h.rb, fun v => ?_, fun v => ?_, fun v => ?_⟩
  · by_cases hv : v = u
    · subst hv; rw [ofU_put h.ra]; exact .nil
    · rw [ofU_other h.ra hv]; exact h.sa v
  · by_cases hv : v = u
    · subst hv; rw [ofU_put h.rb]; exact .nil
    · rw [ofU_other h.rb hv]; exact h.sb v
  · by_cases hv : v = u
    · subst hv; rw [ofU_put h.ra, ofU_put h.rb]
    · rw [ofU_other h.ra hv, ofU_other h.rb hv]; exact h.at_ v
theorem Alike.up {t t' : Int} {a b : List UsM} (h : Alike t a b) (ht : t ≤ t') : Alike t' a b :=
  ⟨h.ra, h.rb, h.sa, h.sb, fun u => by rw [← aft_twice (ofU a u) ht, h.at_ u, aft_twice _ ht]⟩
theorem Alike.prune {t : Int} {a b : List UsM} (h : Alike t a b) : pruneU a t = pruneU b t := by
  refine users_ext (pruneU_rise h.ra) (pruneU_rise h.rb) (fun x hx => (pruneU_mem.1 hx).2) (fun x hx => (pruneU_mem.1 hx).2) fun u => ?_
  rw [ofU_prune h.ra, ofU_prune h.rb, h.at_ u]
theorem Alike.start {now t : Int} {op : List OpM} {us : List UsM} (h : ∀ x ∈ us, OkU now op x) (hr : RiseK UsM.u us) : Alike t us (pruneU us t) := by
  have hs : ∀ u, SortedS (ofU us u) := fun u => rise_sorted (ofU_okst h).1
  refine ⟨hr, pruneU_rise hr, hs, fun u => ?_, fun u => ?_⟩
  · rw [ofU_prune hr]; exact aft_sorted (hs u)
  · rw [ofU_prune hr, aft_twice _ (Int.le_refl _)]
theorem prune_reset {s : SaM} (h : RightS s) : pruneS (resetS s) = pruneS (resetS (pruneS s)) := by
  have h1 := (Alike.reset (now := s.now) s.op (Alike.start (t := s.hor) h.us h.ur)).prune
  unfold pruneS resetS
  simp only [h1]
  congr 1
  unfold aftE
  rw [List.filter_filter]
  simp
theorem bel_anti {a b : EnM} (ha : a.f < a.t) (hb : b.f < b.t) (h1 : BelE a b) (h2 : BelE b a) : a = b := by
  exfalso
  unfold BelE at h1 h2
  rw [pc_neg a b] at h2
  omega
theorem riseE_only {a b : List EnM} (ha : RiseE a) (hb : RiseE b) (h : a.Perm b) : a = b := by
  obtain ⟨ha1, ha2⟩ := riseE_iff.1 ha
  obtain ⟨hb1, hb2⟩ := riseE_iff.1 hb
  exact h.eq_of_pairwise (fun x y hx hy h1 h2 => bel_anti (ha1 x hx).1 (hb1 y hy).1 h1 h2) ha2 hb2
theorem grant_perm (l : List EnM) (e : EnM) : (grantS l e).Perm (e :: l) := by
  unfold grantS
  refine List.perm_middle.trans ?_
  rw [List.take_append_drop]
theorem aftE_inf {l : List EnM} {t : Int} (ht : t < 1099511627776) (w u : ByteArray) : (aftE l t).any (infE w u) = l.any (infE w u) := by
  rw [Bool.eq_iff_iff, List.any_eq_true, List.any_eq_true]
  constructor
  · rintro ⟨e, he, h1⟩
    exact ⟨e, (List.mem_filter.1 he).1, h1⟩
  · rintro ⟨e, he, h1⟩
    exact ⟨e, List.mem_filter.2 ⟨he, decide_eq_true (by have := (infE_iff.1 h1).2.2; omega)⟩, h1⟩
theorem aftE_twice (l : List EnM) (t : Int) : aftE (aftE l t) t = aftE l t := by
  unfold aftE
  rw [List.filter_filter]
  simp
theorem aftE_grant {m : List EnM} {a b t : Int} {w u : ByteArray} (h : GoE m a) (ha : 0 ≤ a) (hab : a ≤ b) (hb : b < 1099511627776) (hw : nameB w = true) (hu : nameB u = true) (hi : m.any (infE w u) = false) (ht : t < 1099511627776) :
    aftE (grantS m (mkE w u b)) t = aftE (grantS (aftE m t) (mkE w u b)) t := by
  have h1 := (h.grant ha hab hb hw hu hi).1.rise
  have h2 := ((h.filter fun e => decide (t < e.t)).grant ha hab hb hw hu (by have := aftE_inf (l := m) ht w u; unfold aftE at this; rw [this]; exact hi)).1.rise
  refine riseE_only (rise_filter h1 _) (rise_filter h2 _) ?_
  refine ((grant_perm _ _).filter _).trans (List.Perm.trans ?_ ((grant_perm _ _).filter _).symm)
  have h3 : (aftE m t).filter (fun e => decide (t < e.t)) = m.filter (fun e => decide (t < e.t)) := aftE_twice m t
  rw [List.filter_cons, List.filter_cons, h3]
theorem revoke_mid {A B : List EnM} {e : EnM} {w u : ByteArray} (hA : ∀ x ∈ A, infE w u x = false) (he : infE w u e = true) (a : Int) : revokeS (A ++ e :: B) w u a = A ++ (endS e a ++ B) := by
  have hF : IsFirst (infE w u) (A ++ e :: B) A.length := by
    refine ⟨by simp, fun i hi hik => ?_, fun hk => ?_⟩
    · rw [List.getElem_append_left hik]
      exact hA _ (List.getElem_mem hik)
    · rw [List.getElem_append_right (Nat.le_refl _)]
      simpa using he
  have hk : A.length < (A ++ e :: B).length := by simp
  rw [revoke_at hF, cut_at hk]
  have h1 : (A ++ e :: B)[A.length] = e := by
    rw [List.getElem_append_right (Nat.le_refl _)]
    simp
  rw [h1]
  have h2 : (A ++ e :: B).take A.length = A := List.take_left ..
  have h3 : (A ++ e :: B).drop (A.length + 1) = B := by
    rw [← List.drop_drop, List.drop_left]
    rfl
  rw [h2, h3]
theorem aftE_revoke {m : List EnM} {b t : Int} {w u : ByteArray} (hi : m.any (infE w u) = true) (ht : t < 1099511627776) :
    aftE (revokeS m w u b) t = aftE (revokeS (aftE m t) w u b) t := by
  have hF := first_idx (infE w u) m
  generalize m.findIdx (infE w u) = k at hF
  have hk : k < m.length := by rw [hF.any] at hi; exact of_decide_eq_true hi
  have hlow : ∀ x ∈ m.take k, infE w u x = false := fun x hx => by
    obtain ⟨i, hi, hik, rfl⟩ := mem_take_get hx
    exact hF.low i hi hik
  have hhit := hF.hit hk
  have hm := split_at hk
  generalize m.take k = A at *
  generalize m.drop (k + 1) = B at *
  generalize m[k] = e at *
  rw [hm, revoke_mid hlow hhit]
  have het : t < e.t := by have := (infE_iff.1 hhit).2.2; omega
  have h2 : aftE (A ++ e :: B) t = aftE A t ++ e :: aftE B t := by
    unfold aftE
    rw [List.filter_append, List.filter_cons, if_pos (decide_eq_true het)]
  rw [h2, revoke_mid (A := aftE A t) (B := aftE B t) (fun x hx => hlow x (List.mem_filter.1 hx).1) hhit]
  have h3 : ∀ a b : List EnM, aftE (a ++ b) t = aftE a t ++ aftE b t := fun a b => List.filter_append ..
  rw [h3, h3, h3, h3, aftE_twice, aftE_twice]
theorem aftE_without (l : List EnM) (t : Int) (u : ByteArray) : aftE (withoutS l u) t = aftE (withoutS (aftE l t) u) t := by
  unfold aftE withoutS
  simp only [List.filter_filter]
  refine List.filter_congr fun e _ => ?_
  cases decide (t < e.t) <;> simp
theorem aftE_up (l : List EnM) {t t' : Int} (h : t ≤ t') : aftE (aftE l t) t' = aftE l t' := by
  unfold aftE
  rw [List.filter_filter]
  refine List.filter_congr fun s _ => ?_
  by_cases h1 : t' < s.t
  · have : t < s.t := by omega
    simp [h1, this]
  · simp [h1]
theorem err_prune {s : SaM} (h : RightS s) (k a n st : Int) (u o : ByteArray) : errS (pruneS s) k a n st u o = errS s k a n st u o := by
  unfold errS errK pruneS
  simp only [aftE_inf h.hor.2]
theorem prune_go {s : SaM} (h : RightS s) {k a n st : Int} {u o : ByteArray} (he : errS s k a n st u o = 0) : pruneS (goS s k a n st u o) = pruneS (goS (pruneS s) k a n st u o) := by
  obtain ⟨hv, ha, hk⟩ := errS_ok he
  obtain ⟨ha0, hb, hv⟩ := hv
  have hA := Alike.start (t := s.hor) h.us h.ur
  have hE := aftE_twice s.su s.hor
  unfold errK at hk
  rcases hv with ⟨h1 | h1, h2, h3, h4, _, h5, h6⟩ | ⟨h1, h2, h3, h4, _, _⟩ | ⟨h1 | h1, h2, h3, _, _⟩ | ⟨h1, _, _, _, h2, h3⟩ | ⟨h1, h2, _, _, _⟩
  · subst h1
    have e1 := hA.prune
    simp only [goS, pruneS, if_true, hE, ← e1]
  · subst h1
    have e1 := (hA.add u (fndS s.op n u a)).prune
    simp only [goS, pruneS, hE, ← e1, if_true, show ¬ ((2 : Int) = 1) by decide, if_false]
  · subst h1
    have e1 := (hA.add u (fndS s.op n u a)).prune
    simp only [goS, pruneS, hE, ← e1, if_true, show ¬ ((3 : Int) = 1) by decide, show ¬ ((3 : Int) = 2) by decide, if_false]
  · subst h1
    have hi : s.su.any (infE u o) = false := by
      rw [if_neg (by decide), if_neg (by decide), if_pos rfl] at hk
      split at hk
      · exact absurd hk (by decide)
      · rename_i h4; exact Bool.eq_false_iff.2 h4
    have e1 := hA.prune
    have e2 := aftE_grant (w := u) (u := o) (t := s.hor) h.su h.now.1 ha hb h2 h3 hi h.hor.2
    simp only [goS, pruneS, ← e1, ← e2, if_true, show ¬ ((4 : Int) = 1) by decide, show ¬ ((4 : Int) = 2) by decide, show ¬ ((4 : Int) = 3) by decide, if_false]
  · subst h1
    have hi : s.su.any (infE u o) = true := by
      rw [if_neg (by decide), if_neg (by decide), if_neg (by decide), if_pos rfl] at hk
      split at hk
      · rename_i h4; exact h4
      · exact absurd hk (by decide)
    have e1 := hA.prune
    have e2 := aftE_revoke (b := a) hi h.hor.2
    simp only [goS, pruneS, ← e1, ← e2, if_true, show ¬ ((5 : Int) = 1) by decide, show ¬ ((5 : Int) = 2) by decide, show ¬ ((5 : Int) = 3) by decide, show ¬ ((5 : Int) = 4) by decide, if_false]
  · subst h1
    have hle : s.hor ≤ max s.hor n := Int.le_max_left _ _
    have e1 := (hA.up hle).prune
    have e2 := aftE_up s.su hle
    simp only [goS, pruneS, ← e1, e2, if_true, show ¬ ((6 : Int) = 1) by decide, show ¬ ((6 : Int) = 2) by decide, show ¬ ((6 : Int) = 3) by decide, show ¬ ((6 : Int) = 4) by decide, show ¬ ((6 : Int) = 5) by decide, if_false]
  · subst h1
    have e1 := (hA.gone u).prune
    have e2 := aftE_without s.su s.hor u
    simp only [goS, pruneS, ← e1, ← e2, show ¬ ((7 : Int) = 1) by decide, show ¬ ((7 : Int) = 2) by decide, show ¬ ((7 : Int) = 3) by decide, show ¬ ((7 : Int) = 4) by decide, show ¬ ((7 : Int) = 5) by decide, show ¬ ((7 : Int) = 6) by decide, if_false]
theorem prune_tell {s : SaM} (h : RightS s) (k a n st : Int) (u o : ByteArray) : pruneS (tellS s k a n st u o) = pruneS (tellS (pruneS s) k a n st u o) := by
  unfold tellS
  rw [err_prune h]
  split
  · rename_i he; exact prune_go h he
  · rfl
end Go.Proofs.YtjhdhfokhkcamaaGreat
namespace Go.Proofs.YtjhdhfokhkcamaaGreat
set_option linter.unusedVariables false
set_option maxRecDepth 100000
theorem low_of {α : Type} {key : α → ByteArray} {u : ByteArray} {l : List α} (hr : RiseK key l) {j : Nat} (hj : j < l.length) (hlt : cmpS (key l[j]) u < 0) : ∀ i (h : i < l.length), i < j → cmpS (key l[i]) u < 0 := fun i hi hij =>
  cmpS_trans (List.pairwise_iff_getElem.1 hr i j hi hj hij) hlt
def notBel {α : Type} (key : α → ByteArray) (u : ByteArray) (x : α) : Bool := !belK key u x
theorem fst_parts {α : Type} {key : α → ByteArray} {u : ByteArray} {l : List α} (hr : RiseK key l) {k : Nat} (h : IsFst (notBel key u) l k) : l.filter (belK key u) = l.take k ∧ (∀ x ∈ l.drop k, ¬ cmpS (key x) u < 0) := by
  have hlo : ∀ x ∈ l.take k, belK key u x = true := fun x hx => by
    have := h.take x hx
    unfold notBel at this
    simpa using this
  have hup : ∀ x ∈ l.drop k, ¬ cmpS (key x) u < 0 := fun x hx hlt => by
    obtain ⟨j, hj, hkj, rfl⟩ := mem_drop_get hx
    have h1 := h.hit (by omega)
    unfold notBel at h1
    have h2 : ¬ cmpS (key (l[k]'(by omega))) u < 0 := fun h2 => by rw [belK_iff.2 h2] at h1; cases h1
    rcases Nat.lt_or_ge k j with h3 | h3
    · exact h2 (low_of hr hj hlt k (by omega) h3)
    · obtain rfl : k = j := by omega
      exact h2 hlt
  refine ⟨?_, hup⟩
  have h3 : l.filter (belK key u) = (l.take k).filter (belK key u) ++ (l.drop k).filter (belK key u) := by rw [← List.filter_append, List.take_append_drop]
  rw [h3, List.filter_eq_self.2 hlo, List.filter_eq_nil_iff.2 fun x hx hb => hup x hx (belK_iff.1 hb), List.append_nil]
theorem ins_new {α : Type} {key : α → ByteArray} {u : ByteArray} {m l : List α} (hr : RiseK key l) {k : Nat} (h : IsFst (notBel key u) l k) (hn : ∀ x ∈ l, key x ≠ u) : insK key u m l = l.take k ++ (m ++ l.drop k) := by
  obtain ⟨h1, h2⟩ := fst_parts hr h
  unfold insK
  rw [h1]
  congr 2
  have h3 : l.filter (abvK key u) = (l.take k).filter (abvK key u) ++ (l.drop k).filter (abvK key u) := by rw [← List.filter_append, List.take_append_drop]
  rw [h3, List.filter_eq_nil_iff.2, List.nil_append, List.filter_eq_self.2]
  · intro x hx
    rcases cmpS_tri (key x) u with h4 | h4 | h4
    · exact absurd h4 (h2 x hx)
    · exact absurd h4 (hn x (List.mem_of_mem_drop hx))
    · exact abvK_iff.2 h4
  · intro x hx ha
    rw [← h1] at hx
    exact cmpS_asym (belK_iff.1 (List.mem_filter.1 hx).2) (abvK_iff.1 ha)
theorem ins_old {α : Type} {key : α → ByteArray} {u : ByteArray} {m l : List α} (hr : RiseK key l) {k : Nat} (hk : k < l.length) (he : key l[k] = u) : insK key u m l = l.take k ++ (m ++ l.drop (k + 1)) := by
  have hpw := List.pairwise_iff_getElem.1 hr
  have hlo : ∀ x ∈ l.take k, cmpS (key x) u < 0 := fun x hx => by
    obtain ⟨j, hj, hjk, rfl⟩ := mem_take_get hx
    rw [← he]; exact hpw j k hj hk hjk
  have hup : ∀ x ∈ l.drop (k + 1), cmpS u (key x) < 0 := fun x hx => by
    obtain ⟨j, hj, hjk, rfl⟩ := mem_drop_get hx
    rw [← he]; exact hpw k j hk hj (by omega)
  have hl : l = l.take k ++ l[k] :: l.drop (k + 1) := by rw [← List.drop_eq_getElem_cons hk, List.take_append_drop]
  have hb : ¬ belK key u l[k] = true := fun hb => cmpS_ne (belK_iff.1 hb) he
  have ha : ¬ abvK key u l[k] = true := fun ha => cmpS_ne (abvK_iff.1 ha) he.symm
  have f1 : l.filter (belK key u) = l.take k := by
    conv => lhs; rw [hl]
    rw [List.filter_append, List.filter_cons, if_neg hb, List.filter_eq_self.2 fun x hx => belK_iff.2 (hlo x hx), List.filter_eq_nil_iff.2 fun x hx h => cmpS_asym (hup x hx) (belK_iff.1 h), List.append_nil]
  have f2 : l.filter (abvK key u) = l.drop (k + 1) := by
    conv => lhs; rw [hl]
    rw [List.filter_append, List.filter_cons, if_neg ha, List.filter_eq_nil_iff.2 fun x hx h => cmpS_asym (hlo x hx) (abvK_iff.1 h), List.filter_eq_self.2 fun x hx => abvK_iff.2 (hup x hx), List.nil_append]
  unfold insK
  rw [f1, f2]
theorem ins_out {α : Type} {key : α → ByteArray} {u : ByteArray} {l : List α} (hr : RiseK key l) : insK key u [] l = l.filter fun x => !isKy key u x := by
  refine riseK_ext (insK_rise hr (fun x hx => by cases hx) (by simp)) (List.Pairwise.filter _ hr) fun x => ?_
  rw [insK_mem, List.mem_filter]
  constructor
  · rintro (h | ⟨h1, h2⟩)
    · cases h
    · refine ⟨h1, ?_⟩
      have h3 : isKy key u x = false := decide_eq_false h2
      rw [h3]; rfl
  · rintro ⟨h1, h2⟩
    refine .inr ⟨h1, fun e => ?_⟩
    rw [isKy_iff.2 e] at h2
    cases h2
end Go.Proofs.YtjhdhfokhkcamaaGreat
namespace Go.Proofs.YtjhdhfokhkcamaaGreat
open Go.RowKit
set_option linter.unusedVariables false
set_option maxRecDepth 100000
set_option maxRecDepth 100000
def encT (s : StM) : List Value := [.int .i64 s.f, .int .i64 s.t, .int .i64 s.n, .int .i64 s.s]
def sts (l : List StM) : List Value := l.flatMap encT
theorem sts_cons (s : StM) (l : List StM) : sts (s :: l) = encT s ++ sts l := by simp [sts]
theorem sts_len (l : List StM) : (sts l).length = l.length * 4 := by
  induction l with
  | nil => rfl
  | cons e l ih => rw [sts_cons, List.length_append, ih, List.length_cons]; simp only [encT, List.length_cons, List.length_nil]; omega
theorem sts_append (l m : List StM) : sts (l ++ m) = sts l ++ sts m := by simp [sts]
theorem sts_snoc (l : List StM) (x : StM) : sts (l ++ [x]) = sts l ++ [.int .i64 x.f, .int .i64 x.t, .int .i64 x.n, .int .i64 x.s] := by simp [sts, encT]
theorem sts_take (l : List StM) (j : Nat) (h : j < l.length) : sts (l.take (j + 1)) = sts (l.take j) ++ [.int .i64 l[j].f, .int .i64 l[j].t, .int .i64 l[j].n, .int .i64 l[j].s] := by
  rw [List.take_succ_eq_append_getElem h]; exact sts_snoc _ _
theorem sts_get (l : List StM) : ∀ (k : Nat) (h : k < l.length), (sts l)[k * 4]? = some (.int .i64 l[k].f) ∧ (sts l)[k * 4 + 1]? = some (.int .i64 l[k].t) ∧ (sts l)[k * 4 + 2]? = some (.int .i64 l[k].n) ∧ (sts l)[k * 4 + 3]? = some (.int .i64 l[k].s) := by
  induction l with
  | nil => intro k h; exact absurd h (by simp)
  | cons x l ih =>
    intro k h
    rw [sts_cons]
    cases k with
    | zero => exact ⟨rfl, rfl, rfl, rfl⟩
    | succ k =>
      have := ih k (by simpa using h)
      rw [show (k + 1) * 4 = k * 4 + 1 + 1 + 1 + 1 by omega]
      simpa [encT] using this
def StSl (w : World) (a : Option Addr) (l : List StM) : Prop := ∀ k (h : k < l.length), ∃ b off, a = some ⟨b, off, none⟩ ∧ b < w.heap.size ∧
  w.cell? ⟨b, off + k * 4, none⟩ = some (.int .i64 l[k].f) ∧ w.cell? ⟨b, off + k * 4 + 1, none⟩ = some (.int .i64 l[k].t) ∧ w.cell? ⟨b, off + k * 4 + 2, none⟩ = some (.int .i64 l[k].n) ∧ w.cell? ⟨b, off + k * 4 + 3, none⟩ = some (.int .i64 l[k].s)
theorem StSl.nil (w : World) (a : Option Addr) : StSl w a [] := fun k h => absurd h (by simp)
theorem StSl.below {w w' : World} {a : Option Addr} {l : List StM} (h : StSl w a l) (hb : Below w.heap.size w w') : StSl w' a l := fun k hk => by
  obtain ⟨b, off, e, hlt, h0, h1, h2, h3⟩ := h k hk
  exact ⟨b, off, e, Nat.lt_of_lt_of_le hlt hb.size, (hb.cell (p := ⟨b, off + k * 4, none⟩) hlt).trans h0, (hb.cell (p := ⟨b, off + k * 4 + 1, none⟩) hlt).trans h1, (hb.cell (p := ⟨b, off + k * 4 + 2, none⟩) hlt).trans h2, (hb.cell (p := ⟨b, off + k * 4 + 3, none⟩) hlt).trans h3⟩
theorem StSl.at_ {w : World} {a : Option Addr} {l : List StM} (h : StSl w a l) {k : Nat} (hk : k < l.length) : ∃ b off, a = some ⟨b, off, none⟩ ∧ b < w.heap.size ∧
    w.cell? ⟨b, off + k * 4, none⟩ = some (.int .i64 l[k].f) ∧ w.cell? ⟨b, off + k * 4 + 1, none⟩ = some (.int .i64 l[k].t) ∧ w.cell? ⟨b, off + k * 4 + 2, none⟩ = some (.int .i64 l[k].n) ∧ w.cell? ⟨b, off + k * 4 + 3, none⟩ = some (.int .i64 l[k].s) := h k hk
theorem StSl.take {w : World} {a : Option Addr} {l : List StM} (h : StSl w a l) (n : Nat) : StSl w a (l.take n) := fun k hk => by
  have hk2 : k < l.length := by simp at hk; omega
  obtain ⟨b, off, e, hlt, h0, h1, h2, h3⟩ := h k hk2
  rw [List.getElem_take]
  exact ⟨b, off, e, hlt, h0, h1, h2, h3⟩
theorem StSl.drop {w : World} {b off : Nat} {l : List StM} (h : StSl w (some ⟨b, off, none⟩) l) (n : Nat) : StSl w (some ⟨b, off + n * 4, none⟩) (l.drop n) := fun k hk => by
  have hk2 : n + k < l.length := by simp at hk; omega
  obtain ⟨b', off', e, hlt, h0, h1, h2, h3⟩ := h (n + k) hk2
  cases e
  rw [List.getElem_drop]
  have e1 : off + n * 4 + k * 4 = off + (n + k) * 4 := by omega
  exact ⟨b, off + n * 4, rfl, hlt, by rw [e1]; exact h0, by rw [e1]; exact h1, by rw [e1]; exact h2, by rw [e1]; exact h3⟩
theorem StSl.cells {w : World} {a : Option Addr} {l : List StM} (h : StSl w a l) : ∀ ad, a = some ad → ∀ j u, (sts l)[j]? = some u → w.cell? (ad.add j) = some u := fun ad ha j u hu => by
  have hj : j < l.length * 4 := by rw [← sts_len]; exact (List.getElem?_eq_some_iff.1 hu).1
  have hk : j / 4 < l.length := by omega
  obtain ⟨b, off, e, _, h1, h2, h3, h4⟩ := h (j / 4) hk
  rw [ha] at e
  cases e
  obtain ⟨g1, g2, g3, g4⟩ := sts_get l (j / 4) hk
  have hadd : (⟨b, off, none⟩ : Addr).add j = ⟨b, off + j, none⟩ := by
    unfold Addr.add
    split
    · rename_i h; subst h; rfl
    · rfl
  rw [hadd]
  have hd : j = j / 4 * 4 ∨ j = j / 4 * 4 + 1 ∨ j = j / 4 * 4 + 2 ∨ j = j / 4 * 4 + 3 := by omega
  generalize j / 4 = k at *
  rcases hd with rfl | rfl | rfl | rfl
  · rw [g1] at hu
    cases hu
    exact h1
  · rw [g2] at hu
    cases hu
    exact h2
  · rw [g3] at hu
    cases hu
    exact h3
  · rw [g4] at hu
    cases hu
    exact h4
theorem four_one (a b c d : Int) : ∀ u ∈ [Value.int .i64 a, .int .i64 b, .int .i64 c, .int .i64 d], u.oneCell' = true := by
  intro u hu
  simp only [List.mem_cons, List.mem_nil_iff, or_false] at hu
  rcases hu with rfl | rfl | rfl | rfl <;> rfl
theorem sts_one (l : List StM) : ∀ u ∈ sts l, u.oneCell' = true := fun u hu => by
  unfold sts at hu
  obtain ⟨y, _, hy⟩ := List.mem_flatMap.1 hu
  exact four_one _ _ _ _ u hy
theorem own_st {w : World} {B e : Nat} {v : Value} {l : List StM} (h : w.ownsRow B e 4 v l.length (sts l)) : ∃ a c, v = .slice a l.length c ∧ l.length ≤ c ∧ c ≤ maxLen ∧ StSl w a l ∧ (a = none → c = 0) := by
  rcases h.2 with ⟨rfl, hn⟩ | ⟨g, cap, cur, rfl, hg, hh, hn, hc, hsz, ht⟩
  · have : l = [] := List.eq_nil_of_length_eq_zero hn
    subst this
    exact ⟨none, 0, rfl, Nat.le_refl _, by unfold maxLen; omega, StSl.nil _ _, fun _ => rfl⟩
  · have hlt : g < w.heap.size := by
      rcases Nat.lt_or_ge g w.heap.size with h1 | h1
      · exact h1
      · rw [Array.getElem?_eq_none h1] at hh; cases hh
    refine ⟨_, cap, rfl, hn, hc, fun k hk => ⟨g, 0, rfl, hlt, ?_, ?_, ?_, ?_⟩, fun e => by cases e⟩
    · have hg := (sts_get l k hk).1
      rw [← ht, List.getElem?_take, if_pos (by omega), Array.getElem?_toList] at hg
      rw [cell_of_row w g _ cur e (0, 0) hh, Nat.zero_add, hg]
    · have hg := (sts_get l k hk).2.1
      rw [← ht, List.getElem?_take, if_pos (by omega), Array.getElem?_toList] at hg
      rw [cell_of_row w g _ cur e (0, 0) hh, Nat.zero_add, hg]
    · have hg := (sts_get l k hk).2.2.1
      rw [← ht, List.getElem?_take, if_pos (by omega), Array.getElem?_toList] at hg
      rw [cell_of_row w g _ cur e (0, 0) hh, Nat.zero_add, hg]
    · have hg := (sts_get l k hk).2.2.2
      rw [← ht, List.getElem?_take, if_pos (by omega), Array.getElem?_toList] at hg
      rw [cell_of_row w g _ cur e (0, 0) hh, Nat.zero_add, hg]
theorem cells_st (W : World) (l : List StM) (xs : Array Value) (t : TypeId) (g : Nat) (hg : g = W.heap.size) (hx : xs.toList = sts l) : StSl (W.alloc (.cells xs t)) (some ⟨g, 0, none⟩) l := fun k hk => by
  subst hg
  obtain ⟨g1, g2, g3, g4⟩ := sts_get l k hk
  rw [← hx, Array.getElem?_toList] at g1 g2 g3 g4
  refine ⟨W.heap.size, 0, rfl, by rw [size1]; omega, ?_, ?_, ?_, ?_⟩
  · rw [cell_of_row _ _ _ xs t (0, 0) (heap_alloc_new W _), Nat.zero_add, g1]
  · rw [cell_of_row _ _ _ xs t (0, 0) (heap_alloc_new W _), Nat.zero_add, g2]
  · rw [cell_of_row _ _ _ xs t (0, 0) (heap_alloc_new W _), Nat.zero_add, g3]
  · rw [cell_of_row _ _ _ xs t (0, 0) (heap_alloc_new W _), Nat.zero_add, g4]
def stV (s : StM) : Value := .agg #[.int .i64 s.f, .int .i64 s.t, .int .i64 s.n, .int .i64 s.s]
theorem infoStay : (Tryz.prog.info? 86).map (fun i => (i.zero, i.size, i.bytes)) = some (some (.agg #[.int .i64 0, .int .i64 0, .int .i64 0, .int .i64 0]), 4, 32) := by kernel_rfl
theorem infoStayR : (Tryz.prog.info? 135).map (fun i => (i.zero, i.size, i.bytes)) = some (some (.agg #[.int .i64 0, .int .i64 0, .int .i64 0, .int .i64 0]), 4, 32) := by kernel_rfl
theorem cells4 {g : Nat} {a b c d : Value} {t : TypeId} {W : World} (h : W.heap[g]? = some (.cells #[a, b, c, d] t (0, 0))) : W.cell? ⟨g, 0, none⟩ = some a ∧ W.cell? ⟨g, 1, none⟩ = some b ∧ W.cell? ⟨g, 2, none⟩ = some c ∧ W.cell? ⟨g, 3, none⟩ = some d :=
  ⟨cell_of_row _ _ _ _ _ _ h, cell_of_row _ _ _ _ _ _ h, cell_of_row _ _ _ _ _ _ h, cell_of_row _ _ _ _ _ _ h⟩
theorem wpList_append_st {P : Program} (w : World) {ops : Array Oper} {rest : List Oper} {o : Oper} {a : Act} {Q : Exit → Act → World → Prop} (hgd : o.guard = none) (s x : Operand) (t : TypeId)
    (ho : o.op = .call { callee := .builtin .append, args := #[s, x], argTypes := #[t, t] })
    (base : Nat) (e : TypeId) (i : TypeInfo) (z : Value) (ht : P.underlying t = some (.slice e)) (hi : P.info? e = some i) (hz : i.zero = some z)
    (hsize : i.size = 4) (hby : i.bytes = 32) (hzs : z.cells.size = 4)
    (v : Value) (l : List StM) (hs : a.eval s = v) (hown : w.ownsRow base e 4 v l.length (sts l))
    (A : Option Addr) (c : Nat) (m : List StM) (hx : a.eval x = .slice A m.length c) (hsl : StSl w A m) (hnil : A = none → c = 0)
    (hlen : l.length + m.length ≤ 1000000) (hbase : base ≤ w.heap.size)
    (h : ∀ v' w', w'.ownsRow base e 4 v' (l ++ m).length (sts (l ++ m)) → Below base w w' → wpList P ops Q rest (a.put o.dst v') w') : wpList P ops Q (o :: rest) a w := by
  rw [List.length_append, sts_append] at h
  cases A with
  | none =>
    have hc := hnil rfl
    subst hc
    have hm0 : m = [] := by
      cases m with
      | nil => rfl
      | cons y m => obtain ⟨_, _, e, _⟩ := hsl 0 (by simp); cases e
    subst hm0
    exact wpList_append_own_none hgd s x t ho base e i 4 ht hi v l.length (sts l) hs hown hx (h v w (by simpa [sts] using hown) (Below.refl _ _))
  | some ad =>
    exact wpList_append_own w hgd s x t ho base e i z 4 32 ht hi hz hsize hby hzs (by decide) v l.length (sts l) hs hown ad m.length c (sts m) hx (sts_len m) (hsl.cells ad rfl) (sts_one m) (by unfold maxLen; omega) (by omega) hbase (fun v' w' h2 h3 _ => h v' w' h2 (app_below (Below.refl _ _) hbase hown h3))
end Go.Proofs.YtjhdhfokhkcamaaGreat
namespace Go.Proofs.YtjhdhfokhkcamaaGreat
open Go.RowKit
set_option linter.unusedVariables false
set_option maxRecDepth 100000
set_option maxRecDepth 100000
def encO (s : OpM) : List Value := [.int .i64 s.n, .string s.u, .int .i64 s.s, .int .i64 s.f]
def oes (l : List OpM) : List Value := l.flatMap encO
theorem oes_cons (s : OpM) (l : List OpM) : oes (s :: l) = encO s ++ oes l := by simp [oes]
theorem oes_len (l : List OpM) : (oes l).length = l.length * 4 := by
  induction l with
  | nil => rfl
  | cons e l ih => rw [oes_cons, List.length_append, ih, List.length_cons]; simp only [encO, List.length_cons, List.length_nil]; omega
theorem oes_append (l m : List OpM) : oes (l ++ m) = oes l ++ oes m := by simp [oes]
theorem oes_snoc (l : List OpM) (x : OpM) : oes (l ++ [x]) = oes l ++ [.int .i64 x.n, .string x.u, .int .i64 x.s, .int .i64 x.f] := by simp [oes, encO]
theorem oes_take (l : List OpM) (j : Nat) (h : j < l.length) : oes (l.take (j + 1)) = oes (l.take j) ++ [.int .i64 l[j].n, .string l[j].u, .int .i64 l[j].s, .int .i64 l[j].f] := by
  rw [List.take_succ_eq_append_getElem h]; exact oes_snoc _ _
theorem oes_get (l : List OpM) : ∀ (k : Nat) (h : k < l.length), (oes l)[k * 4]? = some (.int .i64 l[k].n) ∧ (oes l)[k * 4 + 1]? = some (.string l[k].u) ∧ (oes l)[k * 4 + 2]? = some (.int .i64 l[k].s) ∧ (oes l)[k * 4 + 3]? = some (.int .i64 l[k].f) := by
  induction l with
  | nil => intro k h; exact absurd h (by simp)
  | cons x l ih =>
    intro k h
    rw [oes_cons]
    cases k with
    | zero => exact ⟨rfl, rfl, rfl, rfl⟩
    | succ k =>
      have := ih k (by simpa using h)
      rw [show (k + 1) * 4 = k * 4 + 1 + 1 + 1 + 1 by omega]
      simpa [encO] using this
def OpSl (w : World) (a : Option Addr) (l : List OpM) : Prop := ∀ k (h : k < l.length), ∃ b off, a = some ⟨b, off, none⟩ ∧ b < w.heap.size ∧
  w.cell? ⟨b, off + k * 4, none⟩ = some (.int .i64 l[k].n) ∧ w.cell? ⟨b, off + k * 4 + 1, none⟩ = some (.string l[k].u) ∧ w.cell? ⟨b, off + k * 4 + 2, none⟩ = some (.int .i64 l[k].s) ∧ w.cell? ⟨b, off + k * 4 + 3, none⟩ = some (.int .i64 l[k].f)
theorem OpSl.nil (w : World) (a : Option Addr) : OpSl w a [] := fun k h => absurd h (by simp)
theorem OpSl.below {w w' : World} {a : Option Addr} {l : List OpM} (h : OpSl w a l) (hb : Below w.heap.size w w') : OpSl w' a l := fun k hk => by
  obtain ⟨b, off, e, hlt, h0, h1, h2, h3⟩ := h k hk
  exact ⟨b, off, e, Nat.lt_of_lt_of_le hlt hb.size, (hb.cell (p := ⟨b, off + k * 4, none⟩) hlt).trans h0, (hb.cell (p := ⟨b, off + k * 4 + 1, none⟩) hlt).trans h1, (hb.cell (p := ⟨b, off + k * 4 + 2, none⟩) hlt).trans h2, (hb.cell (p := ⟨b, off + k * 4 + 3, none⟩) hlt).trans h3⟩
theorem OpSl.at_ {w : World} {a : Option Addr} {l : List OpM} (h : OpSl w a l) {k : Nat} (hk : k < l.length) : ∃ b off, a = some ⟨b, off, none⟩ ∧ b < w.heap.size ∧
    w.cell? ⟨b, off + k * 4, none⟩ = some (.int .i64 l[k].n) ∧ w.cell? ⟨b, off + k * 4 + 1, none⟩ = some (.string l[k].u) ∧ w.cell? ⟨b, off + k * 4 + 2, none⟩ = some (.int .i64 l[k].s) ∧ w.cell? ⟨b, off + k * 4 + 3, none⟩ = some (.int .i64 l[k].f) := h k hk
theorem OpSl.take {w : World} {a : Option Addr} {l : List OpM} (h : OpSl w a l) (n : Nat) : OpSl w a (l.take n) := fun k hk => by
  have hk2 : k < l.length := by simp at hk; omega
  obtain ⟨b, off, e, hlt, h0, h1, h2, h3⟩ := h k hk2
  rw [List.getElem_take]
  exact ⟨b, off, e, hlt, h0, h1, h2, h3⟩
theorem OpSl.drop {w : World} {b off : Nat} {l : List OpM} (h : OpSl w (some ⟨b, off, none⟩) l) (n : Nat) : OpSl w (some ⟨b, off + n * 4, none⟩) (l.drop n) := fun k hk => by
  have hk2 : n + k < l.length := by simp at hk; omega
  obtain ⟨b', off', e, hlt, h0, h1, h2, h3⟩ := h (n + k) hk2
  cases e
  rw [List.getElem_drop]
  have e1 : off + n * 4 + k * 4 = off + (n + k) * 4 := by omega
  exact ⟨b, off + n * 4, rfl, hlt, by rw [e1]; exact h0, by rw [e1]; exact h1, by rw [e1]; exact h2, by rw [e1]; exact h3⟩
theorem OpSl.cells {w : World} {a : Option Addr} {l : List OpM} (h : OpSl w a l) : ∀ ad, a = some ad → ∀ j u, (oes l)[j]? = some u → w.cell? (ad.add j) = some u := fun ad ha j u hu => by
  have hj : j < l.length * 4 := by rw [← oes_len]; exact (List.getElem?_eq_some_iff.1 hu).1
  have hk : j / 4 < l.length := by omega
  obtain ⟨b, off, e, _, h1, h2, h3, h4⟩ := h (j / 4) hk
  rw [ha] at e
  cases e
  obtain ⟨g1, g2, g3, g4⟩ := oes_get l (j / 4) hk
  have hadd : (⟨b, off, none⟩ : Addr).add j = ⟨b, off + j, none⟩ := by
    unfold Addr.add
    split
    · rename_i h; subst h; rfl
    · rfl
  rw [hadd]
  have hd : j = j / 4 * 4 ∨ j = j / 4 * 4 + 1 ∨ j = j / 4 * 4 + 2 ∨ j = j / 4 * 4 + 3 := by omega
  generalize j / 4 = k at *
  rcases hd with rfl | rfl | rfl | rfl
  · rw [g1] at hu
    cases hu
    exact h1
  · rw [g2] at hu
    cases hu
    exact h2
  · rw [g3] at hu
    cases hu
    exact h3
  · rw [g4] at hu
    cases hu
    exact h4
theorem four_o (a : Int) (b : ByteArray) (c d : Int) : ∀ u ∈ [Value.int .i64 a, .string b, .int .i64 c, .int .i64 d], u.oneCell' = true := by
  intro u hu
  simp only [List.mem_cons, List.mem_nil_iff, or_false] at hu
  rcases hu with rfl | rfl | rfl | rfl <;> rfl
theorem oes_one (l : List OpM) : ∀ u ∈ oes l, u.oneCell' = true := fun u hu => by
  unfold oes at hu
  obtain ⟨y, _, hy⟩ := List.mem_flatMap.1 hu
  exact four_o _ _ _ _ u hy
theorem own_op {w : World} {B e : Nat} {v : Value} {l : List OpM} (h : w.ownsRow B e 4 v l.length (oes l)) : ∃ a c, v = .slice a l.length c ∧ l.length ≤ c ∧ c ≤ maxLen ∧ OpSl w a l ∧ (a = none → c = 0) := by
  rcases h.2 with ⟨rfl, hn⟩ | ⟨g, cap, cur, rfl, hg, hh, hn, hc, hsz, ht⟩
  · have : l = [] := List.eq_nil_of_length_eq_zero hn
    subst this
    exact ⟨none, 0, rfl, Nat.le_refl _, by unfold maxLen; omega, OpSl.nil _ _, fun _ => rfl⟩
  · have hlt : g < w.heap.size := by
      rcases Nat.lt_or_ge g w.heap.size with h1 | h1
      · exact h1
      · rw [Array.getElem?_eq_none h1] at hh; cases hh
    refine ⟨_, cap, rfl, hn, hc, fun k hk => ⟨g, 0, rfl, hlt, ?_, ?_, ?_, ?_⟩, fun e => by cases e⟩
    · have hg := (oes_get l k hk).1
      rw [← ht, List.getElem?_take, if_pos (by omega), Array.getElem?_toList] at hg
      rw [cell_of_row w g _ cur e (0, 0) hh, Nat.zero_add, hg]
    · have hg := (oes_get l k hk).2.1
      rw [← ht, List.getElem?_take, if_pos (by omega), Array.getElem?_toList] at hg
      rw [cell_of_row w g _ cur e (0, 0) hh, Nat.zero_add, hg]
    · have hg := (oes_get l k hk).2.2.1
      rw [← ht, List.getElem?_take, if_pos (by omega), Array.getElem?_toList] at hg
      rw [cell_of_row w g _ cur e (0, 0) hh, Nat.zero_add, hg]
    · have hg := (oes_get l k hk).2.2.2
      rw [← ht, List.getElem?_take, if_pos (by omega), Array.getElem?_toList] at hg
      rw [cell_of_row w g _ cur e (0, 0) hh, Nat.zero_add, hg]
theorem cells_op (W : World) (l : List OpM) (xs : Array Value) (t : TypeId) (g : Nat) (hg : g = W.heap.size) (hx : xs.toList = oes l) : OpSl (W.alloc (.cells xs t)) (some ⟨g, 0, none⟩) l := fun k hk => by
  subst hg
  obtain ⟨g1, g2, g3, g4⟩ := oes_get l k hk
  rw [← hx, Array.getElem?_toList] at g1 g2 g3 g4
  refine ⟨W.heap.size, 0, rfl, by rw [size1]; omega, ?_, ?_, ?_, ?_⟩
  · rw [cell_of_row _ _ _ xs t (0, 0) (heap_alloc_new W _), Nat.zero_add, g1]
  · rw [cell_of_row _ _ _ xs t (0, 0) (heap_alloc_new W _), Nat.zero_add, g2]
  · rw [cell_of_row _ _ _ xs t (0, 0) (heap_alloc_new W _), Nat.zero_add, g3]
  · rw [cell_of_row _ _ _ xs t (0, 0) (heap_alloc_new W _), Nat.zero_add, g4]
def opV (s : OpM) : Value := .agg #[.int .i64 s.n, .string s.u, .int .i64 s.s, .int .i64 s.f]
theorem infoOp : (Tryz.prog.info? 112).map (fun i => (i.zero, i.size, i.bytes)) = some (some (.agg #[.int .i64 0, .string ⟨#[]⟩, .int .i64 0, .int .i64 0]), 4, 40) := by kernel_rfl
theorem infoOpR : (Tryz.prog.info? 75).map (fun i => (i.zero, i.size, i.bytes)) = some (some (.agg #[.int .i64 0, .string ⟨#[]⟩, .int .i64 0, .int .i64 0]), 4, 40) := by kernel_rfl
theorem wpList_append_op {P : Program} (w : World) {ops : Array Oper} {rest : List Oper} {o : Oper} {a : Act} {Q : Exit → Act → World → Prop} (hgd : o.guard = none) (s x : Operand) (t : TypeId)
    (ho : o.op = .call { callee := .builtin .append, args := #[s, x], argTypes := #[t, t] })
    (base : Nat) (e : TypeId) (i : TypeInfo) (z : Value) (ht : P.underlying t = some (.slice e)) (hi : P.info? e = some i) (hz : i.zero = some z)
    (hsize : i.size = 4) (hby : i.bytes = 40) (hzs : z.cells.size = 4)
    (v : Value) (l : List OpM) (hs : a.eval s = v) (hown : w.ownsRow base e 4 v l.length (oes l))
    (A : Option Addr) (c : Nat) (m : List OpM) (hx : a.eval x = .slice A m.length c) (hsl : OpSl w A m) (hnil : A = none → c = 0)
    (hlen : l.length + m.length ≤ 1000000) (hbase : base ≤ w.heap.size)
    (h : ∀ v' w', w'.ownsRow base e 4 v' (l ++ m).length (oes (l ++ m)) → Below base w w' → wpList P ops Q rest (a.put o.dst v') w') : wpList P ops Q (o :: rest) a w := by
  rw [List.length_append, oes_append] at h
  cases A with
  | none =>
    have hc := hnil rfl
    subst hc
    have hm0 : m = [] := by
      cases m with
      | nil => rfl
      | cons y m => obtain ⟨_, _, e, _⟩ := hsl 0 (by simp); cases e
    subst hm0
    exact wpList_append_own_none hgd s x t ho base e i 4 ht hi v l.length (oes l) hs hown hx (h v w (by simpa [oes] using hown) (Below.refl _ _))
  | some ad =>
    exact wpList_append_own w hgd s x t ho base e i z 4 40 ht hi hz hsize hby hzs (by decide) v l.length (oes l) hs hown ad m.length c (oes m) hx (oes_len m) (hsl.cells ad rfl) (oes_one m) (by unfold maxLen; omega) (by omega) hbase (fun v' w' h2 h3 _ => h v' w' h2 (app_below (Below.refl _ _) hbase hown h3))
end Go.Proofs.YtjhdhfokhkcamaaGreat
namespace Go.Proofs.YtjhdhfokhkcamaaGreat
open Go.ChangeShapes Go.WideShapes Go.ChangeAt Go.RowKit
set_option linter.unusedVariables false
set_option maxRecDepth 100000
set_option maxRecDepth 100000
theorem wf64 {n : Int} (h : (Lit.int .i64 n).wf = true) : I64 n := by
  have e1 : IntKind.i64.min = -9223372036854775808 := by decide
  have e2 : IntKind.i64.max = 9223372036854775807 := by decide
  have h' : (decide (IntKind.i64.min ≤ n) && decide (n ≤ IntKind.i64.max)) = true := h
  rw [e1, e2, Bool.and_eq_true, decide_eq_true_eq, decide_eq_true_eq] at h'
  exact h'
end Go.Proofs.YtjhdhfokhkcamaaGreat
namespace Go.Proofs.YtjhdhfokhkcamaaGreat
open Go.ChangeShapes Go.WideShapes Go.ChangeAt Go.RowKit
set_option linter.unusedVariables false
set_option maxRecDepth 100000
set_option maxRecDepth 100000
def FitsE (l : List EnM) : Prop := ∀ e ∈ l, e.w.size ≤ maxLen ∧ e.u.size ≤ maxLen ∧ I64 e.f ∧ I64 e.t
section
variable {H : Type} {enc : TypeId × Value → H} {P : Program} {w : World} {base : Nat} {spare : Nat → Bool} {held : Bool}
theorem eopen_quads {t e : TypeId} {f0 f1 f2 f3 : Field} {fuel : Nat} {cs : List Value} {x : DataW H × List MemPlace} (ht : P.underlying t = some (.slice e)) (he : P.underlying e = some (.struct #[f0, f1, f2, f3]))
    (ce : P.cellsOf e = 4) (o0 : f0.offset = 0) (o1 : f1.offset = 1) (o2 : f2.offset = 2) (o3 : f3.offset = 3) (c0 : P.cellsOf f0.type = 1) (c1 : P.cellsOf f1.type = 1) (c2 : P.cellsOf f2.type = 1) (c3 : P.cellsOf f3.type = 1)
    (h : DataW.trod enc P w base spare held fuel t cs = some x) :
    (cs = [.slice none 0 0] ∧ x = (.nil, [])) ∨
    ∃ (a : Addr) (len cap : Nat), cs = [.slice (some a) len cap] ∧ len ≤ cap ∧ cap ≤ maxLen ∧
      ∀ i, i < len → ∃ (v0 v1 v2 v3 : Value) (y0 y1 y2 y3 : DataW H × List MemPlace) (n : Nat), w.cell? (a.add (i * 4)) = some v0 ∧ w.cell? (a.add (i * 4 + 1)) = some v1 ∧ w.cell? (a.add (i * 4 + 2)) = some v2 ∧ w.cell? (a.add (i * 4 + 3)) = some v3 ∧
        DataW.trod enc P w base spare held n f0.type [v0] = some y0 ∧ DataW.trod enc P w base spare held n f1.type [v1] = some y1 ∧ DataW.trod enc P w base spare held n f2.type [v2] = some y2 ∧ DataW.trod enc P w base spare held n f3.type [v3] = some y3 := by
  rcases Go.Deep.open_slice ht h with h0 | ⟨a, len, cap, m, n, D, Pl, rfl, hb, hl, hm, hmm, rfl, hx⟩
  · exact Or.inl h0
  right
  have hlm : len ≤ m := by rw [hmm]; split <;> omega
  refine ⟨a, len, cap, rfl, hl, hm, fun i hi => ?_⟩
  obtain ⟨cs', h1, h2⟩ := hx i (by omega)
  rw [ce] at h1
  obtain ⟨_, hlen, hcell⟩ := World.cells?_some h1
  obtain ⟨xs, k, hk, hxy, _, hxl, hf⟩ := DataW.trod_struct he h2
  match xs, hxl, cs', hlen with
  | [y0, y1, y2, y3], _, [v0, v1, v2, v3], _ =>
    have g0 := hf 0 f0 rfl
    have g1 := hf 1 f1 rfl
    have g2 := hf 2 f2 rfl
    have g3 := hf 3 f3 rfl
    simp [o0, o1, o2, o3, c0, c1, c2, c3] at g0 g1 g2 g3
    have e0 := hcell 0 (by omega)
    have e1 := hcell 1 (by omega)
    have e2 := hcell 2 (by omega)
    have e3 := hcell 3 (by omega)
    rw [Go.Deep.add_add] at e0 e1 e2 e3
    exact ⟨v0, v1, v2, v3, y0, y1, y2, y3, k, by simpa using e0, by simpa using e1, by simpa using e2, by simpa using e3, g0, g1, g2, g3⟩
end
theorem enFields : ∃ f0 f1 f2 f3 : Field, Tryz.prog.underlying 82 = some (.struct #[f0, f1, f2, f3]) ∧ f0.offset = 0 ∧ f1.offset = 1 ∧ f2.offset = 2 ∧ f3.offset = 3 ∧ f0.type = 9 ∧ f1.type = 9 ∧ f2.type = 3 ∧ f3.type = 3 := ⟨_, _, _, _, Tryz.underlying82, rfl, rfl, rfl, rfl, rfl, rfl, rfl, rfl⟩
theorem read_entries {H : Type} {enc : TypeId × Value → H} {W : World} {n : Nat} {cs : List Value} {x : DataW H × List MemPlace}
    (h : DataW.trod enc Tryz.prog W 0 (fun _ => true) true n 24 cs = some x) :
    ∃ (a : Option Addr) (c : Nat) (l : List EnM), cs = [.slice a l.length c] ∧ EnSl W a l ∧ FitsE l ∧ l.length ≤ c ∧ c ≤ maxLen ∧ (a = none → c = 0) := by
  obtain ⟨f0, f1, f2, f3, he, o0, o1, o2, o3, t0, t1, t2, t3⟩ := enFields
  have ci : Tryz.prog.cellsOf 3 = 1 := by kernel_rfl
  have cs' : Tryz.prog.cellsOf 9 = 1 := by kernel_rfl
  rcases eopen_quads Tryz.underlying24 he (by kernel_rfl) o0 o1 o2 o3 (by rw [t0]; exact cs') (by rw [t1]; exact cs') (by rw [t2]; exact ci) (by rw [t3]; exact ci) h with ⟨rfl, _⟩ | ⟨a, len, cap, rfl, hl, hm, hx⟩
  · exact ⟨none, 0, [], rfl, EnSl.nil _ _, (fun s hs => by cases hs), by simp, by decide, fun _ => rfl⟩
  · have each : ∀ i, i < len → ∃ x : EnM, W.cell? (a.add (i * 4)) = some (.string x.w) ∧ W.cell? (a.add (i * 4 + 1)) = some (.string x.u) ∧ W.cell? (a.add (i * 4 + 2)) = some (.int .i64 x.f) ∧ W.cell? (a.add (i * 4 + 3)) = some (.int .i64 x.t) ∧ x.w.size ≤ maxLen ∧ x.u.size ≤ maxLen ∧ I64 x.f ∧ I64 x.t := fun i hi => by
      obtain ⟨v0, v1, v2, v3, y0, y1, y2, y3, n, k0, k1, k2, k3, g0, g1, g2, g3⟩ := hx i hi
      rw [t0] at g0
      rw [t1] at g1
      rw [t2] at g2
      rw [t3] at g3
      obtain ⟨z0, e0, _, w0⟩ := DataW.trod_string Tryz.underlying9 g0
      obtain ⟨z1, e1, _, w1⟩ := DataW.trod_string Tryz.underlying9 g1
      obtain ⟨z2, e2, _, w2⟩ := DataW.trod_int Tryz.underlying3 g2
      obtain ⟨z3, e3, _, w3⟩ := DataW.trod_int Tryz.underlying3 g3
      simp at e0 e1 e2 e3
      exact ⟨⟨z0, z1, z2, z3⟩, by rw [k0, e0], by rw [k1, e1], by rw [k2, e2], by rw [k3, e3], w0, w1, wf64 w2, wf64 w3⟩
    have some_x : ∃ f : Nat → EnM, ∀ i, i < len → W.cell? (a.add (i * 4)) = some (.string (f i).w) ∧ W.cell? (a.add (i * 4 + 1)) = some (.string (f i).u) ∧ W.cell? (a.add (i * 4 + 2)) = some (.int .i64 (f i).f) ∧ W.cell? (a.add (i * 4 + 3)) = some (.int .i64 (f i).t) ∧ (f i).w.size ≤ maxLen ∧ (f i).u.size ≤ maxLen ∧ I64 (f i).f ∧ I64 (f i).t := by
      refine ⟨fun i => if h : i < len then (each i h).choose else ⟨ByteArray.empty, ByteArray.empty, 0, 0⟩, fun i hi => ?_⟩
      simp only [hi, ↓reduceDIte]
      exact (each i hi).choose_spec
    obtain ⟨f, hf2⟩ := some_x
    have hlen : ((List.range len).map f).length = len := by simp
    refine ⟨some a, cap, (List.range len).map f, by rw [hlen], fun k hk => ?_, fun x hxm => ?_, by omega, hm, fun h => by cases h⟩
    · rw [hlen] at hk
      obtain ⟨b, off, spot⟩ := a
      have h0 := (hf2 0 (by omega)).1
      have hspot : spot = none := by simpa [Addr.add] using World.cell?_spot h0
      subst hspot
      obtain ⟨g0, g1, g2, g3, _⟩ := hf2 k (by omega)
      rw [Go.WideShapes.add_plain] at g0 g1 g2 g3
      simp only [List.getElem_map, List.getElem_range]
      exact ⟨b, off, rfl, World.block_lt_of_cell? W ⟨b, off + k * 4, none⟩ g0, g0, g1, g2, g3⟩
    · obtain ⟨i, hi, rfl⟩ := List.mem_map.1 hxm
      exact (hf2 i (by have := List.mem_range.1 hi; omega)).2.2.2.2
end Go.Proofs.YtjhdhfokhkcamaaGreat
namespace Go.Proofs.YtjhdhfokhkcamaaGreat
open Go.RowKit
set_option linter.unusedVariables false
set_option maxRecDepth 100000
set_option maxRecDepth 100000
theorem e_news (a : Option Addr) (c : Nat) (l : List EnM) (W : World) (h : EnSl W a l) (hl : l.length ≤ 1000) : Calls Tryz.prog 41 #[.slice a l.length c] W fun e w' => ∃ x q, e = .returned (.slice x l.length q) ∧ l.length ≤ q ∧ q ≤ maxLen ∧ (x = none → q = 0) ∧ EnSl w' x l ∧ Below W.heap.size W w' := by
  refine (enews_any a c l W h (by omega)).mono ?_
  rintro e w' ⟨v, rfl, ho, hb⟩
  obtain ⟨x, q, rfl, h1, h2, h3, h4⟩ := own_en ho
  exact ⟨x, q, rfl, h1, h2, h4, h3, hb⟩
theorem e_olds (a : Option Addr) (c : Nat) (l : List EnM) (W : World) (h : EnSl W a l) (hl : l.length ≤ 1000) : Calls Tryz.prog 57 #[.slice a l.length c] W fun e w' => ∃ x q, e = .returned (.slice x l.length q) ∧ l.length ≤ q ∧ q ≤ maxLen ∧ (x = none → q = 0) ∧ EnSl w' x l ∧ Below W.heap.size W w' := by
  refine (eolds_any a c l W h (by omega)).mono ?_
  rintro e w' ⟨v, rfl, ho, hb⟩
  obtain ⟨x, q, rfl, h1, h2, h3, h4⟩ := own_en ho
  exact ⟨x, q, rfl, h1, h2, h4, h3, hb⟩
theorem e_without (a : Option Addr) (c : Nat) (l : List EnM) (s : ByteArray) (W : World) (h : EnSl W a l) (hl : l.length ≤ 1000) : Calls Tryz.prog 172 #[.slice a l.length c, .string s] W fun e w' => ∃ x q, e = .returned (.slice x (l.filter (wiE s)).length q) ∧ (l.filter (wiE s)).length ≤ q ∧ q ≤ maxLen ∧ (x = none → q = 0) ∧ EnSl w' x (l.filter (wiE s)) ∧ Below W.heap.size W w' := by
  refine (without_any a c l s W h (by omega)).mono ?_
  rintro e w' ⟨v, rfl, ho, hb⟩
  obtain ⟨x, q, rfl, h1, h2, h3, h4⟩ := own_en ho
  exact ⟨x, q, rfl, h1, h2, h4, h3, hb⟩
theorem e_rwithout (a : Option Addr) (c : Nat) (l : List EnM) (s : ByteArray) (W : World) (h : EnSl W a l) (hl : l.length ≤ 1000) : Calls Tryz.prog 51 #[.slice a l.length c, .string s] W fun e w' => ∃ x q, e = .returned (.slice x (l.filter (wiE s)).length q) ∧ (l.filter (wiE s)).length ≤ q ∧ q ≤ maxLen ∧ (x = none → q = 0) ∧ EnSl w' x (l.filter (wiE s)) ∧ Below W.heap.size W w' := by
  refine (rwithout_any a c l s W h (by omega)).mono ?_
  rintro e w' ⟨v, rfl, ho, hb⟩
  obtain ⟨x, q, rfl, h1, h2, h3, h4⟩ := own_en ho
  exact ⟨x, q, rfl, h1, h2, h4, h3, hb⟩
theorem e_after (a : Option Addr) (c : Nat) (l : List EnM) (s : Int) (W : World) (h : EnSl W a l) (hl : l.length ≤ 1000) : Calls Tryz.prog 77 #[.slice a l.length c, .int .i64 s] W fun e w' => ∃ x q, e = .returned (.slice x (l.filter (afE s)).length q) ∧ (l.filter (afE s)).length ≤ q ∧ q ≤ maxLen ∧ (x = none → q = 0) ∧ EnSl w' x (l.filter (afE s)) ∧ Below W.heap.size W w' := by
  refine (eafter_any a c l s W h (by omega)).mono ?_
  rintro e w' ⟨v, rfl, ho, hb⟩
  obtain ⟨x, q, rfl, h1, h2, h3, h4⟩ := own_en ho
  exact ⟨x, q, rfl, h1, h2, h4, h3, hb⟩
theorem e_grant (a : Option Addr) (c : Nat) (l : List EnM) (p u : ByteArray) (n : Int) (W : World) (h : EnSl W a l) (hn : a = none → c = 0) (hl : l.length ≤ 500) (hc : l.length ≤ c) (hcm : c ≤ maxLen) (hi : l.any (infE p u) = false) : Calls Tryz.prog 113 #[.slice a l.length c, .agg #[.string p, .string u], .int .i64 n] W fun e w' => ∃ x q, e = .returned (.tuple #[.slice x (grantS l (mkE p u n)).length q, .int .i64 0]) ∧ (grantS l (mkE p u n)).length ≤ q ∧ q ≤ maxLen ∧ (x = none → q = 0) ∧ EnSl w' x (grantS l (mkE p u n)) ∧ Below W.heap.size W w' := by
  refine Calls.mono (P := Tryz.prog) (grant_any a c l p u n W h hn hl hc hcm) ?_
  rintro e w' (⟨k, _, _⟩ | ⟨_, v, rfl, ho, hb⟩)
  · rw [hi] at k; cases k
  · obtain ⟨x, q, rfl, h1, h2, h3, h4⟩ := own_en ho
    exact ⟨x, q, rfl, h1, h2, h4, h3, hb⟩
theorem e_grant_no (a : Option Addr) (c : Nat) (l : List EnM) (p u : ByteArray) (n : Int) (W : World) (h : EnSl W a l) (hn : a = none → c = 0) (hl : l.length ≤ 500) (hc : l.length ≤ c) (hcm : c ≤ maxLen) (hi : l.any (infE p u) = true) : Calls Tryz.prog 113 #[.slice a l.length c, .agg #[.string p, .string u], .int .i64 n] W fun e w' => e = .returned (.tuple #[.slice none 0 0, .int .i64 90]) ∧ Below W.heap.size W w' := by
  refine Calls.mono (P := Tryz.prog) (grant_any a c l p u n W h hn hl hc hcm) ?_
  rintro e w' (⟨_, rfl, hb⟩ | ⟨k, _⟩)
  · exact ⟨rfl, hb⟩
  · rw [hi] at k; cases k
theorem e_revoke (a : Option Addr) (c : Nat) (l : List EnM) (p u : ByteArray) (n : Int) (W : World) (h : EnSl W a l) (hl : l.length ≤ 500) (hc : l.length ≤ c) (hcm : c ≤ maxLen) (hi : l.any (infE p u) = true) : Calls Tryz.prog 114 #[.slice a l.length c, .agg #[.string p, .string u], .int .i64 n] W fun e w' => ∃ x q, e = .returned (.tuple #[.slice x (revokeS l p u n).length q, .int .i64 0]) ∧ (revokeS l p u n).length ≤ q ∧ q ≤ maxLen ∧ (x = none → q = 0) ∧ EnSl w' x (revokeS l p u n) ∧ Below W.heap.size W w' := by
  refine Calls.mono (P := Tryz.prog) (revoke_any a c l p u n W h hl hc hcm) ?_
  rintro e w' (⟨k, _, _⟩ | ⟨_, v, rfl, ho, hb⟩)
  · rw [hi] at k; cases k
  · obtain ⟨x, q, rfl, h1, h2, h3, h4⟩ := own_en ho
    exact ⟨x, q, rfl, h1, h2, h4, h3, hb⟩
theorem e_revoke_no (a : Option Addr) (c : Nat) (l : List EnM) (p u : ByteArray) (n : Int) (W : World) (h : EnSl W a l) (hl : l.length ≤ 500) (hc : l.length ≤ c) (hcm : c ≤ maxLen) (hi : l.any (infE p u) = false) : Calls Tryz.prog 114 #[.slice a l.length c, .agg #[.string p, .string u], .int .i64 n] W fun e w' => e = .returned (.tuple #[.slice none 0 0, .int .i64 91]) ∧ Below W.heap.size W w' := by
  refine Calls.mono (P := Tryz.prog) (revoke_any a c l p u n W h hl hc hcm) ?_
  rintro e w' (⟨_, rfl, hb⟩ | ⟨k, _⟩)
  · exact ⟨rfl, hb⟩
  · rw [hi] at k; cases k
theorem e_rising (a : Option Addr) (c : Nat) (l : List EnM) (W : World) (h : EnSl W a l) (hs : SzE l) (hl : l.length ≤ 1000) : Calls Tryz.prog 67 #[.slice a l.length c] W fun e w' => e = .returned (.bool (decide (RiseE l))) ∧ Below W.heap.size W w' := erising_any a c l W h hs (by omega)
theorem e_rrising (a : Option Addr) (c : Nat) (l : List EnM) (W : World) (h : EnSl W a l) (hs : SzE l) (hl : l.length ≤ 1000) : Calls Tryz.prog 36 #[.slice a l.length c] W fun e w' => e = .returned (.bool (decide (RiseE l))) ∧ Below W.heap.size W w' := refERising_any a c l W h hs (by omega)
theorem e_same (a b : Option Addr) (c q : Nat) (l m : List EnM) (W : World) (ha : EnSl W a l) (hb : EnSl W b m) (hl : l.length ≤ 1000) (hm : m.length ≤ 1000) : Calls Tryz.prog 85 #[.slice a l.length c, .slice b m.length q] W fun e w' => e = .returned (.bool (decide (l = m))) ∧ Below W.heap.size W w' :=
  esame_any a b c q l m W ha hb (by unfold maxLen; omega) (by unfold maxLen; omega)
theorem e_rsame (a b : Option Addr) (c q : Nat) (l m : List EnM) (W : World) (ha : EnSl W a l) (hb : EnSl W b m) (hl : l.length ≤ 1000) (hm : m.length ≤ 1000) : Calls Tryz.prog 55 #[.slice a l.length c, .slice b m.length q] W fun e w' => e = .returned (.bool (decide (l = m))) ∧ Below W.heap.size W w' :=
  erefSame_any a b c q l m W ha hb (by unfold maxLen; omega) (by unfold maxLen; omega)
end Go.Proofs.YtjhdhfokhkcamaaGreat
namespace Go.Proofs.YtjhdhfokhkcamaaGreat
open Go.ChangeShapes Go.WideShapes Go.ChangeAt Go.RowKit
set_option linter.unusedVariables false
set_option maxRecDepth 100000
set_option maxRecDepth 100000
def FitsT (l : List StM) : Prop := ∀ s ∈ l, I64 s.f ∧ I64 s.t
theorem okWide_arr {P : Program} {w : World} {r : Reach} {base : Nat} {t e : TypeId} {n : Nat} {v : Value} (ht : P.underlying t = some (.array n e)) (h : Value.okWide P w r base t v) : ∃ cs, v = .agg cs ∧ cs.size = P.cellsOf t := by
  simp only [Value.okWide, ht] at h
  obtain ⟨cs, h1, h2, _⟩ := h
  exact ⟨cs, h1, h2⟩
section
variable {H : Type} {enc : TypeId × Value → H} {P : Program} {w : World} {base : Nat} {spare : Nat → Bool} {held : Bool}
theorem open_quads {t e : TypeId} {f0 f1 f2 f3 : Field} {fuel : Nat} {cs : List Value} {x : DataW H × List MemPlace} (ht : P.underlying t = some (.slice e)) (he : P.underlying e = some (.struct #[f0, f1, f2, f3]))
    (ce : P.cellsOf e = 4) (o0 : f0.offset = 0) (o1 : f1.offset = 1) (o2 : f2.offset = 2) (o3 : f3.offset = 3) (c0 : P.cellsOf f0.type = 1) (c1 : P.cellsOf f1.type = 1) (c2 : P.cellsOf f2.type = 1) (c3 : P.cellsOf f3.type = 1)
    (h : DataW.trod enc P w base spare held fuel t cs = some x) :
    (cs = [.slice none 0 0] ∧ x = (.nil, [])) ∨
    ∃ (a : Addr) (len cap : Nat), cs = [.slice (some a) len cap] ∧ len ≤ cap ∧ cap ≤ maxLen ∧
      ∀ i, i < len → ∃ (v0 v1 v2 v3 : Value) (y0 y1 y2 y3 : DataW H × List MemPlace) (n : Nat), w.cell? (a.add (i * 4)) = some v0 ∧ w.cell? (a.add (i * 4 + 1)) = some v1 ∧ w.cell? (a.add (i * 4 + 2)) = some v2 ∧ w.cell? (a.add (i * 4 + 3)) = some v3 ∧
        DataW.trod enc P w base spare held n f0.type [v0] = some y0 ∧ DataW.trod enc P w base spare held n f1.type [v1] = some y1 ∧ DataW.trod enc P w base spare held n f2.type [v2] = some y2 ∧ DataW.trod enc P w base spare held n f3.type [v3] = some y3 := by
  rcases Go.Deep.open_slice ht h with h0 | ⟨a, len, cap, m, n, D, Pl, rfl, hb, hl, hm, hmm, rfl, hx⟩
  · exact Or.inl h0
  right
  have hlm : len ≤ m := by rw [hmm]; split <;> omega
  refine ⟨a, len, cap, rfl, hl, hm, fun i hi => ?_⟩
  obtain ⟨cs', h1, h2⟩ := hx i (by omega)
  rw [ce] at h1
  obtain ⟨_, hlen, hcell⟩ := World.cells?_some h1
  obtain ⟨xs, k, hk, hxy, _, hxl, hf⟩ := DataW.trod_struct he h2
  match xs, hxl, cs', hlen with
  | [y0, y1, y2, y3], _, [v0, v1, v2, v3], _ =>
    have g0 := hf 0 f0 rfl
    have g1 := hf 1 f1 rfl
    have g2 := hf 2 f2 rfl
    have g3 := hf 3 f3 rfl
    simp [o0, o1, o2, o3, c0, c1, c2, c3] at g0 g1 g2 g3
    have e0 := hcell 0 (by omega)
    have e1 := hcell 1 (by omega)
    have e2 := hcell 2 (by omega)
    have e3 := hcell 3 (by omega)
    rw [Go.Deep.add_add] at e0 e1 e2 e3
    exact ⟨v0, v1, v2, v3, y0, y1, y2, y3, k, by simpa using e0, by simpa using e1, by simpa using e2, by simpa using e3, g0, g1, g2, g3⟩
end
theorem stFields : ∃ f0 f1 f2 f3 : Field, Tryz.prog.underlying 135 = some (.struct #[f0, f1, f2, f3]) ∧ f0.offset = 0 ∧ f1.offset = 1 ∧ f2.offset = 2 ∧ f3.offset = 3 ∧ f0.type = 3 ∧ f1.type = 3 ∧ f2.type = 3 ∧ f3.type = 3 := ⟨_, _, _, _, Tryz.underlying135, rfl, rfl, rfl, rfl, rfl, rfl, rfl, rfl⟩
theorem read_stays {H : Type} {enc : TypeId × Value → H} {W : World} {n : Nat} {cs : List Value} {x : DataW H × List MemPlace}
    (h : DataW.trod enc Tryz.prog W 0 (fun _ => true) true n 58 cs = some x) :
    ∃ (a : Option Addr) (c : Nat) (l : List StM), cs = [.slice a l.length c] ∧ StSl W a l ∧ FitsT l ∧ l.length ≤ c ∧ c ≤ maxLen ∧ (a = none → c = 0) := by
  obtain ⟨f0, f1, f2, f3, he, o0, o1, o2, o3, t0, t1, t2, t3⟩ := stFields
  have ci : Tryz.prog.cellsOf 3 = 1 := by kernel_rfl
  rcases open_quads Tryz.underlying58 he (by kernel_rfl) o0 o1 o2 o3 (by rw [t0]; exact ci) (by rw [t1]; exact ci) (by rw [t2]; exact ci) (by rw [t3]; exact ci) h with ⟨rfl, _⟩ | ⟨a, len, cap, rfl, hl, hm, hx⟩
  · exact ⟨none, 0, [], rfl, StSl.nil _ _, (fun s hs => by cases hs), by simp, by decide, fun _ => rfl⟩
  · have each : ∀ i, i < len → ∃ x : StM, W.cell? (a.add (i * 4)) = some (.int .i64 x.f) ∧ W.cell? (a.add (i * 4 + 1)) = some (.int .i64 x.t) ∧ W.cell? (a.add (i * 4 + 2)) = some (.int .i64 x.n) ∧ W.cell? (a.add (i * 4 + 3)) = some (.int .i64 x.s) ∧ I64 x.f ∧ I64 x.t := fun i hi => by
      obtain ⟨v0, v1, v2, v3, y0, y1, y2, y3, n, k0, k1, k2, k3, g0, g1, g2, g3⟩ := hx i hi
      rw [t0] at g0
      rw [t1] at g1
      rw [t2] at g2
      rw [t3] at g3
      obtain ⟨z0, e0, _, w0⟩ := DataW.trod_int Tryz.underlying3 g0
      obtain ⟨z1, e1, _, w1⟩ := DataW.trod_int Tryz.underlying3 g1
      obtain ⟨z2, e2, _, w2⟩ := DataW.trod_int Tryz.underlying3 g2
      obtain ⟨z3, e3, _, w3⟩ := DataW.trod_int Tryz.underlying3 g3
      simp at e0 e1 e2 e3
      exact ⟨⟨z0, z1, z2, z3⟩, by rw [k0, e0], by rw [k1, e1], by rw [k2, e2], by rw [k3, e3], wf64 w0, wf64 w1⟩
    have some_x : ∃ f : Nat → StM, ∀ i, i < len → W.cell? (a.add (i * 4)) = some (.int .i64 (f i).f) ∧ W.cell? (a.add (i * 4 + 1)) = some (.int .i64 (f i).t) ∧ W.cell? (a.add (i * 4 + 2)) = some (.int .i64 (f i).n) ∧ W.cell? (a.add (i * 4 + 3)) = some (.int .i64 (f i).s) ∧ I64 (f i).f ∧ I64 (f i).t := by
      refine ⟨fun i => if h : i < len then (each i h).choose else ⟨0, 0, 0, 0⟩, fun i hi => ?_⟩
      simp only [hi, ↓reduceDIte]
      exact (each i hi).choose_spec
    obtain ⟨f, hf2⟩ := some_x
    have hlen : ((List.range len).map f).length = len := by simp
    refine ⟨some a, cap, (List.range len).map f, by rw [hlen], fun k hk => ?_, fun x hxm => ?_, by omega, hm, fun h => by cases h⟩
    · rw [hlen] at hk
      obtain ⟨b, off, spot⟩ := a
      have h0 := (hf2 0 (by omega)).1
      have hspot : spot = none := by simpa [Addr.add] using World.cell?_spot h0
      subst hspot
      obtain ⟨g0, g1, g2, g3, _⟩ := hf2 k (by omega)
      rw [Go.WideShapes.add_plain] at g0 g1 g2 g3
      simp only [List.getElem_map, List.getElem_range]
      exact ⟨b, off, rfl, World.block_lt_of_cell? W ⟨b, off + k * 4, none⟩ g0, g0, g1, g2, g3⟩
    · obtain ⟨i, hi, rfl⟩ := List.mem_map.1 hxm
      exact (hf2 i (by have := List.mem_range.1 hi; omega)).2.2.2.2
end Go.Proofs.YtjhdhfokhkcamaaGreat
