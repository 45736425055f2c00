/- Texts of mine, one behind the other, of each what is wanted. -/
import Derived.Test.YtapacckmgmdnoaaGreatR00
namespace Go.Proofs.YtapacckmgmdnoaaGreat
set_option linter.unusedVariables false
set_option maxRecDepth 100000
structure SpM where
 f : Int
 t : Int
def HasL (l : List SpM) (x : Int) : Prop := ∃ s ∈ l, s.f ≤ x ∧ x < s.t
structure StM where
 f : Int
 t : Int
 n : Int
 s : Int
instance : Inhabited StM := ⟨⟨0, 0, 0, 0⟩⟩
theorem StM.same {a b : StM} (h1 : a.f = b.f) (h2 : a.t = b.t) (h3 : a.n = b.n) (h4 : a.s = b.s) : a = b := by
 obtain ⟨_, _, _, _⟩ := a
 obtain ⟨_, _, _, _⟩ := b
 simp only at h1 h2 h3 h4
 rw [h1, h2, h3, h4]
theorem StM.iff {a b : StM} : a = b ↔ a.f = b.f ∧ a.t = b.t ∧ a.n = b.n ∧ a.s = b.s := ⟨fun h => by rw [h]; exact ⟨rfl, rfl, rfl, rfl⟩, fun h => StM.same h.1 h.2.1 h.2.2.1 h.2.2.2⟩
instance stDec : DecidableEq StM := fun a b => decidable_of_iff (a.f = b.f ∧ a.t = b.t ∧ a.n = b.n ∧ a.s = b.s) StM.iff.symm
def ltSt (a b : StM) : Prop := a.f < b.f ∨ (a.f = b.f ∧ (a.t < b.t ∨ (a.t = b.t ∧ (a.n < b.n ∨ (a.n = b.n ∧ a.s < b.s)))))
instance ltStDec (a b : StM) : Decidable (ltSt a b) := by unfold ltSt; infer_instance
theorem ltSt_irrefl (a : StM) : ¬ ltSt a a := by unfold ltSt; omega
theorem ltSt_trans {a b c : StM} (h : ltSt a b) (k : ltSt b c) : ltSt a c := by unfold ltSt at *; omega
theorem ltSt_asymm {a b : StM} (h : ltSt a b) : ¬ ltSt b a := by unfold ltSt at *; omega
theorem ltSt_tri {a b : StM} (h : ¬ ltSt a b) (k : ¬ ltSt b a) : a = b := by
 unfold ltSt at *
 exact StM.same (by omega) (by omega) (by omega) (by omega)
theorem leSt_trans {a b c : StM} (h : ¬ ltSt b a) (k : ¬ ltSt c b) : ¬ ltSt c a := by unfold ltSt at *; omega
theorem ltSt_of_le {a b : StM} (h : ¬ ltSt b a) (k : a ≠ b) : ltSt a b := by
 by_cases h1 : ltSt a b
 ·exact h1
 ·exact absurd (ltSt_tri h1 h) k
def cmpSt (a b : StM) : Int := if ltSt a b then -1 else if ltSt b a then 1 else 0
def SortedS (l : List StM) : Prop := l.Pairwise (fun a b => ¬ ltSt b a)
theorem sorted_only {a b : List StM} (ha : SortedS a) (hb : SortedS b) (h : a.Perm b) : a = b :=
 h.eq_of_pairwise (fun x y _ _ h1 h2 => ltSt_tri h2 h1) ha hb
def RiseS (l : List StM) : Prop := ∀ k (h : k < l.length), l[k].f < l[k].t ∧ (0 < k → ltSt (l[k - 1]'(by omega)) l[k])
theorem rise_iff {l : List StM} : RiseS l ↔ (∀ s ∈ l, s.f < s.t) ∧ l.Pairwise ltSt := by
 constructor
 ·intro h
  refine ⟨fun s hs => ?_, ?_⟩
  ·obtain ⟨k, hk, rfl⟩ := List.getElem_of_mem hs
   exact (h k hk).1
  ·rw [List.pairwise_iff_getElem]
   intro i j hi hj hij
   induction j with
   | zero => omega
   | succ j ih =>
    have h1 := (h (j + 1) hj).2 (by omega)
    rcases Nat.lt_or_ge i j with h2 | h2
    ·exact ltSt_trans (ih (by omega) h2) h1
    ·obtain rfl : i = j := by omega
     exact h1
 ·rintro ⟨h1, h2⟩ k hk
  exact ⟨h1 _ (List.getElem_mem hk), fun h0 => List.pairwise_iff_getElem.1 h2 (k - 1) k (by omega) hk (by omega)⟩
theorem rise_sorted {l : List StM} (h : RiseS l) : SortedS l := (rise_iff.1 h).2.imp ltSt_asymm
structure IsPos (l : List StM) (s : StM) (k : Nat) : Prop where
 le : k ≤ l.length
 up : ∀ j (h : j < l.length), k ≤ j → ltSt s l[j]
 low : ∀ (h : 0 < k) (h1 : k - 1 < l.length), ¬ ltSt s l[k - 1]
theorem IsPos.only {l : List StM} {s : StM} {a b : Nat} (ha : IsPos l s a) (hb : IsPos l s b) : a = b := by
 have h1 := ha.le
 have h2 := hb.le
 rcases Nat.lt_trichotomy a b with h | h | h
 ·exact absurd (ha.up (b - 1) (by omega) (by omega)) (hb.low (by omega) (by omega))
 ·exact h
 ·exact absurd (hb.up (a - 1) (by omega) (by omega)) (ha.low (by omega) (by omega))
def posS : List StM → StM → Nat
 | [], _ => 0
 | x :: l, s => if posS l s = 0 then (if ltSt s x then 0 else 1) else posS l s + 1
theorem get_pred {l : List StM} {x : StM} {q : Nat} (h0 : ¬ q = 0) (hq : q ≤ l.length) (h1 : q + 1 - 1 < (x :: l).length) : (x :: l)[q + 1 - 1] = l[q - 1]'(by omega) := by
 obtain ⟨p, rfl⟩ : ∃ p, q = p + 1 := ⟨q - 1, by omega⟩
 rfl
theorem posS_is (s : StM) : ∀ l : List StM, IsPos l s (posS l s)
 | [] => ⟨Nat.le_refl _, fun j h => absurd h (by simp), fun h => absurd h (by simp [posS])⟩
 | x :: l => by
  have ih := posS_is s l
  unfold posS
  by_cases h0 : posS l s = 0
  ·rw [if_pos h0]
   by_cases h1 : ltSt s x
   ·rw [if_pos h1]
    refine ⟨Nat.zero_le _, fun j h _ => ?_, fun h => absurd h (by omega)⟩
    cases j with
    | zero => exact h1
    | succ j => exact ih.up j (by simpa using h) (by omega)
   ·rw [if_neg h1]
    refine ⟨by simp, fun j h hj => ?_, fun _ _ => h1⟩
    cases j with
    | zero => omega
    | succ j => exact ih.up j (by simpa using h) (by omega)
  ·rw [if_neg h0]
   refine ⟨by have := ih.le; simp; omega, fun j h hj => ?_, fun _ h1 => ?_⟩
   ·cases j with
    | zero => omega
    | succ j => exact ih.up j (by simpa using h) (by omega)
   ·have h3 := ih.le
    have h2 := ih.low (by omega) (by omega)
    rw [get_pred h0 h3]
    exact h2
theorem posS_eq {l : List StM} {s : StM} {k : Nat} (h : IsPos l s k) : k = posS l s := h.only (posS_is s l)
def putS (l : List StM) (s : StM) : List StM := l.take (posS l s) ++ s :: l.drop (posS l s)
def addS (l : List StM) (s : StM) : List StM := if s.t ≤ s.f then l else putS l s
theorem putS_at {l : List StM} {s : StM} {k : Nat} (h : IsPos l s k) : putS l s = l.take k ++ s :: l.drop k := by unfold putS; rw [← posS_eq h]
theorem putS_len (l : List StM) (s : StM) : (putS l s).length = l.length + 1 := by
 have := (posS_is s l).le
 simp [putS]; omega
theorem addS_len (l : List StM) (s : StM) : (addS l s).length ≤ l.length + 1 := by
 unfold addS
 split
 ·omega
 ·rw [putS_len]; omega
theorem putS_perm (l : List StM) (s : StM) : (putS l s).Perm (s :: l) := by
 have h : (l.take (posS l s) ++ s :: l.drop (posS l s)).Perm (s :: (l.take (posS l s) ++ l.drop (posS l s))) := List.perm_middle
 rw [List.take_append_drop] at h
 exact h
theorem mem_take_get {α : Type} {l : List α} {k : Nat} {x : α} (h : x ∈ l.take k) : ∃ j, ∃ hj : j < l.length, j < k ∧ l[j] = x := by
 obtain ⟨j, hj, e⟩ := List.getElem_of_mem h
 have h1 : j < k ∧ j < l.length := by simp at hj; omega
 exact ⟨j, h1.2, h1.1, by rw [← e, List.getElem_take]⟩
theorem mem_drop_get {α : Type} {l : List α} {k : Nat} {x : α} (h : x ∈ l.drop k) : ∃ j, ∃ hj : j < l.length, k ≤ j ∧ l[j] = x := by
 obtain ⟨j, hj, e⟩ := List.getElem_of_mem h
 have h1 : j < l.length - k := by simpa using hj
 exact ⟨k + j, by omega, by omega, by rw [← e, List.getElem_drop]⟩
theorem putS_sorted {l : List StM} {s : StM} (h : SortedS l) : SortedS (putS l s) := by
 have hp := posS_is s l
 unfold putS
 generalize posS l s = k at *
 have hle : ∀ x ∈ l.take k, ¬ ltSt s x := fun x hx => by
  obtain ⟨j, hj, hjk, rfl⟩ := mem_take_get hx
  have h1 := hp.le
  have h2 := hp.low (by omega) (by omega)
  rcases Nat.lt_or_ge j (k - 1) with h3 | h3
  ·exact leSt_trans (List.pairwise_iff_getElem.1 h j (k - 1) hj (by omega) h3) h2
  ·have : j = k - 1 := by omega
   subst this
   exact h2
 have hup : ∀ y ∈ l.drop k, ltSt s y := fun y hy => by
  obtain ⟨j, hj, hjk, rfl⟩ := mem_drop_get hy
  exact hp.up j hj hjk
 unfold SortedS
 rw [List.pairwise_append]
 refine ⟨h.sublist (List.take_sublist _ _), ?_, fun x hx y hy => ?_⟩
 ·rw [List.pairwise_cons]
  exact ⟨fun y hy => ltSt_asymm (hup y hy), h.sublist (List.drop_sublist _ _)⟩
 ·rcases List.mem_cons.1 hy with rfl | hy
  ·exact hle x hx
  ·exact leSt_trans (hle x hx) (ltSt_asymm (hup y hy))
theorem addS_sorted {l : List StM} {s : StM} (h : SortedS l) : SortedS (addS l s) := by
 unfold addS
 split
 ·exact h
 ·exact putS_sorted h
theorem addS_rise {l : List StM} {s : StM} (h : RiseS l) : RiseS (addS l s) ↔ s ∉ l := by
 obtain ⟨h1, h2⟩ := rise_iff.1 h
 unfold addS
 split
 ·rename_i hs
  exact ⟨fun _ hm => by have := h1 s hm; omega, fun _ => h⟩
 ·rename_i hs
  constructor
  ·intro hr hm
   have h3 := (rise_iff.1 hr).2
   have hp : (putS l s).Nodup := h3.imp (fun {a b} h e => by subst e; exact ltSt_irrefl _ h)
   have := (putS_perm l s).nodup_iff.1 hp
   rw [List.nodup_cons] at this
   exact this.1 hm
  ·intro hm
   have hsort := putS_sorted (s := s) (rise_sorted h)
   have hp := putS_perm l s
   have hnd : l.Nodup := h2.imp (fun {a b} h e => by subst e; exact ltSt_irrefl _ h)
   have hnd2 : (putS l s).Nodup := hp.nodup_iff.2 (List.nodup_cons.2 ⟨hm, hnd⟩)
   refine rise_iff.2 ⟨fun x hx => ?_, ?_⟩
   ·rcases List.mem_cons.1 (hp.mem_iff.1 hx) with rfl | hx
    ·omega
    ·exact h1 x hx
   ·exact List.Pairwise.imp (fun {a b} (hab : (¬ ltSt b a) ∧ a ≠ b) => ltSt_of_le hab.1 hab.2) (List.pairwise_and_iff.2 ⟨hsort, hnd2⟩)
end Go.Proofs.YtapacckmgmdnoaaGreat
namespace Go.Proofs.YtapacckmgmdnoaaGreat
open Go.Lib
set_option linter.unusedVariables false
set_option maxRecDepth 100000
theorem cb_refl : ∀ a : List UInt8, compareBytes a a = 0
 | [] => rfl
 | x :: r => by unfold compareBytes; rw [if_neg (by simp), if_neg (by simp)]; exact cb_refl r
theorem cb_eq : ∀ a b : List UInt8, compareBytes a b = 0 → a = b
 | [], [], _ => rfl
 | [], _ :: _, h => by simp [compareBytes] at h
 | _ :: _, [], h => by simp [compareBytes] at h
 | x :: r, y :: s, h => by
  unfold compareBytes at h
  split at h
  ·simp at h
  ·split at h
   ·simp at h
   ·rename_i h1 h2
    have e : x = y := by
     rw [UInt8.lt_iff_toNat_lt] at h1 h2
     exact UInt8.toNat_inj.1 (by omega)
    rw [e, cb_eq r s h]
theorem cb_neg : ∀ a b : List UInt8, compareBytes b a = - compareBytes a b
 | [], [] => rfl
 | [], _ :: _ => rfl
 | _ :: _, [] => rfl
 | x :: r, y :: s => by
  unfold compareBytes
  simp only [UInt8.lt_iff_toNat_lt]
  by_cases h1 : x.toNat < y.toNat
  ·have h2 : ¬ y.toNat < x.toNat := by omega
   simp only [h1, h2, ↓reduceIte]; rfl
  ·by_cases h2 : y.toNat < x.toNat
   ·simp only [h1, h2, ↓reduceIte]
   ·simp only [h1, h2, ↓reduceIte]; exact cb_neg r s
theorem cb_trans : ∀ a b c : List UInt8, compareBytes a b < 0 → compareBytes b c < 0 → compareBytes a c < 0
 | [], [], _, h, _ => by simp [compareBytes] at h
 | _ :: _, [], _, h, _ => by simp [compareBytes] at h
 | _, _ :: _, [], _, h => by simp [compareBytes] at h
 | [], _ :: _, _ :: _, _, _ => by simp [compareBytes]
 | x :: r, y :: s, z :: t, h1, h2 => by
  unfold compareBytes at h1 h2 ⊢
  simp only [UInt8.lt_iff_toNat_lt] at h1 h2 ⊢
  by_cases a1 : x.toNat < y.toNat
  ·by_cases a2 : y.toNat < z.toNat
   ·rw [if_pos (by omega)]; omega
   ·rw [if_neg a2] at h2
    by_cases a3 : z.toNat < y.toNat
    ·rw [if_pos a3] at h2; omega
    ·rw [if_pos (by omega)]; omega
  ·rw [if_neg a1] at h1
   by_cases a3 : y.toNat < x.toNat
   ·rw [if_pos a3] at h1; omega
   ·rw [if_neg a3] at h1
    by_cases a2 : y.toNat < z.toNat
    ·rw [if_pos (by omega)]; omega
    ·rw [if_neg a2] at h2
     by_cases a4 : z.toNat < y.toNat
     ·rw [if_pos a4] at h2; omega
     ·rw [if_neg a4] at h2
      rw [if_neg (by omega), if_neg (by omega)]
      exact cb_trans r s t h1 h2
def isB (c : UInt8) : Bool := (97 ≤ c && c ≤ 122) || (48 ≤ c && c ≤ 57)
def isName (l : List UInt8) : Bool := decide (1 ≤ l.length) && decide (l.length ≤ 12) && l.all isB
theorem isB_eq (c : UInt8) : isB c = ((decide (97 ≤ (c.toNat : Int)) && decide ((c.toNat : Int) ≤ 122)) || (decide (48 ≤ (c.toNat : Int)) && decide ((c.toNat : Int) ≤ 57))) := by
 unfold isB
 simp only [UInt8.le_iff_toNat_le]
 rw [Bool.eq_iff_iff]
 simp
 omega
theorem all_take_succ (p : UInt8 → Bool) (s : ByteArray) (k : Nat) (h : k < s.size) (h1 : (s.data.toList.take k).all p = true) (h2 : p s[k] = true) : (s.data.toList.take (k + 1)).all p = true := by
 rw [List.take_succ_eq_append_getElem (by simpa using h), List.all_append, h1]
 simp only [List.all_cons, List.all_nil, Bool.and_true, Bool.true_and]
 exact h2
theorem all_false_of (p : UInt8 → Bool) (s : ByteArray) (k : Nat) (h : k < s.size) (h2 : p s[k] = false) : s.data.toList.all p = false := by
 rw [List.all_eq_false]
 exact ⟨s[k], by simp [ByteArray.getElem_eq_getElem_data], by simp [h2]⟩
theorem isName_short (s : ByteArray) (h : s.size < 1 ∨ 12 < s.size) : isName s.data.toList = false := by
 unfold isName
 have : s.data.toList.length = s.size := by simp
 rw [this]
 rcases h with h | h
 ·simp; omega
 ·simp; omega
theorem isName_all (s : ByteArray) (h1 : 1 ≤ s.size) (h2 : s.size ≤ 12) (k : Nat) (hk : s.size ≤ k) (h : (s.data.toList.take k).all isB = true) : isName s.data.toList = true := by
 unfold isName
 rw [List.take_of_length_le (by simpa using hk)] at h
 have : s.data.toList.length = s.size := by simp
 rw [this, h]
 simp
 omega
theorem isName_not (s : ByteArray) (k : Nat) (h : k < s.size) (h2 : isB s[k] = false) : isName s.data.toList = false := by
 unfold isName
 rw [all_false_of isB s k h h2]
 simp
end Go.Proofs.YtapacckmgmdnoaaGreat
namespace Go.Proofs.YtapacckmgmdnoaaGreat
set_option linter.unusedVariables false
set_option maxRecDepth 100000
structure OpM where
 n : Int
 u : ByteArray
 s : Int
 f : Int
def opZ : OpM := ⟨0, ⟨#[]⟩, 0, 0⟩
instance : Inhabited OpM := ⟨opZ⟩
theorem OpM.same {a b : OpM} (h1 : a.n = b.n) (h2 : a.u = b.u) (h3 : a.s = b.s) (h4 : a.f = b.f) : a = b := by
 obtain ⟨_, _, _, _⟩ := a
 obtain ⟨_, _, _, _⟩ := b
 simp only at h1 h2 h3 h4
 rw [h1, h2, h3, h4]
theorem OpM.iff {a b : OpM} : a = b ↔ a.n = b.n ∧ a.u = b.u ∧ a.s = b.s ∧ a.f = b.f := ⟨fun h => by rw [h]; exact ⟨rfl, rfl, rfl, rfl⟩, fun h => OpM.same h.1 h.2.1 h.2.2.1 h.2.2.2⟩
instance opDec : DecidableEq OpM := fun a b => decidable_of_iff (a.n = b.n ∧ a.u = b.u ∧ a.s = b.s ∧ a.f = b.f) OpM.iff.symm
structure IsFst {α : Type} (p : α → Bool) (l : List α) (k : Nat) : Prop where
 le : k ≤ l.length
 low : ∀ i (h : i < l.length), i < k → p l[i] = false
 hit : ∀ (h : k < l.length), p l[k] = true
theorem fst_idx {α : Type} (p : α → Bool) (l : List α) : IsFst p l (l.findIdx p) :=
 ⟨List.findIdx_le_length, fun i h h1 => by simpa using List.not_of_lt_findIdx h1, fun h => List.findIdx_getElem (w := h)⟩
theorem IsFst.only {α : Type} {p : α → Bool} {l : List α} {a b : Nat} (ha : IsFst p l a) (hb : IsFst p l b) : a = b := by
 have h1 := ha.le
 have h2 := hb.le
 rcases Nat.lt_trichotomy a b with h | h | h
 ·have k1 := ha.hit (by omega)
  rw [hb.low a (by omega) h] at k1
  cases k1
 ·exact h
 ·have k1 := hb.hit (by omega)
  rw [ha.low b (by omega) h] at k1
  cases k1
theorem IsFst.idx {α : Type} {p : α → Bool} {l : List α} {k : Nat} (h : IsFst p l k) : l.findIdx p = k := (fst_idx p l).only h
theorem IsFst.any {α : Type} {p : α → Bool} {l : List α} {k : Nat} (h : IsFst p l k) : l.any p = decide (k < l.length) := by
 by_cases h1 : k < l.length
 ·rw [decide_eq_true h1, List.any_eq_true]
  exact ⟨_, List.getElem_mem h1, h.hit h1⟩
 ·rw [decide_eq_false h1, List.any_eq_false]
  intro x hx
  obtain ⟨i, hi, rfl⟩ := List.getElem_of_mem hx
  rw [h.low i hi (by omega)]
  exact Bool.false_ne_true
theorem IsFst.take {α : Type} {p : α → Bool} {l : List α} {k : Nat} (h : IsFst p l k) : ∀ x ∈ l.take k, p x = false := fun x hx => by
 obtain ⟨j, hj, hjk, rfl⟩ := mem_take_get hx
 exact h.low j hj hjk
def LoTo {α : Type} (p : α → Bool) (l : List α) (j : Nat) : Prop := ∀ i (h : i < l.length), i < j → p l[i] = false
theorem LoTo.zero {α : Type} (p : α → Bool) (l : List α) : LoTo p l 0 := fun i _ h => absurd h (by omega)
theorem LoTo.next {α : Type} {p : α → Bool} {l : List α} {j : Nat} (h : LoTo p l j) (hj : j < l.length) (hp : p l[j] = false) : LoTo p l (j + 1) := fun i hi hij => by
 rcases Nat.lt_or_ge i j with h1 | h1
 ·exact h i hi h1
 ·obtain rfl : i = j := by omega
  exact hp
theorem LoTo.hit {α : Type} {p : α → Bool} {l : List α} {j : Nat} (h : LoTo p l j) (hj : j < l.length) (hp : p l[j] = true) : IsFst p l j := ⟨Nat.le_of_lt hj, h, fun _ => hp⟩
theorem LoTo.miss {α : Type} {p : α → Bool} {l : List α} (h : LoTo p l l.length) : IsFst p l l.length := ⟨Nat.le_refl _, h, fun h => absurd h (by omega)⟩
def idxO {α : Type} (p : α → Bool) (l : List α) : Int := if l.findIdx p < l.length then (l.findIdx p : Nat) else -1
theorem idxO_hit {α : Type} {p : α → Bool} {l : List α} {k : Nat} (h : IsFst p l k) (hk : k < l.length) : idxO p l = k := by
 unfold idxO
 rw [h.idx, if_pos hk]
theorem idxO_miss {α : Type} {p : α → Bool} {l : List α} (h : IsFst p l l.length) : idxO p l = -1 := by
 unfold idxO
 rw [h.idx, if_neg (by omega)]
theorem idxO_any {α : Type} (p : α → Bool) (l : List α) : decide (0 ≤ idxO p l) = l.any p := by
 have h := fst_idx p l
 rw [h.any]
 by_cases h1 : l.findIdx p < l.length
 ·rw [idxO_hit h h1, decide_eq_true h1]
  exact decide_eq_true (by omega)
 ·rw [decide_eq_false h1]
  unfold idxO
  rw [if_neg h1]
  rfl
def hasN (n : Int) (e : OpM) : Bool := decide (e.n = n)
def abvN (n : Int) (e : OpM) : Bool := decide (n < e.n)
theorem hasN_iff {n : Int} {e : OpM} : hasN n e = true ↔ e.n = n := decide_eq_true_iff
theorem abvN_iff {n : Int} {e : OpM} : abvN n e = true ↔ n < e.n := decide_eq_true_iff
def openS (l : List OpM) (e : OpM) : List OpM := l.take (l.findIdx (abvN e.n)) ++ e :: l.drop (l.findIdx (abvN e.n))
def openC (l : List OpM) (e : OpM) : Int := if l.any (hasN e.n) = true then 100 else if 16 ≤ l.length then 103 else 0
def openR (l : List OpM) (e : OpM) : List OpM := if openC l e = 0 then openS l e else []
theorem open_at {l : List OpM} {e : OpM} {k : Nat} (h : IsFst (abvN e.n) l k) : openS l e = l.take k ++ e :: l.drop k := by
 unfold openS
 rw [h.idx]
theorem open_len (l : List OpM) (e : OpM) : (openS l e).length = l.length + 1 := by
 have h := (fst_idx (abvN e.n) l).le
 unfold openS
 generalize l.findIdx _ = k at *
 simp only [List.length_append, List.length_take, List.length_cons, List.length_drop]
 omega
theorem openR_len (l : List OpM) (e : OpM) : (openR l e).length ≤ l.length + 1 := by
 unfold openR
 split
 ·rw [open_len]; omega
 ·simp
def findC (l : List OpM) (n : Int) (u : ByteArray) : Int := match l.find? (hasN n) with
 | none => 101
 | some e => if e.u = u then 0 else 102
def findE (l : List OpM) (n : Int) (u : ByteArray) : OpM := match l.find? (hasN n) with
 | none => opZ
 | some e => if e.u = u then e else opZ
def findP (l : List OpM) (n : Int) (u : ByteArray) : Nat := if findC l n u = 0 then l.findIdx (hasN n) else 0
theorem find_hit {l : List OpM} {n : Int} {k : Nat} (h : IsFst (hasN n) l k) (hk : k < l.length) : l.find? (hasN n) = some l[k] := by
 rw [List.find?_eq_some_iff_getElem]
 exact ⟨h.hit hk, k, hk, rfl, fun j hj => by rw [h.low j (by omega) hj]; rfl⟩
theorem find_miss {l : List OpM} {n : Int} (h : IsFst (hasN n) l l.length) : l.find? (hasN n) = none := by
 rw [List.find?_eq_none]
 intro x hx
 obtain ⟨j, hj, rfl⟩ := List.getElem_of_mem hx
 rw [h.low j hj hj]
 exact Bool.false_ne_true
theorem fc_miss {l : List OpM} {n : Int} (h : IsFst (hasN n) l l.length) (u : ByteArray) : findC l n u = 101 ∧ findE l n u = opZ ∧ findP l n u = 0 := by
 have h1 : findC l n u = 101 := by unfold findC; rw [find_miss h]
 refine ⟨h1, by unfold findE; rw [find_miss h], ?_⟩
 unfold findP
 rw [h1, if_neg (by decide)]
theorem fc_user {l : List OpM} {n : Int} {k : Nat} (h : IsFst (hasN n) l k) (hk : k < l.length) {u : ByteArray} (hu : ¬ l[k].u = u) : findC l n u = 102 ∧ findE l n u = opZ ∧ findP l n u = 0 := by
 have h1 : findC l n u = 102 := by unfold findC; rw [find_hit h hk]; exact if_neg hu
 refine ⟨h1, by unfold findE; rw [find_hit h hk]; exact if_neg hu, ?_⟩
 unfold findP
 rw [h1, if_neg (by decide)]
theorem fc_hit {l : List OpM} {n : Int} {k : Nat} (h : IsFst (hasN n) l k) (hk : k < l.length) {u : ByteArray} (hu : l[k].u = u) : findC l n u = 0 ∧ findE l n u = l[k] ∧ findP l n u = k := by
 have h1 : findC l n u = 0 := by unfold findC; rw [find_hit h hk]; exact if_pos hu
 refine ⟨h1, by unfold findE; rw [find_hit h hk]; exact if_pos hu, ?_⟩
 unfold findP
 rw [h1, if_pos rfl, h.idx]
theorem fc_three (l : List OpM) (n : Int) (u : ByteArray) : (findC l n u = 0 ∧ ∃ k, ∃ h : k < l.length, IsFst (hasN n) l k ∧ l[k].n = n ∧ l[k].u = u ∧ findE l n u = l[k] ∧ findP l n u = k) ∨ ((findC l n u = 101 ∨ findC l n u = 102) ∧ findE l n u = opZ ∧ findP l n u = 0) := by
 have h := fst_idx (hasN n) l
 generalize l.findIdx (hasN n) = k at h
 by_cases hk : k < l.length
 ·by_cases hu : l[k].u = u
  ·obtain ⟨h1, h2, h3⟩ := fc_hit h hk hu
   exact .inl ⟨h1, k, hk, h, hasN_iff.1 (h.hit hk), hu, h2, h3⟩
  ·obtain ⟨h1, h2, h3⟩ := fc_user h hk hu
   exact .inr ⟨.inr h1, h2, h3⟩
 ·obtain rfl : k = l.length := by have := h.le; omega
  obtain ⟨h1, h2, h3⟩ := fc_miss h u
  exact .inr ⟨.inl h1, h2, h3⟩
def chgAt (l : List OpM) (k : Nat) (s f : Int) : List OpM := match l[k]? with
 | some e => l.take k ++ ⟨e.n, e.u, s, f⟩ :: l.drop (k + 1)
 | none => l
theorem chgAt_at {l : List OpM} {k : Nat} (h : k < l.length) (s f : Int) : chgAt l k s f = l.take k ++ ⟨l[k].n, l[k].u, s, f⟩ :: l.drop (k + 1) := by
 unfold chgAt
 rw [List.getElem?_eq_getElem h]
theorem chgAt_len (l : List OpM) (k : Nat) (s f : Int) : (chgAt l k s f).length = l.length := by
 by_cases h : k < l.length
 ·rw [chgAt_at h]
  simp only [List.length_append, List.length_take, List.length_cons, List.length_drop]
  omega
 ·unfold chgAt
  rw [List.getElem?_eq_none (by omega)]
def cutAt (l : List OpM) (k : Nat) : List OpM := l.take k ++ l.drop (k + 1)
theorem cutAt_len (l : List OpM) (k : Nat) : (cutAt l k).length ≤ l.length := by
 unfold cutAt
 simp only [List.length_append, List.length_take, List.length_drop]
 omega
def stayO (e : OpM) (w : Int) : StM := ⟨e.f, w, e.n, e.s⟩
def stZ : StM := ⟨0, 0, 0, 0⟩
def chgR (l : List OpM) (n : Int) (u : ByteArray) (s w : Int) : List OpM := if findC l n u = 0 then chgAt l (findP l n u) s w else []
def cloR (l : List OpM) (n : Int) (u : ByteArray) : List OpM := if findC l n u = 0 then cutAt l (findP l n u) else []
def fndS (l : List OpM) (n : Int) (u : ByteArray) (w : Int) : StM := if findC l n u = 0 then stayO (findE l n u) w else stZ
theorem chgR_len (l : List OpM) (n : Int) (u : ByteArray) (s w : Int) : (chgR l n u s w).length ≤ l.length := by
 unfold chgR
 split
 ·rw [chgAt_len]; omega
 ·simp
theorem cloR_len (l : List OpM) (n : Int) (u : ByteArray) : (cloR l n u).length ≤ l.length := by
 unfold cloR
 split
 ·exact cutAt_len _ _
 ·simp
def nameO (s : ByteArray) : Bool := isName s.data.toList
def OkO (e : OpM) : Prop := nameO e.u = true ∧ 1 ≤ e.n ∧ e.n ≤ 999 ∧ 1 ≤ e.s ∧ e.s ≤ 4 ∧ 0 ≤ e.f ∧ e.f ≤ 1099511627775
def RiseO (l : List OpM) : Prop := l.length ≤ 16 ∧ ∀ k (h : k < l.length), OkO l[k] ∧ (0 < k → (l[k - 1]'(by omega)).n < l[k].n)
theorem riseO_iff {l : List OpM} : RiseO l ↔ l.length ≤ 16 ∧ (∀ e ∈ l, OkO e) ∧ l.Pairwise (fun a b => a.n < b.n) := by
 constructor
 ·rintro ⟨h0, h⟩
  refine ⟨h0, fun s hs => ?_, ?_⟩
  ·obtain ⟨k, hk, rfl⟩ := List.getElem_of_mem hs
   exact (h k hk).1
  ·rw [List.pairwise_iff_getElem]
   intro i j hi hj hij
   induction j with
   | zero => omega
   | succ j ih =>
    have h1 := (h (j + 1) hj).2 (by omega)
    rcases Nat.lt_or_ge i j with h2 | h2
    ·exact Int.lt_trans (ih (by omega) h2) h1
    ·obtain rfl : i = j := by omega
     exact h1
 ·rintro ⟨h0, h1, h2⟩
  exact ⟨h0, fun k hk => ⟨h1 _ (List.getElem_mem hk), fun h0 => List.pairwise_iff_getElem.1 h2 (k - 1) k (by omega) hk (by omega)⟩⟩
theorem openC_ok {l : List OpM} {e : OpM} (h : openC l e = 0) : l.length < 16 ∧ ∀ x ∈ l, ¬ x.n = e.n := by
 unfold openC at h
 split at h
 ·exact absurd h (by decide)
 ·rename_i h1
  split at h
  ·exact absurd h (by decide)
  ·rename_i h2
   refine ⟨by omega, fun x hx hn => h1 ?_⟩
   rw [List.any_eq_true]
   exact ⟨x, hx, hasN_iff.2 hn⟩
theorem open_rise {l : List OpM} {e : OpM} (hc : openC l e = 0) (hl : RiseO l) (he : RiseO [e]) : RiseO (openR l e) := by
 unfold openR
 rw [if_pos hc]
 obtain ⟨hlen, hno⟩ := openC_ok hc
 obtain ⟨_, hok, hpw⟩ := riseO_iff.1 hl
 have hoe : OkO e := (riseO_iff.1 he).2.1 e (by simp)
 have hf := fst_idx (abvN e.n) l
 rw [riseO_iff, open_len]
 refine ⟨by omega, ?_, ?_⟩
 ·unfold openS
  intro x hx
  rcases List.mem_append.1 hx with h | h
  ·exact hok x (List.mem_of_mem_take h)
  ·rcases List.mem_cons.1 h with rfl | h
   ·exact hoe
   ·exact hok x (List.mem_of_mem_drop h)
 ·unfold openS
  generalize l.findIdx (abvN e.n) = k at *
  have hlow : ∀ x ∈ l.take k, x.n < e.n := fun x hx => by
   have h1 := hf.take x hx
   have h2 := hno x (List.mem_of_mem_take hx)
   have h3 : ¬ e.n < x.n := of_decide_eq_false h1
   omega
  have hup : ∀ y ∈ l.drop k, e.n < y.n := fun y hy => by
   obtain ⟨j, hj, hjk, rfl⟩ := mem_drop_get hy
   have h1 := abvN_iff.1 (hf.hit (by omega))
   rcases Nat.lt_or_ge k j with h2 | h2
   ·exact Int.lt_trans h1 (List.pairwise_iff_getElem.1 hpw k j (by omega) hj h2)
   ·obtain rfl : k = j := by omega
    exact h1
  rw [List.pairwise_append]
  refine ⟨hpw.sublist (List.take_sublist _ _), ?_, fun x hx y hy => ?_⟩
  ·rw [List.pairwise_cons]
   exact ⟨fun y hy => hup y hy, hpw.sublist (List.drop_sublist _ _)⟩
  ·rcases List.mem_cons.1 hy with rfl | hy
   ·exact hlow x hx
   ·exact Int.lt_trans (hlow x hx) (hup y hy)
def notU (u : ByteArray) (e : OpM) : Bool := decide (¬ e.u = u)
def stU (u : ByteArray) (w : Int) (e : OpM) : Bool := decide (e.u = u) && decide (e.f < w)
def rawO (l : List OpM) (u : ByteArray) (w : Int) : List StM := (l.filter (stU u w)).map fun e => stayO e w
def staysO (l : List OpM) (u : ByteArray) (w : Int) : List StM := l.foldl (fun r e => if e.u = u then addS r (stayO e w) else r) []
theorem rawO_next (l : List OpM) (u : ByteArray) (w : Int) (j : Nat) (h : j < l.length) : rawO (l.take (j + 1)) u w = if stU u w l[j] = true then rawO (l.take j) u w ++ [stayO l[j] w] else rawO (l.take j) u w := by
 unfold rawO
 rw [List.take_succ_eq_append_getElem h, List.filter_append, List.filter_cons, List.filter_nil, List.map_append]
 split
 ·rfl
 ·rw [List.map_nil, List.append_nil]
theorem rawO_len (l : List OpM) (u : ByteArray) (w : Int) : (rawO l u w).length ≤ l.length := by
 unfold rawO
 rw [List.length_map]
 exact List.length_filter_le _ _
theorem staysO_next (l : List OpM) (u : ByteArray) (w : Int) (j : Nat) (h : j < l.length) : staysO (l.take (j + 1)) u w = if l[j].u = u then addS (staysO (l.take j) u w) (stayO l[j] w) else staysO (l.take j) u w := by
 unfold staysO
 rw [List.take_succ_eq_append_getElem h, List.foldl_append]
 rfl
theorem stays_is (l : List OpM) (u : ByteArray) (w : Int) : ∀ j, j ≤ l.length → (staysO (l.take j) u w).Perm (rawO (l.take j) u w) ∧ SortedS (staysO (l.take j) u w)
 | 0, _ => by
  rw [List.take_zero]
  exact ⟨List.Perm.refl _, List.Pairwise.nil⟩
 | j + 1, h => by
  obtain ⟨h1, h2⟩ := stays_is l u w j (by omega)
  rw [staysO_next l u w j (by omega), rawO_next l u w j (by omega)]
  generalize staysO (l.take j) u w = a at *
  generalize rawO (l.take j) u w = b at *
  generalize l[j] = e at *
  by_cases hu : e.u = u
  ·rw [if_pos hu]
   by_cases hw : e.f < w
   ·have : stU u w e = true := by unfold stU; rw [decide_eq_true hu, decide_eq_true hw]; rfl
    rw [if_pos this]
    refine ⟨?_, addS_sorted h2⟩
    have h3 : addS a (stayO e w) = putS a (stayO e w) := if_neg (show ¬ w ≤ e.f by omega)
    rw [h3]
    refine (putS_perm _ _).trans ((h1.cons _).trans ?_)
    exact (List.perm_append_singleton _ _).symm
   ·have : ¬ stU u w e = true := by unfold stU; rw [decide_eq_false hw, Bool.and_false]; exact Bool.false_ne_true
    rw [if_neg this]
    have h3 : addS a (stayO e w) = a := if_pos (show w ≤ e.f by omega)
    rw [h3]
    exact ⟨h1, h2⟩
  ·have : ¬ stU u w e = true := by unfold stU; rw [decide_eq_false hu]; exact Bool.false_ne_true
   rw [if_neg hu, if_neg this]
   exact ⟨h1, h2⟩
theorem stays_only {l : List OpM} {u : ByteArray} {w : Int} {m : List StM} (hp : m.Perm (rawO l u w)) (hs : m.Pairwise fun a b => ¬ ltSt b a) : m = staysO l u w := by
 have h := stays_is l u w l.length (Nat.le_refl _)
 rw [List.take_of_length_le (Nat.le_refl _)] at h
 exact sorted_only hs h.2 (hp.trans h.1.symm)
theorem staysO_len (l : List OpM) (u : ByteArray) (w : Int) (j : Nat) : (staysO (l.take j) u w).length ≤ j := by
 rcases Nat.lt_or_ge l.length j with h | h
 ·rw [List.take_of_length_le (Nat.le_of_lt h)]
  have h1 := (stays_is l u w l.length (Nat.le_refl _)).1.length_eq
  rw [List.take_of_length_le (Nat.le_refl _)] at h1
  have := rawO_len l u w
  omega
 ·have h1 := (stays_is l u w j h).1.length_eq
  have h2 := rawO_len (l.take j) u w
  have h3 : (l.take j).length ≤ j := by simp; omega
  omega
end Go.Proofs.YtapacckmgmdnoaaGreat
namespace Go.Proofs.YtapacckmgmdnoaaGreat
open Go.RowKit
set_option linter.unusedVariables false
set_option maxRecDepth 100000
set_option maxRecDepth 100000
theorem below_one (w : World) (o : Obj) : Below w.heap.size w (w.alloc o) := (Below.refl _ _).alloc (Nat.le_refl _) _
theorem own_low {w : World} {B B' e k n : Nat} {v : Value} {xs : List Value} (h : w.ownsRow B e k v n xs) (hb : B' ≤ B) : w.ownsRow B' e k v n xs := by
 refine ⟨h.1, ?_⟩
 rcases h.2 with h0 | ⟨g, cap, cur, e0, hg, h1⟩
 ·exact .inl h0
 ·exact .inr ⟨g, cap, cur, e0, Nat.le_trans hb hg, h1⟩
end Go.Proofs.YtapacckmgmdnoaaGreat
namespace Go.Proofs.YtapacckmgmdnoaaGreat
open Go.RowKit
set_option linter.unusedVariables false
set_option maxRecDepth 100000
def putStep (s : ByteArray) (p : List ByteArray × Bool) (x : ByteArray) : List ByteArray × Bool :=
 if Lib.compareBytes s.data.toList x.data.toList == 0 then (p.1 ++ [x], true)
 else if decide (Lib.compareBytes s.data.toList x.data.toList < 0) && !p.2 then (p.1 ++ [s] ++ [x], true)
 else (p.1 ++ [x], p.2)
def putTo (l : List ByteArray) (s : ByteArray) (k : Nat) : List ByteArray × Bool := (l.take k).foldl (putStep s) ([], false)
def put (l : List ByteArray) (s : ByteArray) : List ByteArray := if (putTo l s l.length).2 then (putTo l s l.length).1 else (putTo l s l.length).1 ++ [s]
end Go.Proofs.YtapacckmgmdnoaaGreat
