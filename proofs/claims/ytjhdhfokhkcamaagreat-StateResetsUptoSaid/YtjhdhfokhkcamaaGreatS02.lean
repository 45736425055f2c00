/- Texts of mine, one behind the other, of each what is wanted. -/
import Derived.Test.YtjhdhfokhkcamaaGreatS00
namespace Go.Proofs.YtjhdhfokhkcamaaGreat
set_option linter.unusedVariables false
set_option maxRecDepth 100000
structure StM where
 f : Int
 t : Int
 n : Int
 s : Int
instance : Inhabited StM := ⟨⟨0, 0, 0, 0⟩⟩
theorem StM.same {a b : StM} (h1 : a.f = b.f) (h2 : a.t = b.t) (h3 : a.n = b.n) (h4 : a.s = b.s) : a = b := by
 obtain ⟨_, _, _, _⟩ := a
 obtain ⟨_, _, _, _⟩ := b
 simp only at h1 h2 h3 h4
 rw [h1, h2, h3, h4]
theorem StM.iff {a b : StM} : a = b ↔ a.f = b.f ∧ a.t = b.t ∧ a.n = b.n ∧ a.s = b.s := ⟨fun h => by rw [h]; exact ⟨rfl, rfl, rfl, rfl⟩, fun h => StM.same h.1 h.2.1 h.2.2.1 h.2.2.2⟩
instance stDec : DecidableEq StM := fun a b => decidable_of_iff (a.f = b.f ∧ a.t = b.t ∧ a.n = b.n ∧ a.s = b.s) StM.iff.symm
def ltSt (a b : StM) : Prop := a.f < b.f ∨ (a.f = b.f ∧ (a.t < b.t ∨ (a.t = b.t ∧ (a.n < b.n ∨ (a.n = b.n ∧ a.s < b.s)))))
instance ltStDec (a b : StM) : Decidable (ltSt a b) := by unfold ltSt; infer_instance
theorem ltSt_irrefl (a : StM) : ¬ ltSt a a := by unfold ltSt; omega
theorem ltSt_trans {a b c : StM} (h : ltSt a b) (k : ltSt b c) : ltSt a c := by unfold ltSt at *; omega
theorem ltSt_asymm {a b : StM} (h : ltSt a b) : ¬ ltSt b a := by unfold ltSt at *; omega
theorem ltSt_tri {a b : StM} (h : ¬ ltSt a b) (k : ¬ ltSt b a) : a = b := by
 unfold ltSt at *
 exact StM.same (by omega) (by omega) (by omega) (by omega)
theorem leSt_trans {a b c : StM} (h : ¬ ltSt b a) (k : ¬ ltSt c b) : ¬ ltSt c a := by unfold ltSt at *; omega
theorem ltSt_of_le {a b : StM} (h : ¬ ltSt b a) (k : a ≠ b) : ltSt a b := by
 by_cases h1 : ltSt a b
 ·exact h1
 ·exact absurd (ltSt_tri h1 h) k
def cmpSt (a b : StM) : Int := if ltSt a b then -1 else if ltSt b a then 1 else 0
def SortedS (l : List StM) : Prop := l.Pairwise (fun a b => ¬ ltSt b a)
theorem sorted_only {a b : List StM} (ha : SortedS a) (hb : SortedS b) (h : a.Perm b) : a = b :=
 h.eq_of_pairwise (fun x y _ _ h1 h2 => ltSt_tri h2 h1) ha hb
def RiseS (l : List StM) : Prop := ∀ k (h : k < l.length), l[k].f < l[k].t ∧ (0 < k → ltSt (l[k - 1]'(by omega)) l[k])
instance riseDec (l : List StM) : Decidable (RiseS l) := by unfold RiseS; infer_instance
theorem rise_iff {l : List StM} : RiseS l ↔ (∀ s ∈ l, s.f < s.t) ∧ l.Pairwise ltSt := by
 constructor
 ·intro h
  refine ⟨fun s hs => ?_, ?_⟩
  ·obtain ⟨k, hk, rfl⟩ := List.getElem_of_mem hs
   exact (h k hk).1
  ·rw [List.pairwise_iff_getElem]
   intro i j hi hj hij
   induction j with
   | zero => omega
   | succ j ih =>
    have h1 := (h (j + 1) hj).2 (by omega)
    rcases Nat.lt_or_ge i j with h2 | h2
    ·exact ltSt_trans (ih (by omega) h2) h1
    ·obtain rfl : i = j := by omega
     exact h1
 ·rintro ⟨h1, h2⟩ k hk
  exact ⟨h1 _ (List.getElem_mem hk), fun h0 => List.pairwise_iff_getElem.1 h2 (k - 1) k (by omega) hk (by omega)⟩
theorem rise_sorted {l : List StM} (h : RiseS l) : SortedS l := (rise_iff.1 h).2.imp ltSt_asymm
structure IsPos (l : List StM) (s : StM) (k : Nat) : Prop where
 le : k ≤ l.length
 up : ∀ j (h : j < l.length), k ≤ j → ltSt s l[j]
 low : ∀ (h : 0 < k) (h1 : k - 1 < l.length), ¬ ltSt s l[k - 1]
theorem IsPos.only {l : List StM} {s : StM} {a b : Nat} (ha : IsPos l s a) (hb : IsPos l s b) : a = b := by
 have h1 := ha.le
 have h2 := hb.le
 rcases Nat.lt_trichotomy a b with h | h | h
 ·exact absurd (ha.up (b - 1) (by omega) (by omega)) (hb.low (by omega) (by omega))
 ·exact h
 ·exact absurd (hb.up (a - 1) (by omega) (by omega)) (ha.low (by omega) (by omega))
def posS : List StM → StM → Nat
 | [], _ => 0
 | x :: l, s => if posS l s = 0 then (if ltSt s x then 0 else 1) else posS l s + 1
theorem get_pred {l : List StM} {x : StM} {q : Nat} (h0 : ¬ q = 0) (hq : q ≤ l.length) (h1 : q + 1 - 1 < (x :: l).length) : (x :: l)[q + 1 - 1] = l[q - 1]'(by omega) := by
 obtain ⟨p, rfl⟩ : ∃ p, q = p + 1 := ⟨q - 1, by omega⟩
 rfl
theorem posS_is (s : StM) : ∀ l : List StM, IsPos l s (posS l s)
 | [] => ⟨Nat.le_refl _, fun j h => absurd h (by simp), fun h => absurd h (by simp [posS])⟩
 | x :: l => by
  have ih := posS_is s l
  unfold posS
  by_cases h0 : posS l s = 0
  ·rw [if_pos h0]
   by_cases h1 : ltSt s x
   ·rw [if_pos h1]
    refine ⟨Nat.zero_le _, fun j h _ => ?_, fun h => absurd h (by omega)⟩
    cases j with
    | zero => exact h1
    | succ j => exact ih.up j (by simpa using h) (by omega)
   ·rw [if_neg h1]
    refine ⟨by simp, fun j h hj => ?_, fun _ _ => h1⟩
    cases j with
    | zero => omega
    | succ j => exact ih.up j (by simpa using h) (by omega)
  ·rw [if_neg h0]
   refine ⟨by have := ih.le; simp; omega, fun j h hj => ?_, fun _ h1 => ?_⟩
   ·cases j with
    | zero => omega
    | succ j => exact ih.up j (by simpa using h) (by omega)
   ·have h3 := ih.le
    have h2 := ih.low (by omega) (by omega)
    rw [get_pred h0 h3]
    exact h2
theorem posS_eq {l : List StM} {s : StM} {k : Nat} (h : IsPos l s k) : k = posS l s := h.only (posS_is s l)
def putS (l : List StM) (s : StM) : List StM := l.take (posS l s) ++ s :: l.drop (posS l s)
def addS (l : List StM) (s : StM) : List StM := if s.t ≤ s.f then l else putS l s
theorem putS_at {l : List StM} {s : StM} {k : Nat} (h : IsPos l s k) : putS l s = l.take k ++ s :: l.drop k := by unfold putS; rw [← posS_eq h]
theorem putS_len (l : List StM) (s : StM) : (putS l s).length = l.length + 1 := by
 have := (posS_is s l).le
 simp [putS]; omega
theorem addS_len (l : List StM) (s : StM) : (addS l s).length ≤ l.length + 1 := by
 unfold addS
 split
 ·omega
 ·rw [putS_len]; omega
theorem putS_perm (l : List StM) (s : StM) : (putS l s).Perm (s :: l) := by
 have h : (l.take (posS l s) ++ s :: l.drop (posS l s)).Perm (s :: (l.take (posS l s) ++ l.drop (posS l s))) := List.perm_middle
 rw [List.take_append_drop] at h
 exact h
theorem mem_take_get {α : Type} {l : List α} {k : Nat} {x : α} (h : x ∈ l.take k) : ∃ j, ∃ hj : j < l.length, j < k ∧ l[j] = x := by
 obtain ⟨j, hj, e⟩ := List.getElem_of_mem h
 have h1 : j < k ∧ j < l.length := by simp at hj; omega
 exact ⟨j, h1.2, h1.1, by rw [← e, List.getElem_take]⟩
theorem mem_drop_get {α : Type} {l : List α} {k : Nat} {x : α} (h : x ∈ l.drop k) : ∃ j, ∃ hj : j < l.length, k ≤ j ∧ l[j] = x := by
 obtain ⟨j, hj, e⟩ := List.getElem_of_mem h
 have h1 : j < l.length - k := by simpa using hj
 exact ⟨k + j, by omega, by omega, by rw [← e, List.getElem_drop]⟩
theorem putS_sorted {l : List StM} {s : StM} (h : SortedS l) : SortedS (putS l s) := by
 have hp := posS_is s l
 unfold putS
 generalize posS l s = k at *
 have hle : ∀ x ∈ l.take k, ¬ ltSt s x := fun x hx => by
  obtain ⟨j, hj, hjk, rfl⟩ := mem_take_get hx
  have h1 := hp.le
  have h2 := hp.low (by omega) (by omega)
  rcases Nat.lt_or_ge j (k - 1) with h3 | h3
  ·exact leSt_trans (List.pairwise_iff_getElem.1 h j (k - 1) hj (by omega) h3) h2
  ·have : j = k - 1 := by omega
   subst this
   exact h2
 have hup : ∀ y ∈ l.drop k, ltSt s y := fun y hy => by
  obtain ⟨j, hj, hjk, rfl⟩ := mem_drop_get hy
  exact hp.up j hj hjk
 unfold SortedS
 rw [List.pairwise_append]
 refine ⟨h.sublist (List.take_sublist _ _), ?_, fun x hx y hy => ?_⟩
 ·rw [List.pairwise_cons]
  exact ⟨fun y hy => ltSt_asymm (hup y hy), h.sublist (List.drop_sublist _ _)⟩
 ·rcases List.mem_cons.1 hy with rfl | hy
  ·exact hle x hx
  ·exact leSt_trans (hle x hx) (ltSt_asymm (hup y hy))
theorem addS_sorted {l : List StM} {s : StM} (h : SortedS l) : SortedS (addS l s) := by
 unfold addS
 split
 ·exact h
 ·exact putS_sorted h
theorem addS_rise {l : List StM} {s : StM} (h : RiseS l) : RiseS (addS l s) ↔ s ∉ l := by
 obtain ⟨h1, h2⟩ := rise_iff.1 h
 unfold addS
 split
 ·rename_i hs
  exact ⟨fun _ hm => by have := h1 s hm; omega, fun _ => h⟩
 ·rename_i hs
  constructor
  ·intro hr hm
   have h3 := (rise_iff.1 hr).2
   have hp : (putS l s).Nodup := h3.imp (fun {a b} h e => by subst e; exact ltSt_irrefl _ h)
   have := (putS_perm l s).nodup_iff.1 hp
   rw [List.nodup_cons] at this
   exact this.1 hm
  ·intro hm
   have hsort := putS_sorted (s := s) (rise_sorted h)
   have hp := putS_perm l s
   have hnd : l.Nodup := h2.imp (fun {a b} h e => by subst e; exact ltSt_irrefl _ h)
   have hnd2 : (putS l s).Nodup := hp.nodup_iff.2 (List.nodup_cons.2 ⟨hm, hnd⟩)
   refine rise_iff.2 ⟨fun x hx => ?_, ?_⟩
   ·rcases List.mem_cons.1 (hp.mem_iff.1 hx) with rfl | hx
    ·omega
    ·exact h1 x hx
   ·exact List.Pairwise.imp (fun {a b} (hab : (¬ ltSt b a) ∧ a ≠ b) => ltSt_of_le hab.1 hab.2) (List.pairwise_and_iff.2 ⟨hsort, hnd2⟩)
def aftS (l : List StM) (t : Int) : List StM := l.filter fun s => decide (t < s.t)
end Go.Proofs.YtjhdhfokhkcamaaGreat
