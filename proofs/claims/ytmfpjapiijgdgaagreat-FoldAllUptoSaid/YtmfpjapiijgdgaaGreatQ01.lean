/- Texts of mine, one behind the other, of each what is wanted. -/
import Derived.Test.YtmfpjapiijgdgaaGreatQ00
namespace Go.Proofs.YtmfpjapiijgdgaaGreat
open Go.RowKit
set_option linter.unusedVariables false
set_option maxRecDepth 100000
theorem retB {a b : Bool} (h : a = b) : Ending.returned (.bool a) = .returned (.bool b) := by rw [h]
theorem retI {k : IntKind} {a b : Int} (h : a = b) : Ending.returned (.int k a) = .returned (.int k b) := by rw [h]
def toL (b : ByteArray) : List UInt8 := b.data.toList
def tx (l : List UInt8) : ByteArray := ⟨l.toArray⟩
theorem tx_toL (b : ByteArray) : tx (toL b) = b := by cases b; simp [toL, tx]
theorem toL_inj {a b : ByteArray} (h : toL a = toL b) : a = b := by rw [← tx_toL a, h, tx_toL]
theorem toList_tx (l : List UInt8) : (tx l).toList = l := by rw [ByteArray.toList_eq]; simp [tx]
def Sl (w : World) (a : Option Addr) (xs : List Value) : Prop :=
 ∀ k (h : k < xs.length), ∃ b off, a = some ⟨b, off, none⟩ ∧ b < w.heap.size ∧ w.cell? ⟨b, off + k, none⟩ = some xs[k]
theorem Sl.below {w w' : World} {a : Option Addr} {xs : List Value} (h : Sl w a xs) (hb : Below w.heap.size w w') : Sl w' a xs := fun k hk => by
 obtain ⟨b, off, e, hlt, hc⟩ := h k hk
 exact ⟨b, off, e, Nat.lt_of_lt_of_le hlt hb.size, (hb.cell (p := ⟨b, off + k, none⟩) hlt).trans hc⟩
theorem Sl.drewN {w : World} {a : Option Addr} {xs : List Value} (h : Sl w a xs) (n : Nat) : Sl (w.drewN n) a xs := h
theorem Sl.nil (w : World) (a : Option Addr) : Sl w a [] := fun k hk => absurd hk (by simp)
def Drew (w w' : World) : Prop := ∃ n, w' = w.drewN n
theorem Drew.below {w w' : World} (h : Drew w w') (B : Nat) : Below B w w' := by obtain ⟨n, rfl⟩ := h; exact ⟨rfl, rfl, rfl, Nat.le_refl _, fun _ _ => rfl⟩
theorem own_base {w : World} {B B' e k n : Nat} {v : Value} {xs : List Value} (h : w.ownsRow B e k v n xs) (hB : B' ≤ B) : w.ownsRow B' e k v n xs := by
 refine ⟨h.1, ?_⟩
 rcases h.2 with h | ⟨g, cap, cur, r1, r2, r3⟩
 ·exact .inl h
 ·exact .inr ⟨g, cap, cur, r1, Nat.le_trans hB r2, r3⟩
theorem sl_lit (w : World) (xs : Array Value) (t : TypeId) : Sl (w.alloc (.cells xs t)) (some ⟨w.heap.size, 0, none⟩) xs.toList := fun k hk => by
 refine ⟨_, _, rfl, by simp, ?_⟩
 rw [cell_of_row _ _ _ xs t (0, 0) (heap_alloc_new w _), Nat.zero_add]
 have : k < xs.size := by simpa using hk
 simp [Array.getElem?_eq_getElem this]
theorem Sl.cells {w : World} {ad : Addr} {xs : List Value} (h : Sl w (some ad) xs) : ∀ j u, xs[j]? = some u → w.cell? (ad.add j) = some u := fun j u hu => by
 have hj : j < xs.length := by
  rcases Nat.lt_or_ge j xs.length with h1 | h1
  ·exact h1
  ·rw [List.getElem?_eq_none h1] at hu; cases hu
 obtain ⟨b, off, e, _, hc⟩ := h j hj
 cases e
 rw [Go.WideShapes.add_plain, hc]
 rw [List.getElem?_eq_getElem hj] at hu
 exact hu
end Go.Proofs.YtmfpjapiijgdgaaGreat
namespace Go.Proofs.YtmfpjapiijgdgaaGreat
set_option linter.unusedVariables false
set_option maxRecDepth 100000
structure SpM where
 f : Int
 t : Int
def HasL (l : List SpM) (x : Int) : Prop := ∃ s ∈ l, s.f ≤ x ∧ x < s.t
structure StM where
 f : Int
 t : Int
 n : Int
 s : Int
instance : Inhabited StM := ⟨⟨0, 0, 0, 0⟩⟩
theorem StM.same {a b : StM} (h1 : a.f = b.f) (h2 : a.t = b.t) (h3 : a.n = b.n) (h4 : a.s = b.s) : a = b := by
 obtain ⟨_, _, _, _⟩ := a
 obtain ⟨_, _, _, _⟩ := b
 simp only at h1 h2 h3 h4
 rw [h1, h2, h3, h4]
theorem StM.iff {a b : StM} : a = b ↔ a.f = b.f ∧ a.t = b.t ∧ a.n = b.n ∧ a.s = b.s := ⟨fun h => by rw [h]; exact ⟨rfl, rfl, rfl, rfl⟩, fun h => StM.same h.1 h.2.1 h.2.2.1 h.2.2.2⟩
instance stDec : DecidableEq StM := fun a b => decidable_of_iff (a.f = b.f ∧ a.t = b.t ∧ a.n = b.n ∧ a.s = b.s) StM.iff.symm
def ltSt (a b : StM) : Prop := a.f < b.f ∨ (a.f = b.f ∧ (a.t < b.t ∨ (a.t = b.t ∧ (a.n < b.n ∨ (a.n = b.n ∧ a.s < b.s)))))
instance ltStDec (a b : StM) : Decidable (ltSt a b) := by unfold ltSt; infer_instance
theorem ltSt_irrefl (a : StM) : ¬ ltSt a a := by unfold ltSt; omega
theorem ltSt_trans {a b c : StM} (h : ltSt a b) (k : ltSt b c) : ltSt a c := by unfold ltSt at *; omega
theorem ltSt_asymm {a b : StM} (h : ltSt a b) : ¬ ltSt b a := by unfold ltSt at *; omega
theorem ltSt_tri {a b : StM} (h : ¬ ltSt a b) (k : ¬ ltSt b a) : a = b := by
 unfold ltSt at *
 exact StM.same (by omega) (by omega) (by omega) (by omega)
theorem leSt_trans {a b c : StM} (h : ¬ ltSt b a) (k : ¬ ltSt c b) : ¬ ltSt c a := by unfold ltSt at *; omega
theorem ltSt_of_le {a b : StM} (h : ¬ ltSt b a) (k : a ≠ b) : ltSt a b := by
 by_cases h1 : ltSt a b
 ·exact h1
 ·exact absurd (ltSt_tri h1 h) k
def cmpSt (a b : StM) : Int := if ltSt a b then -1 else if ltSt b a then 1 else 0
def SortedS (l : List StM) : Prop := l.Pairwise (fun a b => ¬ ltSt b a)
theorem sorted_only {a b : List StM} (ha : SortedS a) (hb : SortedS b) (h : a.Perm b) : a = b :=
 h.eq_of_pairwise (fun x y _ _ h1 h2 => ltSt_tri h2 h1) ha hb
def RiseS (l : List StM) : Prop := ∀ k (h : k < l.length), l[k].f < l[k].t ∧ (0 < k → ltSt (l[k - 1]'(by omega)) l[k])
theorem rise_iff {l : List StM} : RiseS l ↔ (∀ s ∈ l, s.f < s.t) ∧ l.Pairwise ltSt := by
 constructor
 ·intro h
  refine ⟨fun s hs => ?_, ?_⟩
  ·obtain ⟨k, hk, rfl⟩ := List.getElem_of_mem hs
   exact (h k hk).1
  ·rw [List.pairwise_iff_getElem]
   intro i j hi hj hij
   induction j with
   | zero => omega
   | succ j ih =>
    have h1 := (h (j + 1) hj).2 (by omega)
    rcases Nat.lt_or_ge i j with h2 | h2
    ·exact ltSt_trans (ih (by omega) h2) h1
    ·obtain rfl : i = j := by omega
     exact h1
 ·rintro ⟨h1, h2⟩ k hk
  exact ⟨h1 _ (List.getElem_mem hk), fun h0 => List.pairwise_iff_getElem.1 h2 (k - 1) k (by omega) hk (by omega)⟩
theorem rise_sorted {l : List StM} (h : RiseS l) : SortedS l := (rise_iff.1 h).2.imp ltSt_asymm
structure IsPos (l : List StM) (s : StM) (k : Nat) : Prop where
 le : k ≤ l.length
 up : ∀ j (h : j < l.length), k ≤ j → ltSt s l[j]
 low : ∀ (h : 0 < k) (h1 : k - 1 < l.length), ¬ ltSt s l[k - 1]
theorem IsPos.only {l : List StM} {s : StM} {a b : Nat} (ha : IsPos l s a) (hb : IsPos l s b) : a = b := by
 have h1 := ha.le
 have h2 := hb.le
 rcases Nat.lt_trichotomy a b with h | h | h
 ·exact absurd (ha.up (b - 1) (by omega) (by omega)) (hb.low (by omega) (by omega))
 ·exact h
 ·exact absurd (hb.up (a - 1) (by omega) (by omega)) (ha.low (by omega) (by omega))
def posS : List StM → StM → Nat
 | [], _ => 0
 | x :: l, s => if posS l s = 0 then (if ltSt s x then 0 else 1) else posS l s + 1
theorem get_pred {l : List StM} {x : StM} {q : Nat} (h0 : ¬ q = 0) (hq : q ≤ l.length) (h1 : q + 1 - 1 < (x :: l).length) : (x :: l)[q + 1 - 1] = l[q - 1]'(by omega) := by
 obtain ⟨p, rfl⟩ : ∃ p, q = p + 1 := ⟨q - 1, by omega⟩
 rfl
theorem posS_is (s : StM) : ∀ l : List StM, IsPos l s (posS l s)
 | [] => ⟨Nat.le_refl _, fun j h => absurd h (by simp), fun h => absurd h (by simp [posS])⟩
 | x :: l => by
  have ih := posS_is s l
  unfold posS
  by_cases h0 : posS l s = 0
  ·rw [if_pos h0]
   by_cases h1 : ltSt s x
   ·rw [if_pos h1]
    refine ⟨Nat.zero_le _, fun j h _ => ?_, fun h => absurd h (by omega)⟩
    cases j with
    | zero => exact h1
    | succ j => exact ih.up j (by simpa using h) (by omega)
   ·rw [if_neg h1]
    refine ⟨by simp, fun j h hj => ?_, fun _ _ => h1⟩
    cases j with
    | zero => omega
    | succ j => exact ih.up j (by simpa using h) (by omega)
  ·rw [if_neg h0]
   refine ⟨by have := ih.le; simp; omega, fun j h hj => ?_, fun _ h1 => ?_⟩
   ·cases j with
    | zero => omega
    | succ j => exact ih.up j (by simpa using h) (by omega)
   ·have h3 := ih.le
    have h2 := ih.low (by omega) (by omega)
    rw [get_pred h0 h3]
    exact h2
theorem posS_eq {l : List StM} {s : StM} {k : Nat} (h : IsPos l s k) : k = posS l s := h.only (posS_is s l)
def putS (l : List StM) (s : StM) : List StM := l.take (posS l s) ++ s :: l.drop (posS l s)
def addS (l : List StM) (s : StM) : List StM := if s.t ≤ s.f then l else putS l s
theorem putS_at {l : List StM} {s : StM} {k : Nat} (h : IsPos l s k) : putS l s = l.take k ++ s :: l.drop k := by unfold putS; rw [← posS_eq h]
theorem putS_len (l : List StM) (s : StM) : (putS l s).length = l.length + 1 := by
 have := (posS_is s l).le
 simp [putS]; omega
theorem addS_len (l : List StM) (s : StM) : (addS l s).length ≤ l.length + 1 := by
 unfold addS
 split
 ·omega
 ·rw [putS_len]; omega
theorem putS_perm (l : List StM) (s : StM) : (putS l s).Perm (s :: l) := by
 have h : (l.take (posS l s) ++ s :: l.drop (posS l s)).Perm (s :: (l.take (posS l s) ++ l.drop (posS l s))) := List.perm_middle
 rw [List.take_append_drop] at h
 exact h
theorem mem_take_get {α : Type} {l : List α} {k : Nat} {x : α} (h : x ∈ l.take k) : ∃ j, ∃ hj : j < l.length, j < k ∧ l[j] = x := by
 obtain ⟨j, hj, e⟩ := List.getElem_of_mem h
 have h1 : j < k ∧ j < l.length := by simp at hj; omega
 exact ⟨j, h1.2, h1.1, by rw [← e, List.getElem_take]⟩
theorem mem_drop_get {α : Type} {l : List α} {k : Nat} {x : α} (h : x ∈ l.drop k) : ∃ j, ∃ hj : j < l.length, k ≤ j ∧ l[j] = x := by
 obtain ⟨j, hj, e⟩ := List.getElem_of_mem h
 have h1 : j < l.length - k := by simpa using hj
 exact ⟨k + j, by omega, by omega, by rw [← e, List.getElem_drop]⟩
theorem putS_sorted {l : List StM} {s : StM} (h : SortedS l) : SortedS (putS l s) := by
 have hp := posS_is s l
 unfold putS
 generalize posS l s = k at *
 have hle : ∀ x ∈ l.take k, ¬ ltSt s x := fun x hx => by
  obtain ⟨j, hj, hjk, rfl⟩ := mem_take_get hx
  have h1 := hp.le
  have h2 := hp.low (by omega) (by omega)
  rcases Nat.lt_or_ge j (k - 1) with h3 | h3
  ·exact leSt_trans (List.pairwise_iff_getElem.1 h j (k - 1) hj (by omega) h3) h2
  ·have : j = k - 1 := by omega
   subst this
   exact h2
 have hup : ∀ y ∈ l.drop k, ltSt s y := fun y hy => by
  obtain ⟨j, hj, hjk, rfl⟩ := mem_drop_get hy
  exact hp.up j hj hjk
 unfold SortedS
 rw [List.pairwise_append]
 refine ⟨h.sublist (List.take_sublist _ _), ?_, fun x hx y hy => ?_⟩
 ·rw [List.pairwise_cons]
  exact ⟨fun y hy => ltSt_asymm (hup y hy), h.sublist (List.drop_sublist _ _)⟩
 ·rcases List.mem_cons.1 hy with rfl | hy
  ·exact hle x hx
  ·exact leSt_trans (hle x hx) (ltSt_asymm (hup y hy))
theorem addS_sorted {l : List StM} {s : StM} (h : SortedS l) : SortedS (addS l s) := by
 unfold addS
 split
 ·exact h
 ·exact putS_sorted h
theorem addS_rise {l : List StM} {s : StM} (h : RiseS l) : RiseS (addS l s) ↔ s ∉ l := by
 obtain ⟨h1, h2⟩ := rise_iff.1 h
 unfold addS
 split
 ·rename_i hs
  exact ⟨fun _ hm => by have := h1 s hm; omega, fun _ => h⟩
 ·rename_i hs
  constructor
  ·intro hr hm
   have h3 := (rise_iff.1 hr).2
   have hp : (putS l s).Nodup := h3.imp (fun {a b} h e => by subst e; exact ltSt_irrefl _ h)
   have := (putS_perm l s).nodup_iff.1 hp
   rw [List.nodup_cons] at this
   exact this.1 hm
  ·intro hm
   have hsort := putS_sorted (s := s) (rise_sorted h)
   have hp := putS_perm l s
   have hnd : l.Nodup := h2.imp (fun {a b} h e => by subst e; exact ltSt_irrefl _ h)
   have hnd2 : (putS l s).Nodup := hp.nodup_iff.2 (List.nodup_cons.2 ⟨hm, hnd⟩)
   refine rise_iff.2 ⟨fun x hx => ?_, ?_⟩
   ·rcases List.mem_cons.1 (hp.mem_iff.1 hx) with rfl | hx
    ·omega
    ·exact h1 x hx
   ·exact List.Pairwise.imp (fun {a b} (hab : (¬ ltSt b a) ∧ a ≠ b) => ltSt_of_le hab.1 hab.2) (List.pairwise_and_iff.2 ⟨hsort, hnd2⟩)
end Go.Proofs.YtmfpjapiijgdgaaGreat
namespace Go.Proofs.YtmfpjapiijgdgaaGreat
open Go.Lib
set_option linter.unusedVariables false
set_option maxRecDepth 100000
theorem cb_refl : ∀ a : List UInt8, compareBytes a a = 0
 | [] => rfl
 | x :: r => by unfold compareBytes; rw [if_neg (by simp), if_neg (by simp)]; exact cb_refl r
theorem cb_eq : ∀ a b : List UInt8, compareBytes a b = 0 → a = b
 | [], [], _ => rfl
 | [], _ :: _, h => by simp [compareBytes] at h
 | _ :: _, [], h => by simp [compareBytes] at h
 | x :: r, y :: s, h => by
  unfold compareBytes at h
  split at h
  ·simp at h
  ·split at h
   ·simp at h
   ·rename_i h1 h2
    have e : x = y := by
     rw [UInt8.lt_iff_toNat_lt] at h1 h2
     exact UInt8.toNat_inj.1 (by omega)
    rw [e, cb_eq r s h]
theorem cb_neg : ∀ a b : List UInt8, compareBytes b a = - compareBytes a b
 | [], [] => rfl
 | [], _ :: _ => rfl
 | _ :: _, [] => rfl
 | x :: r, y :: s => by
  unfold compareBytes
  simp only [UInt8.lt_iff_toNat_lt]
  by_cases h1 : x.toNat < y.toNat
  ·have h2 : ¬ y.toNat < x.toNat := by omega
   simp only [h1, h2, ↓reduceIte]; rfl
  ·by_cases h2 : y.toNat < x.toNat
   ·simp only [h1, h2, ↓reduceIte]
   ·simp only [h1, h2, ↓reduceIte]; exact cb_neg r s
theorem cb_trans : ∀ a b c : List UInt8, compareBytes a b < 0 → compareBytes b c < 0 → compareBytes a c < 0
 | [], [], _, h, _ => by simp [compareBytes] at h
 | _ :: _, [], _, h, _ => by simp [compareBytes] at h
 | _, _ :: _, [], _, h => by simp [compareBytes] at h
 | [], _ :: _, _ :: _, _, _ => by simp [compareBytes]
 | x :: r, y :: s, z :: t, h1, h2 => by
  unfold compareBytes at h1 h2 ⊢
  simp only [UInt8.lt_iff_toNat_lt] at h1 h2 ⊢
  by_cases a1 : x.toNat < y.toNat
  ·by_cases a2 : y.toNat < z.toNat
   ·rw [if_pos (by omega)]; omega
   ·rw [if_neg a2] at h2
    by_cases a3 : z.toNat < y.toNat
    ·rw [if_pos a3] at h2; omega
    ·rw [if_pos (by omega)]; omega
  ·rw [if_neg a1] at h1
   by_cases a3 : y.toNat < x.toNat
   ·rw [if_pos a3] at h1; omega
   ·rw [if_neg a3] at h1
    by_cases a2 : y.toNat < z.toNat
    ·rw [if_pos (by omega)]; omega
    ·rw [if_neg a2] at h2
     by_cases a4 : z.toNat < y.toNat
     ·rw [if_pos a4] at h2; omega
     ·rw [if_neg a4] at h2
      rw [if_neg (by omega), if_neg (by omega)]
      exact cb_trans r s t h1 h2
def isB (c : UInt8) : Bool := (97 ≤ c && c ≤ 122) || (48 ≤ c && c ≤ 57)
def isName (l : List UInt8) : Bool := decide (1 ≤ l.length) && decide (l.length ≤ 12) && l.all isB
theorem isB_eq (c : UInt8) : isB c = ((decide (97 ≤ (c.toNat : Int)) && decide ((c.toNat : Int) ≤ 122)) || (decide (48 ≤ (c.toNat : Int)) && decide ((c.toNat : Int) ≤ 57))) := by
 unfold isB
 simp only [UInt8.le_iff_toNat_le]
 rw [Bool.eq_iff_iff]
 simp
 omega
theorem all_take_succ (p : UInt8 → Bool) (s : ByteArray) (k : Nat) (h : k < s.size) (h1 : (s.data.toList.take k).all p = true) (h2 : p s[k] = true) : (s.data.toList.take (k + 1)).all p = true := by
 rw [List.take_succ_eq_append_getElem (by simpa using h), List.all_append, h1]
 simp only [List.all_cons, List.all_nil, Bool.and_true, Bool.true_and]
 exact h2
theorem all_false_of (p : UInt8 → Bool) (s : ByteArray) (k : Nat) (h : k < s.size) (h2 : p s[k] = false) : s.data.toList.all p = false := by
 rw [List.all_eq_false]
 exact ⟨s[k], by simp [ByteArray.getElem_eq_getElem_data], by simp [h2]⟩
theorem isName_short (s : ByteArray) (h : s.size < 1 ∨ 12 < s.size) : isName s.data.toList = false := by
 unfold isName
 have : s.data.toList.length = s.size := by simp
 rw [this]
 rcases h with h | h
 ·simp; omega
 ·simp; omega
theorem isName_all (s : ByteArray) (h1 : 1 ≤ s.size) (h2 : s.size ≤ 12) (k : Nat) (hk : s.size ≤ k) (h : (s.data.toList.take k).all isB = true) : isName s.data.toList = true := by
 unfold isName
 rw [List.take_of_length_le (by simpa using hk)] at h
 have : s.data.toList.length = s.size := by simp
 rw [this, h]
 simp
 omega
theorem isName_not (s : ByteArray) (k : Nat) (h : k < s.size) (h2 : isB s[k] = false) : isName s.data.toList = false := by
 unfold isName
 rw [all_false_of isB s k h h2]
 simp
end Go.Proofs.YtmfpjapiijgdgaaGreat
namespace Go.Proofs.YtmfpjapiijgdgaaGreat
set_option linter.unusedVariables false
set_option maxRecDepth 100000
structure OpM where
 n : Int
 u : ByteArray
 s : Int
 f : Int
def opZ : OpM := ⟨0, ⟨#[]⟩, 0, 0⟩
instance : Inhabited OpM := ⟨opZ⟩
structure IsFst {α : Type} (p : α → Bool) (l : List α) (k : Nat) : Prop where
 le : k ≤ l.length
 low : ∀ i (h : i < l.length), i < k → p l[i] = false
 hit : ∀ (h : k < l.length), p l[k] = true
theorem fst_idx {α : Type} (p : α → Bool) (l : List α) : IsFst p l (l.findIdx p) :=
 ⟨List.findIdx_le_length, fun i h h1 => by simpa using List.not_of_lt_findIdx h1, fun h => List.findIdx_getElem (w := h)⟩
theorem IsFst.only {α : Type} {p : α → Bool} {l : List α} {a b : Nat} (ha : IsFst p l a) (hb : IsFst p l b) : a = b := by
 have h1 := ha.le
 have h2 := hb.le
 rcases Nat.lt_trichotomy a b with h | h | h
 ·have k1 := ha.hit (by omega)
  rw [hb.low a (by omega) h] at k1
  cases k1
 ·exact h
 ·have k1 := hb.hit (by omega)
  rw [ha.low b (by omega) h] at k1
  cases k1
theorem IsFst.idx {α : Type} {p : α → Bool} {l : List α} {k : Nat} (h : IsFst p l k) : l.findIdx p = k := (fst_idx p l).only h
theorem IsFst.any {α : Type} {p : α → Bool} {l : List α} {k : Nat} (h : IsFst p l k) : l.any p = decide (k < l.length) := by
 by_cases h1 : k < l.length
 ·rw [decide_eq_true h1, List.any_eq_true]
  exact ⟨_, List.getElem_mem h1, h.hit h1⟩
 ·rw [decide_eq_false h1, List.any_eq_false]
  intro x hx
  obtain ⟨i, hi, rfl⟩ := List.getElem_of_mem hx
  rw [h.low i hi (by omega)]
  exact Bool.false_ne_true
theorem IsFst.take {α : Type} {p : α → Bool} {l : List α} {k : Nat} (h : IsFst p l k) : ∀ x ∈ l.take k, p x = false := fun x hx => by
 obtain ⟨j, hj, hjk, rfl⟩ := mem_take_get hx
 exact h.low j hj hjk
def LoTo {α : Type} (p : α → Bool) (l : List α) (j : Nat) : Prop := ∀ i (h : i < l.length), i < j → p l[i] = false
theorem LoTo.zero {α : Type} (p : α → Bool) (l : List α) : LoTo p l 0 := fun i _ h => absurd h (by omega)
theorem LoTo.next {α : Type} {p : α → Bool} {l : List α} {j : Nat} (h : LoTo p l j) (hj : j < l.length) (hp : p l[j] = false) : LoTo p l (j + 1) := fun i hi hij => by
 rcases Nat.lt_or_ge i j with h1 | h1
 ·exact h i hi h1
 ·obtain rfl : i = j := by omega
  exact hp
theorem LoTo.hit {α : Type} {p : α → Bool} {l : List α} {j : Nat} (h : LoTo p l j) (hj : j < l.length) (hp : p l[j] = true) : IsFst p l j := ⟨Nat.le_of_lt hj, h, fun _ => hp⟩
theorem LoTo.miss {α : Type} {p : α → Bool} {l : List α} (h : LoTo p l l.length) : IsFst p l l.length := ⟨Nat.le_refl _, h, fun h => absurd h (by omega)⟩
def idxO {α : Type} (p : α → Bool) (l : List α) : Int := if l.findIdx p < l.length then (l.findIdx p : Nat) else -1
theorem idxO_hit {α : Type} {p : α → Bool} {l : List α} {k : Nat} (h : IsFst p l k) (hk : k < l.length) : idxO p l = k := by
 unfold idxO
 rw [h.idx, if_pos hk]
theorem idxO_miss {α : Type} {p : α → Bool} {l : List α} (h : IsFst p l l.length) : idxO p l = -1 := by
 unfold idxO
 rw [h.idx, if_neg (by omega)]
theorem idxO_any {α : Type} (p : α → Bool) (l : List α) : decide (0 ≤ idxO p l) = l.any p := by
 have h := fst_idx p l
 rw [h.any]
 by_cases h1 : l.findIdx p < l.length
 ·rw [idxO_hit h h1, decide_eq_true h1]
  exact decide_eq_true (by omega)
 ·rw [decide_eq_false h1]
  unfold idxO
  rw [if_neg h1]
  rfl
def hasN (n : Int) (e : OpM) : Bool := decide (e.n = n)
def abvN (n : Int) (e : OpM) : Bool := decide (n < e.n)
theorem hasN_iff {n : Int} {e : OpM} : hasN n e = true ↔ e.n = n := decide_eq_true_iff
theorem abvN_iff {n : Int} {e : OpM} : abvN n e = true ↔ n < e.n := decide_eq_true_iff
def openS (l : List OpM) (e : OpM) : List OpM := l.take (l.findIdx (abvN e.n)) ++ e :: l.drop (l.findIdx (abvN e.n))
def openC (l : List OpM) (e : OpM) : Int := if l.any (hasN e.n) = true then 100 else if 16 ≤ l.length then 103 else 0
def openR (l : List OpM) (e : OpM) : List OpM := if openC l e = 0 then openS l e else []
theorem open_at {l : List OpM} {e : OpM} {k : Nat} (h : IsFst (abvN e.n) l k) : openS l e = l.take k ++ e :: l.drop k := by
 unfold openS
 rw [h.idx]
theorem open_len (l : List OpM) (e : OpM) : (openS l e).length = l.length + 1 := by
 have h := (fst_idx (abvN e.n) l).le
 unfold openS
 generalize l.findIdx _ = k at *
 simp only [List.length_append, List.length_take, List.length_cons, List.length_drop]
 omega
theorem openR_len (l : List OpM) (e : OpM) : (openR l e).length ≤ l.length + 1 := by
 unfold openR
 split
 ·rw [open_len]; omega
 ·simp
def findC (l : List OpM) (n : Int) (u : ByteArray) : Int := match l.find? (hasN n) with
 | none => 101
 | some e => if e.u = u then 0 else 102
def findE (l : List OpM) (n : Int) (u : ByteArray) : OpM := match l.find? (hasN n) with
 | none => opZ
 | some e => if e.u = u then e else opZ
def findP (l : List OpM) (n : Int) (u : ByteArray) : Nat := if findC l n u = 0 then l.findIdx (hasN n) else 0
theorem find_hit {l : List OpM} {n : Int} {k : Nat} (h : IsFst (hasN n) l k) (hk : k < l.length) : l.find? (hasN n) = some l[k] := by
 rw [List.find?_eq_some_iff_getElem]
 exact ⟨h.hit hk, k, hk, rfl, fun j hj => by rw [h.low j (by omega) hj]; rfl⟩
theorem find_miss {l : List OpM} {n : Int} (h : IsFst (hasN n) l l.length) : l.find? (hasN n) = none := by
 rw [List.find?_eq_none]
 intro x hx
 obtain ⟨j, hj, rfl⟩ := List.getElem_of_mem hx
 rw [h.low j hj hj]
 exact Bool.false_ne_true
theorem fc_miss {l : List OpM} {n : Int} (h : IsFst (hasN n) l l.length) (u : ByteArray) : findC l n u = 101 ∧ findE l n u = opZ ∧ findP l n u = 0 := by
 have h1 : findC l n u = 101 := by unfold findC; rw [find_miss h]
 refine ⟨h1, by unfold findE; rw [find_miss h], ?_⟩
 unfold findP
 rw [h1, if_neg (by decide)]
theorem fc_user {l : List OpM} {n : Int} {k : Nat} (h : IsFst (hasN n) l k) (hk : k < l.length) {u : ByteArray} (hu : ¬ l[k].u = u) : findC l n u = 102 ∧ findE l n u = opZ ∧ findP l n u = 0 := by
 have h1 : findC l n u = 102 := by unfold findC; rw [find_hit h hk]; exact if_neg hu
 refine ⟨h1, by unfold findE; rw [find_hit h hk]; exact if_neg hu, ?_⟩
 unfold findP
 rw [h1, if_neg (by decide)]
theorem fc_hit {l : List OpM} {n : Int} {k : Nat} (h : IsFst (hasN n) l k) (hk : k < l.length) {u : ByteArray} (hu : l[k].u = u) : findC l n u = 0 ∧ findE l n u = l[k] ∧ findP l n u = k := by
 have h1 : findC l n u = 0 := by unfold findC; rw [find_hit h hk]; exact if_pos hu
 refine ⟨h1, by unfold findE; rw [find_hit h hk]; exact if_pos hu, ?_⟩
 unfold findP
 rw [h1, if_pos rfl, h.idx]
theorem fc_three (l : List OpM) (n : Int) (u : ByteArray) : (findC l n u = 0 ∧ ∃ k, ∃ h : k < l.length, IsFst (hasN n) l k ∧ l[k].n = n ∧ l[k].u = u ∧ findE l n u = l[k] ∧ findP l n u = k) ∨ ((findC l n u = 101 ∨ findC l n u = 102) ∧ findE l n u = opZ ∧ findP l n u = 0) := by
 have h := fst_idx (hasN n) l
 generalize l.findIdx (hasN n) = k at h
 by_cases hk : k < l.length
 ·by_cases hu : l[k].u = u
  ·obtain ⟨h1, h2, h3⟩ := fc_hit h hk hu
   exact .inl ⟨h1, k, hk, h, hasN_iff.1 (h.hit hk), hu, h2, h3⟩
  ·obtain ⟨h1, h2, h3⟩ := fc_user h hk hu
   exact .inr ⟨.inr h1, h2, h3⟩
 ·obtain rfl : k = l.length := by have := h.le; omega
  obtain ⟨h1, h2, h3⟩ := fc_miss h u
  exact .inr ⟨.inl h1, h2, h3⟩
def chgAt (l : List OpM) (k : Nat) (s f : Int) : List OpM := match l[k]? with
 | some e => l.take k ++ ⟨e.n, e.u, s, f⟩ :: l.drop (k + 1)
 | none => l
theorem chgAt_at {l : List OpM} {k : Nat} (h : k < l.length) (s f : Int) : chgAt l k s f = l.take k ++ ⟨l[k].n, l[k].u, s, f⟩ :: l.drop (k + 1) := by
 unfold chgAt
 rw [List.getElem?_eq_getElem h]
theorem chgAt_len (l : List OpM) (k : Nat) (s f : Int) : (chgAt l k s f).length = l.length := by
 by_cases h : k < l.length
 ·rw [chgAt_at h]
  simp only [List.length_append, List.length_take, List.length_cons, List.length_drop]
  omega
 ·unfold chgAt
  rw [List.getElem?_eq_none (by omega)]
def cutAt (l : List OpM) (k : Nat) : List OpM := l.take k ++ l.drop (k + 1)
theorem cutAt_len (l : List OpM) (k : Nat) : (cutAt l k).length ≤ l.length := by
 unfold cutAt
 simp only [List.length_append, List.length_take, List.length_drop]
 omega
def stayO (e : OpM) (w : Int) : StM := ⟨e.f, w, e.n, e.s⟩
def stZ : StM := ⟨0, 0, 0, 0⟩
def chgR (l : List OpM) (n : Int) (u : ByteArray) (s w : Int) : List OpM := if findC l n u = 0 then chgAt l (findP l n u) s w else []
def cloR (l : List OpM) (n : Int) (u : ByteArray) : List OpM := if findC l n u = 0 then cutAt l (findP l n u) else []
def fndS (l : List OpM) (n : Int) (u : ByteArray) (w : Int) : StM := if findC l n u = 0 then stayO (findE l n u) w else stZ
theorem chgR_len (l : List OpM) (n : Int) (u : ByteArray) (s w : Int) : (chgR l n u s w).length ≤ l.length := by
 unfold chgR
 split
 ·rw [chgAt_len]; omega
 ·simp
theorem cloR_len (l : List OpM) (n : Int) (u : ByteArray) : (cloR l n u).length ≤ l.length := by
 unfold cloR
 split
 ·exact cutAt_len _ _
 ·simp
def nameO (s : ByteArray) : Bool := isName s.data.toList
def OkO (e : OpM) : Prop := nameO e.u = true ∧ 1 ≤ e.n ∧ e.n ≤ 999 ∧ 1 ≤ e.s ∧ e.s ≤ 4 ∧ 0 ≤ e.f ∧ e.f ≤ 1099511627775
def RiseO (l : List OpM) : Prop := l.length ≤ 16 ∧ ∀ k (h : k < l.length), OkO l[k] ∧ (0 < k → (l[k - 1]'(by omega)).n < l[k].n)
theorem riseO_iff {l : List OpM} : RiseO l ↔ l.length ≤ 16 ∧ (∀ e ∈ l, OkO e) ∧ l.Pairwise (fun a b => a.n < b.n) := by
 constructor
 ·rintro ⟨h0, h⟩
  refine ⟨h0, fun s hs => ?_, ?_⟩
  ·obtain ⟨k, hk, rfl⟩ := List.getElem_of_mem hs
   exact (h k hk).1
  ·rw [List.pairwise_iff_getElem]
   intro i j hi hj hij
   induction j with
   | zero => omega
   | succ j ih =>
    have h1 := (h (j + 1) hj).2 (by omega)
    rcases Nat.lt_or_ge i j with h2 | h2
    ·exact Int.lt_trans (ih (by omega) h2) h1
    ·obtain rfl : i = j := by omega
     exact h1
 ·rintro ⟨h0, h1, h2⟩
  exact ⟨h0, fun k hk => ⟨h1 _ (List.getElem_mem hk), fun h0 => List.pairwise_iff_getElem.1 h2 (k - 1) k (by omega) hk (by omega)⟩⟩
theorem openC_ok {l : List OpM} {e : OpM} (h : openC l e = 0) : l.length < 16 ∧ ∀ x ∈ l, ¬ x.n = e.n := by
 unfold openC at h
 split at h
 ·exact absurd h (by decide)
 ·rename_i h1
  split at h
  ·exact absurd h (by decide)
  ·rename_i h2
   refine ⟨by omega, fun x hx hn => h1 ?_⟩
   rw [List.any_eq_true]
   exact ⟨x, hx, hasN_iff.2 hn⟩
theorem open_rise {l : List OpM} {e : OpM} (hc : openC l e = 0) (hl : RiseO l) (he : RiseO [e]) : RiseO (openR l e) := by
 unfold openR
 rw [if_pos hc]
 obtain ⟨hlen, hno⟩ := openC_ok hc
 obtain ⟨_, hok, hpw⟩ := riseO_iff.1 hl
 have hoe : OkO e := (riseO_iff.1 he).2.1 e (by simp)
 have hf := fst_idx (abvN e.n) l
 rw [riseO_iff, open_len]
 refine ⟨by omega, ?_, ?_⟩
 ·unfold openS
  intro x hx
  rcases List.mem_append.1 hx with h | h
  ·exact hok x (List.mem_of_mem_take h)
  ·rcases List.mem_cons.1 h with rfl | h
   ·exact hoe
   ·exact hok x (List.mem_of_mem_drop h)
 ·unfold openS
  generalize l.findIdx (abvN e.n) = k at *
  have hlow : ∀ x ∈ l.take k, x.n < e.n := fun x hx => by
   have h1 := hf.take x hx
   have h2 := hno x (List.mem_of_mem_take hx)
   have h3 : ¬ e.n < x.n := of_decide_eq_false h1
   omega
  have hup : ∀ y ∈ l.drop k, e.n < y.n := fun y hy => by
   obtain ⟨j, hj, hjk, rfl⟩ := mem_drop_get hy
   have h1 := abvN_iff.1 (hf.hit (by omega))
   rcases Nat.lt_or_ge k j with h2 | h2
   ·exact Int.lt_trans h1 (List.pairwise_iff_getElem.1 hpw k j (by omega) hj h2)
   ·obtain rfl : k = j := by omega
    exact h1
  rw [List.pairwise_append]
  refine ⟨hpw.sublist (List.take_sublist _ _), ?_, fun x hx y hy => ?_⟩
  ·rw [List.pairwise_cons]
   exact ⟨fun y hy => hup y hy, hpw.sublist (List.drop_sublist _ _)⟩
  ·rcases List.mem_cons.1 hy with rfl | hy
   ·exact hlow x hx
   ·exact Int.lt_trans (hlow x hx) (hup y hy)
def notU (u : ByteArray) (e : OpM) : Bool := decide (¬ e.u = u)
def stU (u : ByteArray) (w : Int) (e : OpM) : Bool := decide (e.u = u) && decide (e.f < w)
def rawO (l : List OpM) (u : ByteArray) (w : Int) : List StM := (l.filter (stU u w)).map fun e => stayO e w
def staysO (l : List OpM) (u : ByteArray) (w : Int) : List StM := l.foldl (fun r e => if e.u = u then addS r (stayO e w) else r) []
theorem rawO_next (l : List OpM) (u : ByteArray) (w : Int) (j : Nat) (h : j < l.length) : rawO (l.take (j + 1)) u w = if stU u w l[j] = true then rawO (l.take j) u w ++ [stayO l[j] w] else rawO (l.take j) u w := by
 unfold rawO
 rw [List.take_succ_eq_append_getElem h, List.filter_append, List.filter_cons, List.filter_nil, List.map_append]
 split
 ·rfl
 ·rw [List.map_nil, List.append_nil]
theorem rawO_len (l : List OpM) (u : ByteArray) (w : Int) : (rawO l u w).length ≤ l.length := by
 unfold rawO
 rw [List.length_map]
 exact List.length_filter_le _ _
theorem staysO_next (l : List OpM) (u : ByteArray) (w : Int) (j : Nat) (h : j < l.length) : staysO (l.take (j + 1)) u w = if l[j].u = u then addS (staysO (l.take j) u w) (stayO l[j] w) else staysO (l.take j) u w := by
 unfold staysO
 rw [List.take_succ_eq_append_getElem h, List.foldl_append]
 rfl
theorem stays_is (l : List OpM) (u : ByteArray) (w : Int) : ∀ j, j ≤ l.length → (staysO (l.take j) u w).Perm (rawO (l.take j) u w) ∧ SortedS (staysO (l.take j) u w)
 | 0, _ => by
  rw [List.take_zero]
  exact ⟨List.Perm.refl _, List.Pairwise.nil⟩
 | j + 1, h => by
  obtain ⟨h1, h2⟩ := stays_is l u w j (by omega)
  rw [staysO_next l u w j (by omega), rawO_next l u w j (by omega)]
  generalize staysO (l.take j) u w = a at *
  generalize rawO (l.take j) u w = b at *
  generalize l[j] = e at *
  by_cases hu : e.u = u
  ·rw [if_pos hu]
   by_cases hw : e.f < w
   ·have : stU u w e = true := by unfold stU; rw [decide_eq_true hu, decide_eq_true hw]; rfl
    rw [if_pos this]
    refine ⟨?_, addS_sorted h2⟩
    have h3 : addS a (stayO e w) = putS a (stayO e w) := if_neg (show ¬ w ≤ e.f by omega)
    rw [h3]
    refine (putS_perm _ _).trans ((h1.cons _).trans ?_)
    exact (List.perm_append_singleton _ _).symm
   ·have : ¬ stU u w e = true := by unfold stU; rw [decide_eq_false hw, Bool.and_false]; exact Bool.false_ne_true
    rw [if_neg this]
    have h3 : addS a (stayO e w) = a := if_pos (show w ≤ e.f by omega)
    rw [h3]
    exact ⟨h1, h2⟩
  ·have : ¬ stU u w e = true := by unfold stU; rw [decide_eq_false hu]; exact Bool.false_ne_true
   rw [if_neg hu, if_neg this]
   exact ⟨h1, h2⟩
theorem stays_only {l : List OpM} {u : ByteArray} {w : Int} {m : List StM} (hp : m.Perm (rawO l u w)) (hs : m.Pairwise fun a b => ¬ ltSt b a) : m = staysO l u w := by
 have h := stays_is l u w l.length (Nat.le_refl _)
 rw [List.take_of_length_le (Nat.le_refl _)] at h
 exact sorted_only hs h.2 (hp.trans h.1.symm)
theorem staysO_len (l : List OpM) (u : ByteArray) (w : Int) (j : Nat) : (staysO (l.take j) u w).length ≤ j := by
 rcases Nat.lt_or_ge l.length j with h | h
 ·rw [List.take_of_length_le (Nat.le_of_lt h)]
  have h1 := (stays_is l u w l.length (Nat.le_refl _)).1.length_eq
  rw [List.take_of_length_le (Nat.le_refl _)] at h1
  have := rawO_len l u w
  omega
 ·have h1 := (stays_is l u w j h).1.length_eq
  have h2 := rawO_len (l.take j) u w
  have h3 : (l.take j).length ≤ j := by simp; omega
  omega
def cmpS (a b : ByteArray) : Int := Lib.compareBytes a.data.toList b.data.toList
def cmpP (a b c d : ByteArray) : Int := if cmpS a c = 0 then cmpS b d else cmpS a c
theorem cmpS_self (a : ByteArray) : cmpS a a = 0 := cb_refl _
theorem cmpS_eq {a b : ByteArray} : cmpS a b = 0 ↔ a = b := ⟨fun h => toL_inj (cb_eq _ _ h), fun h => by rw [h]; exact cmpS_self _⟩
theorem cmpS_neg (a b : ByteArray) : cmpS b a = - cmpS a b := cb_neg _ _
theorem cmpS_trans {a b c : ByteArray} (h : cmpS a b < 0) (k : cmpS b c < 0) : cmpS a c < 0 := cb_trans _ _ _ h k
theorem cmpP_eq {a b c d : ByteArray} : cmpP a b c d = 0 ↔ a = c ∧ b = d := by
 unfold cmpP
 by_cases h : cmpS a c = 0
 ·rw [if_pos h, cmpS_eq]
  exact ⟨fun k => ⟨cmpS_eq.1 h, k⟩, fun k => k.2⟩
 ·rw [if_neg h]
  exact ⟨fun k => absurd k h, fun k => absurd (cmpS_eq.2 k.1) h⟩
theorem cmpP_neg (a b c d : ByteArray) : cmpP c d a b = - cmpP a b c d := by
 unfold cmpP
 have h1 := cmpS_neg a c
 have h2 := cmpS_neg b d
 by_cases h : cmpS a c = 0
 ·rw [if_pos h, if_pos (by omega)]; exact h2
 ·rw [if_neg h, if_neg (by omega)]; exact h1
theorem cmpP_trans {a b c d e f : ByteArray} (h : cmpP a b c d < 0) (k : cmpP c d e f < 0) : cmpP a b e f < 0 := by
 unfold cmpP at *
 by_cases h1 : cmpS a c = 0
 ·rw [if_pos h1] at h
  obtain rfl := cmpS_eq.1 h1
  by_cases h2 : cmpS a e = 0
  ·rw [if_pos h2] at k ⊢
   exact cmpS_trans h k
  ·rw [if_neg h2] at k ⊢
   exact k
 ·rw [if_neg h1] at h
  by_cases h2 : cmpS c e = 0
  ·obtain rfl := cmpS_eq.1 h2
   rw [if_neg h1]
   exact h
  ·rw [if_neg h2] at k
   have h3 := cmpS_trans h k
   rw [if_neg (by omega)]
   exact h3
structure EnM where
 w : ByteArray
 u : ByteArray
 f : Int
 t : Int
instance : Inhabited EnM := ⟨⟨ByteArray.empty, ByteArray.empty, 0, 0⟩⟩
theorem EnM.same {a b : EnM} (h1 : a.w = b.w) (h2 : a.u = b.u) (h3 : a.f = b.f) (h4 : a.t = b.t) : a = b := by
 obtain ⟨_, _, _, _⟩ := a
 obtain ⟨_, _, _, _⟩ := b
 simp only at h1 h2 h3 h4
 rw [h1, h2, h3, h4]
theorem EnM.iff {a b : EnM} : a = b ↔ a.w = b.w ∧ a.u = b.u ∧ a.f = b.f ∧ a.t = b.t := ⟨fun h => by rw [h]; exact ⟨rfl, rfl, rfl, rfl⟩, fun h => EnM.same h.1 h.2.1 h.2.2.1 h.2.2.2⟩
instance enDec : DecidableEq EnM := fun a b => decidable_of_iff (a.w = b.w ∧ a.u = b.u ∧ a.f = b.f ∧ a.t = b.t) EnM.iff.symm
def EnM.sp (a : EnM) : SpM := ⟨a.f, a.t⟩
def pc (a b : EnM) : Int := cmpP a.w a.u b.w b.u
theorem pc_eq {a b : EnM} : pc a b = 0 ↔ a.w = b.w ∧ a.u = b.u := cmpP_eq
theorem pc_neg (a b : EnM) : pc b a = - pc a b := cmpP_neg _ _ _ _
theorem pc_trans {a b c : EnM} (h : pc a b < 0) (k : pc b c < 0) : pc a c < 0 := cmpP_trans h k
theorem pc_left {a b c : EnM} (h : pc a b = 0) : pc a c = pc b c := by
 obtain ⟨h1, h2⟩ := pc_eq.1 h
 unfold pc
 rw [h1, h2]
theorem pc_right {a b c : EnM} (h : pc b c = 0) : pc a b = pc a c := by
 obtain ⟨h1, h2⟩ := pc_eq.1 h
 unfold pc
 rw [h1, h2]
def aheadE (a b : EnM) : Prop := pc a b < 0 ∨ (pc a b = 0 ∧ a.f < b.f)
instance aheadDec (a b : EnM) : Decidable (aheadE a b) := by unfold aheadE; infer_instance
def ofE (w u : ByteArray) (e : EnM) : Bool := decide (e.w = w ∧ e.u = u)
theorem ofE_iff {w u : ByteArray} {e : EnM} : ofE w u e = true ↔ e.w = w ∧ e.u = u := decide_eq_true_iff
def infE (w u : ByteArray) (e : EnM) : Bool := ofE w u e && decide (e.t = 1099511627776)
theorem infE_iff {w u : ByteArray} {e : EnM} : infE w u e = true ↔ e.w = w ∧ e.u = u ∧ e.t = 1099511627776 := by
 unfold infE
 rw [Bool.and_eq_true, ofE_iff, decide_eq_true_iff, and_assoc]
def mkE (w u : ByteArray) (a : Int) : EnM := ⟨w, u, a, 1099511627776⟩
structure IsFirst (p : EnM → Bool) (l : List EnM) (k : Nat) : Prop where
 le : k ≤ l.length
 low : ∀ i (h : i < l.length), i < k → p l[i] = false
 hit : ∀ (h : k < l.length), p l[k] = true
theorem first_idx (p : EnM → Bool) (l : List EnM) : IsFirst p l (l.findIdx p) :=
 ⟨List.findIdx_le_length, fun i h h1 => by simpa using List.not_of_lt_findIdx h1, fun h => List.findIdx_getElem (w := h)⟩
theorem IsFirst.only {p : EnM → Bool} {l : List EnM} {a b : Nat} (ha : IsFirst p l a) (hb : IsFirst p l b) : a = b := by
 have h1 := ha.le
 have h2 := hb.le
 rcases Nat.lt_trichotomy a b with h | h | h
 ·have k1 := ha.hit (by omega)
  rw [hb.low a (by omega) h] at k1
  cases k1
 ·exact h
 ·have k1 := hb.hit (by omega)
  rw [ha.low b (by omega) h] at k1
  cases k1
theorem IsFirst.idx {p : EnM → Bool} {l : List EnM} {k : Nat} (h : IsFirst p l k) : l.findIdx p = k := (first_idx p l).only h
theorem IsFirst.any {p : EnM → Bool} {l : List EnM} {k : Nat} (h : IsFirst p l k) : l.any p = decide (k < l.length) := by
 by_cases h1 : k < l.length
 ·rw [decide_eq_true h1, List.any_eq_true]
  exact ⟨_, List.getElem_mem h1, h.hit h1⟩
 ·rw [decide_eq_false h1, List.any_eq_false]
  intro x hx
  obtain ⟨i, hi, rfl⟩ := List.getElem_of_mem hx
  rw [h.low i hi (by omega)]
  exact Bool.false_ne_true
def grantS (l : List EnM) (e : EnM) : List EnM := l.take (l.findIdx fun x => decide (aheadE e x)) ++ e :: l.drop (l.findIdx fun x => decide (aheadE e x))
def endS (e : EnM) (a : Int) : List EnM := if a ≤ e.f then [] else [⟨e.w, e.u, e.f, a⟩]
def cutS (l : List EnM) (k : Nat) (a : Int) : List EnM := match l[k]? with
 | some e => l.take k ++ (endS e a ++ l.drop (k + 1))
 | none => l
def revokeS (l : List EnM) (w u : ByteArray) (a : Int) : List EnM := cutS l (l.findIdx (infE w u)) a
theorem grant_at {l : List EnM} {e : EnM} {k : Nat} (h : IsFirst (fun x => decide (aheadE e x)) l k) : grantS l e = l.take k ++ e :: l.drop k := by
 unfold grantS
 rw [h.idx]
theorem cut_at {l : List EnM} {k : Nat} (h : k < l.length) (a : Int) : cutS l k a = l.take k ++ (endS l[k] a ++ l.drop (k + 1)) := by
 unfold cutS
 rw [List.getElem?_eq_getElem h]
theorem revoke_at {l : List EnM} {w u : ByteArray} {k : Nat} (h : IsFirst (infE w u) l k) (a : Int) : revokeS l w u a = cutS l k a := by
 unfold revokeS
 rw [h.idx]
theorem endS_len (e : EnM) (a : Int) : (endS e a).length ≤ 1 := by
 unfold endS
 split <;> simp
theorem grant_len (l : List EnM) (e : EnM) : (grantS l e).length = l.length + 1 := by
 have h := (first_idx (fun x => decide (aheadE e x)) l).le
 unfold grantS
 generalize l.findIdx _ = k at *
 simp only [List.length_append, List.length_take, List.length_cons, List.length_drop]
 omega
theorem cut_len (l : List EnM) (k : Nat) (a : Int) : (cutS l k a).length ≤ l.length := by
 by_cases h : k < l.length
 ·have h1 := endS_len l[k] a
  rw [cut_at h]
  simp only [List.length_append, List.length_take, List.length_drop]
  omega
 ·unfold cutS
  rw [List.getElem?_eq_none (by omega)]
  exact Nat.le_refl _
theorem revoke_len (l : List EnM) (w u : ByteArray) (a : Int) : (revokeS l w u a).length ≤ l.length := cut_len _ _ _
theorem split_at {l : List EnM} {k : Nat} (h : k < l.length) : l = l.take k ++ (l[k] :: l.drop (k + 1)) := by
 rw [← List.drop_eq_getElem_cons h, List.take_append_drop]
def perS (l : List EnM) (w u : ByteArray) : List SpM := (l.filter (ofE w u)).map EnM.sp
theorem per_has {l : List EnM} {w u : ByteArray} {x : Int} : HasL (perS l w u) x ↔ ∃ e ∈ l, (e.w = w ∧ e.u = u) ∧ e.f ≤ x ∧ x < e.t := by
 unfold HasL perS
 constructor
 ·rintro ⟨s, hs, h1, h2⟩
  obtain ⟨e, he, rfl⟩ := List.mem_map.1 hs
  obtain ⟨he1, he2⟩ := List.mem_filter.1 he
  exact ⟨e, he1, ofE_iff.1 he2, h1, h2⟩
 ·rintro ⟨e, he, h, h1, h2⟩
  exact ⟨e.sp, List.mem_map.2 ⟨e, List.mem_filter.2 ⟨he, ofE_iff.2 h⟩, rfl⟩, h1, h2⟩
def nameB (s : ByteArray) : Bool := isName s.data.toList
def OkE (e : EnM) : Prop := e.f < e.t ∧ nameB e.w = true ∧ nameB e.u = true
def FolE (a b : EnM) : Prop := aheadE a b ∧ (a.w = b.w ∧ a.u = b.u → a.t ≤ b.f)
def RiseE (l : List EnM) : Prop := ∀ k (h : k < l.length), OkE l[k] ∧ (0 < k → FolE (l[k - 1]'(by omega)) l[k])
def BelE (a b : EnM) : Prop := pc a b < 0 ∨ (pc a b = 0 ∧ a.t ≤ b.f)
theorem fol_bel {a b : EnM} (h : FolE a b) : BelE a b := by
 obtain ⟨h1, h2⟩ := h
 rcases h1 with h1 | ⟨h1, h3⟩
 ·exact Or.inl h1
 ·exact Or.inr ⟨h1, h2 (pc_eq.1 h1)⟩
theorem bel_fol {a b : EnM} (h : BelE a b) (ha : a.f < a.t) : FolE a b := by
 rcases h with h | ⟨h, h1⟩
 ·exact ⟨Or.inl h, fun k => by have := pc_eq.2 k; omega⟩
 ·exact ⟨Or.inr ⟨h, by omega⟩, fun _ => h1⟩
theorem bel_trans {a b c : EnM} (h : BelE a b) (k : BelE b c) (hb : b.f < b.t) : BelE a c := by
 rcases h with h | ⟨h, h1⟩
 ·rcases k with k | ⟨k, k1⟩
  ·exact Or.inl (pc_trans h k)
  ·exact Or.inl (by rw [← pc_right k]; exact h)
 ·rcases k with k | ⟨k, k1⟩
  ·exact Or.inl (by rw [pc_left h]; exact k)
  ·exact Or.inr ⟨by rw [pc_left h]; exact k, by omega⟩
theorem riseE_iff {l : List EnM} : RiseE l ↔ (∀ e ∈ l, OkE e) ∧ l.Pairwise BelE := by
 constructor
 ·intro h
  refine ⟨fun s hs => ?_, ?_⟩
  ·obtain ⟨k, hk, rfl⟩ := List.getElem_of_mem hs
   exact (h k hk).1
  ·rw [List.pairwise_iff_getElem]
   intro i j hi hj hij
   induction j with
   | zero => omega
   | succ j ih =>
    have h1 := fol_bel ((h (j + 1) hj).2 (by omega))
    rcases Nat.lt_or_ge i j with h2 | h2
    ·exact bel_trans (ih (by omega) h2) h1 (h j (by omega)).1.1
    ·obtain rfl : i = j := by omega
     exact h1
 ·rintro ⟨h1, h2⟩ k hk
  exact ⟨h1 _ (List.getElem_mem hk), fun h0 => bel_fol (List.pairwise_iff_getElem.1 h2 (k - 1) k (by omega) hk (by omega)) (h1 _ (List.getElem_mem _)).1⟩
theorem rise_filter {l : List EnM} (h : RiseE l) (p : EnM → Bool) : RiseE (l.filter p) := by
 rw [riseE_iff] at *
 exact ⟨fun e he => h.1 e (List.mem_filter.1 he).1, h.2.sublist List.filter_sublist⟩
def withoutS (l : List EnM) (s : ByteArray) : List EnM := l.filter fun e => decide (e.w ≠ s) && decide (e.u ≠ s)
theorem grant_back {l : List EnM} {w u : ByteArray} {a : Int} (h : l.any (infE w u) = false) : revokeS (grantS l (mkE w u a)) w u a = l ∧ (grantS l (mkE w u a)).any (infE w u) = true := by
 have hno : ∀ e ∈ l, infE w u e = false := fun e he => by
  have := List.any_eq_false.1 h e he
  simpa using this
 have hle := (first_idx (fun x => decide (aheadE (mkE w u a) x)) l).le
 unfold grantS
 generalize l.findIdx _ = k at *
 have hlen : (l.take k).length = k := by rw [List.length_take]; omega
 have hk : k < (l.take k ++ mkE w u a :: l.drop k).length := by rw [List.length_append, hlen, List.length_cons]; omega
 have hg : (l.take k ++ mkE w u a :: l.drop k)[k] = mkE w u a := by
  rw [List.getElem_append_right (by omega)]
  simp [hlen]
 have hF : IsFirst (infE w u) (l.take k ++ mkE w u a :: l.drop k) k := ⟨Nat.le_of_lt hk, fun i hi hik => by
  rw [List.getElem_append_left (by omega)]
  exact hno _ (List.mem_of_mem_take (List.getElem_mem _)), fun _ => by rw [hg]; exact infE_iff.2 ⟨rfl, rfl, rfl⟩⟩
 refine ⟨?_, by rw [hF.any]; exact decide_eq_true hk⟩
 rw [revoke_at hF, cut_at hk, hg]
 unfold endS
 rw [if_pos (show a ≤ (mkE w u a).f from Int.le_refl a), List.nil_append, List.take_append_of_le_length (by omega), List.take_of_length_le (by omega), List.drop_append, hlen, List.drop_of_length_le (by omega), List.nil_append, show k + 1 - k = 1 by omega, List.drop_one, List.tail_cons, List.take_append_drop]
structure GoE (m : List EnM) (a : Int) : Prop where
 rise : RiseE m
 bnd : ∀ e ∈ m, 0 ≤ e.f ∧ e.f ≤ a ∧ (e.t = 1099511627776 ∨ e.t ≤ a)
theorem GoE.nil : GoE [] 0 := ⟨fun k h => absurd h (by simp), fun e h => by cases h⟩
theorem pair_mid {A B : List EnM} {R : EnM → EnM → Prop} : (A ++ B).Pairwise R ↔ A.Pairwise R ∧ B.Pairwise R ∧ ∀ x ∈ A, ∀ y ∈ B, R x y := List.pairwise_append
theorem GoE.grant {m : List EnM} {a b : Int} {w u : ByteArray} (h : GoE m a) (ha : 0 ≤ a) (hab : a ≤ b) (hb : b < 1099511627776) (hw : nameB w = true) (hu : nameB u = true) (hi : m.any (infE w u) = false) :
  GoE (grantS m (mkE w u b)) b ∧ (∀ x, HasL (perS (grantS m (mkE w u b)) w u) x ↔ HasL (perS m w u) x ∨ (b ≤ x ∧ x < 1099511627776)) ∧ (grantS m (mkE w u b)).any (infE w u) = true := by
 have hno : ∀ e ∈ m, e.w = w ∧ e.u = u → e.t ≤ a := fun e he hp => by
  have h1 := List.any_eq_false.1 hi e he
  rcases (h.bnd e he).2.2 with h2 | h2
  ·exact absurd (infE_iff.2 ⟨hp.1, hp.2, h2⟩) h1
  ·exact h2
 have hF := first_idx (fun x => decide (aheadE (mkE w u b) x)) m
 have hB := (grant_back (a := b) hi).2
 obtain ⟨hok, hpw⟩ := riseE_iff.1 h.rise
 rw [grant_at hF] at hB ⊢
 generalize m.findIdx _ = k at *
 have hlo : ∀ x ∈ m.take k, BelE x (mkE w u b) := fun x hx => by
  have hxm := List.mem_of_mem_take hx
  obtain ⟨i, hi, rfl⟩ := List.getElem_of_mem hx
  rw [List.length_take] at hi
  rw [List.getElem_take] at *
  have h1 := hF.low i (by omega) (by omega)
  rw [decide_eq_false_iff_not] at h1
  generalize m[i] = y at *
  rcases Int.lt_trichotomy (pc y (mkE w u b)) 0 with h2 | h2 | h2
  ·exact Or.inl h2
  ·exact Or.inr ⟨h2, Int.le_trans (hno y hxm (pc_eq.1 h2)) hab⟩
  ·exact absurd (Or.inl (by have := pc_neg y (mkE w u b); omega)) h1
 have hhi : ∀ y ∈ m.drop k, BelE (mkE w u b) y := fun y hy => by
  by_cases hk : k < m.length
  ·have h1 : aheadE (mkE w u b) m[k] := of_decide_eq_true (hF.hit hk)
   have hmk := List.getElem_mem hk
   have h2 : pc (mkE w u b) m[k] < 0 := by
    rcases h1 with h1 | ⟨h1, h2⟩
    ·exact h1
    ·have h3 := (h.bnd _ hmk).2.1
     have h4 : b < m[k].f := h2
     omega
   have h5 : BelE m[k] y ∨ m[k] = y := by
    rw [List.drop_eq_getElem_cons hk] at hy
    rcases List.mem_cons.1 hy with h6 | h6
    ·exact Or.inr h6.symm
    ·left
     obtain ⟨j, hj, rfl⟩ := List.getElem_of_mem h6
     rw [List.getElem_drop]
     exact List.pairwise_iff_getElem.1 hpw k _ hk (by rw [List.length_drop] at hj; omega) (by omega)
   rcases h5 with h5 | h5
   ·exact bel_trans (Or.inl h2) h5 (hok _ hmk).1
   ·rw [← h5]; exact Or.inl h2
  ·rw [List.drop_of_length_le (by omega)] at hy; cases hy
 have hmem : ∀ e, e ∈ m.take k ++ mkE w u b :: m.drop k ↔ e ∈ m ∨ e = mkE w u b := fun e => by
  conv => rhs; rw [← List.take_append_drop k m]
  simp only [List.mem_append, List.mem_cons]
  constructor
  ·rintro (h | h | h)
   ·exact Or.inl (Or.inl h)
   ·exact Or.inr h
   ·exact Or.inl (Or.inr h)
  ·rintro ((h | h) | h)
   ·exact Or.inl h
   ·exact Or.inr (Or.inr h)
   ·exact Or.inr (Or.inl h)
 refine ⟨⟨riseE_iff.2 ⟨fun e he => ?_, ?_⟩, fun e he => ?_⟩, fun x => ?_, hB⟩
 ·rcases (hmem e).1 he with h1 | rfl
  ·exact hok e h1
  ·exact ⟨hb, hw, hu⟩
 ·rw [pair_mid, List.pairwise_cons]
  conv at hpw => rw [← List.take_append_drop k m, pair_mid]
  refine ⟨hpw.1, ⟨hhi, hpw.2.1⟩, fun x hx y hy => ?_⟩
  rcases List.mem_cons.1 hy with rfl | hy
  ·exact hlo x hx
  ·exact hpw.2.2 x hx y hy
 ·rcases (hmem e).1 he with h1 | rfl
  ·obtain ⟨h2, h3, h4⟩ := h.bnd e h1
   exact ⟨h2, by omega, by omega⟩
  ·exact ⟨by show 0 ≤ b; omega, Int.le_refl b, Or.inl rfl⟩
 ·rw [per_has, per_has]
  constructor
  ·rintro ⟨e, he, hp, h1, h2⟩
   rcases (hmem e).1 he with h3 | rfl
   ·exact Or.inl ⟨e, h3, hp, h1, h2⟩
   ·exact Or.inr ⟨h1, h2⟩
  ·rintro (⟨e, he, hp, h1⟩ | h1)
   ·exact ⟨e, (hmem e).2 (Or.inl he), hp, h1⟩
   ·exact ⟨_, (hmem _).2 (Or.inr rfl), ⟨rfl, rfl⟩, h1⟩
theorem GoE.revoke {m : List EnM} {a b : Int} {w u : ByteArray} (h : GoE m a) (ha : 0 ≤ a) (hab : a ≤ b) (hb : b < 1099511627776) (hi : m.any (infE w u) = true) :
  GoE (revokeS m w u b) b ∧ (∀ x, HasL (perS (revokeS m w u b) w u) x ↔ HasL (perS m w u) x ∧ ¬ (b ≤ x ∧ x < 1099511627776)) ∧ (revokeS m w u b).any (infE w u) = false := by
 have hF := first_idx (infE w u) m
 rw [revoke_at hF]
 generalize m.findIdx _ = k at *
 have hk : k < m.length := by rw [hF.any] at hi; exact of_decide_eq_true hi
 obtain ⟨hok, hpw⟩ := riseE_iff.1 h.rise
 have hmk := List.getElem_mem hk
 obtain ⟨hkw, hku, hkt⟩ := infE_iff.1 (hF.hit hk)
 have hbk := h.bnd _ hmk
 -- every other entry of the pair has ended
 have hoth : ∀ i (hi : i < m.length), i ≠ k → (m[i].w = w ∧ m[i].u = u) → m[i].t ≤ a := fun i hi hne hp => by
  rcases (h.bnd _ (List.getElem_mem hi)).2.2 with h2 | h2
  ·have hp0 : pc m[i] m[k] = 0 := pc_eq.2 ⟨hp.1.trans hkw.symm, hp.2.trans hku.symm⟩
   have hn := pc_neg m[i] m[k]
   have hfi := (h.bnd _ (List.getElem_mem hi)).2.1
   rcases Nat.lt_or_ge i k with h3 | h3
   ·rcases List.pairwise_iff_getElem.1 hpw i k hi hk h3 with h4 | ⟨_, h4⟩
    ·omega
    ·omega
   ·rcases List.pairwise_iff_getElem.1 hpw k i hk hi (by omega) with h4 | ⟨_, h4⟩
    ·omega
    ·omega
  ·exact h2
 have hsplit : ∀ e, e ∈ m → e = m[k] ∨ (e ∈ m.take k ++ m.drop (k + 1)) := fun e he => by
  rw [split_at hk, List.mem_append, List.mem_cons] at he
  rw [List.mem_append]
  rcases he with h1 | h1 | h1
  ·exact Or.inr (Or.inl h1)
  ·exact Or.inl h1
  ·exact Or.inr (Or.inr h1)
 have hidx : ∀ e, e ∈ m.take k ++ m.drop (k + 1) → e ∈ m ∧ ((e.w = w ∧ e.u = u) → e.t ≤ a) := fun e he => by
  rcases List.mem_append.1 he with h1 | h1
  ·refine ⟨List.mem_of_mem_take h1, ?_⟩
   obtain ⟨i, hi, rfl⟩ := List.getElem_of_mem h1
   rw [List.length_take] at hi
   rw [List.getElem_take]
   exact hoth i (by omega) (by omega)
  ·refine ⟨List.mem_of_mem_drop h1, ?_⟩
   obtain ⟨i, hi, rfl⟩ := List.getElem_of_mem h1
   rw [List.length_drop] at hi
   rw [List.getElem_drop]
   exact hoth (k + 1 + i) (by omega) (by omega)
 have hend : ∀ e, e ∈ endS m[k] b ↔ m[k].f < b ∧ e = ⟨m[k].w, m[k].u, m[k].f, b⟩ := fun e => by
  unfold endS
  split
  ·exact ⟨fun h => by (cases h), fun h => by omega⟩
  ·rw [List.mem_singleton]
   exact ⟨fun h => ⟨by omega, h⟩, fun h => h.2⟩
 have hmem : ∀ e, e ∈ m.take k ++ (endS m[k] b ++ m.drop (k + 1)) ↔ e ∈ m.take k ++ m.drop (k + 1) ∨ e ∈ endS m[k] b := fun e => by
  simp only [List.mem_append]
  constructor
  ·rintro (h | h | h)
   ·exact Or.inl (Or.inl h)
   ·exact Or.inr h
   ·exact Or.inl (Or.inr h)
  ·rintro ((h | h) | h)
   ·exact Or.inl h
   ·exact Or.inr (Or.inr h)
   ·exact Or.inr (Or.inl h)
 have hpk : ∀ c : EnM, pc (⟨m[k].w, m[k].u, m[k].f, b⟩ : EnM) c = pc m[k] c := fun c => rfl
 have hpk2 : ∀ c : EnM, pc c (⟨m[k].w, m[k].u, m[k].f, b⟩ : EnM) = pc c m[k] := fun c => rfl
 rw [cut_at hk]
 refine ⟨⟨riseE_iff.2 ⟨fun e he => ?_, ?_⟩, fun e he => ?_⟩, fun x => ?_, ?_⟩
 ·rcases (hmem e).1 he with h1 | h1
  ·exact hok e (hidx e h1).1
  ·obtain ⟨h2, rfl⟩ := (hend e).1 h1
   exact ⟨h2, (hok _ hmk).2⟩
 ·have hpw2 := hpw
  conv at hpw2 => rw [split_at hk, pair_mid, List.pairwise_cons]
  obtain ⟨p1, ⟨p2, p3⟩, p4⟩ := hpw2
  rw [pair_mid, pair_mid]
  refine ⟨p1, ⟨?_, p3, fun x hx y hy => ?_⟩, fun x hx y hy => ?_⟩
  ·unfold endS
   split
   ·exact List.Pairwise.nil
   ·exact List.pairwise_singleton _ _
  ·obtain ⟨h2, rfl⟩ := (hend x).1 hx
   rcases p2 y hy with h3 | ⟨h3, h4⟩
   ·exact Or.inl h3
   ·have := (h.bnd y (hidx y (List.mem_append_right _ hy)).1).2.1
    omega
  ·rcases List.mem_append.1 hy with hy | hy
   ·obtain ⟨h2, rfl⟩ := (hend y).1 hy
    exact p4 x hx m[k] (List.mem_cons_self)
   ·exact p4 x hx y (List.mem_cons_of_mem _ hy)
 ·rcases (hmem e).1 he with h1 | h1
  ·obtain ⟨h2, h3, h4⟩ := h.bnd e (hidx e h1).1
   exact ⟨h2, by omega, by omega⟩
  ·obtain ⟨h2, rfl⟩ := (hend e).1 h1
   exact ⟨hbk.1, by show m[k].f ≤ b; omega, Or.inr (Int.le_refl b)⟩
 ·rw [per_has, per_has]
  constructor
  ·rintro ⟨e, he, hp, h1, h2⟩
   rcases (hmem e).1 he with h3 | h3
   ·have := (hidx e h3).2 hp
    exact ⟨⟨e, (hidx e h3).1, hp, h1, h2⟩, by omega⟩
   ·obtain ⟨h4, rfl⟩ := (hend e).1 h3
    have h1' : m[k].f ≤ x := h1
    have h2' : x < b := h2
    exact ⟨⟨_, hmk, ⟨hkw, hku⟩, h1', by omega⟩, by omega⟩
  ·rintro ⟨⟨e, he, hp, h1, h2⟩, h3⟩
   rcases hsplit e he with rfl | h4
   ·have h5 : x < b := by omega
    exact ⟨⟨m[k].w, m[k].u, m[k].f, b⟩, (hmem _).2 (Or.inr ((hend _).2 ⟨by omega, rfl⟩)), hp, h1, h5⟩
   ·exact ⟨e, (hmem e).2 (Or.inl h4), hp, h1, h2⟩
 ·rw [List.any_eq_false]
  intro e he hc
  obtain ⟨h1, h2, h3⟩ := infE_iff.1 hc
  rcases (hmem e).1 he with h4 | h4
  ·have := (hidx e h4).2 ⟨h1, h2⟩
   omega
  ·obtain ⟨_, rfl⟩ := (hend e).1 h4
   have h5 : b = 1099511627776 := h3
   omega
theorem cmpS_irr (a : ByteArray) : ¬ cmpS a a < 0 := by rw [cmpS_self]; decide
theorem cmpS_asym {a b : ByteArray} (h : cmpS a b < 0) : ¬ cmpS b a < 0 := by rw [cmpS_neg]; omega
theorem cmpS_ne {a b : ByteArray} (h : cmpS a b < 0) : a ≠ b := fun e => by rw [e] at h; exact cmpS_irr _ h
theorem cmpS_tri (a b : ByteArray) : cmpS a b < 0 ∨ a = b ∨ cmpS b a < 0 := by
 rcases Int.lt_trichotomy (cmpS a b) 0 with h | h | h
 ·exact .inl h
 ·exact .inr (.inl (cmpS_eq.1 h))
 ·exact .inr (.inr (by rw [cmpS_neg]; omega))
def RiseK {α : Type} (key : α → ByteArray) (l : List α) : Prop := l.Pairwise (fun a b => cmpS (key a) (key b) < 0)
theorem riseK_ext {α : Type} {key : α → ByteArray} : ∀ {l m : List α}, RiseK key l → RiseK key m → (∀ x, x ∈ l ↔ x ∈ m) → l = m
 | [], [], _, _, _ => rfl
 | [], b :: m, _, _, h => absurd ((h b).2 (List.mem_cons_self ..)) (by simp)
 | a :: l, [], _, _, h => absurd ((h a).1 (List.mem_cons_self ..)) (by simp)
 | a :: l, b :: m, hl, hm, h => by
  obtain ⟨hl1, hl2⟩ := List.pairwise_cons.1 hl
  obtain ⟨hm1, hm2⟩ := List.pairwise_cons.1 hm
  have hab : a = b := by
   rcases List.mem_cons.1 ((h a).1 (List.mem_cons_self ..)) with h1 | h1
   ·exact h1
   ·rcases List.mem_cons.1 ((h b).2 (List.mem_cons_self ..)) with h2 | h2
    ·exact h2.symm
    ·exact absurd (hl1 _ h2) (cmpS_asym (hm1 _ h1))
  subst hab
  have ht : l = m := riseK_ext hl2 hm2 fun x => by
   constructor
   ·intro hx
    rcases List.mem_cons.1 ((h x).1 (List.mem_cons_of_mem _ hx)) with h1 | h1
    ·subst h1; exact absurd (hl1 _ hx) (cmpS_irr _)
    ·exact h1
   ·intro hx
    rcases List.mem_cons.1 ((h x).2 (List.mem_cons_of_mem _ hx)) with h1 | h1
    ·subst h1; exact absurd (hm1 _ hx) (cmpS_irr _)
    ·exact h1
  rw [ht]
theorem riseK_one {α : Type} {key : α → ByteArray} {l : List α} (h : RiseK key l) {x y : α} (hx : x ∈ l) (hy : y ∈ l) (e : key x = key y) : x = y := by
 obtain ⟨i, hi, rfl⟩ := List.getElem_of_mem hx
 obtain ⟨j, hj, rfl⟩ := List.getElem_of_mem hy
 rcases Nat.lt_trichotomy i j with h1 | h1 | h1
 ·exact absurd e (cmpS_ne (List.pairwise_iff_getElem.1 h i j hi hj h1))
 ·subst h1; rfl
 ·exact absurd e.symm (cmpS_ne (List.pairwise_iff_getElem.1 h j i hj hi h1))
def isKy {α : Type} (key : α → ByteArray) (u : ByteArray) (x : α) : Bool := decide (key x = u)
def belK {α : Type} (key : α → ByteArray) (u : ByteArray) (x : α) : Bool := decide (cmpS (key x) u < 0)
def abvK {α : Type} (key : α → ByteArray) (u : ByteArray) (x : α) : Bool := decide (cmpS u (key x) < 0)
def insK {α : Type} (key : α → ByteArray) (u : ByteArray) (m l : List α) : List α := l.filter (belK key u) ++ (m ++ l.filter (abvK key u))
theorem belK_iff {α : Type} {key : α → ByteArray} {u : ByteArray} {x : α} : belK key u x = true ↔ cmpS (key x) u < 0 := decide_eq_true_iff
theorem abvK_iff {α : Type} {key : α → ByteArray} {u : ByteArray} {x : α} : abvK key u x = true ↔ cmpS u (key x) < 0 := decide_eq_true_iff
theorem isKy_iff {α : Type} {key : α → ByteArray} {u : ByteArray} {x : α} : isKy key u x = true ↔ key x = u := decide_eq_true_iff
theorem insK_mem {α : Type} {key : α → ByteArray} {u : ByteArray} {m l : List α} {x : α} : x ∈ insK key u m l ↔ x ∈ m ∨ (x ∈ l ∧ key x ≠ u) := by
 unfold insK
 rw [List.mem_append, List.mem_append, List.mem_filter, List.mem_filter, belK_iff, abvK_iff]
 constructor
 ·rintro (⟨h1, h2⟩ | h1 | ⟨h1, h2⟩)
  ·exact .inr ⟨h1, cmpS_ne h2⟩
  ·exact .inl h1
  ·exact .inr ⟨h1, fun e => cmpS_ne h2 e.symm⟩
 ·rintro (h1 | ⟨h1, h2⟩)
  ·exact .inr (.inl h1)
  ·rcases cmpS_tri (key x) u with h3 | h3 | h3
   ·exact .inl ⟨h1, h3⟩
   ·exact absurd h3 h2
   ·exact .inr (.inr ⟨h1, h3⟩)
theorem insK_rise {α : Type} {key : α → ByteArray} {u : ByteArray} {m l : List α} (h : RiseK key l) (hm : ∀ x ∈ m, key x = u) (h1 : m.length ≤ 1) : RiseK key (insK key u m l) := by
 unfold insK RiseK
 rw [List.pairwise_append, List.pairwise_append]
 refine ⟨List.Pairwise.filter _ h, ⟨?_, List.Pairwise.filter _ h, fun x hx y hy => ?_⟩, fun x hx y hy => ?_⟩
 ·rcases m with _ | ⟨a, _ | ⟨b, m⟩⟩
  ·exact .nil
  ·exact List.pairwise_singleton _ _
  ·simp at h1
 ·rw [hm x hx]; exact abvK_iff.1 (List.mem_filter.1 hy).2
 ·have hx1 := belK_iff.1 (List.mem_filter.1 hx).2
  rcases List.mem_append.1 hy with h2 | h2
  ·rw [hm y h2]; exact hx1
  ·exact cmpS_trans hx1 (abvK_iff.1 (List.mem_filter.1 h2).2)
theorem insK_len {α : Type} {key : α → ByteArray} {u : ByteArray} {m l : List α} : (insK key u m l).length ≤ l.length + m.length := by
 have h : ∀ l : List α, (l.filter (belK key u)).length + (l.filter (abvK key u)).length ≤ l.length := by
  intro l
  induction l with
  | nil => simp
  | cons a l ih =>
   rw [List.filter_cons, List.filter_cons]
   by_cases h1 : belK key u a = true
   ·have h2 : ¬ abvK key u a = true := fun h2 => cmpS_asym (belK_iff.1 h1) (abvK_iff.1 h2)
    rw [if_pos h1, if_neg h2, List.length_cons, List.length_cons]; omega
   ·rw [if_neg h1]
    split <;> (simp only [List.length_cons]; omega)
 have := h l
 unfold insK
 rw [List.length_append, List.length_append]
 omega
theorem find_key {α : Type} {key : α → ByteArray} {l : List α} (h : RiseK key l) {u : ByteArray} {x : α} : l.find? (isKy key u) = some x ↔ x ∈ l ∧ key x = u := by
 constructor
 ·intro h1
  exact ⟨List.mem_of_find?_eq_some h1, isKy_iff.1 (List.find?_some h1)⟩
 ·rintro ⟨h1, h2⟩
  cases hf : l.find? (isKy key u) with
  | none => exact absurd (isKy_iff.2 h2) (List.find?_eq_none.1 hf x h1)
  | some y =>
   have h3 := List.mem_of_find?_eq_some hf
   have h4 := isKy_iff.1 (List.find?_some hf)
   rw [riseK_one h h3 h1 (h4.trans h2.symm)]
structure UsM where
 u : ByteArray
 l : List StM
structure TbM where
 u : ByteArray
 a : Int
structure SaM where
 now : Int
 hor : Int
 op : List OpM
 us : List UsM
 su : List EnM
 tb : List TbM
def saZ : SaM := ⟨0, 0, [], [], [], []⟩
instance : Inhabited UsM := ⟨⟨⟨#[]⟩, []⟩⟩
instance : Inhabited TbM := ⟨⟨⟨#[]⟩, 0⟩⟩
instance : Inhabited SaM := ⟨saZ⟩
def ofU (l : List UsM) (u : ByteArray) : List StM := match l.find? (isKy UsM.u u) with
 | none => []
 | some x => x.l
def rowU (u : ByteArray) (r : List StM) : List UsM := if r.isEmpty then [] else [⟨u, r⟩]
def putU (l : List UsM) (u : ByteArray) (r : List StM) : List UsM := insK UsM.u u (rowU u r) l
def addU (l : List UsM) (u : ByteArray) (x : StM) : List UsM := if x.f < x.t then putU l u (addS (ofU l u) x) else l
def tombU (l : List TbM) (u : ByteArray) (a : Int) : List TbM := insK TbM.u u [⟨u, a⟩] l
theorem rowU_u {u : ByteArray} {r : List StM} : ∀ x ∈ rowU u r, x.u = u := fun x hx => by
 unfold rowU at hx
 split at hx
 ·cases hx
 ·rw [List.mem_singleton.1 hx]
theorem rowU_len {u : ByteArray} {r : List StM} : (rowU u r).length ≤ 1 := by
 unfold rowU
 split <;> simp
theorem rowU_mem {u : ByteArray} {r : List StM} {x : UsM} : x ∈ rowU u r ↔ x = ⟨u, r⟩ ∧ r ≠ [] := by
 unfold rowU
 cases r with
 | nil => simp
 | cons a r => simp
theorem putU_rise {l : List UsM} {u : ByteArray} {r : List StM} (h : RiseK UsM.u l) : RiseK UsM.u (putU l u r) := insK_rise h rowU_u rowU_len
theorem putU_mem {l : List UsM} {u : ByteArray} {r : List StM} {x : UsM} : x ∈ putU l u r ↔ (x = ⟨u, r⟩ ∧ r ≠ []) ∨ (x ∈ l ∧ x.u ≠ u) := by
 unfold putU
 rw [insK_mem, rowU_mem]
theorem ofU_mem {l : List UsM} (h : RiseK UsM.u l) {x : UsM} (hx : x ∈ l) : ofU l x.u = x.l := by
 unfold ofU
 rw [(find_key h).2 ⟨hx, rfl⟩]
theorem ofU_cases (l : List UsM) (u : ByteArray) : ofU l u = [] ∨ ⟨u, ofU l u⟩ ∈ l := by
 unfold ofU
 cases hf : l.find? (isKy UsM.u u) with
 | none => exact .inl rfl
 | some x =>
  have h1 := List.mem_of_find?_eq_some hf
  have h2 := isKy_iff.1 (List.find?_some hf)
  refine .inr ?_
  obtain ⟨xu, xl⟩ := x
  simp only at h2
  subst h2
  exact h1
theorem addU_rise {l : List UsM} {u : ByteArray} {x : StM} (h : RiseK UsM.u l) : RiseK UsM.u (addU l u x) := by
 unfold addU
 split
 ·exact putU_rise h
 ·exact h
theorem tombU_rise {l : List TbM} {u : ByteArray} {a : Int} (h : RiseK TbM.u l) : RiseK TbM.u (tombU l u a) :=
 insK_rise h (fun x hx => by rw [List.mem_singleton.1 hx]) (by simp)
theorem tombU_mem {l : List TbM} {u : ByteArray} {a : Int} {x : TbM} : x ∈ tombU l u a ↔ x = ⟨u, a⟩ ∨ (x ∈ l ∧ x.u ≠ u) := by
 unfold tombU
 rw [insK_mem, List.mem_singleton]
def OkSt (now : Int) (op : List OpM) (x : StM) : Prop := 0 ≤ x.f ∧ x.t ≤ now ∧ 1 ≤ x.n ∧ x.n ≤ 999 ∧ 1 ≤ x.s ∧ x.s ≤ 4 ∧ ∀ o ∈ op, o.n = x.n → x.t ≤ o.f
def OkU (now : Int) (op : List OpM) (x : UsM) : Prop := nameB x.u = true ∧ x.l ≠ [] ∧ RiseS x.l ∧ ∀ s ∈ x.l, OkSt now op s
def OkT (now : Int) (x : TbM) : Prop := nameB x.u = true ∧ 0 ≤ x.a ∧ x.a ≤ now
structure RightS (s : SaM) : Prop where
 now : 0 ≤ s.now ∧ s.now < 1099511627776
 hor : 0 ≤ s.hor ∧ s.hor < 1099511627776
 op : RiseO s.op
 frm : ∀ e ∈ s.op, e.f ≤ s.now
 us : ∀ x ∈ s.us, OkU s.now s.op x
 ur : RiseK UsM.u s.us
 su : GoE s.su s.now
 tb : ∀ x ∈ s.tb, OkT s.now x
 tr : RiseK TbM.u s.tb
theorem RightS.zero : RightS saZ :=
 ⟨⟨Int.le_refl _, by decide⟩, ⟨Int.le_refl _, by decide⟩, ⟨by decide, fun k h => absurd h (by simp [saZ])⟩, fun e h => (by cases h), fun e h => (by cases h), .nil, .nil, fun e h => (by cases h), .nil⟩
theorem addS_mem {l : List StM} {x y : StM} : y ∈ addS l x ↔ (y = x ∧ x.f < x.t) ∨ y ∈ l := by
 unfold addS
 split
 ·exact ⟨fun h => .inr h, fun h => h.elim (fun h => by omega) id⟩
 ·rw [(putS_perm l x).mem_iff, List.mem_cons]
  exact ⟨fun h => h.imp (fun h => ⟨h, by omega⟩) id, fun h => h.imp And.left id⟩
theorem addS_some {l : List StM} {x : StM} (h : x.f < x.t) : addS l x ≠ [] := by
 unfold addS
 rw [if_neg (by omega)]
 intro h1
 have := putS_len l x
 rw [h1] at this
 simp at this
theorem riseS_nil : RiseS [] := fun k h => absurd h (by simp)
theorem ofU_okst {now : Int} {op : List OpM} {us : List UsM} {u : ByteArray} (h : ∀ x ∈ us, OkU now op x) : RiseS (ofU us u) ∧ ∀ y ∈ ofU us u, OkSt now op y := by
 rcases ofU_cases us u with h1 | h1
 ·rw [h1]; exact ⟨riseS_nil, fun y hy => by cases hy⟩
 ·have h2 := h _ h1
  exact ⟨h2.2.2.1, h2.2.2.2⟩
theorem addU_ok {now : Int} {op : List OpM} {us : List UsM} {u : ByteArray} {x : StM} (h : ∀ x ∈ us, OkU now op x) (hu : nameB u = true) (hx : x.f < x.t → OkSt now op x) (hn : x.f < x.t → x ∉ ofU us u) : ∀ y ∈ addU us u x, OkU now op y := by
 unfold addU
 split
 ·rename_i h1
  intro y hy
  rcases putU_mem.1 hy with ⟨rfl, h2⟩ | ⟨h2, _⟩
  ·obtain ⟨h3, h4⟩ := ofU_okst (u := u) h
   refine ⟨hu, h2, (addS_rise h3).2 (hn h1), fun z hz => ?_⟩
   rcases addS_mem.1 hz with ⟨rfl, _⟩ | h5
   ·exact hx h1
   ·exact h4 z h5
  ·exact h y h2
 ·exact h
theorem OkSt.mono {a b : Int} {op op' : List OpM} {x : StM} (h : OkSt a op x) (hab : a ≤ b) (ho : ∀ o ∈ op', o.n = x.n → x.t ≤ o.f) : OkSt b op' x := by
 obtain ⟨h1, h2, h3, h4, h5, h6, h7⟩ := h
 exact ⟨h1, by omega, h3, h4, h5, h6, ho⟩
theorem OkU.mono {a b : Int} {op op' : List OpM} {x : UsM} (h : OkU a op x) (hab : a ≤ b) (ho : ∀ y, OkSt a op y → ∀ o ∈ op', o.n = y.n → y.t ≤ o.f) : OkU b op' x :=
 ⟨h.1, h.2.1, h.2.2.1, fun s hs => (h.2.2.2 s hs).mono hab (ho s (h.2.2.2 s hs))⟩
theorem pw_mid {l : List OpM} (h : l.Pairwise fun a b => a.n < b.n) {k : Nat} (hk : k < l.length) : (∀ y ∈ l.take k, y.n < l[k].n) ∧ (∀ y ∈ l.drop (k + 1), l[k].n < y.n) := by
 rw [List.pairwise_iff_getElem] at h
 constructor
 ·intro y hy
  obtain ⟨j, hj, hjk, rfl⟩ := mem_take_get hy
  exact h j k hj hk hjk
 ·intro y hy
  obtain ⟨j, hj, hjk, rfl⟩ := mem_drop_get hy
  exact h k j hk hj (by omega)
theorem mem_chg {l : List OpM} (h : l.Pairwise fun a b => a.n < b.n) {k : Nat} (hk : k < l.length) {s f : Int} {y : OpM} (hy : y ∈ chgAt l k s f) : y = ⟨l[k].n, l[k].u, s, f⟩ ∨ (y ∈ l ∧ y.n ≠ l[k].n) := by
 obtain ⟨h1, h2⟩ := pw_mid h hk
 rw [chgAt_at hk] at hy
 rcases List.mem_append.1 hy with h3 | h3
 ·have := h1 y h3
  exact .inr ⟨List.mem_of_mem_take h3, by omega⟩
 ·rcases List.mem_cons.1 h3 with h3 | h3
  ·exact .inl h3
  ·have := h2 y h3
   exact .inr ⟨List.mem_of_mem_drop h3, by omega⟩
theorem mem_cut {l : List OpM} (h : l.Pairwise fun a b => a.n < b.n) {k : Nat} (hk : k < l.length) {y : OpM} (hy : y ∈ cutAt l k) : y ∈ l ∧ y.n ≠ l[k].n := by
 obtain ⟨h1, h2⟩ := pw_mid h hk
 unfold cutAt at hy
 rcases List.mem_append.1 hy with h3 | h3
 ·have := h1 y h3
  exact ⟨List.mem_of_mem_take h3, by omega⟩
 ·have := h2 y h3
  exact ⟨List.mem_of_mem_drop h3, by omega⟩
theorem chg_n {l : List OpM} {k : Nat} (hk : k < l.length) (s f : Int) : (chgAt l k s f).map OpM.n = l.map OpM.n := by
 have h : l = l.take k ++ l[k] :: l.drop (k + 1) := by rw [← List.drop_eq_getElem_cons hk, List.take_append_drop]
 rw [chgAt_at hk]
 conv => rhs; rw [h]
 rw [List.map_append, List.map_append, List.map_cons, List.map_cons]
theorem pw_n {l : List OpM} : (l.Pairwise fun a b => a.n < b.n) ↔ (l.map OpM.n).Pairwise (· < ·) := by
 rw [List.pairwise_map]
theorem chg_rise {l : List OpM} (h : RiseO l) {k : Nat} (hk : k < l.length) {s f : Int} (hs : 1 ≤ s ∧ s ≤ 4) (hf : 0 ≤ f ∧ f ≤ 1099511627775) : RiseO (chgAt l k s f) := by
 obtain ⟨h0, h1, h2⟩ := riseO_iff.1 h
 rw [riseO_iff, chgAt_len, pw_n, chg_n hk, ← pw_n]
 refine ⟨h0, fun e he => ?_, h2⟩
 rcases mem_chg h2 hk he with rfl | ⟨h3, _⟩
 ·obtain ⟨k1, k2, k3, _⟩ := h1 _ (List.getElem_mem hk)
  exact ⟨k1, k2, k3, hs.1, hs.2, hf.1, hf.2⟩
 ·exact h1 e h3
theorem cut_rise {l : List OpM} (h : RiseO l) {k : Nat} : RiseO (cutAt l k) := by
 obtain ⟨h0, h1, h2⟩ := riseO_iff.1 h
 have hsub : (cutAt l k).Sublist l := by
  unfold cutAt
  have h3 : (l.take k ++ l.drop (k + 1)).Sublist (l.take k ++ l.drop k) := by
   refine List.Sublist.append_left ?_ _
   rw [← List.drop_drop]
   exact List.drop_sublist _ _
  rwa [List.take_append_drop] at h3
 rw [riseO_iff]
 exact ⟨Nat.le_trans (cutAt_len l k) h0, fun e he => h1 e (hsub.subset he), h2.sublist hsub⟩
theorem rise_filterO {l : List OpM} (h : RiseO l) (p : OpM → Bool) : RiseO (l.filter p) := by
 obtain ⟨h0, h1, h2⟩ := riseO_iff.1 h
 rw [riseO_iff]
 exact ⟨Nat.le_trans (List.length_filter_le _ _) h0, fun e he => h1 e (List.mem_filter.1 he).1, h2.filter _⟩
def RightV (k a n st : Int) (u o : ByteArray) : Prop :=
 0 ≤ a ∧ a < 1099511627776 ∧ (((k = 1 ∨ k = 2) ∧ 1 ≤ n ∧ n ≤ 999 ∧ nameB u = true ∧ o = ⟨#[]⟩ ∧ 1 ≤ st ∧ st ≤ 4)
  ∨ (k = 3 ∧ 1 ≤ n ∧ n ≤ 999 ∧ nameB u = true ∧ o = ⟨#[]⟩ ∧ st = 0)
  ∨ ((k = 4 ∨ k = 5) ∧ nameB u = true ∧ nameB o = true ∧ n = 0 ∧ st = 0)
  ∨ (k = 6 ∧ u = ⟨#[]⟩ ∧ o = ⟨#[]⟩ ∧ st = 0 ∧ 0 ≤ n ∧ n < 1099511627776)
  ∨ (k = 7 ∧ nameB u = true ∧ o = ⟨#[]⟩ ∧ n = 0 ∧ st = 0))
instance rightVDec (k a n st : Int) (u o : ByteArray) : Decidable (RightV k a n st u o) := by unfold RightV; infer_instance
def errK (s : SaM) (k a n st : Int) (u o : ByteArray) : Int :=
 if k = 1 then openC s.op ⟨n, u, st, a⟩ else if k = 2 ∨ k = 3 then findC s.op n u
 else if k = 4 then (if s.su.any (infE u o) = true then 90 else 0) else if k = 5 then (if s.su.any (infE u o) = true then 0 else 91) else 0
def errS (s : SaM) (k a n st : Int) (u o : ByteArray) : Int := if RightV k a n st u o then (if a < s.now then 111 else errK s k a n st u o) else 110
def goS (s : SaM) (k a n st : Int) (u o : ByteArray) : SaM :=
 if k = 1 then { s with now := a, op := openR s.op ⟨n, u, st, a⟩ }
 else if k = 2 then { s with now := a, op := chgR s.op n u st a, us := addU s.us u (fndS s.op n u a) }
 else if k = 3 then { s with now := a, op := cloR s.op n u, us := addU s.us u (fndS s.op n u a) }
 else if k = 4 then { s with now := a, su := grantS s.su (mkE u o a) }
 else if k = 5 then { s with now := a, su := revokeS s.su u o a }
 else if k = 6 then { s with now := a, hor := max s.hor n }
 else { s with now := a, op := s.op.filter (notU u), su := withoutS s.su u, us := putU s.us u [], tb := tombU s.tb u a }
def tellS (s : SaM) (k a n st : Int) (u o : ByteArray) : SaM := if errS s k a n st u o = 0 then goS s k a n st u o else saZ
theorem errS_ok {s : SaM} {k a n st : Int} {u o : ByteArray} (h : errS s k a n st u o = 0) : RightV k a n st u o ∧ s.now ≤ a ∧ errK s k a n st u o = 0 := by
 unfold errS at h
 split at h
 ·rename_i h1
  split at h
  ·exact absurd h (by decide)
  ·exact ⟨h1, by omega, h⟩
 ·exact absurd h (by decide)
theorem GoE.mono {m : List EnM} {a b : Int} (h : GoE m a) (hab : a ≤ b) : GoE m b :=
 ⟨h.rise, fun e he => by obtain ⟨h1, h2, h3⟩ := h.bnd e he; exact ⟨h1, by omega, h3.imp id (by omega)⟩⟩
theorem GoE.filter {m : List EnM} {a : Int} (h : GoE m a) (p : EnM → Bool) : GoE (m.filter p) a :=
 ⟨rise_filter h.rise p, fun e he => h.bnd e (List.mem_filter.1 he).1⟩
theorem OkT.mono {a b : Int} {x : TbM} (h : OkT a x) (hab : a ≤ b) : OkT b x := by
 obtain ⟨h1, h2, h3⟩ := h
 exact ⟨h1, h2, by omega⟩
theorem right_open {s : SaM} (h : RightS s) {a n st : Int} {u : ByteArray} (hn : 1 ≤ n ∧ n ≤ 999) (hs : 1 ≤ st ∧ st ≤ 4) (ha : s.now ≤ a) (hb : a < 1099511627776) (hu : nameB u = true) (hc : openC s.op ⟨n, u, st, a⟩ = 0) :
  RightS { s with now := a, op := openR s.op ⟨n, u, st, a⟩ } := by
 have h0 := h.now
 have hnew : ∀ y ∈ openR s.op ⟨n, u, st, a⟩, y = ⟨n, u, st, a⟩ ∨ y ∈ s.op := fun y hy => by
  unfold openR at hy
  rw [if_pos hc] at hy
  unfold openS at hy
  rcases List.mem_append.1 hy with h1 | h1
  ·exact .inr (List.mem_of_mem_take h1)
  ·rcases List.mem_cons.1 h1 with h1 | h1
   ·exact .inl h1
   ·exact .inr (List.mem_of_mem_drop h1)
 refine ⟨⟨by simp only; omega, hb⟩, h.hor, open_rise hc h.op ?_, fun e he => ?_, fun x hx => (h.us x hx).mono ha fun y hy z hz hzn => ?_, h.ur, h.su.mono ha, fun x hx => (h.tb x hx).mono ha, h.tr⟩
 ·rw [riseO_iff]
  refine ⟨by simp, fun e he => ?_, List.pairwise_singleton _ _⟩
  rw [List.mem_singleton.1 he]
  exact ⟨hu, hn.1, hn.2, hs.1, hs.2, by simp only; omega, by simp only; omega⟩
 ·rcases hnew e he with rfl | h1
  ·exact Int.le_refl _
  ·exact Int.le_trans (h.frm e h1) ha
 ·rcases hnew z hz with rfl | h1
  ·exact Int.le_trans hy.2.1 ha
  ·exact hy.2.2.2.2.2.2 z h1 hzn
theorem right_stay {s : SaM} (h : RightS s) {a st : Int} {k : Nat} (hk : k < s.op.length) (ha : s.now ≤ a) {op' : List OpM} (hop : ∀ y ∈ op', y.n = s.op[k].n → a ≤ y.f) (hb : a < 1099511627776)
  (hkeep : ∀ y ∈ op', y.n ≠ s.op[k].n → y ∈ s.op) (hu : nameB s.op[k].u = true) : ∀ y ∈ addU s.us s.op[k].u (stayO s.op[k] a), OkU a op' y := by
 obtain ⟨h1, h2, h3⟩ := riseO_iff.1 h.op
 obtain ⟨k1, k2, k3, k4, k5, k6, k7⟩ := h2 _ (List.getElem_mem hk)
 have hold : ∀ x ∈ s.us, OkU a op' x := fun x hx => (h.us x hx).mono ha fun y hy z hz hzn => by
  by_cases hzk : z.n = s.op[k].n
  ·exact Int.le_trans (Int.le_trans hy.2.1 ha) (hop z hz hzk)
  ·exact hy.2.2.2.2.2.2 z (hkeep z hz hzk) hzn
 refine addU_ok hold hu (fun hlt => ?_) (fun hlt hm => ?_)
 ·exact ⟨k6, Int.le_refl _, k2, k3, k4, k5, fun o ho hon => hop o ho hon⟩
 ·have h4 := (ofU_okst (u := s.op[k].u) h.us).2 _ hm
  have h5 := h4.2.2.2.2.2.2 _ (List.getElem_mem hk) rfl
  have h6 : s.op[k].f < a := hlt
  have h7 : a ≤ s.op[k].f := h5
  omega
theorem right_change {s : SaM} (h : RightS s) {a n st : Int} {u : ByteArray} (hs : 1 ≤ st ∧ st ≤ 4) (ha : s.now ≤ a) (hb : a < 1099511627776) (hc : findC s.op n u = 0) :
  RightS { s with now := a, op := chgR s.op n u st a, us := addU s.us u (fndS s.op n u a) } := by
 have h0 := h.now
 rcases fc_three s.op n u with ⟨_, k, hk, hf, h1, h2, h3, h4⟩ | ⟨h1 | h1, _⟩
 ·obtain ⟨_, h6, h7⟩ := riseO_iff.1 h.op
  have hcr : chgR s.op n u st a = chgAt s.op k st a := by unfold chgR; rw [if_pos hc, h4]
  have hst : fndS s.op n u a = stayO s.op[k] a := by unfold fndS; rw [if_pos hc, h3]
  have hmem : ∀ y ∈ chgAt s.op k st a, y = ⟨s.op[k].n, s.op[k].u, st, a⟩ ∨ (y ∈ s.op ∧ y.n ≠ s.op[k].n) := fun y hy => mem_chg h7 hk hy
  rw [hcr, hst, ← h2]
  refine ⟨⟨by simp only; omega, hb⟩, h.hor, chg_rise h.op hk hs ⟨by omega, by omega⟩, fun e he => ?_, right_stay (st := st) h hk ha (fun y hy hyn => ?_) hb (fun y hy hyn => ?_) (h6 _ (List.getElem_mem hk)).1, addU_rise h.ur, h.su.mono ha, fun x hx => (h.tb x hx).mono ha, h.tr⟩
  ·rcases hmem e he with rfl | ⟨h8, _⟩
   ·exact Int.le_refl _
   ·exact Int.le_trans (h.frm e h8) ha
  ·rcases hmem y hy with rfl | ⟨_, h8⟩
   ·exact Int.le_refl _
   ·exact absurd hyn h8
  ·rcases hmem y hy with rfl | ⟨h8, _⟩
   ·exact absurd rfl hyn
   ·exact h8
 ·rw [hc] at h1; exact absurd h1 (by decide)
 ·rw [hc] at h1; exact absurd h1 (by decide)
theorem right_close {s : SaM} (h : RightS s) {a n : Int} {u : ByteArray} (ha : s.now ≤ a) (hb : a < 1099511627776) (hc : findC s.op n u = 0) :
  RightS { s with now := a, op := cloR s.op n u, us := addU s.us u (fndS s.op n u a) } := by
 have h0 := h.now
 rcases fc_three s.op n u with ⟨_, k, hk, hf, h1, h2, h3, h4⟩ | ⟨h1 | h1, _⟩
 ·obtain ⟨_, h6, h7⟩ := riseO_iff.1 h.op
  have hcr : cloR s.op n u = cutAt s.op k := by unfold cloR; rw [if_pos hc, h4]
  have hst : fndS s.op n u a = stayO s.op[k] a := by unfold fndS; rw [if_pos hc, h3]
  have hmem : ∀ y ∈ cutAt s.op k, y ∈ s.op ∧ y.n ≠ s.op[k].n := fun y hy => mem_cut h7 hk hy
  rw [hcr, hst, ← h2]
  exact ⟨⟨by simp only; omega, hb⟩, h.hor, cut_rise h.op, fun e he => Int.le_trans (h.frm e (hmem e he).1) ha, right_stay (st := 1) h hk ha (fun y hy hyn => absurd hyn (hmem y hy).2) hb (fun y hy hyn => (hmem y hy).1) (h6 _ (List.getElem_mem hk)).1, addU_rise h.ur, h.su.mono ha, fun x hx => (h.tb x hx).mono ha, h.tr⟩
 ·rw [hc] at h1; exact absurd h1 (by decide)
 ·rw [hc] at h1; exact absurd h1 (by decide)
theorem right_erase {s : SaM} (h : RightS s) {a : Int} {u : ByteArray} (ha : s.now ≤ a) (hb : a < 1099511627776) (hu : nameB u = true) :
  RightS { s with now := a, op := s.op.filter (notU u), su := withoutS s.su u, us := putU s.us u [], tb := tombU s.tb u a } := by
 have h0 := h.now
 refine ⟨⟨by simp only; omega, hb⟩, h.hor, rise_filterO h.op _, fun e he => Int.le_trans (h.frm e (List.mem_filter.1 he).1) ha, fun x hx => ?_, putU_rise h.ur, (h.su.mono ha).filter _, fun x hx => ?_, tombU_rise h.tr⟩
 ·rcases putU_mem.1 hx with ⟨_, h1⟩ | ⟨h1, _⟩
  ·exact absurd rfl h1
  ·exact (h.us x h1).mono ha fun y hy z hz hzn => hy.2.2.2.2.2.2 z (List.mem_filter.1 hz).1 hzn
 ·rcases tombU_mem.1 hx with rfl | ⟨h1, _⟩
  ·exact ⟨hu, by simp only; omega, Int.le_refl _⟩
  ·exact (h.tb x h1).mono ha
theorem right_go {s : SaM} (h : RightS s) {k a n st : Int} {u o : ByteArray} (he : errS s k a n st u o = 0) : RightS (goS s k a n st u o) := by
 obtain ⟨hv, ha, hk⟩ := errS_ok he
 have h0 := h.now
 obtain ⟨ha0, hb, hv⟩ := hv
 have hold : ∀ x ∈ s.us, OkU a s.op x := fun x hx => (h.us x hx).mono ha fun y hy z hz hzn => hy.2.2.2.2.2.2 z hz hzn
 unfold errK at hk
 unfold goS
 rcases hv with ⟨h1 | h1, h2, h3, h4, _, h5, h6⟩ | ⟨h1, h2, h3, h4, _, _⟩ | ⟨h1 | h1, h2, h3, _, _⟩ | ⟨h1, _, _, _, h2, h3⟩ | ⟨h1, h2, _, _, _⟩
 ·subst h1
  exact right_open h ⟨h2, h3⟩ ⟨h5, h6⟩ ha hb h4 hk
 ·subst h1
  exact right_change h ⟨h5, h6⟩ ha hb hk
 ·subst h1
  exact right_close h ha hb hk
 ·subst h1
  have hi : s.su.any (infE u o) = false := by
   rw [if_neg (by decide), if_neg (by decide), if_pos rfl] at hk
   split at hk
   ·exact absurd hk (by decide)
   ·rename_i h4; exact Bool.eq_false_iff.2 h4
  exact ⟨⟨ha0, hb⟩, h.hor, h.op, fun e he => Int.le_trans (h.frm e he) ha, hold, h.ur, (h.su.grant h0.1 ha hb h2 h3 hi).1, fun x hx => (h.tb x hx).mono ha, h.tr⟩
 ·subst h1
  have hi : s.su.any (infE u o) = true := by
   rw [if_neg (by decide), if_neg (by decide), if_neg (by decide), if_pos rfl] at hk
   split at hk
   ·rename_i h4; exact h4
   ·exact absurd hk (by decide)
  exact ⟨⟨ha0, hb⟩, h.hor, h.op, fun e he => Int.le_trans (h.frm e he) ha, hold, h.ur, (h.su.revoke h0.1 ha hb hi).1, fun x hx => (h.tb x hx).mono ha, h.tr⟩
 ·subst h1
  have h4 := h.hor
  exact ⟨⟨ha0, hb⟩, ⟨Int.le_trans h4.1 (Int.le_max_left _ _), Int.max_lt.2 ⟨h4.2, h3⟩⟩, h.op, fun e he => Int.le_trans (h.frm e he) ha, hold, h.ur, h.su.mono ha, fun x hx => (h.tb x hx).mono ha, h.tr⟩
 ·subst h1
  exact right_erase h ha hb h2
def addsS (l : List StM) (r : List StM) : List StM := l.foldl addS r
def staysS (s : SaM) (u : ByteArray) (w : Int) : List StM := addsS (staysO s.op u w) (ofU s.us u)
theorem addsS_len : ∀ (l r : List StM), (addsS l r).length ≤ r.length + l.length
 | [], r => by simp [addsS]
 | x :: l, r => by
  have h1 := addsS_len l (addS r x)
  have h2 := addS_len r x
  show (addsS l (addS r x)).length ≤ _
  rw [List.length_cons]
  omega
theorem addsS_next (l : List StM) (r : List StM) (j : Nat) (h : j < l.length) : addsS (l.take (j + 1)) r = addS (addsS (l.take j) r) l[j] := by
 unfold addsS
 rw [List.take_succ_eq_append_getElem h, List.foldl_append]
 rfl
def cntU (l : List UsM) : Nat := (l.map fun x => x.l.length).sum
def stCnt (s : SaM) : Nat := s.op.length + s.su.length + s.tb.length + cntU s.us
theorem cntU_cons (x : UsM) (l : List UsM) : cntU (x :: l) = x.l.length + cntU l := by simp [cntU]
theorem cntU_append (a b : List UsM) : cntU (a ++ b) = cntU a + cntU b := by simp [cntU]
theorem cntU_parts (u : ByteArray) : ∀ l : List UsM, cntU (l.filter (belK UsM.u u)) + cntU (l.filter (abvK UsM.u u)) + (ofU l u).length ≤ cntU l
 | [] => by simp [cntU, ofU]
 | x :: l => by
  have ih := cntU_parts u l
  rw [List.filter_cons, List.filter_cons, cntU_cons]
  by_cases h : x.u = u
  ·have h1 : ¬ belK UsM.u u x = true := fun h1 => cmpS_ne (belK_iff.1 h1) h
   have h2 : ¬ abvK UsM.u u x = true := fun h1 => cmpS_ne (abvK_iff.1 h1) h.symm
   have h3 : ofU (x :: l) u = x.l := by
    unfold ofU
    rw [List.find?_cons_of_pos (isKy_iff.2 h)]
   rw [if_neg h1, if_neg h2, h3]
   omega
  ·have h3 : ofU (x :: l) u = ofU l u := by
    unfold ofU
    rw [List.find?_cons_of_neg (fun h1 => h (isKy_iff.1 h1))]
   rw [h3]
   by_cases h1 : belK UsM.u u x = true
   ·have h2 : ¬ abvK UsM.u u x = true := fun h2 => cmpS_asym (belK_iff.1 h1) (abvK_iff.1 h2)
    rw [if_pos h1, if_neg h2, cntU_cons]
    omega
   ·rw [if_neg h1]
    split
    ·rw [cntU_cons]; omega
    ·omega
theorem cntU_put (l : List UsM) (u : ByteArray) (r : List StM) : cntU (putU l u r) + (ofU l u).length ≤ cntU l + r.length := by
 have h := cntU_parts u l
 have h1 : cntU (rowU u r) = r.length := by
  unfold rowU
  cases r with
  | nil => rfl
  | cons a r => simp [cntU]
 unfold putU insK
 rw [cntU_append, cntU_append, h1]
 omega
theorem cntU_add (l : List UsM) (u : ByteArray) (x : StM) : cntU (addU l u x) ≤ cntU l + 1 := by
 unfold addU
 split
 ·have h1 := cntU_put l u (addS (ofU l u) x)
  have h2 := addS_len (ofU l u) x
  omega
 ·omega
theorem cnt_go (s : SaM) (k a n st : Int) (u o : ByteArray) : stCnt (goS s k a n st u o) ≤ stCnt s + 1 := by
 have h1 := openR_len s.op ⟨n, u, st, a⟩
 have h2 := chgR_len s.op n u st a
 have h3 := cloR_len s.op n u
 have h4 := cntU_add s.us u (fndS s.op n u a)
 have h5 := grant_len s.su (mkE u o a)
 have h6 := revoke_len s.su u o a
 have h7 : (s.op.filter (notU u)).length ≤ s.op.length := List.length_filter_le _ _
 have h8 : (withoutS s.su u).length ≤ s.su.length := List.length_filter_le _ _
 have h9 := cntU_put s.us u []
 have h10 : (tombU s.tb u a).length ≤ s.tb.length + 1 := insK_len
 simp only [List.length_nil] at h9
 unfold stCnt goS
 repeat' split
 all_goals (simp only; omega)
theorem take_next_filter {α : Type} (p : α → Bool) (l : List α) (j : Nat) (h : j < l.length) : (l.take (j + 1)).filter p = (l.take j).filter p ++ (if p l[j] = true then [l[j]] else []) := by
 rw [List.take_succ_eq_append_getElem h, List.filter_append, List.filter_cons, List.filter_nil]
theorem low_of {α : Type} {key : α → ByteArray} {u : ByteArray} {l : List α} (hr : RiseK key l) {j : Nat} (hj : j < l.length) (hlt : cmpS (key l[j]) u < 0) : ∀ i (h : i < l.length), i < j → cmpS (key l[i]) u < 0 := fun i hi hij =>
 cmpS_trans (List.pairwise_iff_getElem.1 hr i j hi hj hij) hlt
def notBel {α : Type} (key : α → ByteArray) (u : ByteArray) (x : α) : Bool := !belK key u x
theorem fst_parts {α : Type} {key : α → ByteArray} {u : ByteArray} {l : List α} (hr : RiseK key l) {k : Nat} (h : IsFst (notBel key u) l k) : l.filter (belK key u) = l.take k ∧ (∀ x ∈ l.drop k, ¬ cmpS (key x) u < 0) := by
 have hlo : ∀ x ∈ l.take k, belK key u x = true := fun x hx => by
  have := h.take x hx
  unfold notBel at this
  simpa using this
 have hup : ∀ x ∈ l.drop k, ¬ cmpS (key x) u < 0 := fun x hx hlt => by
  obtain ⟨j, hj, hkj, rfl⟩ := mem_drop_get hx
  have h1 := h.hit (by omega)
  unfold notBel at h1
  have h2 : ¬ cmpS (key (l[k]'(by omega))) u < 0 := fun h2 => by rw [belK_iff.2 h2] at h1; cases h1
  rcases Nat.lt_or_ge k j with h3 | h3
  ·exact h2 (low_of hr hj hlt k (by omega) h3)
  ·obtain rfl : k = j := by omega
   exact h2 hlt
 refine ⟨?_, hup⟩
 have h3 : l.filter (belK key u) = (l.take k).filter (belK key u) ++ (l.drop k).filter (belK key u) := by rw [← List.filter_append, List.take_append_drop]
 rw [h3, List.filter_eq_self.2 hlo, List.filter_eq_nil_iff.2 fun x hx hb => hup x hx (belK_iff.1 hb), List.append_nil]
theorem ins_new {α : Type} {key : α → ByteArray} {u : ByteArray} {m l : List α} (hr : RiseK key l) {k : Nat} (h : IsFst (notBel key u) l k) (hn : ∀ x ∈ l, key x ≠ u) : insK key u m l = l.take k ++ (m ++ l.drop k) := by
 obtain ⟨h1, h2⟩ := fst_parts hr h
 unfold insK
 rw [h1]
 congr 2
 have h3 : l.filter (abvK key u) = (l.take k).filter (abvK key u) ++ (l.drop k).filter (abvK key u) := by rw [← List.filter_append, List.take_append_drop]
 rw [h3, List.filter_eq_nil_iff.2, List.nil_append, List.filter_eq_self.2]
 ·intro x hx
  rcases cmpS_tri (key x) u with h4 | h4 | h4
  ·exact absurd h4 (h2 x hx)
  ·exact absurd h4 (hn x (List.mem_of_mem_drop hx))
  ·exact abvK_iff.2 h4
 ·intro x hx ha
  rw [← h1] at hx
  exact cmpS_asym (belK_iff.1 (List.mem_filter.1 hx).2) (abvK_iff.1 ha)
theorem ins_old {α : Type} {key : α → ByteArray} {u : ByteArray} {m l : List α} (hr : RiseK key l) {k : Nat} (hk : k < l.length) (he : key l[k] = u) : insK key u m l = l.take k ++ (m ++ l.drop (k + 1)) := by
 have hpw := List.pairwise_iff_getElem.1 hr
 have hlo : ∀ x ∈ l.take k, cmpS (key x) u < 0 := fun x hx => by
  obtain ⟨j, hj, hjk, rfl⟩ := mem_take_get hx
  rw [← he]; exact hpw j k hj hk hjk
 have hup : ∀ x ∈ l.drop (k + 1), cmpS u (key x) < 0 := fun x hx => by
  obtain ⟨j, hj, hjk, rfl⟩ := mem_drop_get hx
  rw [← he]; exact hpw k j hk hj (by omega)
 have hl : l = l.take k ++ l[k] :: l.drop (k + 1) := by rw [← List.drop_eq_getElem_cons hk, List.take_append_drop]
 have hb : ¬ belK key u l[k] = true := fun hb => cmpS_ne (belK_iff.1 hb) he
 have ha : ¬ abvK key u l[k] = true := fun ha => cmpS_ne (abvK_iff.1 ha) he.symm
 have f1 : l.filter (belK key u) = l.take k := by
  conv => lhs; rw [hl]
  rw [List.filter_append, List.filter_cons, if_neg hb, List.filter_eq_self.2 fun x hx => belK_iff.2 (hlo x hx), List.filter_eq_nil_iff.2 fun x hx h => cmpS_asym (hup x hx) (belK_iff.1 h), List.append_nil]
 have f2 : l.filter (abvK key u) = l.drop (k + 1) := by
  conv => lhs; rw [hl]
  rw [List.filter_append, List.filter_cons, if_neg ha, List.filter_eq_nil_iff.2 fun x hx h => cmpS_asym (hlo x hx) (abvK_iff.1 h), List.filter_eq_self.2 fun x hx => abvK_iff.2 (hup x hx), List.nil_append]
 unfold insK
 rw [f1, f2]
theorem ins_out {α : Type} {key : α → ByteArray} {u : ByteArray} {l : List α} (hr : RiseK key l) : insK key u [] l = l.filter fun x => !isKy key u x := by
 refine riseK_ext (insK_rise hr (fun x hx => by cases hx) (by simp)) (List.Pairwise.filter _ hr) fun x => ?_
 rw [insK_mem, List.mem_filter]
 constructor
 ·rintro (h | ⟨h1, h2⟩)
  ·cases h
  ·refine ⟨h1, ?_⟩
   have h3 : isKy key u x = false := decide_eq_false h2
   rw [h3]; rfl
 ·rintro ⟨h1, h2⟩
  refine .inr ⟨h1, fun e => ?_⟩
  rw [isKy_iff.2 e] at h2
  cases h2
end Go.Proofs.YtmfpjapiijgdgaaGreat
namespace Go.Proofs.YtmfpjapiijgdgaaGreat
open Go.RowKit
set_option linter.unusedVariables false
set_option maxRecDepth 100000
set_option maxRecDepth 100000
theorem size1 (w : World) (o : Obj) : (w.alloc o).heap.size = w.heap.size + 1 := by simp
theorem own_below {w w' : World} {B e k n : Nat} {v : Value} {xs : List Value} (h : w.ownsRow B e k v n xs) (hb : Below w.heap.size w w') : w'.ownsRow B e k v n xs := by
 refine ⟨h.1, ?_⟩
 rcases h.2 with h | ⟨g, cap, cur, r1, r2, r3, r4⟩
 ·exact .inl h
 ·refine .inr ⟨g, cap, cur, r1, r2, ?_, r4⟩
  rw [hb.block g ?_]
  ·exact r3
  ·rcases Nat.lt_or_ge g w.heap.size with h1 | h1
   ·exact h1
   ·rw [Array.getElem?_eq_none h1] at r3; cases r3
theorem app_below {B : Nat} {w W w' : World} {e k n : Nat} {v : Value} {xs : List Value} (hB : Below B w W) (hs : B ≤ W.heap.size) (ho : W.ownsRow B e k v n xs) (hg : W.grownBy w' v.ownBlock) : Below B w w' :=
 hB.grown hg hs (fun j hj => (ho.lt j hj).1)
theorem news_at (W : World) (xs : Array Value) (t : TypeId) (g : Nat) (hg : g = W.heap.size) : ∀ j u, xs.toList[j]? = some u → (W.alloc (.cells xs t)).cell? ((⟨g, 0, none⟩ : Addr).add j) = some u := by
 subst hg; exact Sl.cells (sl_lit W xs t)
theorem below_two (w : World) (o p : Obj) : Below w.heap.size w ((w.alloc o).alloc p) := ((Below.refl _ _).alloc (Nat.le_refl _) _).alloc (by rw [size1]; omega) _
theorem heap_lt {W : World} {G : Nat} {o : Obj} (h : W.heap[G]? = some o) : G < W.heap.size := (Array.getElem?_eq_some_iff.1 h).1
theorem heap_setCell_at {w : World} {p : Nat} {cur : Array Value} {t : TypeId} (h : w.heap[p]? = some (.cells cur t (0, 0))) (i : Nat) (v : Value) :
  (w.setCell ⟨p, i, none⟩ v).heap[p]? = some (.cells (cur.setIfInBounds i v) t (0, 0)) := by
 obtain ⟨hlt, hk⟩ := Array.getElem?_eq_some_iff.1 h
 show (w.heap.modify p _)[p]? = _
 rw [Array.getElem?_eq_getElem (by rw [Array.size_modify]; exact hlt), Array.getElem_modify_self, hk]
 rfl
theorem results_cell1 {fn : Func} {p : Tmp} {ty : TypeId} (h : fn.results = #[.cell p ty]) (tmps : Array Value) (P : Program) (w : World) :
  (results fn tmps).run P w = ((asAddr (tmps.getD p undef)).run P w).andThen fun a w₁ => (loadVar ty a).run P w₁ := by
 simp only [results, h]
 simp [Sem.run_bind, Result.andThen]
theorem none_any (f t : Int) (w : World) : Calls Tryz.prog 108 #[.agg #[.int .i64 f, .int .i64 t]] w fun e w' => e = .returned (.bool (decide (t ≤ f))) ∧ Below w.heap.size w w' := by
 have HBB := Lib.hid (fun o => (Below.refl w.heap.size w).alloc (Nat.le_refl _) o)
 go_enter Tryz.func108, Tryz.ntmps108
 go_wp2
 go_ret
 exact ⟨retB (by simp), HBB.out _⟩
def encT (s : StM) : List Value := [.int .i64 s.f, .int .i64 s.t, .int .i64 s.n, .int .i64 s.s]
def sts (l : List StM) : List Value := l.flatMap encT
theorem sts_cons (s : StM) (l : List StM) : sts (s :: l) = encT s ++ sts l := by simp [sts]
theorem sts_len (l : List StM) : (sts l).length = l.length * 4 := by
 induction l with
 | nil => rfl
 | cons e l ih => rw [sts_cons, List.length_append, ih, List.length_cons]; simp only [encT, List.length_cons, List.length_nil]; omega
theorem sts_append (l m : List StM) : sts (l ++ m) = sts l ++ sts m := by simp [sts]
theorem sts_snoc (l : List StM) (x : StM) : sts (l ++ [x]) = sts l ++ [.int .i64 x.f, .int .i64 x.t, .int .i64 x.n, .int .i64 x.s] := by simp [sts, encT]
theorem sts_get (l : List StM) : ∀ (k : Nat) (h : k < l.length), (sts l)[k * 4]? = some (.int .i64 l[k].f) ∧ (sts l)[k * 4 + 1]? = some (.int .i64 l[k].t) ∧ (sts l)[k * 4 + 2]? = some (.int .i64 l[k].n) ∧ (sts l)[k * 4 + 3]? = some (.int .i64 l[k].s) := by
 induction l with
 | nil => intro k h; exact absurd h (by simp)
 | cons x l ih =>
  intro k h
  rw [sts_cons]
  cases k with
  | zero => exact ⟨rfl, rfl, rfl, rfl⟩
  | succ k =>
   have := ih k (by simpa using h)
   rw [show (k + 1) * 4 = k * 4 + 1 + 1 + 1 + 1 by omega]
   simpa [encT] using this
def StSl (w : World) (a : Option Addr) (l : List StM) : Prop := ∀ k (h : k < l.length), ∃ b off, a = some ⟨b, off, none⟩ ∧ b < w.heap.size ∧
 w.cell? ⟨b, off + k * 4, none⟩ = some (.int .i64 l[k].f) ∧ w.cell? ⟨b, off + k * 4 + 1, none⟩ = some (.int .i64 l[k].t) ∧ w.cell? ⟨b, off + k * 4 + 2, none⟩ = some (.int .i64 l[k].n) ∧ w.cell? ⟨b, off + k * 4 + 3, none⟩ = some (.int .i64 l[k].s)
theorem StSl.nil (w : World) (a : Option Addr) : StSl w a [] := fun k h => absurd h (by simp)
theorem StSl.below {w w' : World} {a : Option Addr} {l : List StM} (h : StSl w a l) (hb : Below w.heap.size w w') : StSl w' a l := fun k hk => by
 obtain ⟨b, off, e, hlt, h0, h1, h2, h3⟩ := h k hk
 exact ⟨b, off, e, Nat.lt_of_lt_of_le hlt hb.size, (hb.cell (p := ⟨b, off + k * 4, none⟩) hlt).trans h0, (hb.cell (p := ⟨b, off + k * 4 + 1, none⟩) hlt).trans h1, (hb.cell (p := ⟨b, off + k * 4 + 2, none⟩) hlt).trans h2, (hb.cell (p := ⟨b, off + k * 4 + 3, none⟩) hlt).trans h3⟩
theorem StSl.at_ {w : World} {a : Option Addr} {l : List StM} (h : StSl w a l) {k : Nat} (hk : k < l.length) : ∃ b off, a = some ⟨b, off, none⟩ ∧ b < w.heap.size ∧
  w.cell? ⟨b, off + k * 4, none⟩ = some (.int .i64 l[k].f) ∧ w.cell? ⟨b, off + k * 4 + 1, none⟩ = some (.int .i64 l[k].t) ∧ w.cell? ⟨b, off + k * 4 + 2, none⟩ = some (.int .i64 l[k].n) ∧ w.cell? ⟨b, off + k * 4 + 3, none⟩ = some (.int .i64 l[k].s) := h k hk
theorem StSl.take {w : World} {a : Option Addr} {l : List StM} (h : StSl w a l) (n : Nat) : StSl w a (l.take n) := fun k hk => by
 have hk2 : k < l.length := by simp at hk; omega
 obtain ⟨b, off, e, hlt, h0, h1, h2, h3⟩ := h k hk2
 rw [List.getElem_take]
 exact ⟨b, off, e, hlt, h0, h1, h2, h3⟩
theorem StSl.drop {w : World} {b off : Nat} {l : List StM} (h : StSl w (some ⟨b, off, none⟩) l) (n : Nat) : StSl w (some ⟨b, off + n * 4, none⟩) (l.drop n) := fun k hk => by
 have hk2 : n + k < l.length := by simp at hk; omega
 obtain ⟨b', off', e, hlt, h0, h1, h2, h3⟩ := h (n + k) hk2
 cases e
 rw [List.getElem_drop]
 have e1 : off + n * 4 + k * 4 = off + (n + k) * 4 := by omega
 exact ⟨b, off + n * 4, rfl, hlt, by rw [e1]; exact h0, by rw [e1]; exact h1, by rw [e1]; exact h2, by rw [e1]; exact h3⟩
theorem StSl.cells {w : World} {a : Option Addr} {l : List StM} (h : StSl w a l) : ∀ ad, a = some ad → ∀ j u, (sts l)[j]? = some u → w.cell? (ad.add j) = some u := fun ad ha j u hu => by
 have hj : j < l.length * 4 := by rw [← sts_len]; exact (List.getElem?_eq_some_iff.1 hu).1
 have hk : j / 4 < l.length := by omega
 obtain ⟨b, off, e, _, h1, h2, h3, h4⟩ := h (j / 4) hk
 rw [ha] at e
 cases e
 obtain ⟨g1, g2, g3, g4⟩ := sts_get l (j / 4) hk
 have hadd : (⟨b, off, none⟩ : Addr).add j = ⟨b, off + j, none⟩ := by
  unfold Addr.add
  split
  ·rename_i h; subst h; rfl
  ·rfl
 rw [hadd]
 have hd : j = j / 4 * 4 ∨ j = j / 4 * 4 + 1 ∨ j = j / 4 * 4 + 2 ∨ j = j / 4 * 4 + 3 := by omega
 generalize j / 4 = k at *
 rcases hd with rfl | rfl | rfl | rfl
 ·rw [g1] at hu
  cases hu
  exact h1
 ·rw [g2] at hu
  cases hu
  exact h2
 ·rw [g3] at hu
  cases hu
  exact h3
 ·rw [g4] at hu
  cases hu
  exact h4
theorem four_one (a b c d : Int) : ∀ u ∈ [Value.int .i64 a, .int .i64 b, .int .i64 c, .int .i64 d], u.oneCell' = true := by
 intro u hu
 simp only [List.mem_cons, List.mem_nil_iff, or_false] at hu
 rcases hu with rfl | rfl | rfl | rfl <;> rfl
theorem sts_one (l : List StM) : ∀ u ∈ sts l, u.oneCell' = true := fun u hu => by
 unfold sts at hu
 obtain ⟨y, _, hy⟩ := List.mem_flatMap.1 hu
 exact four_one _ _ _ _ u hy
theorem own_st {w : World} {B e : Nat} {v : Value} {l : List StM} (h : w.ownsRow B e 4 v l.length (sts l)) : ∃ a c, v = .slice a l.length c ∧ l.length ≤ c ∧ c ≤ maxLen ∧ StSl w a l ∧ (a = none → c = 0) := by
 rcases h.2 with ⟨rfl, hn⟩ | ⟨g, cap, cur, rfl, hg, hh, hn, hc, hsz, ht⟩
 ·have : l = [] := List.eq_nil_of_length_eq_zero hn
  subst this
  exact ⟨none, 0, rfl, Nat.le_refl _, by unfold maxLen; omega, StSl.nil _ _, fun _ => rfl⟩
 ·have hlt : g < w.heap.size := by
   rcases Nat.lt_or_ge g w.heap.size with h1 | h1
   ·exact h1
   ·rw [Array.getElem?_eq_none h1] at hh; cases hh
  refine ⟨_, cap, rfl, hn, hc, fun k hk => ⟨g, 0, rfl, hlt, ?_, ?_, ?_, ?_⟩, fun e => by cases e⟩
  ·have hg := (sts_get l k hk).1
   rw [← ht, List.getElem?_take, if_pos (by omega), Array.getElem?_toList] at hg
   rw [cell_of_row w g _ cur e (0, 0) hh, Nat.zero_add, hg]
  ·have hg := (sts_get l k hk).2.1
   rw [← ht, List.getElem?_take, if_pos (by omega), Array.getElem?_toList] at hg
   rw [cell_of_row w g _ cur e (0, 0) hh, Nat.zero_add, hg]
  ·have hg := (sts_get l k hk).2.2.1
   rw [← ht, List.getElem?_take, if_pos (by omega), Array.getElem?_toList] at hg
   rw [cell_of_row w g _ cur e (0, 0) hh, Nat.zero_add, hg]
  ·have hg := (sts_get l k hk).2.2.2
   rw [← ht, List.getElem?_take, if_pos (by omega), Array.getElem?_toList] at hg
   rw [cell_of_row w g _ cur e (0, 0) hh, Nat.zero_add, hg]
theorem cells_st (W : World) (l : List StM) (xs : Array Value) (t : TypeId) (g : Nat) (hg : g = W.heap.size) (hx : xs.toList = sts l) : StSl (W.alloc (.cells xs t)) (some ⟨g, 0, none⟩) l := fun k hk => by
 subst hg
 obtain ⟨g1, g2, g3, g4⟩ := sts_get l k hk
 rw [← hx, Array.getElem?_toList] at g1 g2 g3 g4
 refine ⟨W.heap.size, 0, rfl, by rw [size1]; omega, ?_, ?_, ?_, ?_⟩
 ·rw [cell_of_row _ _ _ xs t (0, 0) (heap_alloc_new W _), Nat.zero_add, g1]
 ·rw [cell_of_row _ _ _ xs t (0, 0) (heap_alloc_new W _), Nat.zero_add, g2]
 ·rw [cell_of_row _ _ _ xs t (0, 0) (heap_alloc_new W _), Nat.zero_add, g3]
 ·rw [cell_of_row _ _ _ xs t (0, 0) (heap_alloc_new W _), Nat.zero_add, g4]
def stV (s : StM) : Value := .agg #[.int .i64 s.f, .int .i64 s.t, .int .i64 s.n, .int .i64 s.s]
theorem infoStay : (Tryz.prog.info? 111).map (fun i => (i.zero, i.size, i.bytes)) = some (some (.agg #[.int .i64 0, .int .i64 0, .int .i64 0, .int .i64 0]), 4, 32) := by kernel_rfl
theorem cells4 {g : Nat} {a b c d : Value} {t : TypeId} {W : World} (h : W.heap[g]? = some (.cells #[a, b, c, d] t (0, 0))) : W.cell? ⟨g, 0, none⟩ = some a ∧ W.cell? ⟨g, 1, none⟩ = some b ∧ W.cell? ⟨g, 2, none⟩ = some c ∧ W.cell? ⟨g, 3, none⟩ = some d :=
 ⟨cell_of_row _ _ _ _ _ _ h, cell_of_row _ _ _ _ _ _ h, cell_of_row _ _ _ _ _ _ h, cell_of_row _ _ _ _ _ _ h⟩
theorem wpList_append_st {P : Program} (w : World) {ops : Array Oper} {rest : List Oper} {o : Oper} {a : Act} {Q : Exit → Act → World → Prop} (hgd : o.guard = none) (s x : Operand) (t : TypeId)
  (ho : o.op = .call { callee := .builtin .append, args := #[s, x], argTypes := #[t, t] })
  (base : Nat) (e : TypeId) (i : TypeInfo) (z : Value) (ht : P.underlying t = some (.slice e)) (hi : P.info? e = some i) (hz : i.zero = some z)
  (hsize : i.size = 4) (hby : i.bytes = 32) (hzs : z.cells.size = 4)
  (v : Value) (l : List StM) (hs : a.eval s = v) (hown : w.ownsRow base e 4 v l.length (sts l))
  (A : Option Addr) (c : Nat) (m : List StM) (hx : a.eval x = .slice A m.length c) (hsl : StSl w A m) (hnil : A = none → c = 0)
  (hlen : l.length + m.length ≤ 1000000) (hbase : base ≤ w.heap.size)
  (h : ∀ v' w', w'.ownsRow base e 4 v' (l ++ m).length (sts (l ++ m)) → Below base w w' → wpList P ops Q rest (a.put o.dst v') w') : wpList P ops Q (o :: rest) a w := by
 rw [List.length_append, sts_append] at h
 cases A with
 | none =>
  have hc := hnil rfl
  subst hc
  have hm0 : m = [] := by
   cases m with
   | nil => rfl
   | cons y m => obtain ⟨_, _, e, _⟩ := hsl 0 (by simp); cases e
  subst hm0
  exact wpList_append_own_none hgd s x t ho base e i 4 ht hi v l.length (sts l) hs hown hx (h v w (by simpa [sts] using hown) (Below.refl _ _))
 | some ad =>
  exact wpList_append_own w hgd s x t ho base e i z 4 32 ht hi hz hsize hby hzs (by decide) v l.length (sts l) hs hown ad m.length c (sts m) hx (sts_len m) (hsl.cells ad rfl) (sts_one m) (by unfold maxLen; omega) (by omega) hbase (fun v' w' h2 h3 _ => h v' w' h2 (app_below (Below.refl _ _) hbase hown h3))
def ints (l : List Int) : List Value := l.map fun n => .int .i64 n
theorem ints_len (l : List Int) : (ints l).length = l.length := by simp [ints]
theorem ints_at {w : World} {a : Option Addr} {l : List Int} (h : Sl w a (ints l)) {k : Nat} (hk : k < l.length) : ∃ b off, a = some ⟨b, off, none⟩ ∧ b < w.heap.size ∧ w.cell? ⟨b, off + k, none⟩ = some (.int .i64 l[k]) := by
 obtain ⟨b, off, e, hlt, hc⟩ := h k (by rw [ints_len]; exact hk)
 exact ⟨b, off, e, hlt, by rw [hc]; simp [ints]⟩
end Go.Proofs.YtmfpjapiijgdgaaGreat
namespace Go.Proofs.YtmfpjapiijgdgaaGreat
open Go.RowKit Go.Sort Go.Proofs
set_option linter.unusedVariables false
set_option maxRecDepth 100000
set_option maxRecDepth 100000
def Grew (w w' : World) : Prop := ∃ q os, w' = grow (w.drewN q) os
theorem Grew.refl (w : World) : Grew w w := ⟨0, #[], by rw [grow_empty]; rfl⟩
theorem Grew.drew {w w' : World} (h : Grew w w') : Grew w w'.drew := by
 obtain ⟨q, os, rfl⟩ := h
 exact ⟨q + 1, os, rfl⟩
theorem Grew.alloc {w w' : World} (h : Grew w w') (o : Obj) : Grew w (w'.alloc o) := by
 obtain ⟨q, os, rfl⟩ := h
 exact ⟨q, os ++ #[o], by rw [alloc_eq_grow, grow_grow]⟩
theorem Grew.trans {a b c : World} (h : Grew a b) (k : Grew b c) : Grew a c := by
 obtain ⟨q, os, rfl⟩ := h
 obtain ⟨q', os', rfl⟩ := k
 exact ⟨q + q', os ++ os', by show grow (grow ((a.drewN q).drewN q') os) os' = _; rw [grow_grow, World.drewN_drewN]⟩
theorem Grew.below {w w' : World} (h : Grew w w') {B : Nat} (hB : B ≤ w.heap.size) : Below B w w' := by
 obtain ⟨q, os, rfl⟩ := h
 exact below_grown_sl B w q os hB
theorem infoStay4 : (Tryz.prog.info? 111).map (·.size) = some 4 := by kernel_rfl
theorem loadSt {W : World} {g : Nat} {a b c d : Value} {t : TypeId} (h : W.heap[g]? = some (.cells #[a, b, c, d] t (0, 0))) :
  (loadVar 111 ⟨g, 0, none⟩).run Tryz.prog W = .ok (.agg #[a, b, c, d]) W :=
 run_loadVar_mid (P := Tryz.prog) W g 0 111 [a, b, c, d] _ (fun j v hv => by
  rw [Nat.zero_add, cell_of_row _ _ _ _ _ (0, 0) h]
  simpa using hv) Tryz.underlying111 rfl infoStay4
set_option maxHeartbeats 1000000 in
theorem ahead_any (a b : StM) (w : World) : Calls Tryz.prog 157 #[stV a, stV b] w fun e w' => e = .returned (.bool (decide (ltSt a b))) ∧ Grew w w' := by
 have HG := Lib.hid (fun o p => ((Grew.refl w).alloc o).alloc p)
 unfold stV
 obtain ⟨f1, t1, n1, s1⟩ := a
 obtain ⟨f2, t2, n2, s2⟩ := b
 have HR : Hid (∀ c : Bool, (c = true ↔ ltSt ⟨f1, t1, n1, s1⟩ ⟨f2, t2, n2, s2⟩) → c = decide (ltSt ⟨f1, t1, n1, s1⟩ ⟨f2, t2, n2, s2⟩)) := fun c h => by
  cases c with
  | true => exact (decide_eq_true (h.1 rfl)).symm
  | false => exact (decide_eq_false (fun k => by cases h.2 k)).symm
 dsimp only
 by_cases h0 : f1 = f2
 ·subst h0
  by_cases h1 : t1 = t2
  ·subst h1
   by_cases h2 : n1 = n2
   ·subst h2
    go_enter Tryz.func157, Tryz.ntmps157
    go_wp2
    go_ret
    exact ⟨retB (HR.out _ (by unfold ltSt; simp)), HG.out _ _⟩
   ·have e2 : (n1 == n2) = false := beq_eq_false_iff_ne.2 h2
    go_enter Tryz.func157, Tryz.ntmps157
    go_wp2
    go_ret
    exact ⟨retB (HR.out _ (by unfold ltSt; simp [h2])), HG.out _ _⟩
  ·have e1 : (t1 == t2) = false := beq_eq_false_iff_ne.2 h1
   go_enter Tryz.func157, Tryz.ntmps157
   go_wp2
   go_ret
   exact ⟨retB (HR.out _ (by unfold ltSt; simp [h1])), HG.out _ _⟩
 ·have e0 : (f1 == f2) = false := beq_eq_false_iff_ne.2 h0
  go_enter Tryz.func157, Tryz.ntmps157
  go_wp2
  go_ret
  exact ⟨retB (HR.out _ (by unfold ltSt; simp [h0])), HG.out _ _⟩
def orL : List Int → Int
 | [] => 0
 | x :: l => if x = 0 then orL l else x
theorem orL_drop {l : List Int} {j : Nat} (h : j < l.length) : orL (l.drop j) = if l[j] = 0 then orL (l.drop (j + 1)) else l[j] := by
 rw [List.drop_eq_getElem_cons h]; rfl
theorem or_any (a : Option Addr) (c : Nat) (l : List Int) (w : World) (hr : Sl w a (ints l)) (hl : l.length ≤ 1000) :
  Calls Tryz.prog 167 #[.slice a l.length c] w fun e w' => e = .returned (.int .i64 (orL l)) ∧ w' = w := by
 have HR := Lib.hid hr
 clear hr
 go_enter Tryz.func167, Tryz.ntmps167
 go_wp2
 go_loopw [8] (fun i wr => ∃ (j : Nat), j ≤ l.length ∧ i = .int .i64 j ∧ Hid (orL l = orL (l.drop j)) ∧ wr = w) (fun i _ => l.length - (intOf i).toNat)
 case atStart => exact ⟨0, by omega, rfl, rfl, rfl⟩
 case round =>
  obtain ⟨j, hj, rfl, HF, rfl⟩ := hrel
  by_cases hjl : j < l.length
  ·obtain ⟨b, off, rfl, hbl, hc0⟩ := ints_at HR.out hjl
   have HN := Lib.hid (HF.out.trans (orL_drop hjl))
   generalize l[j] = x at *
   by_cases h : x = 0
   ·subst h
    clear HF
    go_wp2
    go_roundw
    case rel => exact ⟨j + 1, by omega, by go_num, HN.out, trivial⟩
    case measure => simp [intOf]; omega
   ·have he : (x == 0) = false := beq_eq_false_iff_ne.2 h
    have HN2 : Hid (orL l = x) := by
     have := HN.out
     rw [if_neg h] at this
     exact this
    clear HN HF
    go_wp2
    go_ret
    exact ⟨by rw [HN2.out]; rfl, rfl⟩
  ·obtain rfl : j = l.length := by omega
   have HN2 : Hid (orL l = 0) := by
    have := HF.out
    rw [List.drop_eq_nil_of_le (Nat.le_refl _)] at this
    exact this
   go_wp2
   go_ret
   exact ⟨by rw [HN2.out]; rfl, rfl⟩
end Go.Proofs.YtmfpjapiijgdgaaGreat
namespace Go.Proofs.YtmfpjapiijgdgaaGreat
open Go.RowKit
set_option linter.unusedVariables false
set_option maxRecDepth 100000
set_option maxRecDepth 100000
theorem below_one (w : World) (o : Obj) : Below w.heap.size w (w.alloc o) := (Below.refl _ _).alloc (Nat.le_refl _) _
def encO (s : OpM) : List Value := [.int .i64 s.n, .string s.u, .int .i64 s.s, .int .i64 s.f]
def oes (l : List OpM) : List Value := l.flatMap encO
theorem oes_cons (s : OpM) (l : List OpM) : oes (s :: l) = encO s ++ oes l := by simp [oes]
theorem oes_len (l : List OpM) : (oes l).length = l.length * 4 := by
 induction l with
 | nil => rfl
 | cons e l ih => rw [oes_cons, List.length_append, ih, List.length_cons]; simp only [encO, List.length_cons, List.length_nil]; omega
theorem oes_append (l m : List OpM) : oes (l ++ m) = oes l ++ oes m := by simp [oes]
theorem oes_snoc (l : List OpM) (x : OpM) : oes (l ++ [x]) = oes l ++ [.int .i64 x.n, .string x.u, .int .i64 x.s, .int .i64 x.f] := by simp [oes, encO]
theorem oes_get (l : List OpM) : ∀ (k : Nat) (h : k < l.length), (oes l)[k * 4]? = some (.int .i64 l[k].n) ∧ (oes l)[k * 4 + 1]? = some (.string l[k].u) ∧ (oes l)[k * 4 + 2]? = some (.int .i64 l[k].s) ∧ (oes l)[k * 4 + 3]? = some (.int .i64 l[k].f) := by
 induction l with
 | nil => intro k h; exact absurd h (by simp)
 | cons x l ih =>
  intro k h
  rw [oes_cons]
  cases k with
  | zero => exact ⟨rfl, rfl, rfl, rfl⟩
  | succ k =>
   have := ih k (by simpa using h)
   rw [show (k + 1) * 4 = k * 4 + 1 + 1 + 1 + 1 by omega]
   simpa [encO] using this
def OpSl (w : World) (a : Option Addr) (l : List OpM) : Prop := ∀ k (h : k < l.length), ∃ b off, a = some ⟨b, off, none⟩ ∧ b < w.heap.size ∧
 w.cell? ⟨b, off + k * 4, none⟩ = some (.int .i64 l[k].n) ∧ w.cell? ⟨b, off + k * 4 + 1, none⟩ = some (.string l[k].u) ∧ w.cell? ⟨b, off + k * 4 + 2, none⟩ = some (.int .i64 l[k].s) ∧ w.cell? ⟨b, off + k * 4 + 3, none⟩ = some (.int .i64 l[k].f)
theorem OpSl.nil (w : World) (a : Option Addr) : OpSl w a [] := fun k h => absurd h (by simp)
theorem OpSl.below {w w' : World} {a : Option Addr} {l : List OpM} (h : OpSl w a l) (hb : Below w.heap.size w w') : OpSl w' a l := fun k hk => by
 obtain ⟨b, off, e, hlt, h0, h1, h2, h3⟩ := h k hk
 exact ⟨b, off, e, Nat.lt_of_lt_of_le hlt hb.size, (hb.cell (p := ⟨b, off + k * 4, none⟩) hlt).trans h0, (hb.cell (p := ⟨b, off + k * 4 + 1, none⟩) hlt).trans h1, (hb.cell (p := ⟨b, off + k * 4 + 2, none⟩) hlt).trans h2, (hb.cell (p := ⟨b, off + k * 4 + 3, none⟩) hlt).trans h3⟩
theorem OpSl.at_ {w : World} {a : Option Addr} {l : List OpM} (h : OpSl w a l) {k : Nat} (hk : k < l.length) : ∃ b off, a = some ⟨b, off, none⟩ ∧ b < w.heap.size ∧
  w.cell? ⟨b, off + k * 4, none⟩ = some (.int .i64 l[k].n) ∧ w.cell? ⟨b, off + k * 4 + 1, none⟩ = some (.string l[k].u) ∧ w.cell? ⟨b, off + k * 4 + 2, none⟩ = some (.int .i64 l[k].s) ∧ w.cell? ⟨b, off + k * 4 + 3, none⟩ = some (.int .i64 l[k].f) := h k hk
theorem OpSl.take {w : World} {a : Option Addr} {l : List OpM} (h : OpSl w a l) (n : Nat) : OpSl w a (l.take n) := fun k hk => by
 have hk2 : k < l.length := by simp at hk; omega
 obtain ⟨b, off, e, hlt, h0, h1, h2, h3⟩ := h k hk2
 rw [List.getElem_take]
 exact ⟨b, off, e, hlt, h0, h1, h2, h3⟩
theorem OpSl.drop {w : World} {b off : Nat} {l : List OpM} (h : OpSl w (some ⟨b, off, none⟩) l) (n : Nat) : OpSl w (some ⟨b, off + n * 4, none⟩) (l.drop n) := fun k hk => by
 have hk2 : n + k < l.length := by simp at hk; omega
 obtain ⟨b', off', e, hlt, h0, h1, h2, h3⟩ := h (n + k) hk2
 cases e
 rw [List.getElem_drop]
 have e1 : off + n * 4 + k * 4 = off + (n + k) * 4 := by omega
 exact ⟨b, off + n * 4, rfl, hlt, by rw [e1]; exact h0, by rw [e1]; exact h1, by rw [e1]; exact h2, by rw [e1]; exact h3⟩
theorem OpSl.cells {w : World} {a : Option Addr} {l : List OpM} (h : OpSl w a l) : ∀ ad, a = some ad → ∀ j u, (oes l)[j]? = some u → w.cell? (ad.add j) = some u := fun ad ha j u hu => by
 have hj : j < l.length * 4 := by rw [← oes_len]; exact (List.getElem?_eq_some_iff.1 hu).1
 have hk : j / 4 < l.length := by omega
 obtain ⟨b, off, e, _, h1, h2, h3, h4⟩ := h (j / 4) hk
 rw [ha] at e
 cases e
 obtain ⟨g1, g2, g3, g4⟩ := oes_get l (j / 4) hk
 have hadd : (⟨b, off, none⟩ : Addr).add j = ⟨b, off + j, none⟩ := by
  unfold Addr.add
  split
  ·rename_i h; subst h; rfl
  ·rfl
 rw [hadd]
 have hd : j = j / 4 * 4 ∨ j = j / 4 * 4 + 1 ∨ j = j / 4 * 4 + 2 ∨ j = j / 4 * 4 + 3 := by omega
 generalize j / 4 = k at *
 rcases hd with rfl | rfl | rfl | rfl
 ·rw [g1] at hu
  cases hu
  exact h1
 ·rw [g2] at hu
  cases hu
  exact h2
 ·rw [g3] at hu
  cases hu
  exact h3
 ·rw [g4] at hu
  cases hu
  exact h4
theorem four_o (a : Int) (b : ByteArray) (c d : Int) : ∀ u ∈ [Value.int .i64 a, .string b, .int .i64 c, .int .i64 d], u.oneCell' = true := by
 intro u hu
 simp only [List.mem_cons, List.mem_nil_iff, or_false] at hu
 rcases hu with rfl | rfl | rfl | rfl <;> rfl
theorem oes_one (l : List OpM) : ∀ u ∈ oes l, u.oneCell' = true := fun u hu => by
 unfold oes at hu
 obtain ⟨y, _, hy⟩ := List.mem_flatMap.1 hu
 exact four_o _ _ _ _ u hy
theorem own_op {w : World} {B e : Nat} {v : Value} {l : List OpM} (h : w.ownsRow B e 4 v l.length (oes l)) : ∃ a c, v = .slice a l.length c ∧ l.length ≤ c ∧ c ≤ maxLen ∧ OpSl w a l ∧ (a = none → c = 0) := by
 rcases h.2 with ⟨rfl, hn⟩ | ⟨g, cap, cur, rfl, hg, hh, hn, hc, hsz, ht⟩
 ·have : l = [] := List.eq_nil_of_length_eq_zero hn
  subst this
  exact ⟨none, 0, rfl, Nat.le_refl _, by unfold maxLen; omega, OpSl.nil _ _, fun _ => rfl⟩
 ·have hlt : g < w.heap.size := by
   rcases Nat.lt_or_ge g w.heap.size with h1 | h1
   ·exact h1
   ·rw [Array.getElem?_eq_none h1] at hh; cases hh
  refine ⟨_, cap, rfl, hn, hc, fun k hk => ⟨g, 0, rfl, hlt, ?_, ?_, ?_, ?_⟩, fun e => by cases e⟩
  ·have hg := (oes_get l k hk).1
   rw [← ht, List.getElem?_take, if_pos (by omega), Array.getElem?_toList] at hg
   rw [cell_of_row w g _ cur e (0, 0) hh, Nat.zero_add, hg]
  ·have hg := (oes_get l k hk).2.1
   rw [← ht, List.getElem?_take, if_pos (by omega), Array.getElem?_toList] at hg
   rw [cell_of_row w g _ cur e (0, 0) hh, Nat.zero_add, hg]
  ·have hg := (oes_get l k hk).2.2.1
   rw [← ht, List.getElem?_take, if_pos (by omega), Array.getElem?_toList] at hg
   rw [cell_of_row w g _ cur e (0, 0) hh, Nat.zero_add, hg]
  ·have hg := (oes_get l k hk).2.2.2
   rw [← ht, List.getElem?_take, if_pos (by omega), Array.getElem?_toList] at hg
   rw [cell_of_row w g _ cur e (0, 0) hh, Nat.zero_add, hg]
theorem cells_op (W : World) (l : List OpM) (xs : Array Value) (t : TypeId) (g : Nat) (hg : g = W.heap.size) (hx : xs.toList = oes l) : OpSl (W.alloc (.cells xs t)) (some ⟨g, 0, none⟩) l := fun k hk => by
 subst hg
 obtain ⟨g1, g2, g3, g4⟩ := oes_get l k hk
 rw [← hx, Array.getElem?_toList] at g1 g2 g3 g4
 refine ⟨W.heap.size, 0, rfl, by rw [size1]; omega, ?_, ?_, ?_, ?_⟩
 ·rw [cell_of_row _ _ _ xs t (0, 0) (heap_alloc_new W _), Nat.zero_add, g1]
 ·rw [cell_of_row _ _ _ xs t (0, 0) (heap_alloc_new W _), Nat.zero_add, g2]
 ·rw [cell_of_row _ _ _ xs t (0, 0) (heap_alloc_new W _), Nat.zero_add, g3]
 ·rw [cell_of_row _ _ _ xs t (0, 0) (heap_alloc_new W _), Nat.zero_add, g4]
def opV (s : OpM) : Value := .agg #[.int .i64 s.n, .string s.u, .int .i64 s.s, .int .i64 s.f]
theorem infoOp : (Tryz.prog.info? 184).map (fun i => (i.zero, i.size, i.bytes)) = some (some (.agg #[.int .i64 0, .string ⟨#[]⟩, .int .i64 0, .int .i64 0]), 4, 40) := by kernel_rfl
theorem wpList_append_op {P : Program} (w : World) {ops : Array Oper} {rest : List Oper} {o : Oper} {a : Act} {Q : Exit → Act → World → Prop} (hgd : o.guard = none) (s x : Operand) (t : TypeId)
  (ho : o.op = .call { callee := .builtin .append, args := #[s, x], argTypes := #[t, t] })
  (base : Nat) (e : TypeId) (i : TypeInfo) (z : Value) (ht : P.underlying t = some (.slice e)) (hi : P.info? e = some i) (hz : i.zero = some z)
  (hsize : i.size = 4) (hby : i.bytes = 40) (hzs : z.cells.size = 4)
  (v : Value) (l : List OpM) (hs : a.eval s = v) (hown : w.ownsRow base e 4 v l.length (oes l))
  (A : Option Addr) (c : Nat) (m : List OpM) (hx : a.eval x = .slice A m.length c) (hsl : OpSl w A m) (hnil : A = none → c = 0)
  (hlen : l.length + m.length ≤ 1000000) (hbase : base ≤ w.heap.size)
  (h : ∀ v' w', w'.ownsRow base e 4 v' (l ++ m).length (oes (l ++ m)) → Below base w w' → wpList P ops Q rest (a.put o.dst v') w') : wpList P ops Q (o :: rest) a w := by
 rw [List.length_append, oes_append] at h
 cases A with
 | none =>
  have hc := hnil rfl
  subst hc
  have hm0 : m = [] := by
   cases m with
   | nil => rfl
   | cons y m => obtain ⟨_, _, e, _⟩ := hsl 0 (by simp); cases e
  subst hm0
  exact wpList_append_own_none hgd s x t ho base e i 4 ht hi v l.length (oes l) hs hown hx (h v w (by simpa [oes] using hown) (Below.refl _ _))
 | some ad =>
  exact wpList_append_own w hgd s x t ho base e i z 4 40 ht hi hz hsize hby hzs (by decide) v l.length (oes l) hs hown ad m.length c (oes m) hx (oes_len m) (hsl.cells ad rfl) (oes_one m) (by unfold maxLen; omega) (by omega) hbase (fun v' w' h2 h3 _ => h v' w' h2 (app_below (Below.refl _ _) hbase hown h3))
def encE (s : EnM) : List Value := [.string s.w, .string s.u, .int .i64 s.f, .int .i64 s.t]
def ens (l : List EnM) : List Value := l.flatMap encE
theorem ens_cons (s : EnM) (l : List EnM) : ens (s :: l) = encE s ++ ens l := by simp [ens]
theorem ens_len (l : List EnM) : (ens l).length = l.length * 4 := by
 induction l with
 | nil => rfl
 | cons e l ih => rw [ens_cons, List.length_append, ih, List.length_cons]; simp only [encE, List.length_cons, List.length_nil]; omega
theorem ens_append (l m : List EnM) : ens (l ++ m) = ens l ++ ens m := by simp [ens]
theorem ens_snoc (l : List EnM) (x : EnM) : ens (l ++ [x]) = ens l ++ [.string x.w, .string x.u, .int .i64 x.f, .int .i64 x.t] := by simp [ens, encE]
theorem ens_get (l : List EnM) : ∀ (k : Nat) (h : k < l.length), (ens l)[k * 4]? = some (.string l[k].w) ∧ (ens l)[k * 4 + 1]? = some (.string l[k].u) ∧ (ens l)[k * 4 + 2]? = some (.int .i64 l[k].f) ∧ (ens l)[k * 4 + 3]? = some (.int .i64 l[k].t) := by
 induction l with
 | nil => intro k h; exact absurd h (by simp)
 | cons x l ih =>
  intro k h
  rw [ens_cons]
  cases k with
  | zero => exact ⟨rfl, rfl, rfl, rfl⟩
  | succ k =>
   have := ih k (by simpa using h)
   rw [show (k + 1) * 4 = k * 4 + 1 + 1 + 1 + 1 by omega]
   simpa [encE] using this
def EnSl (w : World) (a : Option Addr) (l : List EnM) : Prop := ∀ k (h : k < l.length), ∃ b off, a = some ⟨b, off, none⟩ ∧ b < w.heap.size ∧
 w.cell? ⟨b, off + k * 4, none⟩ = some (.string l[k].w) ∧ w.cell? ⟨b, off + k * 4 + 1, none⟩ = some (.string l[k].u) ∧ w.cell? ⟨b, off + k * 4 + 2, none⟩ = some (.int .i64 l[k].f) ∧ w.cell? ⟨b, off + k * 4 + 3, none⟩ = some (.int .i64 l[k].t)
theorem EnSl.nil (w : World) (a : Option Addr) : EnSl w a [] := fun k h => absurd h (by simp)
theorem EnSl.below {w w' : World} {a : Option Addr} {l : List EnM} (h : EnSl w a l) (hb : Below w.heap.size w w') : EnSl w' a l := fun k hk => by
 obtain ⟨b, off, e, hlt, h0, h1, h2, h3⟩ := h k hk
 exact ⟨b, off, e, Nat.lt_of_lt_of_le hlt hb.size, (hb.cell (p := ⟨b, off + k * 4, none⟩) hlt).trans h0, (hb.cell (p := ⟨b, off + k * 4 + 1, none⟩) hlt).trans h1, (hb.cell (p := ⟨b, off + k * 4 + 2, none⟩) hlt).trans h2, (hb.cell (p := ⟨b, off + k * 4 + 3, none⟩) hlt).trans h3⟩
theorem EnSl.at_ {w : World} {a : Option Addr} {l : List EnM} (h : EnSl w a l) {k : Nat} (hk : k < l.length) : ∃ b off, a = some ⟨b, off, none⟩ ∧ b < w.heap.size ∧
  w.cell? ⟨b, off + k * 4, none⟩ = some (.string l[k].w) ∧ w.cell? ⟨b, off + k * 4 + 1, none⟩ = some (.string l[k].u) ∧ w.cell? ⟨b, off + k * 4 + 2, none⟩ = some (.int .i64 l[k].f) ∧ w.cell? ⟨b, off + k * 4 + 3, none⟩ = some (.int .i64 l[k].t) := h k hk
theorem EnSl.take {w : World} {a : Option Addr} {l : List EnM} (h : EnSl w a l) (n : Nat) : EnSl w a (l.take n) := fun k hk => by
 have hk2 : k < l.length := by simp at hk; omega
 obtain ⟨b, off, e, hlt, h0, h1, h2, h3⟩ := h k hk2
 rw [List.getElem_take]
 exact ⟨b, off, e, hlt, h0, h1, h2, h3⟩
theorem EnSl.drop {w : World} {b off : Nat} {l : List EnM} (h : EnSl w (some ⟨b, off, none⟩) l) (n : Nat) : EnSl w (some ⟨b, off + n * 4, none⟩) (l.drop n) := fun k hk => by
 have hk2 : n + k < l.length := by simp at hk; omega
 obtain ⟨b', off', e, hlt, h0, h1, h2, h3⟩ := h (n + k) hk2
 cases e
 rw [List.getElem_drop]
 have e1 : off + n * 4 + k * 4 = off + (n + k) * 4 := by omega
 exact ⟨b, off + n * 4, rfl, hlt, by rw [e1]; exact h0, by rw [e1]; exact h1, by rw [e1]; exact h2, by rw [e1]; exact h3⟩
theorem EnSl.cells {w : World} {a : Option Addr} {l : List EnM} (h : EnSl w a l) : ∀ ad, a = some ad → ∀ j u, (ens l)[j]? = some u → w.cell? (ad.add j) = some u := fun ad ha j u hu => by
 have hj : j < l.length * 4 := by rw [← ens_len]; exact (List.getElem?_eq_some_iff.1 hu).1
 have hk : j / 4 < l.length := by omega
 obtain ⟨b, off, e, _, h1, h2, h3, h4⟩ := h (j / 4) hk
 rw [ha] at e
 cases e
 obtain ⟨g1, g2, g3, g4⟩ := ens_get l (j / 4) hk
 have hadd : (⟨b, off, none⟩ : Addr).add j = ⟨b, off + j, none⟩ := by
  unfold Addr.add
  split
  ·rename_i h; subst h; rfl
  ·rfl
 rw [hadd]
 have hd : j = j / 4 * 4 ∨ j = j / 4 * 4 + 1 ∨ j = j / 4 * 4 + 2 ∨ j = j / 4 * 4 + 3 := by omega
 generalize j / 4 = k at *
 rcases hd with rfl | rfl | rfl | rfl
 ·rw [g1] at hu
  cases hu
  exact h1
 ·rw [g2] at hu
  cases hu
  exact h2
 ·rw [g3] at hu
  cases hu
  exact h3
 ·rw [g4] at hu
  cases hu
  exact h4
theorem four_e (a b : ByteArray) (c d : Int) : ∀ u ∈ [Value.string a, .string b, .int .i64 c, .int .i64 d], u.oneCell' = true := by
 intro u hu
 simp only [List.mem_cons, List.mem_nil_iff, or_false] at hu
 rcases hu with rfl | rfl | rfl | rfl <;> rfl
theorem ens_one (l : List EnM) : ∀ u ∈ ens l, u.oneCell' = true := fun u hu => by
 unfold ens at hu
 obtain ⟨y, _, hy⟩ := List.mem_flatMap.1 hu
 exact four_e _ _ _ _ u hy
theorem own_en {w : World} {B e : Nat} {v : Value} {l : List EnM} (h : w.ownsRow B e 4 v l.length (ens l)) : ∃ a c, v = .slice a l.length c ∧ l.length ≤ c ∧ c ≤ maxLen ∧ EnSl w a l ∧ (a = none → c = 0) := by
 rcases h.2 with ⟨rfl, hn⟩ | ⟨g, cap, cur, rfl, hg, hh, hn, hc, hsz, ht⟩
 ·have : l = [] := List.eq_nil_of_length_eq_zero hn
  subst this
  exact ⟨none, 0, rfl, Nat.le_refl _, by unfold maxLen; omega, EnSl.nil _ _, fun _ => rfl⟩
 ·have hlt : g < w.heap.size := by
   rcases Nat.lt_or_ge g w.heap.size with h1 | h1
   ·exact h1
   ·rw [Array.getElem?_eq_none h1] at hh; cases hh
  refine ⟨_, cap, rfl, hn, hc, fun k hk => ⟨g, 0, rfl, hlt, ?_, ?_, ?_, ?_⟩, fun e => by cases e⟩
  ·have hg := (ens_get l k hk).1
   rw [← ht, List.getElem?_take, if_pos (by omega), Array.getElem?_toList] at hg
   rw [cell_of_row w g _ cur e (0, 0) hh, Nat.zero_add, hg]
  ·have hg := (ens_get l k hk).2.1
   rw [← ht, List.getElem?_take, if_pos (by omega), Array.getElem?_toList] at hg
   rw [cell_of_row w g _ cur e (0, 0) hh, Nat.zero_add, hg]
  ·have hg := (ens_get l k hk).2.2.1
   rw [← ht, List.getElem?_take, if_pos (by omega), Array.getElem?_toList] at hg
   rw [cell_of_row w g _ cur e (0, 0) hh, Nat.zero_add, hg]
  ·have hg := (ens_get l k hk).2.2.2
   rw [← ht, List.getElem?_take, if_pos (by omega), Array.getElem?_toList] at hg
   rw [cell_of_row w g _ cur e (0, 0) hh, Nat.zero_add, hg]
theorem cells_en (W : World) (l : List EnM) (xs : Array Value) (t : TypeId) (g : Nat) (hg : g = W.heap.size) (hx : xs.toList = ens l) : EnSl (W.alloc (.cells xs t)) (some ⟨g, 0, none⟩) l := fun k hk => by
 subst hg
 obtain ⟨g1, g2, g3, g4⟩ := ens_get l k hk
 rw [← hx, Array.getElem?_toList] at g1 g2 g3 g4
 refine ⟨W.heap.size, 0, rfl, by rw [size1]; omega, ?_, ?_, ?_, ?_⟩
 ·rw [cell_of_row _ _ _ xs t (0, 0) (heap_alloc_new W _), Nat.zero_add, g1]
 ·rw [cell_of_row _ _ _ xs t (0, 0) (heap_alloc_new W _), Nat.zero_add, g2]
 ·rw [cell_of_row _ _ _ xs t (0, 0) (heap_alloc_new W _), Nat.zero_add, g3]
 ·rw [cell_of_row _ _ _ xs t (0, 0) (heap_alloc_new W _), Nat.zero_add, g4]
def enV (s : EnM) : Value := .agg #[.string s.w, .string s.u, .int .i64 s.f, .int .i64 s.t]
theorem infoEn : (Tryz.prog.info? 165).map (fun i => (i.zero, i.size, i.bytes)) = some (some (.agg #[.string ⟨#[]⟩, .string ⟨#[]⟩, .int .i64 0, .int .i64 0]), 4, 48) := by kernel_rfl
theorem ecells4 {g : Nat} {a b c d : Value} {t : TypeId} {W : World} (h : W.heap[g]? = some (.cells #[a, b, c, d] t (0, 0))) : W.cell? ⟨g, 0, none⟩ = some a ∧ W.cell? ⟨g, 1, none⟩ = some b ∧ W.cell? ⟨g, 2, none⟩ = some c ∧ W.cell? ⟨g, 3, none⟩ = some d :=
 ⟨cell_of_row _ _ _ _ _ _ h, cell_of_row _ _ _ _ _ _ h, cell_of_row _ _ _ _ _ _ h, cell_of_row _ _ _ _ _ _ h⟩
theorem wpList_append_en {P : Program} (w : World) {ops : Array Oper} {rest : List Oper} {o : Oper} {a : Act} {Q : Exit → Act → World → Prop} (hgd : o.guard = none) (s x : Operand) (t : TypeId)
  (ho : o.op = .call { callee := .builtin .append, args := #[s, x], argTypes := #[t, t] })
  (base : Nat) (e : TypeId) (i : TypeInfo) (z : Value) (ht : P.underlying t = some (.slice e)) (hi : P.info? e = some i) (hz : i.zero = some z)
  (hsize : i.size = 4) (hby : i.bytes = 48) (hzs : z.cells.size = 4)
  (v : Value) (l : List EnM) (hs : a.eval s = v) (hown : w.ownsRow base e 4 v l.length (ens l))
  (A : Option Addr) (c : Nat) (m : List EnM) (hx : a.eval x = .slice A m.length c) (hsl : EnSl w A m) (hnil : A = none → c = 0)
  (hlen : l.length + m.length ≤ 1000000) (hbase : base ≤ w.heap.size)
  (h : ∀ v' w', w'.ownsRow base e 4 v' (l ++ m).length (ens (l ++ m)) → Below base w w' → wpList P ops Q rest (a.put o.dst v') w') : wpList P ops Q (o :: rest) a w := by
 rw [List.length_append, ens_append] at h
 cases A with
 | none =>
  have hc := hnil rfl
  subst hc
  have hm0 : m = [] := by
   cases m with
   | nil => rfl
   | cons y m => obtain ⟨_, _, e, _⟩ := hsl 0 (by simp); cases e
  subst hm0
  exact wpList_append_own_none hgd s x t ho base e i 4 ht hi v l.length (ens l) hs hown hx (h v w (by simpa [ens] using hown) (Below.refl _ _))
 | some ad =>
  exact wpList_append_own w hgd s x t ho base e i z 4 48 ht hi hz hsize hby hzs (by decide) v l.length (ens l) hs hown ad m.length c (ens m) hx (ens_len m) (hsl.cells ad rfl) (ens_one m) (by unfold maxLen; omega) (by omega) hbase (fun v' w' h2 h3 _ => h v' w' h2 (app_below (Below.refl _ _) hbase hown h3))
def pps (l : List (Value × Value)) : List Value := l.flatMap fun x => [x.1, x.2]
theorem pps_cons (s : Value × Value) (l : List (Value × Value)) : pps (s :: l) = [s.1, s.2] ++ pps l := by simp [pps]
theorem pps_len (l : List (Value × Value)) : (pps l).length = l.length * 2 := by
 induction l with
 | nil => rfl
 | cons e l ih => rw [pps_cons, List.length_append, ih, List.length_cons]; simp only [List.length_cons, List.length_nil]; omega
theorem pps_append (l m : List (Value × Value)) : pps (l ++ m) = pps l ++ pps m := by simp [pps]
theorem pps_snoc (l : List (Value × Value)) (x : Value × Value) : pps (l ++ [x]) = pps l ++ [x.1, x.2] := by simp [pps]
theorem pps_get (l : List (Value × Value)) : ∀ (k : Nat) (h : k < l.length), (pps l)[k * 2]? = some l[k].1 ∧ (pps l)[k * 2 + 1]? = some l[k].2 := by
 induction l with
 | nil => intro k h; exact absurd h (by simp)
 | cons x l ih =>
  intro k h
  rw [pps_cons]
  cases k with
  | zero => exact ⟨rfl, rfl⟩
  | succ k =>
   have := ih k (by simpa using h)
   rw [show (k + 1) * 2 = k * 2 + 1 + 1 by omega]
   simpa using this
def PpSl (w : World) (a : Option Addr) (l : List (Value × Value)) : Prop := ∀ k (h : k < l.length), ∃ b off, a = some ⟨b, off, none⟩ ∧ b < w.heap.size ∧
 w.cell? ⟨b, off + k * 2, none⟩ = some l[k].1 ∧ w.cell? ⟨b, off + k * 2 + 1, none⟩ = some l[k].2
theorem PpSl.nil (w : World) (a : Option Addr) : PpSl w a [] := fun k h => absurd h (by simp)
theorem PpSl.below {w w' : World} {a : Option Addr} {l : List (Value × Value)} (h : PpSl w a l) (hb : Below w.heap.size w w') : PpSl w' a l := fun k hk => by
 obtain ⟨b, off, e, hlt, h0, h1⟩ := h k hk
 exact ⟨b, off, e, Nat.lt_of_lt_of_le hlt hb.size, (hb.cell (p := ⟨b, off + k * 2, none⟩) hlt).trans h0, (hb.cell (p := ⟨b, off + k * 2 + 1, none⟩) hlt).trans h1⟩
theorem PpSl.at_ {w : World} {a : Option Addr} {l : List (Value × Value)} (h : PpSl w a l) {k : Nat} (hk : k < l.length) : ∃ b off, a = some ⟨b, off, none⟩ ∧ b < w.heap.size ∧
  w.cell? ⟨b, off + k * 2, none⟩ = some l[k].1 ∧ w.cell? ⟨b, off + k * 2 + 1, none⟩ = some l[k].2 := h k hk
theorem PpSl.take {w : World} {a : Option Addr} {l : List (Value × Value)} (h : PpSl w a l) (n : Nat) : PpSl w a (l.take n) := fun k hk => by
 have hk2 : k < l.length := by simp at hk; omega
 obtain ⟨b, off, e, hlt, h0, h1⟩ := h k hk2
 rw [List.getElem_take]
 exact ⟨b, off, e, hlt, h0, h1⟩
theorem PpSl.drop {w : World} {b off : Nat} {l : List (Value × Value)} (h : PpSl w (some ⟨b, off, none⟩) l) (n : Nat) : PpSl w (some ⟨b, off + n * 2, none⟩) (l.drop n) := fun k hk => by
 have hk2 : n + k < l.length := by simp at hk; omega
 obtain ⟨b', off', e, hlt, h0, h1⟩ := h (n + k) hk2
 cases e
 rw [List.getElem_drop]
 have e1 : off + n * 2 + k * 2 = off + (n + k) * 2 := by omega
 exact ⟨b, off + n * 2, rfl, hlt, by rw [e1]; exact h0, by rw [e1]; exact h1⟩
theorem PpSl.cells {w : World} {a : Option Addr} {l : List (Value × Value)} (h : PpSl w a l) : ∀ ad, a = some ad → ∀ j u, (pps l)[j]? = some u → w.cell? (ad.add j) = some u := fun ad ha j u hu => by
 have hj : j < l.length * 2 := by rw [← pps_len]; exact (List.getElem?_eq_some_iff.1 hu).1
 have hk : j / 2 < l.length := by omega
 obtain ⟨b, off, e, _, h1, h2⟩ := h (j / 2) hk
 rw [ha] at e
 cases e
 obtain ⟨g1, g2⟩ := pps_get l (j / 2) hk
 have hadd : (⟨b, off, none⟩ : Addr).add j = ⟨b, off + j, none⟩ := by
  unfold Addr.add
  split
  ·rename_i h; subst h; rfl
  ·rfl
 rw [hadd]
 have hd : j = j / 2 * 2 ∨ j = j / 2 * 2 + 1 := by omega
 generalize j / 2 = k at *
 rcases hd with rfl | rfl
 ·rw [g1] at hu
  cases hu
  exact h1
 ·rw [g2] at hu
  cases hu
  exact h2
def OneP (l : List (Value × Value)) : Prop := ∀ x ∈ l, x.1.oneCell' = true ∧ x.2.oneCell' = true
theorem pps_one {l : List (Value × Value)} (h : OneP l) : ∀ u ∈ pps l, u.oneCell' = true := fun u hu => by
 unfold pps at hu
 obtain ⟨y, hy, hu⟩ := List.mem_flatMap.1 hu
 simp only [List.mem_cons, List.mem_nil_iff, or_false] at hu
 rcases hu with rfl | rfl
 ·exact (h y hy).1
 ·exact (h y hy).2
theorem own_pp {w : World} {B e : Nat} {v : Value} {l : List (Value × Value)} (h : w.ownsRow B e 2 v l.length (pps l)) : ∃ a c, v = .slice a l.length c ∧ l.length ≤ c ∧ c ≤ maxLen ∧ PpSl w a l ∧ (a = none → c = 0) := by
 rcases h.2 with ⟨rfl, hn⟩ | ⟨g, cap, cur, rfl, hg, hh, hn, hc, hsz, ht⟩
 ·have : l = [] := List.eq_nil_of_length_eq_zero hn
  subst this
  exact ⟨none, 0, rfl, Nat.le_refl _, by unfold maxLen; omega, PpSl.nil _ _, fun _ => rfl⟩
 ·have hlt : g < w.heap.size := by
   rcases Nat.lt_or_ge g w.heap.size with h1 | h1
   ·exact h1
   ·rw [Array.getElem?_eq_none h1] at hh; cases hh
  refine ⟨_, cap, rfl, hn, hc, fun k hk => ⟨g, 0, rfl, hlt, ?_, ?_⟩, fun e => by cases e⟩
  ·have hg := (pps_get l k hk).1
   rw [← ht, List.getElem?_take, if_pos (by omega), Array.getElem?_toList] at hg
   rw [cell_of_row w g _ cur e (0, 0) hh, Nat.zero_add, hg]
  ·have hg := (pps_get l k hk).2
   rw [← ht, List.getElem?_take, if_pos (by omega), Array.getElem?_toList] at hg
   rw [cell_of_row w g _ cur e (0, 0) hh, Nat.zero_add, hg]
theorem cells_pp (W : World) (l : List (Value × Value)) (xs : Array Value) (t : TypeId) (g : Nat) (hg : g = W.heap.size) (hx : xs.toList = pps l) : PpSl (W.alloc (.cells xs t)) (some ⟨g, 0, none⟩) l := fun k hk => by
 subst hg
 obtain ⟨g1, g2⟩ := pps_get l k hk
 rw [← hx, Array.getElem?_toList] at g1 g2
 refine ⟨W.heap.size, 0, rfl, by rw [size1]; omega, ?_, ?_⟩
 ·rw [cell_of_row _ _ _ xs t (0, 0) (heap_alloc_new W _), Nat.zero_add, g1]
 ·rw [cell_of_row _ _ _ xs t (0, 0) (heap_alloc_new W _), Nat.zero_add, g2]
theorem pcell2 {g : Nat} {a b : Value} {t : TypeId} {W : World} (h : W.heap[g]? = some (.cells #[a, b] t (0, 0))) : W.cell? ⟨g, 0, none⟩ = some a ∧ W.cell? ⟨g, 1, none⟩ = some b :=
 ⟨cell_of_row _ _ _ _ _ _ h, cell_of_row _ _ _ _ _ _ h⟩
theorem wpList_append_pp {P : Program} (w : World) {ops : Array Oper} {rest : List Oper} {o : Oper} {a : Act} {Q : Exit → Act → World → Prop} (hgd : o.guard = none) (s x : Operand) (t : TypeId)
  (ho : o.op = .call { callee := .builtin .append, args := #[s, x], argTypes := #[t, t] })
  (base : Nat) (e : TypeId) (i : TypeInfo) (z : Value) (bb : Nat) (ht : P.underlying t = some (.slice e)) (hi : P.info? e = some i) (hz : i.zero = some z)
  (hsize : i.size = 2) (hby : i.bytes = bb) (hbb : bb ≤ 64) (hzs : z.cells.size = 2)
  (v : Value) (l : List (Value × Value)) (hs : a.eval s = v) (hown : w.ownsRow base e 2 v l.length (pps l))
  (A : Option Addr) (c : Nat) (m : List (Value × Value)) (hx : a.eval x = .slice A m.length c) (hsl : PpSl w A m) (hone : OneP m) (hnil : A = none → c = 0)
  (hlen : l.length + m.length ≤ 1000000) (hbase : base ≤ w.heap.size)
  (h : ∀ v' w', w'.ownsRow base e 2 v' (l ++ m).length (pps (l ++ m)) → Below base w w' → wpList P ops Q rest (a.put o.dst v') w') : wpList P ops Q (o :: rest) a w := by
 rw [List.length_append, pps_append] at h
 cases A with
 | none =>
  have hc := hnil rfl
  subst hc
  have hm0 : m = [] := by
   cases m with
   | nil => rfl
   | cons y m => obtain ⟨_, _, e, _⟩ := hsl 0 (by simp); cases e
  subst hm0
  exact wpList_append_own_none hgd s x t ho base e i 2 ht hi v l.length (pps l) hs hown hx (h v w (by simpa [pps] using hown) (Below.refl _ _))
 | some ad =>
  exact wpList_append_own w hgd s x t ho base e i z 2 bb ht hi hz hsize hby hzs (by decide) v l.length (pps l) hs hown ad m.length c (pps m) hx (pps_len m) (hsl.cells ad rfl) (pps_one hone) (by unfold maxLen; omega)
   (Nat.le_trans (Nat.mul_le_mul hlen hbb) (by decide)) hbase (fun v' w' h2 h3 _ => h v' w' h2 (app_below (Below.refl _ _) hbase hown h3))
structure UsL where
 u : ByteArray
 a : Option Addr
 l : List StM
 c : Nat
def UsL.m (x : UsL) : UsM := ⟨x.u, x.l⟩
def usp (x : UsL) : Value × Value := (.string x.u, .slice x.a x.l.length x.c)
structure UsAt (W : World) (x : UsL) : Prop where
 st : StSl W x.a x.l
 le : x.l.length ≤ x.c
 mx : x.c ≤ maxLen
 nil : x.a = none → x.c = 0
theorem UsAt.below {W W' : World} {x : UsL} (h : UsAt W x) (q : Below W.heap.size W W') : UsAt W' x := ⟨h.st.below q, h.le, h.mx, h.nil⟩
instance : Inhabited UsL := ⟨⟨⟨#[]⟩, none, [], 0⟩⟩
theorem usp_one (l : List UsL) : OneP (l.map usp) := fun x hx => by
 obtain ⟨y, _, rfl⟩ := List.mem_map.1 hx
 exact ⟨rfl, rfl⟩
structure UsSl (W : World) (a : Option Addr) (D : List UsL) : Prop where
 row : PpSl W a (D.map usp)
 at_ : ∀ x ∈ D, UsAt W x
theorem UsSl.below {W W' : World} {a : Option Addr} {D : List UsL} (h : UsSl W a D) (q : Below W.heap.size W W') : UsSl W' a D := ⟨h.row.below q, fun x hx => (h.at_ x hx).below q⟩
theorem UsSl.nil (W : World) (a : Option Addr) : UsSl W a [] := ⟨PpSl.nil _ _, fun x h => by cases h⟩
theorem UsSl.get {W : World} {a : Option Addr} {D : List UsL} (h : UsSl W a D) {k : Nat} (hk : k < D.length) : ∃ b off, a = some ⟨b, off, none⟩ ∧ b < W.heap.size ∧
  W.cell? ⟨b, off + k * 2, none⟩ = some (.string D[k].u) ∧ W.cell? ⟨b, off + k * 2 + 1, none⟩ = some (.slice D[k].a D[k].l.length D[k].c) ∧ UsAt W D[k] := by
 obtain ⟨b, off, e, h1, h2, h3⟩ := h.row.at_ (k := k) (by simpa using hk)
 rw [List.getElem_map] at h2 h3
 exact ⟨b, off, e, h1, h2, h3, h.at_ _ (List.getElem_mem hk)⟩
def usv (D : List UsL) : List Value := pps (D.map usp)
def umS (D : List UsL) : List UsM := D.map UsL.m
theorem umS_len (D : List UsL) : (umS D).length = D.length := List.length_map _
theorem own_us {w : World} {B e : Nat} {v : Value} {D : List UsL} (h : w.ownsRow B e 2 v D.length (usv D)) : ∃ a c, v = .slice a D.length c ∧ D.length ≤ c ∧ c ≤ maxLen ∧ PpSl w a (D.map usp) ∧ (a = none → c = 0) := by
 have h2 := own_pp (l := D.map usp) (by rw [List.length_map]; exact h)
 rw [List.length_map] at h2
 exact h2
def tbp (x : TbM) : Value × Value := (.string x.u, .int .i64 x.a)
theorem tbp_one (l : List TbM) : OneP (l.map tbp) := fun x hx => by
 obtain ⟨y, _, rfl⟩ := List.mem_map.1 hx
 exact ⟨rfl, rfl⟩
def TbSl (W : World) (a : Option Addr) (l : List TbM) : Prop := PpSl W a (l.map tbp)
theorem TbSl.below {W W' : World} {a : Option Addr} {D : List TbM} (h : TbSl W a D) (q : Below W.heap.size W W') : TbSl W' a D := PpSl.below h q
theorem TbSl.nil (W : World) (a : Option Addr) : TbSl W a [] := PpSl.nil _ _
theorem TbSl.get {W : World} {a : Option Addr} {D : List TbM} (h : TbSl W a D) {k : Nat} (hk : k < D.length) : ∃ b off, a = some ⟨b, off, none⟩ ∧ b < W.heap.size ∧
  W.cell? ⟨b, off + k * 2, none⟩ = some (.string D[k].u) ∧ W.cell? ⟨b, off + k * 2 + 1, none⟩ = some (.int .i64 D[k].a) := by
 obtain ⟨b, off, e, h1, h2, h3⟩ := PpSl.at_ h (k := k) (by simpa using hk)
 rw [List.getElem_map] at h2 h3
 exact ⟨b, off, e, h1, h2, h3⟩
def tbv (D : List TbM) : List Value := pps (D.map tbp)
theorem own_tb {w : World} {B e : Nat} {v : Value} {D : List TbM} (h : w.ownsRow B e 2 v D.length (tbv D)) : ∃ a c, v = .slice a D.length c ∧ D.length ≤ c ∧ c ≤ maxLen ∧ TbSl w a D ∧ (a = none → c = 0) := by
 have h2 := own_pp (l := D.map tbp) (by rw [List.length_map]; exact h)
 rw [List.length_map] at h2
 exact h2
structure SaL where
 now : Int
 hor : Int
 oa : Option Addr
 op : List OpM
 oc : Nat
 ua : Option Addr
 us : List UsL
 uc : Nat
 sa : Option Addr
 su : List EnM
 sc : Nat
 ta : Option Addr
 tb : List TbM
 tc : Nat
def SaL.m (x : SaL) : SaM := ⟨x.now, x.hor, x.op, umS x.us, x.su, x.tb⟩
structure Cp (a : Option Addr) (n c : Nat) : Prop where
 le : n ≤ c
 mx : c ≤ maxLen
 nil : a = none → c = 0
theorem Cp.none : Cp none 0 0 := ⟨Nat.le_refl _, by unfold maxLen; omega, fun _ => rfl⟩
structure SaAt (W : World) (x : SaL) : Prop where
 op : OpSl W x.oa x.op
 us : UsSl W x.ua x.us
 su : EnSl W x.sa x.su
 tb : TbSl W x.ta x.tb
 oc : Cp x.oa x.op.length x.oc
 uc : Cp x.ua x.us.length x.uc
 sc : Cp x.sa x.su.length x.sc
 tc : Cp x.ta x.tb.length x.tc
theorem SaAt.below {W W' : World} {x : SaL} (h : SaAt W x) (q : Below W.heap.size W W') : SaAt W' x := ⟨h.op.below q, h.us.below q, h.su.below q, h.tb.below q, h.oc, h.uc, h.sc, h.tc⟩
def saC (x : SaL) : Array Value := #[.int .i64 x.now, .int .i64 x.hor, .slice x.oa x.op.length x.oc, .slice x.ua x.us.length x.uc, .slice x.sa x.su.length x.sc, .slice x.ta x.tb.length x.tc]
def saV (x : SaL) : Value := .agg (saC x)
def saO : SaL := ⟨0, 0, none, [], 0, none, [], 0, none, [], 0, none, [], 0⟩
theorem SaAt.zero (W : World) : SaAt W saO := ⟨OpSl.nil _ _, UsSl.nil _ _, EnSl.nil _ _, TbSl.nil _ _, Cp.none, Cp.none, Cp.none, Cp.none⟩
structure Few (x : SaM) (n : Nat) : Prop where
 op : x.op.length ≤ n
 us : x.us.length ≤ n
 su : x.su.length ≤ n
 tb : x.tb.length ≤ n
 st : ∀ u ∈ x.us, u.l.length ≤ n
structure SzS (x : SaM) : Prop where
 op : ∀ e ∈ x.op, e.u.size ≤ maxLen
 us : ∀ e ∈ x.us, e.u.size ≤ maxLen
 su : ∀ e ∈ x.su, e.w.size ≤ maxLen ∧ e.u.size ≤ maxLen
 tb : ∀ e ∈ x.tb, e.u.size ≤ maxLen
theorem own_low {w : World} {B B' e k n : Nat} {v : Value} {xs : List Value} (h : w.ownsRow B e k v n xs) (hb : B' ≤ B) : w.ownsRow B' e k v n xs := by
 refine ⟨h.1, ?_⟩
 rcases h.2 with h0 | ⟨g, cap, cur, e0, hg, h1⟩
 ·exact .inl h0
 ·exact .inr ⟨g, cap, cur, e0, Nat.le_trans hb hg, h1⟩
end Go.Proofs.YtmfpjapiijgdgaaGreat
namespace Go.Proofs.YtmfpjapiijgdgaaGreat
open Go.RowKit
set_option linter.unusedVariables false
set_option maxRecDepth 100000
def putStep (s : ByteArray) (p : List ByteArray × Bool) (x : ByteArray) : List ByteArray × Bool :=
 if Lib.compareBytes s.data.toList x.data.toList == 0 then (p.1 ++ [x], true)
 else if decide (Lib.compareBytes s.data.toList x.data.toList < 0) && !p.2 then (p.1 ++ [s] ++ [x], true)
 else (p.1 ++ [x], p.2)
def putTo (l : List ByteArray) (s : ByteArray) (k : Nat) : List ByteArray × Bool := (l.take k).foldl (putStep s) ([], false)
def put (l : List ByteArray) (s : ByteArray) : List ByteArray := if (putTo l s l.length).2 then (putTo l s l.length).1 else (putTo l s l.length).1 ++ [s]
end Go.Proofs.YtmfpjapiijgdgaaGreat
