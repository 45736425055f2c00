/- Texts of mine, one behind the other, of each what is wanted. -/
import Derived.Test.YtmfpjapiijgdgaaGreatV00
import Derived.Test.YtmfpjapiijgdgaaGreatV01
namespace Go.Proofs.YtmfpjapiijgdgaaGreat
set_option linter.unusedVariables false
set_option maxRecDepth 100000
def cmpS (a b : ByteArray) : Int := Lib.compareBytes a.data.toList b.data.toList
def cmpP (a b c d : ByteArray) : Int := if cmpS a c = 0 then cmpS b d else cmpS a c
theorem cmpS_self (a : ByteArray) : cmpS a a = 0 := cb_refl _
theorem cmpS_eq {a b : ByteArray} : cmpS a b = 0 ↔ a = b := ⟨fun h => toL_inj (cb_eq _ _ h), fun h => by rw [h]; exact cmpS_self _⟩
theorem cmpS_neg (a b : ByteArray) : cmpS b a = - cmpS a b := cb_neg _ _
theorem cmpS_trans {a b c : ByteArray} (h : cmpS a b < 0) (k : cmpS b c < 0) : cmpS a c < 0 := cb_trans _ _ _ h k
theorem cmpP_eq {a b c d : ByteArray} : cmpP a b c d = 0 ↔ a = c ∧ b = d := by
 unfold cmpP
 by_cases h : cmpS a c = 0
 ·rw [if_pos h, cmpS_eq]
  exact ⟨fun k => ⟨cmpS_eq.1 h, k⟩, fun k => k.2⟩
 ·rw [if_neg h]
  exact ⟨fun k => absurd k h, fun k => absurd (cmpS_eq.2 k.1) h⟩
theorem cmpP_neg (a b c d : ByteArray) : cmpP c d a b = - cmpP a b c d := by
 unfold cmpP
 have h1 := cmpS_neg a c
 have h2 := cmpS_neg b d
 by_cases h : cmpS a c = 0
 ·rw [if_pos h, if_pos (by omega)]; exact h2
 ·rw [if_neg h, if_neg (by omega)]; exact h1
theorem cmpP_trans {a b c d e f : ByteArray} (h : cmpP a b c d < 0) (k : cmpP c d e f < 0) : cmpP a b e f < 0 := by
 unfold cmpP at *
 by_cases h1 : cmpS a c = 0
 ·rw [if_pos h1] at h
  obtain rfl := cmpS_eq.1 h1
  by_cases h2 : cmpS a e = 0
  ·rw [if_pos h2] at k ⊢
   exact cmpS_trans h k
  ·rw [if_neg h2] at k ⊢
   exact k
 ·rw [if_neg h1] at h
  by_cases h2 : cmpS c e = 0
  ·obtain rfl := cmpS_eq.1 h2
   rw [if_neg h1]
   exact h
  ·rw [if_neg h2] at k
   have h3 := cmpS_trans h k
   rw [if_neg (by omega)]
   exact h3
structure EnM where
 w : ByteArray
 u : ByteArray
 f : Int
 t : Int
instance : Inhabited EnM := ⟨⟨ByteArray.empty, ByteArray.empty, 0, 0⟩⟩
theorem EnM.same {a b : EnM} (h1 : a.w = b.w) (h2 : a.u = b.u) (h3 : a.f = b.f) (h4 : a.t = b.t) : a = b := by
 obtain ⟨_, _, _, _⟩ := a
 obtain ⟨_, _, _, _⟩ := b
 simp only at h1 h2 h3 h4
 rw [h1, h2, h3, h4]
theorem EnM.iff {a b : EnM} : a = b ↔ a.w = b.w ∧ a.u = b.u ∧ a.f = b.f ∧ a.t = b.t := ⟨fun h => by rw [h]; exact ⟨rfl, rfl, rfl, rfl⟩, fun h => EnM.same h.1 h.2.1 h.2.2.1 h.2.2.2⟩
instance enDec : DecidableEq EnM := fun a b => decidable_of_iff (a.w = b.w ∧ a.u = b.u ∧ a.f = b.f ∧ a.t = b.t) EnM.iff.symm
def EnM.sp (a : EnM) : SpM := ⟨a.f, a.t⟩
def pc (a b : EnM) : Int := cmpP a.w a.u b.w b.u
theorem pc_eq {a b : EnM} : pc a b = 0 ↔ a.w = b.w ∧ a.u = b.u := cmpP_eq
theorem pc_neg (a b : EnM) : pc b a = - pc a b := cmpP_neg _ _ _ _
theorem pc_trans {a b c : EnM} (h : pc a b < 0) (k : pc b c < 0) : pc a c < 0 := cmpP_trans h k
theorem pc_left {a b c : EnM} (h : pc a b = 0) : pc a c = pc b c := by
 obtain ⟨h1, h2⟩ := pc_eq.1 h
 unfold pc
 rw [h1, h2]
theorem pc_right {a b c : EnM} (h : pc b c = 0) : pc a b = pc a c := by
 obtain ⟨h1, h2⟩ := pc_eq.1 h
 unfold pc
 rw [h1, h2]
def aheadE (a b : EnM) : Prop := pc a b < 0 ∨ (pc a b = 0 ∧ a.f < b.f)
instance aheadDec (a b : EnM) : Decidable (aheadE a b) := by unfold aheadE; infer_instance
def ofE (w u : ByteArray) (e : EnM) : Bool := decide (e.w = w ∧ e.u = u)
theorem ofE_iff {w u : ByteArray} {e : EnM} : ofE w u e = true ↔ e.w = w ∧ e.u = u := decide_eq_true_iff
def infE (w u : ByteArray) (e : EnM) : Bool := ofE w u e && decide (e.t = 1099511627776)
theorem infE_iff {w u : ByteArray} {e : EnM} : infE w u e = true ↔ e.w = w ∧ e.u = u ∧ e.t = 1099511627776 := by
 unfold infE
 rw [Bool.and_eq_true, ofE_iff, decide_eq_true_iff, and_assoc]
def mkE (w u : ByteArray) (a : Int) : EnM := ⟨w, u, a, 1099511627776⟩
structure IsFirst (p : EnM → Bool) (l : List EnM) (k : Nat) : Prop where
 le : k ≤ l.length
 low : ∀ i (h : i < l.length), i < k → p l[i] = false
 hit : ∀ (h : k < l.length), p l[k] = true
theorem first_idx (p : EnM → Bool) (l : List EnM) : IsFirst p l (l.findIdx p) :=
 ⟨List.findIdx_le_length, fun i h h1 => by simpa using List.not_of_lt_findIdx h1, fun h => List.findIdx_getElem (w := h)⟩
theorem IsFirst.only {p : EnM → Bool} {l : List EnM} {a b : Nat} (ha : IsFirst p l a) (hb : IsFirst p l b) : a = b := by
 have h1 := ha.le
 have h2 := hb.le
 rcases Nat.lt_trichotomy a b with h | h | h
 ·have k1 := ha.hit (by omega)
  rw [hb.low a (by omega) h] at k1
  cases k1
 ·exact h
 ·have k1 := hb.hit (by omega)
  rw [ha.low b (by omega) h] at k1
  cases k1
theorem IsFirst.idx {p : EnM → Bool} {l : List EnM} {k : Nat} (h : IsFirst p l k) : l.findIdx p = k := (first_idx p l).only h
theorem IsFirst.any {p : EnM → Bool} {l : List EnM} {k : Nat} (h : IsFirst p l k) : l.any p = decide (k < l.length) := by
 by_cases h1 : k < l.length
 ·rw [decide_eq_true h1, List.any_eq_true]
  exact ⟨_, List.getElem_mem h1, h.hit h1⟩
 ·rw [decide_eq_false h1, List.any_eq_false]
  intro x hx
  obtain ⟨i, hi, rfl⟩ := List.getElem_of_mem hx
  rw [h.low i hi (by omega)]
  exact Bool.false_ne_true
def grantS (l : List EnM) (e : EnM) : List EnM := l.take (l.findIdx fun x => decide (aheadE e x)) ++ e :: l.drop (l.findIdx fun x => decide (aheadE e x))
def endS (e : EnM) (a : Int) : List EnM := if a ≤ e.f then [] else [⟨e.w, e.u, e.f, a⟩]
def cutS (l : List EnM) (k : Nat) (a : Int) : List EnM := match l[k]? with
 | some e => l.take k ++ (endS e a ++ l.drop (k + 1))
 | none => l
def revokeS (l : List EnM) (w u : ByteArray) (a : Int) : List EnM := cutS l (l.findIdx (infE w u)) a
theorem grant_at {l : List EnM} {e : EnM} {k : Nat} (h : IsFirst (fun x => decide (aheadE e x)) l k) : grantS l e = l.take k ++ e :: l.drop k := by
 unfold grantS
 rw [h.idx]
theorem cut_at {l : List EnM} {k : Nat} (h : k < l.length) (a : Int) : cutS l k a = l.take k ++ (endS l[k] a ++ l.drop (k + 1)) := by
 unfold cutS
 rw [List.getElem?_eq_getElem h]
theorem revoke_at {l : List EnM} {w u : ByteArray} {k : Nat} (h : IsFirst (infE w u) l k) (a : Int) : revokeS l w u a = cutS l k a := by
 unfold revokeS
 rw [h.idx]
theorem endS_len (e : EnM) (a : Int) : (endS e a).length ≤ 1 := by
 unfold endS
 split <;> simp
theorem grant_len (l : List EnM) (e : EnM) : (grantS l e).length = l.length + 1 := by
 have h := (first_idx (fun x => decide (aheadE e x)) l).le
 unfold grantS
 generalize l.findIdx _ = k at *
 simp only [List.length_append, List.length_take, List.length_cons, List.length_drop]
 omega
theorem cut_len (l : List EnM) (k : Nat) (a : Int) : (cutS l k a).length ≤ l.length := by
 by_cases h : k < l.length
 ·have h1 := endS_len l[k] a
  rw [cut_at h]
  simp only [List.length_append, List.length_take, List.length_drop]
  omega
 ·unfold cutS
  rw [List.getElem?_eq_none (by omega)]
  exact Nat.le_refl _
theorem revoke_len (l : List EnM) (w u : ByteArray) (a : Int) : (revokeS l w u a).length ≤ l.length := cut_len _ _ _
theorem split_at {l : List EnM} {k : Nat} (h : k < l.length) : l = l.take k ++ (l[k] :: l.drop (k + 1)) := by
 rw [← List.drop_eq_getElem_cons h, List.take_append_drop]
def perS (l : List EnM) (w u : ByteArray) : List SpM := (l.filter (ofE w u)).map EnM.sp
theorem per_len (l : List EnM) (w u : ByteArray) : (perS l w u).length ≤ l.length := by
 unfold perS
 rw [List.length_map]
 exact List.length_filter_le _ _
theorem per_has {l : List EnM} {w u : ByteArray} {x : Int} : HasL (perS l w u) x ↔ ∃ e ∈ l, (e.w = w ∧ e.u = u) ∧ e.f ≤ x ∧ x < e.t := by
 unfold HasL perS
 constructor
 ·rintro ⟨s, hs, h1, h2⟩
  obtain ⟨e, he, rfl⟩ := List.mem_map.1 hs
  obtain ⟨he1, he2⟩ := List.mem_filter.1 he
  exact ⟨e, he1, ofE_iff.1 he2, h1, h2⟩
 ·rintro ⟨e, he, h, h1, h2⟩
  exact ⟨e.sp, List.mem_map.2 ⟨e, List.mem_filter.2 ⟨he, ofE_iff.2 h⟩, rfl⟩, h1, h2⟩
def nameB (s : ByteArray) : Bool := isName s.data.toList
def OkE (e : EnM) : Prop := e.f < e.t ∧ nameB e.w = true ∧ nameB e.u = true
instance okDec (e : EnM) : Decidable (OkE e) := by unfold OkE; infer_instance
def FolE (a b : EnM) : Prop := aheadE a b ∧ (a.w = b.w ∧ a.u = b.u → a.t ≤ b.f)
instance folDec (a b : EnM) : Decidable (FolE a b) := by unfold FolE; infer_instance
def RiseE (l : List EnM) : Prop := ∀ k (h : k < l.length), OkE l[k] ∧ (0 < k → FolE (l[k - 1]'(by omega)) l[k])
instance riseEDec (l : List EnM) : Decidable (RiseE l) := by unfold RiseE; infer_instance
def BelE (a b : EnM) : Prop := pc a b < 0 ∨ (pc a b = 0 ∧ a.t ≤ b.f)
theorem fol_bel {a b : EnM} (h : FolE a b) : BelE a b := by
 obtain ⟨h1, h2⟩ := h
 rcases h1 with h1 | ⟨h1, h3⟩
 ·exact Or.inl h1
 ·exact Or.inr ⟨h1, h2 (pc_eq.1 h1)⟩
theorem bel_fol {a b : EnM} (h : BelE a b) (ha : a.f < a.t) : FolE a b := by
 rcases h with h | ⟨h, h1⟩
 ·exact ⟨Or.inl h, fun k => by have := pc_eq.2 k; omega⟩
 ·exact ⟨Or.inr ⟨h, by omega⟩, fun _ => h1⟩
theorem bel_trans {a b c : EnM} (h : BelE a b) (k : BelE b c) (hb : b.f < b.t) : BelE a c := by
 rcases h with h | ⟨h, h1⟩
 ·rcases k with k | ⟨k, k1⟩
  ·exact Or.inl (pc_trans h k)
  ·exact Or.inl (by rw [← pc_right k]; exact h)
 ·rcases k with k | ⟨k, k1⟩
  ·exact Or.inl (by rw [pc_left h]; exact k)
  ·exact Or.inr ⟨by rw [pc_left h]; exact k, by omega⟩
theorem riseE_iff {l : List EnM} : RiseE l ↔ (∀ e ∈ l, OkE e) ∧ l.Pairwise BelE := by
 constructor
 ·intro h
  refine ⟨fun s hs => ?_, ?_⟩
  ·obtain ⟨k, hk, rfl⟩ := List.getElem_of_mem hs
   exact (h k hk).1
  ·rw [List.pairwise_iff_getElem]
   intro i j hi hj hij
   induction j with
   | zero => omega
   | succ j ih =>
    have h1 := fol_bel ((h (j + 1) hj).2 (by omega))
    rcases Nat.lt_or_ge i j with h2 | h2
    ·exact bel_trans (ih (by omega) h2) h1 (h j (by omega)).1.1
    ·obtain rfl : i = j := by omega
     exact h1
 ·rintro ⟨h1, h2⟩ k hk
  exact ⟨h1 _ (List.getElem_mem hk), fun h0 => bel_fol (List.pairwise_iff_getElem.1 h2 (k - 1) k (by omega) hk (by omega)) (h1 _ (List.getElem_mem _)).1⟩
theorem rise_filter {l : List EnM} (h : RiseE l) (p : EnM → Bool) : RiseE (l.filter p) := by
 rw [riseE_iff] at *
 exact ⟨fun e he => h.1 e (List.mem_filter.1 he).1, h.2.sublist List.filter_sublist⟩
def withoutS (l : List EnM) (s : ByteArray) : List EnM := l.filter fun e => decide (e.w ≠ s) && decide (e.u ≠ s)
theorem grant_back {l : List EnM} {w u : ByteArray} {a : Int} (h : l.any (infE w u) = false) : revokeS (grantS l (mkE w u a)) w u a = l ∧ (grantS l (mkE w u a)).any (infE w u) = true := by
 have hno : ∀ e ∈ l, infE w u e = false := fun e he => by
  have := List.any_eq_false.1 h e he
  simpa using this
 have hle := (first_idx (fun x => decide (aheadE (mkE w u a) x)) l).le
 unfold grantS
 generalize l.findIdx _ = k at *
 have hlen : (l.take k).length = k := by rw [List.length_take]; omega
 have hk : k < (l.take k ++ mkE w u a :: l.drop k).length := by rw [List.length_append, hlen, List.length_cons]; omega
 have hg : (l.take k ++ mkE w u a :: l.drop k)[k] = mkE w u a := by
  rw [List.getElem_append_right (by omega)]
  simp [hlen]
 have hF : IsFirst (infE w u) (l.take k ++ mkE w u a :: l.drop k) k := ⟨Nat.le_of_lt hk, fun i hi hik => by
  rw [List.getElem_append_left (by omega)]
  exact hno _ (List.mem_of_mem_take (List.getElem_mem _)), fun _ => by rw [hg]; exact infE_iff.2 ⟨rfl, rfl, rfl⟩⟩
 refine ⟨?_, by rw [hF.any]; exact decide_eq_true hk⟩
 rw [revoke_at hF, cut_at hk, hg]
 unfold endS
 rw [if_pos (show a ≤ (mkE w u a).f from Int.le_refl a), List.nil_append, List.take_append_of_le_length (by omega), List.take_of_length_le (by omega), List.drop_append, hlen, List.drop_of_length_le (by omega), List.nil_append, show k + 1 - k = 1 by omega, List.drop_one, List.tail_cons, List.take_append_drop]
structure GoE (m : List EnM) (a : Int) : Prop where
 rise : RiseE m
 bnd : ∀ e ∈ m, 0 ≤ e.f ∧ e.f ≤ a ∧ (e.t = 1099511627776 ∨ e.t ≤ a)
theorem GoE.nil : GoE [] 0 := ⟨fun k h => absurd h (by simp), fun e h => by cases h⟩
theorem pair_mid {A B : List EnM} {R : EnM → EnM → Prop} : (A ++ B).Pairwise R ↔ A.Pairwise R ∧ B.Pairwise R ∧ ∀ x ∈ A, ∀ y ∈ B, R x y := List.pairwise_append
theorem GoE.grant {m : List EnM} {a b : Int} {w u : ByteArray} (h : GoE m a) (ha : 0 ≤ a) (hab : a ≤ b) (hb : b < 1099511627776) (hw : nameB w = true) (hu : nameB u = true) (hi : m.any (infE w u) = false) :
  GoE (grantS m (mkE w u b)) b ∧ (∀ x, HasL (perS (grantS m (mkE w u b)) w u) x ↔ HasL (perS m w u) x ∨ (b ≤ x ∧ x < 1099511627776)) ∧ (grantS m (mkE w u b)).any (infE w u) = true := by
 have hno : ∀ e ∈ m, e.w = w ∧ e.u = u → e.t ≤ a := fun e he hp => by
  have h1 := List.any_eq_false.1 hi e he
  rcases (h.bnd e he).2.2 with h2 | h2
  ·exact absurd (infE_iff.2 ⟨hp.1, hp.2, h2⟩) h1
  ·exact h2
 have hF := first_idx (fun x => decide (aheadE (mkE w u b) x)) m
 have hB := (grant_back (a := b) hi).2
 obtain ⟨hok, hpw⟩ := riseE_iff.1 h.rise
 rw [grant_at hF] at hB ⊢
 generalize m.findIdx _ = k at *
 have hlo : ∀ x ∈ m.take k, BelE x (mkE w u b) := fun x hx => by
  have hxm := List.mem_of_mem_take hx
  obtain ⟨i, hi, rfl⟩ := List.getElem_of_mem hx
  rw [List.length_take] at hi
  rw [List.getElem_take] at *
  have h1 := hF.low i (by omega) (by omega)
  rw [decide_eq_false_iff_not] at h1
  generalize m[i] = y at *
  rcases Int.lt_trichotomy (pc y (mkE w u b)) 0 with h2 | h2 | h2
  ·exact Or.inl h2
  ·exact Or.inr ⟨h2, Int.le_trans (hno y hxm (pc_eq.1 h2)) hab⟩
  ·exact absurd (Or.inl (by have := pc_neg y (mkE w u b); omega)) h1
 have hhi : ∀ y ∈ m.drop k, BelE (mkE w u b) y := fun y hy => by
  by_cases hk : k < m.length
  ·have h1 : aheadE (mkE w u b) m[k] := of_decide_eq_true (hF.hit hk)
   have hmk := List.getElem_mem hk
   have h2 : pc (mkE w u b) m[k] < 0 := by
    rcases h1 with h1 | ⟨h1, h2⟩
    ·exact h1
    ·have h3 := (h.bnd _ hmk).2.1
     have h4 : b < m[k].f := h2
     omega
   have h5 : BelE m[k] y ∨ m[k] = y := by
    rw [List.drop_eq_getElem_cons hk] at hy
    rcases List.mem_cons.1 hy with h6 | h6
    ·exact Or.inr h6.symm
    ·left
     obtain ⟨j, hj, rfl⟩ := List.getElem_of_mem h6
     rw [List.getElem_drop]
     exact List.pairwise_iff_getElem.1 hpw k _ hk (by rw [List.length_drop] at hj; omega) (by omega)
   rcases h5 with h5 | h5
   ·exact bel_trans (Or.inl h2) h5 (hok _ hmk).1
   ·rw [← h5]; exact Or.inl h2
  ·rw [List.drop_of_length_le (by omega)] at hy; cases hy
 have hmem : ∀ e, e ∈ m.take k ++ mkE w u b :: m.drop k ↔ e ∈ m ∨ e = mkE w u b := fun e => by
  conv => rhs; rw [← List.take_append_drop k m]
  simp only [List.mem_append, List.mem_cons]
  constructor
  ·rintro (h | h | h)
   ·exact Or.inl (Or.inl h)
   ·exact Or.inr h
   ·exact Or.inl (Or.inr h)
  ·rintro ((h | h) | h)
   ·exact Or.inl h
   ·exact Or.inr (Or.inr h)
   ·exact Or.inr (Or.inl h)
 refine ⟨⟨riseE_iff.2 ⟨fun e he => ?_, ?_⟩, fun e he => ?_⟩, fun x => ?_, hB⟩
 ·rcases (hmem e).1 he with h1 | rfl
  ·exact hok e h1
  ·exact ⟨hb, hw, hu⟩
 ·rw [pair_mid, List.pairwise_cons]
  conv at hpw => rw [← List.take_append_drop k m, pair_mid]
  refine ⟨hpw.1, ⟨hhi, hpw.2.1⟩, fun x hx y hy => ?_⟩
  rcases List.mem_cons.1 hy with rfl | hy
  ·exact hlo x hx
  ·exact hpw.2.2 x hx y hy
 ·rcases (hmem e).1 he with h1 | rfl
  ·obtain ⟨h2, h3, h4⟩ := h.bnd e h1
   exact ⟨h2, by omega, by omega⟩
  ·exact ⟨by show 0 ≤ b; omega, Int.le_refl b, Or.inl rfl⟩
 ·rw [per_has, per_has]
  constructor
  ·rintro ⟨e, he, hp, h1, h2⟩
   rcases (hmem e).1 he with h3 | rfl
   ·exact Or.inl ⟨e, h3, hp, h1, h2⟩
   ·exact Or.inr ⟨h1, h2⟩
  ·rintro (⟨e, he, hp, h1⟩ | h1)
   ·exact ⟨e, (hmem e).2 (Or.inl he), hp, h1⟩
   ·exact ⟨_, (hmem _).2 (Or.inr rfl), ⟨rfl, rfl⟩, h1⟩
theorem GoE.revoke {m : List EnM} {a b : Int} {w u : ByteArray} (h : GoE m a) (ha : 0 ≤ a) (hab : a ≤ b) (hb : b < 1099511627776) (hi : m.any (infE w u) = true) :
  GoE (revokeS m w u b) b ∧ (∀ x, HasL (perS (revokeS m w u b) w u) x ↔ HasL (perS m w u) x ∧ ¬ (b ≤ x ∧ x < 1099511627776)) ∧ (revokeS m w u b).any (infE w u) = false := by
 have hF := first_idx (infE w u) m
 rw [revoke_at hF]
 generalize m.findIdx _ = k at *
 have hk : k < m.length := by rw [hF.any] at hi; exact of_decide_eq_true hi
 obtain ⟨hok, hpw⟩ := riseE_iff.1 h.rise
 have hmk := List.getElem_mem hk
 obtain ⟨hkw, hku, hkt⟩ := infE_iff.1 (hF.hit hk)
 have hbk := h.bnd _ hmk
 -- every other entry of the pair has ended
 have hoth : ∀ i (hi : i < m.length), i ≠ k → (m[i].w = w ∧ m[i].u = u) → m[i].t ≤ a := fun i hi hne hp => by
  rcases (h.bnd _ (List.getElem_mem hi)).2.2 with h2 | h2
  ·have hp0 : pc m[i] m[k] = 0 := pc_eq.2 ⟨hp.1.trans hkw.symm, hp.2.trans hku.symm⟩
   have hn := pc_neg m[i] m[k]
   have hfi := (h.bnd _ (List.getElem_mem hi)).2.1
   rcases Nat.lt_or_ge i k with h3 | h3
   ·rcases List.pairwise_iff_getElem.1 hpw i k hi hk h3 with h4 | ⟨_, h4⟩
    ·omega
    ·omega
   ·rcases List.pairwise_iff_getElem.1 hpw k i hk hi (by omega) with h4 | ⟨_, h4⟩
    ·omega
    ·omega
  ·exact h2
 have hsplit : ∀ e, e ∈ m → e = m[k] ∨ (e ∈ m.take k ++ m.drop (k + 1)) := fun e he => by
  rw [split_at hk, List.mem_append, List.mem_cons] at he
  rw [List.mem_append]
  rcases he with h1 | h1 | h1
  ·exact Or.inr (Or.inl h1)
  ·exact Or.inl h1
  ·exact Or.inr (Or.inr h1)
 have hidx : ∀ e, e ∈ m.take k ++ m.drop (k + 1) → e ∈ m ∧ ((e.w = w ∧ e.u = u) → e.t ≤ a) := fun e he => by
  rcases List.mem_append.1 he with h1 | h1
  ·refine ⟨List.mem_of_mem_take h1, ?_⟩
   obtain ⟨i, hi, rfl⟩ := List.getElem_of_mem h1
   rw [List.length_take] at hi
   rw [List.getElem_take]
   exact hoth i (by omega) (by omega)
  ·refine ⟨List.mem_of_mem_drop h1, ?_⟩
   obtain ⟨i, hi, rfl⟩ := List.getElem_of_mem h1
   rw [List.length_drop] at hi
   rw [List.getElem_drop]
   exact hoth (k + 1 + i) (by omega) (by omega)
 have hend : ∀ e, e ∈ endS m[k] b ↔ m[k].f < b ∧ e = ⟨m[k].w, m[k].u, m[k].f, b⟩ := fun e => by
  unfold endS
  split
  ·exact ⟨fun h => by (cases h), fun h => by omega⟩
  ·rw [List.mem_singleton]
   exact ⟨fun h => ⟨by omega, h⟩, fun h => h.2⟩
 have hmem : ∀ e, e ∈ m.take k ++ (endS m[k] b ++ m.drop (k + 1)) ↔ e ∈ m.take k ++ m.drop (k + 1) ∨ e ∈ endS m[k] b := fun e => by
  simp only [List.mem_append]
  constructor
  ·rintro (h | h | h)
   ·exact Or.inl (Or.inl h)
   ·exact Or.inr h
   ·exact Or.inl (Or.inr h)
  ·rintro ((h | h) | h)
   ·exact Or.inl h
   ·exact Or.inr (Or.inr h)
   ·exact Or.inr (Or.inl h)
 have hpk : ∀ c : EnM, pc (⟨m[k].w, m[k].u, m[k].f, b⟩ : EnM) c = pc m[k] c := fun c => rfl
 have hpk2 : ∀ c : EnM, pc c (⟨m[k].w, m[k].u, m[k].f, b⟩ : EnM) = pc c m[k] := fun c => rfl
 rw [cut_at hk]
 refine ⟨⟨riseE_iff.2 ⟨fun e he => ?_, ?_⟩, fun e he => ?_⟩, fun x => ?_, ?_⟩
 ·rcases (hmem e).1 he with h1 | h1
  ·exact hok e (hidx e h1).1
  ·obtain ⟨h2, rfl⟩ := (hend e).1 h1
   exact ⟨h2, (hok _ hmk).2⟩
 ·have hpw2 := hpw
  conv at hpw2 => rw [split_at hk, pair_mid, List.pairwise_cons]
  obtain ⟨p1, ⟨p2, p3⟩, p4⟩ := hpw2
  rw [pair_mid, pair_mid]
  refine ⟨p1, ⟨?_, p3, fun x hx y hy => ?_⟩, fun x hx y hy => ?_⟩
  ·unfold endS
   split
   ·exact List.Pairwise.nil
   ·exact List.pairwise_singleton _ _
  ·obtain ⟨h2, rfl⟩ := (hend x).1 hx
   rcases p2 y hy with h3 | ⟨h3, h4⟩
   ·exact Or.inl h3
   ·have := (h.bnd y (hidx y (List.mem_append_right _ hy)).1).2.1
    omega
  ·rcases List.mem_append.1 hy with hy | hy
   ·obtain ⟨h2, rfl⟩ := (hend y).1 hy
    exact p4 x hx m[k] (List.mem_cons_self)
   ·exact p4 x hx y (List.mem_cons_of_mem _ hy)
 ·rcases (hmem e).1 he with h1 | h1
  ·obtain ⟨h2, h3, h4⟩ := h.bnd e (hidx e h1).1
   exact ⟨h2, by omega, by omega⟩
  ·obtain ⟨h2, rfl⟩ := (hend e).1 h1
   exact ⟨hbk.1, by show m[k].f ≤ b; omega, Or.inr (Int.le_refl b)⟩
 ·rw [per_has, per_has]
  constructor
  ·rintro ⟨e, he, hp, h1, h2⟩
   rcases (hmem e).1 he with h3 | h3
   ·have := (hidx e h3).2 hp
    exact ⟨⟨e, (hidx e h3).1, hp, h1, h2⟩, by omega⟩
   ·obtain ⟨h4, rfl⟩ := (hend e).1 h3
    have h1' : m[k].f ≤ x := h1
    have h2' : x < b := h2
    exact ⟨⟨_, hmk, ⟨hkw, hku⟩, h1', by omega⟩, by omega⟩
  ·rintro ⟨⟨e, he, hp, h1, h2⟩, h3⟩
   rcases hsplit e he with rfl | h4
   ·have h5 : x < b := by omega
    exact ⟨⟨m[k].w, m[k].u, m[k].f, b⟩, (hmem _).2 (Or.inr ((hend _).2 ⟨by omega, rfl⟩)), hp, h1, h5⟩
   ·exact ⟨e, (hmem e).2 (Or.inl h4), hp, h1, h2⟩
 ·rw [List.any_eq_false]
  intro e he hc
  obtain ⟨h1, h2, h3⟩ := infE_iff.1 hc
  rcases (hmem e).1 he with h4 | h4
  ·have := (hidx e h4).2 ⟨h1, h2⟩
   omega
  ·obtain ⟨_, rfl⟩ := (hend e).1 h4
   have h5 : b = 1099511627776 := h3
   omega
theorem cmpS_irr (a : ByteArray) : ¬ cmpS a a < 0 := by rw [cmpS_self]; decide
theorem cmpS_asym {a b : ByteArray} (h : cmpS a b < 0) : ¬ cmpS b a < 0 := by rw [cmpS_neg]; omega
theorem cmpS_ne {a b : ByteArray} (h : cmpS a b < 0) : a ≠ b := fun e => by rw [e] at h; exact cmpS_irr _ h
theorem cmpS_tri (a b : ByteArray) : cmpS a b < 0 ∨ a = b ∨ cmpS b a < 0 := by
 rcases Int.lt_trichotomy (cmpS a b) 0 with h | h | h
 ·exact .inl h
 ·exact .inr (.inl (cmpS_eq.1 h))
 ·exact .inr (.inr (by rw [cmpS_neg]; omega))
def RiseK {α : Type} (key : α → ByteArray) (l : List α) : Prop := l.Pairwise (fun a b => cmpS (key a) (key b) < 0)
theorem riseK_ext {α : Type} {key : α → ByteArray} : ∀ {l m : List α}, RiseK key l → RiseK key m → (∀ x, x ∈ l ↔ x ∈ m) → l = m
 | [], [], _, _, _ => rfl
 | [], b :: m, _, _, h => absurd ((h b).2 (List.mem_cons_self ..)) (by simp)
 | a :: l, [], _, _, h => absurd ((h a).1 (List.mem_cons_self ..)) (by simp)
 | a :: l, b :: m, hl, hm, h => by
  obtain ⟨hl1, hl2⟩ := List.pairwise_cons.1 hl
  obtain ⟨hm1, hm2⟩ := List.pairwise_cons.1 hm
  have hab : a = b := by
   rcases List.mem_cons.1 ((h a).1 (List.mem_cons_self ..)) with h1 | h1
   ·exact h1
   ·rcases List.mem_cons.1 ((h b).2 (List.mem_cons_self ..)) with h2 | h2
    ·exact h2.symm
    ·exact absurd (hl1 _ h2) (cmpS_asym (hm1 _ h1))
  subst hab
  have ht : l = m := riseK_ext hl2 hm2 fun x => by
   constructor
   ·intro hx
    rcases List.mem_cons.1 ((h x).1 (List.mem_cons_of_mem _ hx)) with h1 | h1
    ·subst h1; exact absurd (hl1 _ hx) (cmpS_irr _)
    ·exact h1
   ·intro hx
    rcases List.mem_cons.1 ((h x).2 (List.mem_cons_of_mem _ hx)) with h1 | h1
    ·subst h1; exact absurd (hm1 _ hx) (cmpS_irr _)
    ·exact h1
  rw [ht]
theorem riseK_one {α : Type} {key : α → ByteArray} {l : List α} (h : RiseK key l) {x y : α} (hx : x ∈ l) (hy : y ∈ l) (e : key x = key y) : x = y := by
 obtain ⟨i, hi, rfl⟩ := List.getElem_of_mem hx
 obtain ⟨j, hj, rfl⟩ := List.getElem_of_mem hy
 rcases Nat.lt_trichotomy i j with h1 | h1 | h1
 ·exact absurd e (cmpS_ne (List.pairwise_iff_getElem.1 h i j hi hj h1))
 ·subst h1; rfl
 ·exact absurd e.symm (cmpS_ne (List.pairwise_iff_getElem.1 h j i hj hi h1))
theorem riseK_at {α : Type} {key : α → ByteArray} {l : List α} : RiseK key l ↔ ∀ k (h : k < l.length), 0 < k → cmpS (key (l[k - 1]'(by omega))) (key l[k]) < 0 := by
 constructor
 ·intro h k hk h0
  exact List.pairwise_iff_getElem.1 h (k - 1) k (by omega) hk (by omega)
 ·intro h
  unfold RiseK
  rw [List.pairwise_iff_getElem]
  intro i j hi hj hij
  induction j with
  | zero => omega
  | succ j ih =>
   have h1 := h (j + 1) hj (by omega)
   rcases Nat.lt_or_ge i j with h2 | h2
   ·exact cmpS_trans (ih (by omega) h2) h1
   ·obtain rfl : i = j := by omega
    exact h1
def isKy {α : Type} (key : α → ByteArray) (u : ByteArray) (x : α) : Bool := decide (key x = u)
def belK {α : Type} (key : α → ByteArray) (u : ByteArray) (x : α) : Bool := decide (cmpS (key x) u < 0)
def abvK {α : Type} (key : α → ByteArray) (u : ByteArray) (x : α) : Bool := decide (cmpS u (key x) < 0)
def insK {α : Type} (key : α → ByteArray) (u : ByteArray) (m l : List α) : List α := l.filter (belK key u) ++ (m ++ l.filter (abvK key u))
theorem belK_iff {α : Type} {key : α → ByteArray} {u : ByteArray} {x : α} : belK key u x = true ↔ cmpS (key x) u < 0 := decide_eq_true_iff
theorem abvK_iff {α : Type} {key : α → ByteArray} {u : ByteArray} {x : α} : abvK key u x = true ↔ cmpS u (key x) < 0 := decide_eq_true_iff
theorem isKy_iff {α : Type} {key : α → ByteArray} {u : ByteArray} {x : α} : isKy key u x = true ↔ key x = u := decide_eq_true_iff
theorem insK_mem {α : Type} {key : α → ByteArray} {u : ByteArray} {m l : List α} {x : α} : x ∈ insK key u m l ↔ x ∈ m ∨ (x ∈ l ∧ key x ≠ u) := by
 unfold insK
 rw [List.mem_append, List.mem_append, List.mem_filter, List.mem_filter, belK_iff, abvK_iff]
 constructor
 ·rintro (⟨h1, h2⟩ | h1 | ⟨h1, h2⟩)
  ·exact .inr ⟨h1, cmpS_ne h2⟩
  ·exact .inl h1
  ·exact .inr ⟨h1, fun e => cmpS_ne h2 e.symm⟩
 ·rintro (h1 | ⟨h1, h2⟩)
  ·exact .inr (.inl h1)
  ·rcases cmpS_tri (key x) u with h3 | h3 | h3
   ·exact .inl ⟨h1, h3⟩
   ·exact absurd h3 h2
   ·exact .inr (.inr ⟨h1, h3⟩)
theorem insK_rise {α : Type} {key : α → ByteArray} {u : ByteArray} {m l : List α} (h : RiseK key l) (hm : ∀ x ∈ m, key x = u) (h1 : m.length ≤ 1) : RiseK key (insK key u m l) := by
 unfold insK RiseK
 rw [List.pairwise_append, List.pairwise_append]
 refine ⟨List.Pairwise.filter _ h, ⟨?_, List.Pairwise.filter _ h, fun x hx y hy => ?_⟩, fun x hx y hy => ?_⟩
 ·rcases m with _ | ⟨a, _ | ⟨b, m⟩⟩
  ·exact .nil
  ·exact List.pairwise_singleton _ _
  ·simp at h1
 ·rw [hm x hx]; exact abvK_iff.1 (List.mem_filter.1 hy).2
 ·have hx1 := belK_iff.1 (List.mem_filter.1 hx).2
  rcases List.mem_append.1 hy with h2 | h2
  ·rw [hm y h2]; exact hx1
  ·exact cmpS_trans hx1 (abvK_iff.1 (List.mem_filter.1 h2).2)
theorem insK_len {α : Type} {key : α → ByteArray} {u : ByteArray} {m l : List α} : (insK key u m l).length ≤ l.length + m.length := by
 have h : ∀ l : List α, (l.filter (belK key u)).length + (l.filter (abvK key u)).length ≤ l.length := by
  intro l
  induction l with
  | nil => simp
  | cons a l ih =>
   rw [List.filter_cons, List.filter_cons]
   by_cases h1 : belK key u a = true
   ·have h2 : ¬ abvK key u a = true := fun h2 => cmpS_asym (belK_iff.1 h1) (abvK_iff.1 h2)
    rw [if_pos h1, if_neg h2, List.length_cons, List.length_cons]; omega
   ·rw [if_neg h1]
    split <;> (simp only [List.length_cons]; omega)
 have := h l
 unfold insK
 rw [List.length_append, List.length_append]
 omega
theorem find_key {α : Type} {key : α → ByteArray} {l : List α} (h : RiseK key l) {u : ByteArray} {x : α} : l.find? (isKy key u) = some x ↔ x ∈ l ∧ key x = u := by
 constructor
 ·intro h1
  exact ⟨List.mem_of_find?_eq_some h1, isKy_iff.1 (List.find?_some h1)⟩
 ·rintro ⟨h1, h2⟩
  cases hf : l.find? (isKy key u) with
  | none => exact absurd (isKy_iff.2 h2) (List.find?_eq_none.1 hf x h1)
  | some y =>
   have h3 := List.mem_of_find?_eq_some hf
   have h4 := isKy_iff.1 (List.find?_some hf)
   rw [riseK_one h h3 h1 (h4.trans h2.symm)]
structure UsM where
 u : ByteArray
 l : List StM
structure TbM where
 u : ByteArray
 a : Int
structure SaM where
 now : Int
 hor : Int
 op : List OpM
 us : List UsM
 su : List EnM
 tb : List TbM
def saZ : SaM := ⟨0, 0, [], [], [], []⟩
instance : Inhabited UsM := ⟨⟨⟨#[]⟩, []⟩⟩
instance : Inhabited TbM := ⟨⟨⟨#[]⟩, 0⟩⟩
instance : Inhabited SaM := ⟨saZ⟩
def ofU (l : List UsM) (u : ByteArray) : List StM := match l.find? (isKy UsM.u u) with
 | none => []
 | some x => x.l
def rowU (u : ByteArray) (r : List StM) : List UsM := if r.isEmpty then [] else [⟨u, r⟩]
def putU (l : List UsM) (u : ByteArray) (r : List StM) : List UsM := insK UsM.u u (rowU u r) l
def addU (l : List UsM) (u : ByteArray) (x : StM) : List UsM := if x.f < x.t then putU l u (addS (ofU l u) x) else l
def tombU (l : List TbM) (u : ByteArray) (a : Int) : List TbM := insK TbM.u u [⟨u, a⟩] l
theorem rowU_u {u : ByteArray} {r : List StM} : ∀ x ∈ rowU u r, x.u = u := fun x hx => by
 unfold rowU at hx
 split at hx
 ·cases hx
 ·rw [List.mem_singleton.1 hx]
theorem rowU_len {u : ByteArray} {r : List StM} : (rowU u r).length ≤ 1 := by
 unfold rowU
 split <;> simp
theorem rowU_mem {u : ByteArray} {r : List StM} {x : UsM} : x ∈ rowU u r ↔ x = ⟨u, r⟩ ∧ r ≠ [] := by
 unfold rowU
 cases r with
 | nil => simp
 | cons a r => simp
theorem putU_rise {l : List UsM} {u : ByteArray} {r : List StM} (h : RiseK UsM.u l) : RiseK UsM.u (putU l u r) := insK_rise h rowU_u rowU_len
theorem putU_mem {l : List UsM} {u : ByteArray} {r : List StM} {x : UsM} : x ∈ putU l u r ↔ (x = ⟨u, r⟩ ∧ r ≠ []) ∨ (x ∈ l ∧ x.u ≠ u) := by
 unfold putU
 rw [insK_mem, rowU_mem]
theorem ofU_mem {l : List UsM} (h : RiseK UsM.u l) {x : UsM} (hx : x ∈ l) : ofU l x.u = x.l := by
 unfold ofU
 rw [(find_key h).2 ⟨hx, rfl⟩]
theorem ofU_cases (l : List UsM) (u : ByteArray) : ofU l u = [] ∨ ⟨u, ofU l u⟩ ∈ l := by
 unfold ofU
 cases hf : l.find? (isKy UsM.u u) with
 | none => exact .inl rfl
 | some x =>
  have h1 := List.mem_of_find?_eq_some hf
  have h2 := isKy_iff.1 (List.find?_some hf)
  refine .inr ?_
  obtain ⟨xu, xl⟩ := x
  simp only at h2
  subst h2
  exact h1
theorem addU_rise {l : List UsM} {u : ByteArray} {x : StM} (h : RiseK UsM.u l) : RiseK UsM.u (addU l u x) := by
 unfold addU
 split
 ·exact putU_rise h
 ·exact h
theorem tombU_rise {l : List TbM} {u : ByteArray} {a : Int} (h : RiseK TbM.u l) : RiseK TbM.u (tombU l u a) :=
 insK_rise h (fun x hx => by rw [List.mem_singleton.1 hx]) (by simp)
theorem tombU_mem {l : List TbM} {u : ByteArray} {a : Int} {x : TbM} : x ∈ tombU l u a ↔ x = ⟨u, a⟩ ∨ (x ∈ l ∧ x.u ≠ u) := by
 unfold tombU
 rw [insK_mem, List.mem_singleton]
def OkSt (now : Int) (op : List OpM) (x : StM) : Prop := 0 ≤ x.f ∧ x.t ≤ now ∧ 1 ≤ x.n ∧ x.n ≤ 999 ∧ 1 ≤ x.s ∧ x.s ≤ 4 ∧ ∀ o ∈ op, o.n = x.n → x.t ≤ o.f
def OkU (now : Int) (op : List OpM) (x : UsM) : Prop := nameB x.u = true ∧ x.l ≠ [] ∧ RiseS x.l ∧ ∀ s ∈ x.l, OkSt now op s
def OkT (now : Int) (x : TbM) : Prop := nameB x.u = true ∧ 0 ≤ x.a ∧ x.a ≤ now
structure RightS (s : SaM) : Prop where
 now : 0 ≤ s.now ∧ s.now < 1099511627776
 hor : 0 ≤ s.hor ∧ s.hor < 1099511627776
 op : RiseO s.op
 frm : ∀ e ∈ s.op, e.f ≤ s.now
 us : ∀ x ∈ s.us, OkU s.now s.op x
 ur : RiseK UsM.u s.us
 su : GoE s.su s.now
 tb : ∀ x ∈ s.tb, OkT s.now x
 tr : RiseK TbM.u s.tb
theorem RightS.zero : RightS saZ :=
 ⟨⟨Int.le_refl _, by decide⟩, ⟨Int.le_refl _, by decide⟩, ⟨by decide, fun k h => absurd h (by simp [saZ])⟩, fun e h => (by cases h), fun e h => (by cases h), .nil, .nil, fun e h => (by cases h), .nil⟩
theorem addS_mem {l : List StM} {x y : StM} : y ∈ addS l x ↔ (y = x ∧ x.f < x.t) ∨ y ∈ l := by
 unfold addS
 split
 ·exact ⟨fun h => .inr h, fun h => h.elim (fun h => by omega) id⟩
 ·rw [(putS_perm l x).mem_iff, List.mem_cons]
  exact ⟨fun h => h.imp (fun h => ⟨h, by omega⟩) id, fun h => h.imp And.left id⟩
theorem addS_some {l : List StM} {x : StM} (h : x.f < x.t) : addS l x ≠ [] := by
 unfold addS
 rw [if_neg (by omega)]
 intro h1
 have := putS_len l x
 rw [h1] at this
 simp at this
theorem riseS_nil : RiseS [] := fun k h => absurd h (by simp)
theorem ofU_okst {now : Int} {op : List OpM} {us : List UsM} {u : ByteArray} (h : ∀ x ∈ us, OkU now op x) : RiseS (ofU us u) ∧ ∀ y ∈ ofU us u, OkSt now op y := by
 rcases ofU_cases us u with h1 | h1
 ·rw [h1]; exact ⟨riseS_nil, fun y hy => by cases hy⟩
 ·have h2 := h _ h1
  exact ⟨h2.2.2.1, h2.2.2.2⟩
theorem addU_ok {now : Int} {op : List OpM} {us : List UsM} {u : ByteArray} {x : StM} (h : ∀ x ∈ us, OkU now op x) (hu : nameB u = true) (hx : x.f < x.t → OkSt now op x) (hn : x.f < x.t → x ∉ ofU us u) : ∀ y ∈ addU us u x, OkU now op y := by
 unfold addU
 split
 ·rename_i h1
  intro y hy
  rcases putU_mem.1 hy with ⟨rfl, h2⟩ | ⟨h2, _⟩
  ·obtain ⟨h3, h4⟩ := ofU_okst (u := u) h
   refine ⟨hu, h2, (addS_rise h3).2 (hn h1), fun z hz => ?_⟩
   rcases addS_mem.1 hz with ⟨rfl, _⟩ | h5
   ·exact hx h1
   ·exact h4 z h5
  ·exact h y h2
 ·exact h
theorem OkSt.mono {a b : Int} {op op' : List OpM} {x : StM} (h : OkSt a op x) (hab : a ≤ b) (ho : ∀ o ∈ op', o.n = x.n → x.t ≤ o.f) : OkSt b op' x := by
 obtain ⟨h1, h2, h3, h4, h5, h6, h7⟩ := h
 exact ⟨h1, by omega, h3, h4, h5, h6, ho⟩
theorem OkU.mono {a b : Int} {op op' : List OpM} {x : UsM} (h : OkU a op x) (hab : a ≤ b) (ho : ∀ y, OkSt a op y → ∀ o ∈ op', o.n = y.n → y.t ≤ o.f) : OkU b op' x :=
 ⟨h.1, h.2.1, h.2.2.1, fun s hs => (h.2.2.2 s hs).mono hab (ho s (h.2.2.2 s hs))⟩
theorem pw_mid {l : List OpM} (h : l.Pairwise fun a b => a.n < b.n) {k : Nat} (hk : k < l.length) : (∀ y ∈ l.take k, y.n < l[k].n) ∧ (∀ y ∈ l.drop (k + 1), l[k].n < y.n) := by
 rw [List.pairwise_iff_getElem] at h
 constructor
 ·intro y hy
  obtain ⟨j, hj, hjk, rfl⟩ := mem_take_get hy
  exact h j k hj hk hjk
 ·intro y hy
  obtain ⟨j, hj, hjk, rfl⟩ := mem_drop_get hy
  exact h k j hk hj (by omega)
theorem mem_chg {l : List OpM} (h : l.Pairwise fun a b => a.n < b.n) {k : Nat} (hk : k < l.length) {s f : Int} {y : OpM} (hy : y ∈ chgAt l k s f) : y = ⟨l[k].n, l[k].u, s, f⟩ ∨ (y ∈ l ∧ y.n ≠ l[k].n) := by
 obtain ⟨h1, h2⟩ := pw_mid h hk
 rw [chgAt_at hk] at hy
 rcases List.mem_append.1 hy with h3 | h3
 ·have := h1 y h3
  exact .inr ⟨List.mem_of_mem_take h3, by omega⟩
 ·rcases List.mem_cons.1 h3 with h3 | h3
  ·exact .inl h3
  ·have := h2 y h3
   exact .inr ⟨List.mem_of_mem_drop h3, by omega⟩
theorem mem_cut {l : List OpM} (h : l.Pairwise fun a b => a.n < b.n) {k : Nat} (hk : k < l.length) {y : OpM} (hy : y ∈ cutAt l k) : y ∈ l ∧ y.n ≠ l[k].n := by
 obtain ⟨h1, h2⟩ := pw_mid h hk
 unfold cutAt at hy
 rcases List.mem_append.1 hy with h3 | h3
 ·have := h1 y h3
  exact ⟨List.mem_of_mem_take h3, by omega⟩
 ·have := h2 y h3
  exact ⟨List.mem_of_mem_drop h3, by omega⟩
theorem chg_n {l : List OpM} {k : Nat} (hk : k < l.length) (s f : Int) : (chgAt l k s f).map OpM.n = l.map OpM.n := by
 have h : l = l.take k ++ l[k] :: l.drop (k + 1) := by rw [← List.drop_eq_getElem_cons hk, List.take_append_drop]
 rw [chgAt_at hk]
 conv => rhs; rw [h]
 rw [List.map_append, List.map_append, List.map_cons, List.map_cons]
theorem pw_n {l : List OpM} : (l.Pairwise fun a b => a.n < b.n) ↔ (l.map OpM.n).Pairwise (· < ·) := by
 rw [List.pairwise_map]
theorem chg_rise {l : List OpM} (h : RiseO l) {k : Nat} (hk : k < l.length) {s f : Int} (hs : 1 ≤ s ∧ s ≤ 4) (hf : 0 ≤ f ∧ f ≤ 1099511627775) : RiseO (chgAt l k s f) := by
 obtain ⟨h0, h1, h2⟩ := riseO_iff.1 h
 rw [riseO_iff, chgAt_len, pw_n, chg_n hk, ← pw_n]
 refine ⟨h0, fun e he => ?_, h2⟩
 rcases mem_chg h2 hk he with rfl | ⟨h3, _⟩
 ·obtain ⟨k1, k2, k3, _⟩ := h1 _ (List.getElem_mem hk)
  exact ⟨k1, k2, k3, hs.1, hs.2, hf.1, hf.2⟩
 ·exact h1 e h3
theorem cut_rise {l : List OpM} (h : RiseO l) {k : Nat} : RiseO (cutAt l k) := by
 obtain ⟨h0, h1, h2⟩ := riseO_iff.1 h
 have hsub : (cutAt l k).Sublist l := by
  unfold cutAt
  have h3 : (l.take k ++ l.drop (k + 1)).Sublist (l.take k ++ l.drop k) := by
   refine List.Sublist.append_left ?_ _
   rw [← List.drop_drop]
   exact List.drop_sublist _ _
  rwa [List.take_append_drop] at h3
 rw [riseO_iff]
 exact ⟨Nat.le_trans (cutAt_len l k) h0, fun e he => h1 e (hsub.subset he), h2.sublist hsub⟩
theorem rise_filterO {l : List OpM} (h : RiseO l) (p : OpM → Bool) : RiseO (l.filter p) := by
 obtain ⟨h0, h1, h2⟩ := riseO_iff.1 h
 rw [riseO_iff]
 exact ⟨Nat.le_trans (List.length_filter_le _ _) h0, fun e he => h1 e (List.mem_filter.1 he).1, h2.filter _⟩
def RightV (k a n st : Int) (u o : ByteArray) : Prop :=
 0 ≤ a ∧ a < 1099511627776 ∧ (((k = 1 ∨ k = 2) ∧ 1 ≤ n ∧ n ≤ 999 ∧ nameB u = true ∧ o = ⟨#[]⟩ ∧ 1 ≤ st ∧ st ≤ 4)
  ∨ (k = 3 ∧ 1 ≤ n ∧ n ≤ 999 ∧ nameB u = true ∧ o = ⟨#[]⟩ ∧ st = 0)
  ∨ ((k = 4 ∨ k = 5) ∧ nameB u = true ∧ nameB o = true ∧ n = 0 ∧ st = 0)
  ∨ (k = 6 ∧ u = ⟨#[]⟩ ∧ o = ⟨#[]⟩ ∧ st = 0 ∧ 0 ≤ n ∧ n < 1099511627776)
  ∨ (k = 7 ∧ nameB u = true ∧ o = ⟨#[]⟩ ∧ n = 0 ∧ st = 0))
instance rightVDec (k a n st : Int) (u o : ByteArray) : Decidable (RightV k a n st u o) := by unfold RightV; infer_instance
def errK (s : SaM) (k a n st : Int) (u o : ByteArray) : Int :=
 if k = 1 then openC s.op ⟨n, u, st, a⟩ else if k = 2 ∨ k = 3 then findC s.op n u
 else if k = 4 then (if s.su.any (infE u o) = true then 90 else 0) else if k = 5 then (if s.su.any (infE u o) = true then 0 else 91) else 0
def errS (s : SaM) (k a n st : Int) (u o : ByteArray) : Int := if RightV k a n st u o then (if a < s.now then 111 else errK s k a n st u o) else 110
def goS (s : SaM) (k a n st : Int) (u o : ByteArray) : SaM :=
 if k = 1 then { s with now := a, op := openR s.op ⟨n, u, st, a⟩ }
 else if k = 2 then { s with now := a, op := chgR s.op n u st a, us := addU s.us u (fndS s.op n u a) }
 else if k = 3 then { s with now := a, op := cloR s.op n u, us := addU s.us u (fndS s.op n u a) }
 else if k = 4 then { s with now := a, su := grantS s.su (mkE u o a) }
 else if k = 5 then { s with now := a, su := revokeS s.su u o a }
 else if k = 6 then { s with now := a, hor := max s.hor n }
 else { s with now := a, op := s.op.filter (notU u), su := withoutS s.su u, us := putU s.us u [], tb := tombU s.tb u a }
def tellS (s : SaM) (k a n st : Int) (u o : ByteArray) : SaM := if errS s k a n st u o = 0 then goS s k a n st u o else saZ
theorem errS_ok {s : SaM} {k a n st : Int} {u o : ByteArray} (h : errS s k a n st u o = 0) : RightV k a n st u o ∧ s.now ≤ a ∧ errK s k a n st u o = 0 := by
 unfold errS at h
 split at h
 ·rename_i h1
  split at h
  ·exact absurd h (by decide)
  ·exact ⟨h1, by omega, h⟩
 ·exact absurd h (by decide)
theorem GoE.mono {m : List EnM} {a b : Int} (h : GoE m a) (hab : a ≤ b) : GoE m b :=
 ⟨h.rise, fun e he => by obtain ⟨h1, h2, h3⟩ := h.bnd e he; exact ⟨h1, by omega, h3.imp id (by omega)⟩⟩
theorem GoE.filter {m : List EnM} {a : Int} (h : GoE m a) (p : EnM → Bool) : GoE (m.filter p) a :=
 ⟨rise_filter h.rise p, fun e he => h.bnd e (List.mem_filter.1 he).1⟩
theorem OkT.mono {a b : Int} {x : TbM} (h : OkT a x) (hab : a ≤ b) : OkT b x := by
 obtain ⟨h1, h2, h3⟩ := h
 exact ⟨h1, h2, by omega⟩
theorem right_open {s : SaM} (h : RightS s) {a n st : Int} {u : ByteArray} (hn : 1 ≤ n ∧ n ≤ 999) (hs : 1 ≤ st ∧ st ≤ 4) (ha : s.now ≤ a) (hb : a < 1099511627776) (hu : nameB u = true) (hc : openC s.op ⟨n, u, st, a⟩ = 0) :
  RightS { s with now := a, op := openR s.op ⟨n, u, st, a⟩ } := by
 have h0 := h.now
 have hnew : ∀ y ∈ openR s.op ⟨n, u, st, a⟩, y = ⟨n, u, st, a⟩ ∨ y ∈ s.op := fun y hy => by
  unfold openR at hy
  rw [if_pos hc] at hy
  unfold openS at hy
  rcases List.mem_append.1 hy with h1 | h1
  ·exact .inr (List.mem_of_mem_take h1)
  ·rcases List.mem_cons.1 h1 with h1 | h1
   ·exact .inl h1
   ·exact .inr (List.mem_of_mem_drop h1)
 refine ⟨⟨by simp only; omega, hb⟩, h.hor, open_rise hc h.op ?_, fun e he => ?_, fun x hx => (h.us x hx).mono ha fun y hy z hz hzn => ?_, h.ur, h.su.mono ha, fun x hx => (h.tb x hx).mono ha, h.tr⟩
 ·rw [riseO_iff]
  refine ⟨by simp, fun e he => ?_, List.pairwise_singleton _ _⟩
  rw [List.mem_singleton.1 he]
  exact ⟨hu, hn.1, hn.2, hs.1, hs.2, by simp only; omega, by simp only; omega⟩
 ·rcases hnew e he with rfl | h1
  ·exact Int.le_refl _
  ·exact Int.le_trans (h.frm e h1) ha
 ·rcases hnew z hz with rfl | h1
  ·exact Int.le_trans hy.2.1 ha
  ·exact hy.2.2.2.2.2.2 z h1 hzn
theorem right_stay {s : SaM} (h : RightS s) {a st : Int} {k : Nat} (hk : k < s.op.length) (ha : s.now ≤ a) {op' : List OpM} (hop : ∀ y ∈ op', y.n = s.op[k].n → a ≤ y.f) (hb : a < 1099511627776)
  (hkeep : ∀ y ∈ op', y.n ≠ s.op[k].n → y ∈ s.op) (hu : nameB s.op[k].u = true) : ∀ y ∈ addU s.us s.op[k].u (stayO s.op[k] a), OkU a op' y := by
 obtain ⟨h1, h2, h3⟩ := riseO_iff.1 h.op
 obtain ⟨k1, k2, k3, k4, k5, k6, k7⟩ := h2 _ (List.getElem_mem hk)
 have hold : ∀ x ∈ s.us, OkU a op' x := fun x hx => (h.us x hx).mono ha fun y hy z hz hzn => by
  by_cases hzk : z.n = s.op[k].n
  ·exact Int.le_trans (Int.le_trans hy.2.1 ha) (hop z hz hzk)
  ·exact hy.2.2.2.2.2.2 z (hkeep z hz hzk) hzn
 refine addU_ok hold hu (fun hlt => ?_) (fun hlt hm => ?_)
 ·exact ⟨k6, Int.le_refl _, k2, k3, k4, k5, fun o ho hon => hop o ho hon⟩
 ·have h4 := (ofU_okst (u := s.op[k].u) h.us).2 _ hm
  have h5 := h4.2.2.2.2.2.2 _ (List.getElem_mem hk) rfl
  have h6 : s.op[k].f < a := hlt
  have h7 : a ≤ s.op[k].f := h5
  omega
theorem right_change {s : SaM} (h : RightS s) {a n st : Int} {u : ByteArray} (hs : 1 ≤ st ∧ st ≤ 4) (ha : s.now ≤ a) (hb : a < 1099511627776) (hc : findC s.op n u = 0) :
  RightS { s with now := a, op := chgR s.op n u st a, us := addU s.us u (fndS s.op n u a) } := by
 have h0 := h.now
 rcases fc_three s.op n u with ⟨_, k, hk, hf, h1, h2, h3, h4⟩ | ⟨h1 | h1, _⟩
 ·obtain ⟨_, h6, h7⟩ := riseO_iff.1 h.op
  have hcr : chgR s.op n u st a = chgAt s.op k st a := by unfold chgR; rw [if_pos hc, h4]
  have hst : fndS s.op n u a = stayO s.op[k] a := by unfold fndS; rw [if_pos hc, h3]
  have hmem : ∀ y ∈ chgAt s.op k st a, y = ⟨s.op[k].n, s.op[k].u, st, a⟩ ∨ (y ∈ s.op ∧ y.n ≠ s.op[k].n) := fun y hy => mem_chg h7 hk hy
  rw [hcr, hst, ← h2]
  refine ⟨⟨by simp only; omega, hb⟩, h.hor, chg_rise h.op hk hs ⟨by omega, by omega⟩, fun e he => ?_, right_stay (st := st) h hk ha (fun y hy hyn => ?_) hb (fun y hy hyn => ?_) (h6 _ (List.getElem_mem hk)).1, addU_rise h.ur, h.su.mono ha, fun x hx => (h.tb x hx).mono ha, h.tr⟩
  ·rcases hmem e he with rfl | ⟨h8, _⟩
   ·exact Int.le_refl _
   ·exact Int.le_trans (h.frm e h8) ha
  ·rcases hmem y hy with rfl | ⟨_, h8⟩
   ·exact Int.le_refl _
   ·exact absurd hyn h8
  ·rcases hmem y hy with rfl | ⟨h8, _⟩
   ·exact absurd rfl hyn
   ·exact h8
 ·rw [hc] at h1; exact absurd h1 (by decide)
 ·rw [hc] at h1; exact absurd h1 (by decide)
theorem right_close {s : SaM} (h : RightS s) {a n : Int} {u : ByteArray} (ha : s.now ≤ a) (hb : a < 1099511627776) (hc : findC s.op n u = 0) :
  RightS { s with now := a, op := cloR s.op n u, us := addU s.us u (fndS s.op n u a) } := by
 have h0 := h.now
 rcases fc_three s.op n u with ⟨_, k, hk, hf, h1, h2, h3, h4⟩ | ⟨h1 | h1, _⟩
 ·obtain ⟨_, h6, h7⟩ := riseO_iff.1 h.op
  have hcr : cloR s.op n u = cutAt s.op k := by unfold cloR; rw [if_pos hc, h4]
  have hst : fndS s.op n u a = stayO s.op[k] a := by unfold fndS; rw [if_pos hc, h3]
  have hmem : ∀ y ∈ cutAt s.op k, y ∈ s.op ∧ y.n ≠ s.op[k].n := fun y hy => mem_cut h7 hk hy
  rw [hcr, hst, ← h2]
  exact ⟨⟨by simp only; omega, hb⟩, h.hor, cut_rise h.op, fun e he => Int.le_trans (h.frm e (hmem e he).1) ha, right_stay (st := 1) h hk ha (fun y hy hyn => absurd hyn (hmem y hy).2) hb (fun y hy hyn => (hmem y hy).1) (h6 _ (List.getElem_mem hk)).1, addU_rise h.ur, h.su.mono ha, fun x hx => (h.tb x hx).mono ha, h.tr⟩
 ·rw [hc] at h1; exact absurd h1 (by decide)
 ·rw [hc] at h1; exact absurd h1 (by decide)
theorem right_erase {s : SaM} (h : RightS s) {a : Int} {u : ByteArray} (ha : s.now ≤ a) (hb : a < 1099511627776) (hu : nameB u = true) :
  RightS { s with now := a, op := s.op.filter (notU u), su := withoutS s.su u, us := putU s.us u [], tb := tombU s.tb u a } := by
 have h0 := h.now
 refine ⟨⟨by simp only; omega, hb⟩, h.hor, rise_filterO h.op _, fun e he => Int.le_trans (h.frm e (List.mem_filter.1 he).1) ha, fun x hx => ?_, putU_rise h.ur, (h.su.mono ha).filter _, fun x hx => ?_, tombU_rise h.tr⟩
 ·rcases putU_mem.1 hx with ⟨_, h1⟩ | ⟨h1, _⟩
  ·exact absurd rfl h1
  ·exact (h.us x h1).mono ha fun y hy z hz hzn => hy.2.2.2.2.2.2 z (List.mem_filter.1 hz).1 hzn
 ·rcases tombU_mem.1 hx with rfl | ⟨h1, _⟩
  ·exact ⟨hu, by simp only; omega, Int.le_refl _⟩
  ·exact (h.tb x h1).mono ha
theorem right_go {s : SaM} (h : RightS s) {k a n st : Int} {u o : ByteArray} (he : errS s k a n st u o = 0) : RightS (goS s k a n st u o) := by
 obtain ⟨hv, ha, hk⟩ := errS_ok he
 have h0 := h.now
 obtain ⟨ha0, hb, hv⟩ := hv
 have hold : ∀ x ∈ s.us, OkU a s.op x := fun x hx => (h.us x hx).mono ha fun y hy z hz hzn => hy.2.2.2.2.2.2 z hz hzn
 unfold errK at hk
 unfold goS
 rcases hv with ⟨h1 | h1, h2, h3, h4, _, h5, h6⟩ | ⟨h1, h2, h3, h4, _, _⟩ | ⟨h1 | h1, h2, h3, _, _⟩ | ⟨h1, _, _, _, h2, h3⟩ | ⟨h1, h2, _, _, _⟩
 ·subst h1
  exact right_open h ⟨h2, h3⟩ ⟨h5, h6⟩ ha hb h4 hk
 ·subst h1
  exact right_change h ⟨h5, h6⟩ ha hb hk
 ·subst h1
  exact right_close h ha hb hk
 ·subst h1
  have hi : s.su.any (infE u o) = false := by
   rw [if_neg (by decide), if_neg (by decide), if_pos rfl] at hk
   split at hk
   ·exact absurd hk (by decide)
   ·rename_i h4; exact Bool.eq_false_iff.2 h4
  exact ⟨⟨ha0, hb⟩, h.hor, h.op, fun e he => Int.le_trans (h.frm e he) ha, hold, h.ur, (h.su.grant h0.1 ha hb h2 h3 hi).1, fun x hx => (h.tb x hx).mono ha, h.tr⟩
 ·subst h1
  have hi : s.su.any (infE u o) = true := by
   rw [if_neg (by decide), if_neg (by decide), if_neg (by decide), if_pos rfl] at hk
   split at hk
   ·rename_i h4; exact h4
   ·exact absurd hk (by decide)
  exact ⟨⟨ha0, hb⟩, h.hor, h.op, fun e he => Int.le_trans (h.frm e he) ha, hold, h.ur, (h.su.revoke h0.1 ha hb hi).1, fun x hx => (h.tb x hx).mono ha, h.tr⟩
 ·subst h1
  have h4 := h.hor
  exact ⟨⟨ha0, hb⟩, ⟨Int.le_trans h4.1 (Int.le_max_left _ _), Int.max_lt.2 ⟨h4.2, h3⟩⟩, h.op, fun e he => Int.le_trans (h.frm e he) ha, hold, h.ur, h.su.mono ha, fun x hx => (h.tb x hx).mono ha, h.tr⟩
 ·subst h1
  exact right_erase h ha hb h2
theorem addS_perm (l : List StM) (x : StM) : (addS l x).Perm (if x.f < x.t then x :: l else l) := by
 unfold addS
 by_cases h : x.f < x.t
 ·rw [if_neg (by omega), if_pos h]; exact putS_perm l x
 ·rw [if_pos (by omega), if_neg h]
def addsS (l : List StM) (r : List StM) : List StM := l.foldl addS r
def staysS (s : SaM) (u : ByteArray) (w : Int) : List StM := addsS (staysO s.op u w) (ofU s.us u)
theorem addsS_len : ∀ (l r : List StM), (addsS l r).length ≤ r.length + l.length
 | [], r => by simp [addsS]
 | x :: l, r => by
  have h1 := addsS_len l (addS r x)
  have h2 := addS_len r x
  show (addsS l (addS r x)).length ≤ _
  rw [List.length_cons]
  omega
theorem addsS_next (l : List StM) (r : List StM) (j : Nat) (h : j < l.length) : addsS (l.take (j + 1)) r = addS (addsS (l.take j) r) l[j] := by
 unfold addsS
 rw [List.take_succ_eq_append_getElem h, List.foldl_append]
 rfl
theorem addsS_perm : ∀ (l : List StM) {r : List StM}, (∀ x ∈ l, x.f < x.t) → (addsS l r).Perm (l ++ r)
 | [], _, _ => List.Perm.refl _
 | x :: l, r, h => by
  show (addsS l (addS r x)).Perm _
  refine (addsS_perm l fun y hy => h y (List.mem_cons_of_mem _ hy)).trans ?_
  have h1 := addS_perm r x
  rw [if_pos (h x (List.mem_cons_self ..))] at h1
  exact (h1.append_left l).trans List.perm_middle
def cntU (l : List UsM) : Nat := (l.map fun x => x.l.length).sum
def stCnt (s : SaM) : Nat := s.op.length + s.su.length + s.tb.length + cntU s.us
theorem cntU_cons (x : UsM) (l : List UsM) : cntU (x :: l) = x.l.length + cntU l := by simp [cntU]
theorem cntU_append (a b : List UsM) : cntU (a ++ b) = cntU a + cntU b := by simp [cntU]
theorem cntU_take (l : List UsM) (j : Nat) (h : j < l.length) : cntU (l.take (j + 1)) = cntU (l.take j) + l[j].l.length := by
 rw [List.take_succ_eq_append_getElem h, cntU_append]
 simp [cntU]
theorem cntU_parts (u : ByteArray) : ∀ l : List UsM, cntU (l.filter (belK UsM.u u)) + cntU (l.filter (abvK UsM.u u)) + (ofU l u).length ≤ cntU l
 | [] => by simp [cntU, ofU]
 | x :: l => by
  have ih := cntU_parts u l
  rw [List.filter_cons, List.filter_cons, cntU_cons]
  by_cases h : x.u = u
  ·have h1 : ¬ belK UsM.u u x = true := fun h1 => cmpS_ne (belK_iff.1 h1) h
   have h2 : ¬ abvK UsM.u u x = true := fun h1 => cmpS_ne (abvK_iff.1 h1) h.symm
   have h3 : ofU (x :: l) u = x.l := by
    unfold ofU
    rw [List.find?_cons_of_pos (isKy_iff.2 h)]
   rw [if_neg h1, if_neg h2, h3]
   omega
  ·have h3 : ofU (x :: l) u = ofU l u := by
    unfold ofU
    rw [List.find?_cons_of_neg (fun h1 => h (isKy_iff.1 h1))]
   rw [h3]
   by_cases h1 : belK UsM.u u x = true
   ·have h2 : ¬ abvK UsM.u u x = true := fun h2 => cmpS_asym (belK_iff.1 h1) (abvK_iff.1 h2)
    rw [if_pos h1, if_neg h2, cntU_cons]
    omega
   ·rw [if_neg h1]
    split
    ·rw [cntU_cons]; omega
    ·omega
theorem cntU_put (l : List UsM) (u : ByteArray) (r : List StM) : cntU (putU l u r) + (ofU l u).length ≤ cntU l + r.length := by
 have h := cntU_parts u l
 have h1 : cntU (rowU u r) = r.length := by
  unfold rowU
  cases r with
  | nil => rfl
  | cons a r => simp [cntU]
 unfold putU insK
 rw [cntU_append, cntU_append, h1]
 omega
theorem cntU_add (l : List UsM) (u : ByteArray) (x : StM) : cntU (addU l u x) ≤ cntU l + 1 := by
 unfold addU
 split
 ·have h1 := cntU_put l u (addS (ofU l u) x)
  have h2 := addS_len (ofU l u) x
  omega
 ·omega
theorem cnt_go (s : SaM) (k a n st : Int) (u o : ByteArray) : stCnt (goS s k a n st u o) ≤ stCnt s + 1 := by
 have h1 := openR_len s.op ⟨n, u, st, a⟩
 have h2 := chgR_len s.op n u st a
 have h3 := cloR_len s.op n u
 have h4 := cntU_add s.us u (fndS s.op n u a)
 have h5 := grant_len s.su (mkE u o a)
 have h6 := revoke_len s.su u o a
 have h7 : (s.op.filter (notU u)).length ≤ s.op.length := List.length_filter_le _ _
 have h8 : (withoutS s.su u).length ≤ s.su.length := List.length_filter_le _ _
 have h9 := cntU_put s.us u []
 have h10 : (tombU s.tb u a).length ≤ s.tb.length + 1 := insK_len
 simp only [List.length_nil] at h9
 unfold stCnt goS
 repeat' split
 all_goals (simp only; omega)
end Go.Proofs.YtmfpjapiijgdgaaGreat
namespace Go.Proofs.YtmfpjapiijgdgaaGreat
set_option linter.unusedVariables false
def gateP (s : SaM) (w u : ByteArray) (f t : Int) (x : Int) : Prop := HasL (perS s.su w u) x ∧ (f ≤ x ∧ x < t) ∧ s.hor ≤ x ∧ x < 1099511627776
def IsRange (s : SaM) (w u : ByteArray) (f t now : Int) (m : List StM) : Prop := IsCut (staysS s u now) (gateP s w u f t) m
theorem IsRange.only {s : SaM} {w u : ByteArray} {f t now : Int} {a b : List StM} (ha : IsRange s w u f t now a) (hb : IsRange s w u f t now b) : a = b := IsCut.only ha hb
theorem stays_perm (s : SaM) (u : ByteArray) (w : Int) : (staysS s u w).Perm (rawO s.op u w ++ ofU s.us u) := by
 have h0 := (stays_is s.op u w s.op.length (Nat.le_refl _)).1
 rw [List.take_length] at h0
 have h1 : ∀ x ∈ staysO s.op u w, x.f < x.t := fun x hx => by
  have h2 := h0.mem_iff.1 hx
  unfold rawO at h2
  obtain ⟨e, he, rfl⟩ := List.mem_map.1 h2
  have h3 := (List.mem_filter.1 he).2
  unfold stU at h3
  simp only [Bool.and_eq_true, decide_eq_true_eq] at h3
  exact h3.2
 exact (addsS_perm (staysO s.op u w) h1).trans (h0.append_right _)
theorem has_one (m : SpM) (x : Int) : HasL [m] x ↔ m.f ≤ x ∧ x < m.t := by
 unfold HasL
 constructor
 ·rintro ⟨s, hs, h⟩; rw [List.mem_singleton.1 hs] at h; exact h
 ·intro h; exact ⟨m, List.mem_singleton.2 rfl, h⟩
theorem gate_prog {s : SaM} {w u : ByteArray} {f t : Int} {r : List SpM} (h : IsSet (fun x => HasL [meetS ⟨f, t⟩ ⟨s.hor, 1099511627776⟩] x ∧ HasL (perS s.su w u) x) r) : IsSet (gateP s w u f t) r :=
 h.congr fun x => by
  rw [has_one]
  unfold gateP meetS
  dsimp only
  constructor
  ·rintro ⟨⟨k1, k2⟩, k3⟩; exact ⟨k3, by omega⟩
  ·rintro ⟨k3, k1, k2⟩; exact ⟨by omega, k3⟩
def whyV (s : SaM) (w u : ByteArray) (now : Int) : Int := if nameB w = true ∧ nameB u = true then (if now < s.now ∨ 1099511627776 ≤ now then 130 else 0) else 1
theorem range_none {s : SaM} {w u : ByteArray} {f t now : Int} {a : List StM} (h : staysS s u now = [] ∨ ∀ x, ¬ HasL (perS s.su w u) x) (ha : IsRange s w u f t now a) : a = [] := by
 obtain ⟨r, k1, k2, k3⟩ := ha
 rcases h with h | h
 ·rw [h] at k2
  exact k2.eq_nil
 ·have hr : r = [] := by
   rw [List.eq_nil_iff_forall_not_mem]
   intro m hm
   exact h m.f ((k1.2 m.f).1 ⟨m, hm, Int.le_refl _, k1.1.2 m hm⟩).1
  subst hr
  have : ∀ l : List StM, rawS l [] = [] := fun l => by
   unfold rawS
   rw [List.flatMap_eq_nil_iff]
   intro x _
   rfl
  rw [this] at k2
  exact k2.eq_nil
end Go.Proofs.YtmfpjapiijgdgaaGreat
namespace Go.Proofs.YtmfpjapiijgdgaaGreat
set_option linter.unusedVariables false
set_option maxRecDepth 100000
theorem low_of {α : Type} {key : α → ByteArray} {u : ByteArray} {l : List α} (hr : RiseK key l) {j : Nat} (hj : j < l.length) (hlt : cmpS (key l[j]) u < 0) : ∀ i (h : i < l.length), i < j → cmpS (key l[i]) u < 0 := fun i hi hij =>
 cmpS_trans (List.pairwise_iff_getElem.1 hr i j hi hj hij) hlt
def notBel {α : Type} (key : α → ByteArray) (u : ByteArray) (x : α) : Bool := !belK key u x
theorem fst_parts {α : Type} {key : α → ByteArray} {u : ByteArray} {l : List α} (hr : RiseK key l) {k : Nat} (h : IsFst (notBel key u) l k) : l.filter (belK key u) = l.take k ∧ (∀ x ∈ l.drop k, ¬ cmpS (key x) u < 0) := by
 have hlo : ∀ x ∈ l.take k, belK key u x = true := fun x hx => by
  have := h.take x hx
  unfold notBel at this
  simpa using this
 have hup : ∀ x ∈ l.drop k, ¬ cmpS (key x) u < 0 := fun x hx hlt => by
  obtain ⟨j, hj, hkj, rfl⟩ := mem_drop_get hx
  have h1 := h.hit (by omega)
  unfold notBel at h1
  have h2 : ¬ cmpS (key (l[k]'(by omega))) u < 0 := fun h2 => by rw [belK_iff.2 h2] at h1; cases h1
  rcases Nat.lt_or_ge k j with h3 | h3
  ·exact h2 (low_of hr hj hlt k (by omega) h3)
  ·obtain rfl : k = j := by omega
   exact h2 hlt
 refine ⟨?_, hup⟩
 have h3 : l.filter (belK key u) = (l.take k).filter (belK key u) ++ (l.drop k).filter (belK key u) := by rw [← List.filter_append, List.take_append_drop]
 rw [h3, List.filter_eq_self.2 hlo, List.filter_eq_nil_iff.2 fun x hx hb => hup x hx (belK_iff.1 hb), List.append_nil]
theorem ins_new {α : Type} {key : α → ByteArray} {u : ByteArray} {m l : List α} (hr : RiseK key l) {k : Nat} (h : IsFst (notBel key u) l k) (hn : ∀ x ∈ l, key x ≠ u) : insK key u m l = l.take k ++ (m ++ l.drop k) := by
 obtain ⟨h1, h2⟩ := fst_parts hr h
 unfold insK
 rw [h1]
 congr 2
 have h3 : l.filter (abvK key u) = (l.take k).filter (abvK key u) ++ (l.drop k).filter (abvK key u) := by rw [← List.filter_append, List.take_append_drop]
 rw [h3, List.filter_eq_nil_iff.2, List.nil_append, List.filter_eq_self.2]
 ·intro x hx
  rcases cmpS_tri (key x) u with h4 | h4 | h4
  ·exact absurd h4 (h2 x hx)
  ·exact absurd h4 (hn x (List.mem_of_mem_drop hx))
  ·exact abvK_iff.2 h4
 ·intro x hx ha
  rw [← h1] at hx
  exact cmpS_asym (belK_iff.1 (List.mem_filter.1 hx).2) (abvK_iff.1 ha)
theorem ins_old {α : Type} {key : α → ByteArray} {u : ByteArray} {m l : List α} (hr : RiseK key l) {k : Nat} (hk : k < l.length) (he : key l[k] = u) : insK key u m l = l.take k ++ (m ++ l.drop (k + 1)) := by
 have hpw := List.pairwise_iff_getElem.1 hr
 have hlo : ∀ x ∈ l.take k, cmpS (key x) u < 0 := fun x hx => by
  obtain ⟨j, hj, hjk, rfl⟩ := mem_take_get hx
  rw [← he]; exact hpw j k hj hk hjk
 have hup : ∀ x ∈ l.drop (k + 1), cmpS u (key x) < 0 := fun x hx => by
  obtain ⟨j, hj, hjk, rfl⟩ := mem_drop_get hx
  rw [← he]; exact hpw k j hk hj (by omega)
 have hl : l = l.take k ++ l[k] :: l.drop (k + 1) := by rw [← List.drop_eq_getElem_cons hk, List.take_append_drop]
 have hb : ¬ belK key u l[k] = true := fun hb => cmpS_ne (belK_iff.1 hb) he
 have ha : ¬ abvK key u l[k] = true := fun ha => cmpS_ne (abvK_iff.1 ha) he.symm
 have f1 : l.filter (belK key u) = l.take k := by
  conv => lhs; rw [hl]
  rw [List.filter_append, List.filter_cons, if_neg hb, List.filter_eq_self.2 fun x hx => belK_iff.2 (hlo x hx), List.filter_eq_nil_iff.2 fun x hx h => cmpS_asym (hup x hx) (belK_iff.1 h), List.append_nil]
 have f2 : l.filter (abvK key u) = l.drop (k + 1) := by
  conv => lhs; rw [hl]
  rw [List.filter_append, List.filter_cons, if_neg ha, List.filter_eq_nil_iff.2 fun x hx h => cmpS_asym (hlo x hx) (abvK_iff.1 h), List.filter_eq_self.2 fun x hx => abvK_iff.2 (hup x hx), List.nil_append]
 unfold insK
 rw [f1, f2]
theorem ins_out {α : Type} {key : α → ByteArray} {u : ByteArray} {l : List α} (hr : RiseK key l) : insK key u [] l = l.filter fun x => !isKy key u x := by
 refine riseK_ext (insK_rise hr (fun x hx => by cases hx) (by simp)) (List.Pairwise.filter _ hr) fun x => ?_
 rw [insK_mem, List.mem_filter]
 constructor
 ·rintro (h | ⟨h1, h2⟩)
  ·cases h
  ·refine ⟨h1, ?_⟩
   have h3 : isKy key u x = false := decide_eq_false h2
   rw [h3]; rfl
 ·rintro ⟨h1, h2⟩
  refine .inr ⟨h1, fun e => ?_⟩
  rw [isKy_iff.2 e] at h2
  cases h2
end Go.Proofs.YtmfpjapiijgdgaaGreat
namespace Go.Proofs.YtmfpjapiijgdgaaGreat
open Go.RowKit
set_option linter.unusedVariables false
set_option maxRecDepth 100000
set_option maxRecDepth 100000
def hasB (l : List SpM) (x : Int) : Bool := l.any fun s => decide (s.f ≤ x) && decide (x < s.t)
theorem hasB_iff (l : List SpM) (x : Int) : hasB l x = true ↔ HasL l x := by
 unfold hasB HasL
 rw [List.any_eq_true]
 exact ⟨fun ⟨s, hs, h⟩ => ⟨s, hs, by simpa using h⟩, fun ⟨s, hs, h⟩ => ⟨s, hs, by simpa using h⟩⟩
theorem hasB_yes {l : List SpM} {x : Int} {j : Nat} (hj : j < l.length) (h1 : l[j].f ≤ x) (h2 : x < l[j].t) : hasB l x = true := (hasB_iff l x).2 ⟨l[j], List.getElem_mem hj, h1, h2⟩
theorem hasB_next {l : List SpM} {x : Int} {j : Nat} (hj : j < l.length) (h : hasB (l.take j) x = false) (h1 : ¬ (l[j].f ≤ x ∧ x < l[j].t)) : hasB (l.take (j + 1)) x = false := by
 unfold hasB at *
 rw [List.take_succ_eq_append_getElem hj, List.any_append, h]
 simpa using h1
set_option maxHeartbeats 2000000 in
theorem lhas_any (a : Option Addr) (c : Nat) (l : List SpM) (x : Int) (w : World) (hr : SpSl w a l) (hl : l.length ≤ maxLen) :
  Calls Tryz.prog 104 #[.slice a l.length c, .int .i64 x] w fun e w' => e = .returned (.bool (hasB l x)) ∧ Below w.heap.size w w' := by
 have HR := Lib.hid hr
 have HC := Lib.hid shas_any
 unfold maxLen at hl
 clear hr
 go_enter Tryz.func104, Tryz.ntmps104
 go_wp2
 go_loopw [9] (fun i wr => ∃ (j : Nat), j ≤ l.length ∧ i = .int .i64 j ∧ Hid (hasB (l.take j) x = false) ∧ Hid (Below w.heap.size w wr)) (fun i _ => l.length - (intOf i).toNat)
 case atStart => exact ⟨0, by omega, rfl, rfl, Below.refl _ _⟩
 case round =>
  obtain ⟨j, hj, rfl, HF, HB⟩ := hrel
  by_cases hjl : j < l.length
  ·obtain ⟨b, off, rfl, hbl, hc0, hc1⟩ := (HR.out.below HB.out).at_ hjl
   have HY := Lib.hid (fun h1 h2 => hasB_yes (x := x) hjl h1 h2)
   have HN := Lib.hid (fun h => hasB_next hjl HF.out h)
   have HB2 := Lib.hid (HB.out.alloc HB.out.size (.cells #[.int .i64 l[j].f, .int .i64 l[j].t] 90))
   generalize l[j] = s at *
   have HC1 := Lib.hid (fun W => HC.out s.f s.t x W)
   by_cases h : s.f ≤ x ∧ x < s.t
   ·have hd : (decide (s.f ≤ x) && decide (x < s.t)) = true := by simp [h]
    rw [hd] at HC1
    have HE := Lib.hid (HY.out h.1 h.2)
    clear HY HN HC hd h HF HB
    go_wp2_with fail
    refine (HC1.out _).mono ?_
    rintro e w2 ⟨rfl, h2⟩
    go_wp2
    go_ret
    exact ⟨by rw [HE.out]; rfl, HB2.out.trans (h2.mono HB2.out.size)⟩
   ·have hd : (decide (s.f ≤ x) && decide (x < s.t)) = false := by
     rw [Bool.and_eq_false_iff]
     by_cases h1 : s.f ≤ x
     ·exact .inr (decide_eq_false (fun h2 => h ⟨h1, h2⟩))
     ·exact .inl (decide_eq_false h1)
    rw [hd] at HC1
    have HE := Lib.hid (HN.out h)
    clear HY HN hd h HF HB
    go_wp2_with fail
    refine (HC1.out _).mono ?_
    rintro e w2 ⟨rfl, h2⟩
    have HB3 := Lib.hid (HB2.out.trans (h2.mono HB2.out.size))
    clear h2 HB2 HC1
    go_wp2
    go_roundw
    case rel => exact ⟨j + 1, by omega, by go_num, HE, HB3⟩
    case measure => simp [intOf]; omega
  ·obtain rfl : j = l.length := by omega
   rw [List.take_of_length_le (Nat.le_refl _)] at HF
   go_wp2
   go_ret
   exact ⟨by rw [HF.out]; rfl, HB.out⟩
def ints (l : List Int) : List Value := l.map fun n => .int .i64 n
theorem ints_len (l : List Int) : (ints l).length = l.length := by simp [ints]
theorem ints_at {w : World} {a : Option Addr} {l : List Int} (h : Sl w a (ints l)) {k : Nat} (hk : k < l.length) : ∃ b off, a = some ⟨b, off, none⟩ ∧ b < w.heap.size ∧ w.cell? ⟨b, off + k, none⟩ = some (.int .i64 l[k]) := by
 obtain ⟨b, off, e, hlt, hc⟩ := h k (by rw [ints_len]; exact hk)
 exact ⟨b, off, e, hlt, by rw [hc]; simp [ints]⟩
end Go.Proofs.YtmfpjapiijgdgaaGreat
