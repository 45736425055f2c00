/- Texts of mine, one behind the other, of each what is wanted. -/
import Derived.Test.YtapacckmgmdnoaaGreatR00
import Derived.Test.YtapacckmgmdnoaaGreatR01
import Derived.Test.YtapacckmgmdnoaaGreatR03
namespace Go.Proofs.YtapacckmgmdnoaaGreat
set_option linter.unusedVariables false
set_option maxRecDepth 100000
def cmpS (a b : ByteArray) : Int := Lib.compareBytes a.data.toList b.data.toList
def cmpP (a b c d : ByteArray) : Int := if cmpS a c = 0 then cmpS b d else cmpS a c
theorem cmpS_self (a : ByteArray) : cmpS a a = 0 := cb_refl _
theorem cmpS_eq {a b : ByteArray} : cmpS a b = 0 ↔ a = b := ⟨fun h => toL_inj (cb_eq _ _ h), fun h => by rw [h]; exact cmpS_self _⟩
theorem cmpS_neg (a b : ByteArray) : cmpS b a = - cmpS a b := cb_neg _ _
theorem cmpS_trans {a b c : ByteArray} (h : cmpS a b < 0) (k : cmpS b c < 0) : cmpS a c < 0 := cb_trans _ _ _ h k
theorem cmpP_eq {a b c d : ByteArray} : cmpP a b c d = 0 ↔ a = c ∧ b = d := by
 unfold cmpP
 by_cases h : cmpS a c = 0
 ·rw [if_pos h, cmpS_eq]
  exact ⟨fun k => ⟨cmpS_eq.1 h, k⟩, fun k => k.2⟩
 ·rw [if_neg h]
  exact ⟨fun k => absurd k h, fun k => absurd (cmpS_eq.2 k.1) h⟩
theorem cmpP_neg (a b c d : ByteArray) : cmpP c d a b = - cmpP a b c d := by
 unfold cmpP
 have h1 := cmpS_neg a c
 have h2 := cmpS_neg b d
 by_cases h : cmpS a c = 0
 ·rw [if_pos h, if_pos (by omega)]; exact h2
 ·rw [if_neg h, if_neg (by omega)]; exact h1
theorem cmpP_trans {a b c d e f : ByteArray} (h : cmpP a b c d < 0) (k : cmpP c d e f < 0) : cmpP a b e f < 0 := by
 unfold cmpP at *
 by_cases h1 : cmpS a c = 0
 ·rw [if_pos h1] at h
  obtain rfl := cmpS_eq.1 h1
  by_cases h2 : cmpS a e = 0
  ·rw [if_pos h2] at k ⊢
   exact cmpS_trans h k
  ·rw [if_neg h2] at k ⊢
   exact k
 ·rw [if_neg h1] at h
  by_cases h2 : cmpS c e = 0
  ·obtain rfl := cmpS_eq.1 h2
   rw [if_neg h1]
   exact h
  ·rw [if_neg h2] at k
   have h3 := cmpS_trans h k
   rw [if_neg (by omega)]
   exact h3
structure EnM where
 w : ByteArray
 u : ByteArray
 f : Int
 t : Int
instance : Inhabited EnM := ⟨⟨ByteArray.empty, ByteArray.empty, 0, 0⟩⟩
theorem EnM.same {a b : EnM} (h1 : a.w = b.w) (h2 : a.u = b.u) (h3 : a.f = b.f) (h4 : a.t = b.t) : a = b := by
 obtain ⟨_, _, _, _⟩ := a
 obtain ⟨_, _, _, _⟩ := b
 simp only at h1 h2 h3 h4
 rw [h1, h2, h3, h4]
theorem EnM.iff {a b : EnM} : a = b ↔ a.w = b.w ∧ a.u = b.u ∧ a.f = b.f ∧ a.t = b.t := ⟨fun h => by rw [h]; exact ⟨rfl, rfl, rfl, rfl⟩, fun h => EnM.same h.1 h.2.1 h.2.2.1 h.2.2.2⟩
instance enDec : DecidableEq EnM := fun a b => decidable_of_iff (a.w = b.w ∧ a.u = b.u ∧ a.f = b.f ∧ a.t = b.t) EnM.iff.symm
def EnM.sp (a : EnM) : SpM := ⟨a.f, a.t⟩
def pc (a b : EnM) : Int := cmpP a.w a.u b.w b.u
theorem pc_eq {a b : EnM} : pc a b = 0 ↔ a.w = b.w ∧ a.u = b.u := cmpP_eq
theorem pc_neg (a b : EnM) : pc b a = - pc a b := cmpP_neg _ _ _ _
theorem pc_trans {a b c : EnM} (h : pc a b < 0) (k : pc b c < 0) : pc a c < 0 := cmpP_trans h k
theorem pc_left {a b c : EnM} (h : pc a b = 0) : pc a c = pc b c := by
 obtain ⟨h1, h2⟩ := pc_eq.1 h
 unfold pc
 rw [h1, h2]
theorem pc_right {a b c : EnM} (h : pc b c = 0) : pc a b = pc a c := by
 obtain ⟨h1, h2⟩ := pc_eq.1 h
 unfold pc
 rw [h1, h2]
def aheadE (a b : EnM) : Prop := pc a b < 0 ∨ (pc a b = 0 ∧ a.f < b.f)
instance aheadDec (a b : EnM) : Decidable (aheadE a b) := by unfold aheadE; infer_instance
def ofE (w u : ByteArray) (e : EnM) : Bool := decide (e.w = w ∧ e.u = u)
theorem ofE_iff {w u : ByteArray} {e : EnM} : ofE w u e = true ↔ e.w = w ∧ e.u = u := decide_eq_true_iff
def infE (w u : ByteArray) (e : EnM) : Bool := ofE w u e && decide (e.t = 1099511627776)
theorem infE_iff {w u : ByteArray} {e : EnM} : infE w u e = true ↔ e.w = w ∧ e.u = u ∧ e.t = 1099511627776 := by
 unfold infE
 rw [Bool.and_eq_true, ofE_iff, decide_eq_true_iff, and_assoc]
def mkE (w u : ByteArray) (a : Int) : EnM := ⟨w, u, a, 1099511627776⟩
structure IsFirst (p : EnM → Bool) (l : List EnM) (k : Nat) : Prop where
 le : k ≤ l.length
 low : ∀ i (h : i < l.length), i < k → p l[i] = false
 hit : ∀ (h : k < l.length), p l[k] = true
theorem first_idx (p : EnM → Bool) (l : List EnM) : IsFirst p l (l.findIdx p) :=
 ⟨List.findIdx_le_length, fun i h h1 => by simpa using List.not_of_lt_findIdx h1, fun h => List.findIdx_getElem (w := h)⟩
theorem IsFirst.only {p : EnM → Bool} {l : List EnM} {a b : Nat} (ha : IsFirst p l a) (hb : IsFirst p l b) : a = b := by
 have h1 := ha.le
 have h2 := hb.le
 rcases Nat.lt_trichotomy a b with h | h | h
 ·have k1 := ha.hit (by omega)
  rw [hb.low a (by omega) h] at k1
  cases k1
 ·exact h
 ·have k1 := hb.hit (by omega)
  rw [ha.low b (by omega) h] at k1
  cases k1
theorem IsFirst.idx {p : EnM → Bool} {l : List EnM} {k : Nat} (h : IsFirst p l k) : l.findIdx p = k := (first_idx p l).only h
theorem IsFirst.any {p : EnM → Bool} {l : List EnM} {k : Nat} (h : IsFirst p l k) : l.any p = decide (k < l.length) := by
 by_cases h1 : k < l.length
 ·rw [decide_eq_true h1, List.any_eq_true]
  exact ⟨_, List.getElem_mem h1, h.hit h1⟩
 ·rw [decide_eq_false h1, List.any_eq_false]
  intro x hx
  obtain ⟨i, hi, rfl⟩ := List.getElem_of_mem hx
  rw [h.low i hi (by omega)]
  exact Bool.false_ne_true
def grantS (l : List EnM) (e : EnM) : List EnM := l.take (l.findIdx fun x => decide (aheadE e x)) ++ e :: l.drop (l.findIdx fun x => decide (aheadE e x))
def endS (e : EnM) (a : Int) : List EnM := if a ≤ e.f then [] else [⟨e.w, e.u, e.f, a⟩]
def cutS (l : List EnM) (k : Nat) (a : Int) : List EnM := match l[k]? with
 | some e => l.take k ++ (endS e a ++ l.drop (k + 1))
 | none => l
def revokeS (l : List EnM) (w u : ByteArray) (a : Int) : List EnM := cutS l (l.findIdx (infE w u)) a
theorem grant_at {l : List EnM} {e : EnM} {k : Nat} (h : IsFirst (fun x => decide (aheadE e x)) l k) : grantS l e = l.take k ++ e :: l.drop k := by
 unfold grantS
 rw [h.idx]
theorem cut_at {l : List EnM} {k : Nat} (h : k < l.length) (a : Int) : cutS l k a = l.take k ++ (endS l[k] a ++ l.drop (k + 1)) := by
 unfold cutS
 rw [List.getElem?_eq_getElem h]
theorem revoke_at {l : List EnM} {w u : ByteArray} {k : Nat} (h : IsFirst (infE w u) l k) (a : Int) : revokeS l w u a = cutS l k a := by
 unfold revokeS
 rw [h.idx]
theorem endS_len (e : EnM) (a : Int) : (endS e a).length ≤ 1 := by
 unfold endS
 split <;> simp
theorem grant_len (l : List EnM) (e : EnM) : (grantS l e).length = l.length + 1 := by
 have h := (first_idx (fun x => decide (aheadE e x)) l).le
 unfold grantS
 generalize l.findIdx _ = k at *
 simp only [List.length_append, List.length_take, List.length_cons, List.length_drop]
 omega
theorem cut_len (l : List EnM) (k : Nat) (a : Int) : (cutS l k a).length ≤ l.length := by
 by_cases h : k < l.length
 ·have h1 := endS_len l[k] a
  rw [cut_at h]
  simp only [List.length_append, List.length_take, List.length_drop]
  omega
 ·unfold cutS
  rw [List.getElem?_eq_none (by omega)]
  exact Nat.le_refl _
theorem revoke_len (l : List EnM) (w u : ByteArray) (a : Int) : (revokeS l w u a).length ≤ l.length := cut_len _ _ _
theorem split_at {l : List EnM} {k : Nat} (h : k < l.length) : l = l.take k ++ (l[k] :: l.drop (k + 1)) := by
 rw [← List.drop_eq_getElem_cons h, List.take_append_drop]
def perS (l : List EnM) (w u : ByteArray) : List SpM := (l.filter (ofE w u)).map EnM.sp
theorem per_has {l : List EnM} {w u : ByteArray} {x : Int} : HasL (perS l w u) x ↔ ∃ e ∈ l, (e.w = w ∧ e.u = u) ∧ e.f ≤ x ∧ x < e.t := by
 unfold HasL perS
 constructor
 ·rintro ⟨s, hs, h1, h2⟩
  obtain ⟨e, he, rfl⟩ := List.mem_map.1 hs
  obtain ⟨he1, he2⟩ := List.mem_filter.1 he
  exact ⟨e, he1, ofE_iff.1 he2, h1, h2⟩
 ·rintro ⟨e, he, h, h1, h2⟩
  exact ⟨e.sp, List.mem_map.2 ⟨e, List.mem_filter.2 ⟨he, ofE_iff.2 h⟩, rfl⟩, h1, h2⟩
def nameB (s : ByteArray) : Bool := isName s.data.toList
def OkE (e : EnM) : Prop := e.f < e.t ∧ nameB e.w = true ∧ nameB e.u = true
def FolE (a b : EnM) : Prop := aheadE a b ∧ (a.w = b.w ∧ a.u = b.u → a.t ≤ b.f)
def RiseE (l : List EnM) : Prop := ∀ k (h : k < l.length), OkE l[k] ∧ (0 < k → FolE (l[k - 1]'(by omega)) l[k])
def BelE (a b : EnM) : Prop := pc a b < 0 ∨ (pc a b = 0 ∧ a.t ≤ b.f)
theorem fol_bel {a b : EnM} (h : FolE a b) : BelE a b := by
 obtain ⟨h1, h2⟩ := h
 rcases h1 with h1 | ⟨h1, h3⟩
 ·exact Or.inl h1
 ·exact Or.inr ⟨h1, h2 (pc_eq.1 h1)⟩
theorem bel_fol {a b : EnM} (h : BelE a b) (ha : a.f < a.t) : FolE a b := by
 rcases h with h | ⟨h, h1⟩
 ·exact ⟨Or.inl h, fun k => by have := pc_eq.2 k; omega⟩
 ·exact ⟨Or.inr ⟨h, by omega⟩, fun _ => h1⟩
theorem bel_trans {a b c : EnM} (h : BelE a b) (k : BelE b c) (hb : b.f < b.t) : BelE a c := by
 rcases h with h | ⟨h, h1⟩
 ·rcases k with k | ⟨k, k1⟩
  ·exact Or.inl (pc_trans h k)
  ·exact Or.inl (by rw [← pc_right k]; exact h)
 ·rcases k with k | ⟨k, k1⟩
  ·exact Or.inl (by rw [pc_left h]; exact k)
  ·exact Or.inr ⟨by rw [pc_left h]; exact k, by omega⟩
theorem riseE_iff {l : List EnM} : RiseE l ↔ (∀ e ∈ l, OkE e) ∧ l.Pairwise BelE := by
 constructor
 ·intro h
  refine ⟨fun s hs => ?_, ?_⟩
  ·obtain ⟨k, hk, rfl⟩ := List.getElem_of_mem hs
   exact (h k hk).1
  ·rw [List.pairwise_iff_getElem]
   intro i j hi hj hij
   induction j with
   | zero => omega
   | succ j ih =>
    have h1 := fol_bel ((h (j + 1) hj).2 (by omega))
    rcases Nat.lt_or_ge i j with h2 | h2
    ·exact bel_trans (ih (by omega) h2) h1 (h j (by omega)).1.1
    ·obtain rfl : i = j := by omega
     exact h1
 ·rintro ⟨h1, h2⟩ k hk
  exact ⟨h1 _ (List.getElem_mem hk), fun h0 => bel_fol (List.pairwise_iff_getElem.1 h2 (k - 1) k (by omega) hk (by omega)) (h1 _ (List.getElem_mem _)).1⟩
theorem rise_filter {l : List EnM} (h : RiseE l) (p : EnM → Bool) : RiseE (l.filter p) := by
 rw [riseE_iff] at *
 exact ⟨fun e he => h.1 e (List.mem_filter.1 he).1, h.2.sublist List.filter_sublist⟩
def withoutS (l : List EnM) (s : ByteArray) : List EnM := l.filter fun e => decide (e.w ≠ s) && decide (e.u ≠ s)
theorem grant_back {l : List EnM} {w u : ByteArray} {a : Int} (h : l.any (infE w u) = false) : revokeS (grantS l (mkE w u a)) w u a = l ∧ (grantS l (mkE w u a)).any (infE w u) = true := by
 have hno : ∀ e ∈ l, infE w u e = false := fun e he => by
  have := List.any_eq_false.1 h e he
  simpa using this
 have hle := (first_idx (fun x => decide (aheadE (mkE w u a) x)) l).le
 unfold grantS
 generalize l.findIdx _ = k at *
 have hlen : (l.take k).length = k := by rw [List.length_take]; omega
 have hk : k < (l.take k ++ mkE w u a :: l.drop k).length := by rw [List.length_append, hlen, List.length_cons]; omega
 have hg : (l.take k ++ mkE w u a :: l.drop k)[k] = mkE w u a := by
  rw [List.getElem_append_right (by omega)]
  simp [hlen]
 have hF : IsFirst (infE w u) (l.take k ++ mkE w u a :: l.drop k) k := ⟨Nat.le_of_lt hk, fun i hi hik => by
  rw [List.getElem_append_left (by omega)]
  exact hno _ (List.mem_of_mem_take (List.getElem_mem _)), fun _ => by rw [hg]; exact infE_iff.2 ⟨rfl, rfl, rfl⟩⟩
 refine ⟨?_, by rw [hF.any]; exact decide_eq_true hk⟩
 rw [revoke_at hF, cut_at hk, hg]
 unfold endS
 rw [if_pos (show a ≤ (mkE w u a).f from Int.le_refl a), List.nil_append, List.take_append_of_le_length (by omega), List.take_of_length_le (by omega), List.drop_append, hlen, List.drop_of_length_le (by omega), List.nil_append, show k + 1 - k = 1 by omega, List.drop_one, List.tail_cons, List.take_append_drop]
structure GoE (m : List EnM) (a : Int) : Prop where
 rise : RiseE m
 bnd : ∀ e ∈ m, 0 ≤ e.f ∧ e.f ≤ a ∧ (e.t = 1099511627776 ∨ e.t ≤ a)
theorem GoE.nil : GoE [] 0 := ⟨fun k h => absurd h (by simp), fun e h => by cases h⟩
theorem pair_mid {A B : List EnM} {R : EnM → EnM → Prop} : (A ++ B).Pairwise R ↔ A.Pairwise R ∧ B.Pairwise R ∧ ∀ x ∈ A, ∀ y ∈ B, R x y := List.pairwise_append
theorem GoE.grant {m : List EnM} {a b : Int} {w u : ByteArray} (h : GoE m a) (ha : 0 ≤ a) (hab : a ≤ b) (hb : b < 1099511627776) (hw : nameB w = true) (hu : nameB u = true) (hi : m.any (infE w u) = false) :
  GoE (grantS m (mkE w u b)) b ∧ (∀ x, HasL (perS (grantS m (mkE w u b)) w u) x ↔ HasL (perS m w u) x ∨ (b ≤ x ∧ x < 1099511627776)) ∧ (grantS m (mkE w u b)).any (infE w u) = true := by
 have hno : ∀ e ∈ m, e.w = w ∧ e.u = u → e.t ≤ a := fun e he hp => by
  have h1 := List.any_eq_false.1 hi e he
  rcases (h.bnd e he).2.2 with h2 | h2
  ·exact absurd (infE_iff.2 ⟨hp.1, hp.2, h2⟩) h1
  ·exact h2
 have hF := first_idx (fun x => decide (aheadE (mkE w u b) x)) m
 have hB := (grant_back (a := b) hi).2
 obtain ⟨hok, hpw⟩ := riseE_iff.1 h.rise
 rw [grant_at hF] at hB ⊢
 generalize m.findIdx _ = k at *
 have hlo : ∀ x ∈ m.take k, BelE x (mkE w u b) := fun x hx => by
  have hxm := List.mem_of_mem_take hx
  obtain ⟨i, hi, rfl⟩ := List.getElem_of_mem hx
  rw [List.length_take] at hi
  rw [List.getElem_take] at *
  have h1 := hF.low i (by omega) (by omega)
  rw [decide_eq_false_iff_not] at h1
  generalize m[i] = y at *
  rcases Int.lt_trichotomy (pc y (mkE w u b)) 0 with h2 | h2 | h2
  ·exact Or.inl h2
  ·exact Or.inr ⟨h2, Int.le_trans (hno y hxm (pc_eq.1 h2)) hab⟩
  ·exact absurd (Or.inl (by have := pc_neg y (mkE w u b); omega)) h1
 have hhi : ∀ y ∈ m.drop k, BelE (mkE w u b) y := fun y hy => by
  by_cases hk : k < m.length
  ·have h1 : aheadE (mkE w u b) m[k] := of_decide_eq_true (hF.hit hk)
   have hmk := List.getElem_mem hk
   have h2 : pc (mkE w u b) m[k] < 0 := by
    rcases h1 with h1 | ⟨h1, h2⟩
    ·exact h1
    ·have h3 := (h.bnd _ hmk).2.1
     have h4 : b < m[k].f := h2
     omega
   have h5 : BelE m[k] y ∨ m[k] = y := by
    rw [List.drop_eq_getElem_cons hk] at hy
    rcases List.mem_cons.1 hy with h6 | h6
    ·exact Or.inr h6.symm
    ·left
     obtain ⟨j, hj, rfl⟩ := List.getElem_of_mem h6
     rw [List.getElem_drop]
     exact List.pairwise_iff_getElem.1 hpw k _ hk (by rw [List.length_drop] at hj; omega) (by omega)
   rcases h5 with h5 | h5
   ·exact bel_trans (Or.inl h2) h5 (hok _ hmk).1
   ·rw [← h5]; exact Or.inl h2
  ·rw [List.drop_of_length_le (by omega)] at hy; cases hy
 have hmem : ∀ e, e ∈ m.take k ++ mkE w u b :: m.drop k ↔ e ∈ m ∨ e = mkE w u b := fun e => by
  conv => rhs; rw [← List.take_append_drop k m]
  simp only [List.mem_append, List.mem_cons]
  constructor
  ·rintro (h | h | h)
   ·exact Or.inl (Or.inl h)
   ·exact Or.inr h
   ·exact Or.inl (Or.inr h)
  ·rintro ((h | h) | h)
   ·exact Or.inl h
   ·exact Or.inr (Or.inr h)
   ·exact Or.inr (Or.inl h)
 refine ⟨⟨riseE_iff.2 ⟨fun e he => ?_, ?_⟩, fun e he => ?_⟩, fun x => ?_, hB⟩
 ·rcases (hmem e).1 he with h1 | rfl
  ·exact hok e h1
  ·exact ⟨hb, hw, hu⟩
 ·rw [pair_mid, List.pairwise_cons]
  conv at hpw => rw [← List.take_append_drop k m, pair_mid]
  refine ⟨hpw.1, ⟨hhi, hpw.2.1⟩, fun x hx y hy => ?_⟩
  rcases List.mem_cons.1 hy with rfl | hy
  ·exact hlo x hx
  ·exact hpw.2.2 x hx y hy
 ·rcases (hmem e).1 he with h1 | rfl
  ·obtain ⟨h2, h3, h4⟩ := h.bnd e h1
   exact ⟨h2, by omega, by omega⟩
  ·exact ⟨by show 0 ≤ b; omega, Int.le_refl b, Or.inl rfl⟩
 ·rw [per_has, per_has]
  constructor
  ·rintro ⟨e, he, hp, h1, h2⟩
   rcases (hmem e).1 he with h3 | rfl
   ·exact Or.inl ⟨e, h3, hp, h1, h2⟩
   ·exact Or.inr ⟨h1, h2⟩
  ·rintro (⟨e, he, hp, h1⟩ | h1)
   ·exact ⟨e, (hmem e).2 (Or.inl he), hp, h1⟩
   ·exact ⟨_, (hmem _).2 (Or.inr rfl), ⟨rfl, rfl⟩, h1⟩
theorem GoE.revoke {m : List EnM} {a b : Int} {w u : ByteArray} (h : GoE m a) (ha : 0 ≤ a) (hab : a ≤ b) (hb : b < 1099511627776) (hi : m.any (infE w u) = true) :
  GoE (revokeS m w u b) b ∧ (∀ x, HasL (perS (revokeS m w u b) w u) x ↔ HasL (perS m w u) x ∧ ¬ (b ≤ x ∧ x < 1099511627776)) ∧ (revokeS m w u b).any (infE w u) = false := by
 have hF := first_idx (infE w u) m
 rw [revoke_at hF]
 generalize m.findIdx _ = k at *
 have hk : k < m.length := by rw [hF.any] at hi; exact of_decide_eq_true hi
 obtain ⟨hok, hpw⟩ := riseE_iff.1 h.rise
 have hmk := List.getElem_mem hk
 obtain ⟨hkw, hku, hkt⟩ := infE_iff.1 (hF.hit hk)
 have hbk := h.bnd _ hmk
 -- every other entry of the pair has ended
 have hoth : ∀ i (hi : i < m.length), i ≠ k → (m[i].w = w ∧ m[i].u = u) → m[i].t ≤ a := fun i hi hne hp => by
  rcases (h.bnd _ (List.getElem_mem hi)).2.2 with h2 | h2
  ·have hp0 : pc m[i] m[k] = 0 := pc_eq.2 ⟨hp.1.trans hkw.symm, hp.2.trans hku.symm⟩
   have hn := pc_neg m[i] m[k]
   have hfi := (h.bnd _ (List.getElem_mem hi)).2.1
   rcases Nat.lt_or_ge i k with h3 | h3
   ·rcases List.pairwise_iff_getElem.1 hpw i k hi hk h3 with h4 | ⟨_, h4⟩
    ·omega
    ·omega
   ·rcases List.pairwise_iff_getElem.1 hpw k i hk hi (by omega) with h4 | ⟨_, h4⟩
    ·omega
    ·omega
  ·exact h2
 have hsplit : ∀ e, e ∈ m → e = m[k] ∨ (e ∈ m.take k ++ m.drop (k + 1)) := fun e he => by
  rw [split_at hk, List.mem_append, List.mem_cons] at he
  rw [List.mem_append]
  rcases he with h1 | h1 | h1
  ·exact Or.inr (Or.inl h1)
  ·exact Or.inl h1
  ·exact Or.inr (Or.inr h1)
 have hidx : ∀ e, e ∈ m.take k ++ m.drop (k + 1) → e ∈ m ∧ ((e.w = w ∧ e.u = u) → e.t ≤ a) := fun e he => by
  rcases List.mem_append.1 he with h1 | h1
  ·refine ⟨List.mem_of_mem_take h1, ?_⟩
   obtain ⟨i, hi, rfl⟩ := List.getElem_of_mem h1
   rw [List.length_take] at hi
   rw [List.getElem_take]
   exact hoth i (by omega) (by omega)
  ·refine ⟨List.mem_of_mem_drop h1, ?_⟩
   obtain ⟨i, hi, rfl⟩ := List.getElem_of_mem h1
   rw [List.length_drop] at hi
   rw [List.getElem_drop]
   exact hoth (k + 1 + i) (by omega) (by omega)
 have hend : ∀ e, e ∈ endS m[k] b ↔ m[k].f < b ∧ e = ⟨m[k].w, m[k].u, m[k].f, b⟩ := fun e => by
  unfold endS
  split
  ·exact ⟨fun h => by (cases h), fun h => by omega⟩
  ·rw [List.mem_singleton]
   exact ⟨fun h => ⟨by omega, h⟩, fun h => h.2⟩
 have hmem : ∀ e, e ∈ m.take k ++ (endS m[k] b ++ m.drop (k + 1)) ↔ e ∈ m.take k ++ m.drop (k + 1) ∨ e ∈ endS m[k] b := fun e => by
  simp only [List.mem_append]
  constructor
  ·rintro (h | h | h)
   ·exact Or.inl (Or.inl h)
   ·exact Or.inr h
   ·exact Or.inl (Or.inr h)
  ·rintro ((h | h) | h)
   ·exact Or.inl h
   ·exact Or.inr (Or.inr h)
   ·exact Or.inr (Or.inl h)
 have hpk : ∀ c : EnM, pc (⟨m[k].w, m[k].u, m[k].f, b⟩ : EnM) c = pc m[k] c := fun c => rfl
 have hpk2 : ∀ c : EnM, pc c (⟨m[k].w, m[k].u, m[k].f, b⟩ : EnM) = pc c m[k] := fun c => rfl
 rw [cut_at hk]
 refine ⟨⟨riseE_iff.2 ⟨fun e he => ?_, ?_⟩, fun e he => ?_⟩, fun x => ?_, ?_⟩
 ·rcases (hmem e).1 he with h1 | h1
  ·exact hok e (hidx e h1).1
  ·obtain ⟨h2, rfl⟩ := (hend e).1 h1
   exact ⟨h2, (hok _ hmk).2⟩
 ·have hpw2 := hpw
  conv at hpw2 => rw [split_at hk, pair_mid, List.pairwise_cons]
  obtain ⟨p1, ⟨p2, p3⟩, p4⟩ := hpw2
  rw [pair_mid, pair_mid]
  refine ⟨p1, ⟨?_, p3, fun x hx y hy => ?_⟩, fun x hx y hy => ?_⟩
  ·unfold endS
   split
   ·exact List.Pairwise.nil
   ·exact List.pairwise_singleton _ _
  ·obtain ⟨h2, rfl⟩ := (hend x).1 hx
   rcases p2 y hy with h3 | ⟨h3, h4⟩
   ·exact Or.inl h3
   ·have := (h.bnd y (hidx y (List.mem_append_right _ hy)).1).2.1
    omega
  ·rcases List.mem_append.1 hy with hy | hy
   ·obtain ⟨h2, rfl⟩ := (hend y).1 hy
    exact p4 x hx m[k] (List.mem_cons_self)
   ·exact p4 x hx y (List.mem_cons_of_mem _ hy)
 ·rcases (hmem e).1 he with h1 | h1
  ·obtain ⟨h2, h3, h4⟩ := h.bnd e (hidx e h1).1
   exact ⟨h2, by omega, by omega⟩
  ·obtain ⟨h2, rfl⟩ := (hend e).1 h1
   exact ⟨hbk.1, by show m[k].f ≤ b; omega, Or.inr (Int.le_refl b)⟩
 ·rw [per_has, per_has]
  constructor
  ·rintro ⟨e, he, hp, h1, h2⟩
   rcases (hmem e).1 he with h3 | h3
   ·have := (hidx e h3).2 hp
    exact ⟨⟨e, (hidx e h3).1, hp, h1, h2⟩, by omega⟩
   ·obtain ⟨h4, rfl⟩ := (hend e).1 h3
    have h1' : m[k].f ≤ x := h1
    have h2' : x < b := h2
    exact ⟨⟨_, hmk, ⟨hkw, hku⟩, h1', by omega⟩, by omega⟩
  ·rintro ⟨⟨e, he, hp, h1, h2⟩, h3⟩
   rcases hsplit e he with rfl | h4
   ·have h5 : x < b := by omega
    exact ⟨⟨m[k].w, m[k].u, m[k].f, b⟩, (hmem _).2 (Or.inr ((hend _).2 ⟨by omega, rfl⟩)), hp, h1, h5⟩
   ·exact ⟨e, (hmem e).2 (Or.inl h4), hp, h1, h2⟩
 ·rw [List.any_eq_false]
  intro e he hc
  obtain ⟨h1, h2, h3⟩ := infE_iff.1 hc
  rcases (hmem e).1 he with h4 | h4
  ·have := (hidx e h4).2 ⟨h1, h2⟩
   omega
  ·obtain ⟨_, rfl⟩ := (hend e).1 h4
   have h5 : b = 1099511627776 := h3
   omega
theorem cmpS_irr (a : ByteArray) : ¬ cmpS a a < 0 := by rw [cmpS_self]; decide
theorem cmpS_asym {a b : ByteArray} (h : cmpS a b < 0) : ¬ cmpS b a < 0 := by rw [cmpS_neg]; omega
theorem cmpS_ne {a b : ByteArray} (h : cmpS a b < 0) : a ≠ b := fun e => by rw [e] at h; exact cmpS_irr _ h
theorem cmpS_tri (a b : ByteArray) : cmpS a b < 0 ∨ a = b ∨ cmpS b a < 0 := by
 rcases Int.lt_trichotomy (cmpS a b) 0 with h | h | h
 ·exact .inl h
 ·exact .inr (.inl (cmpS_eq.1 h))
 ·exact .inr (.inr (by rw [cmpS_neg]; omega))
def RiseK {α : Type} (key : α → ByteArray) (l : List α) : Prop := l.Pairwise (fun a b => cmpS (key a) (key b) < 0)
theorem riseK_ext {α : Type} {key : α → ByteArray} : ∀ {l m : List α}, RiseK key l → RiseK key m → (∀ x, x ∈ l ↔ x ∈ m) → l = m
 | [], [], _, _, _ => rfl
 | [], b :: m, _, _, h => absurd ((h b).2 (List.mem_cons_self ..)) (by simp)
 | a :: l, [], _, _, h => absurd ((h a).1 (List.mem_cons_self ..)) (by simp)
 | a :: l, b :: m, hl, hm, h => by
  obtain ⟨hl1, hl2⟩ := List.pairwise_cons.1 hl
  obtain ⟨hm1, hm2⟩ := List.pairwise_cons.1 hm
  have hab : a = b := by
   rcases List.mem_cons.1 ((h a).1 (List.mem_cons_self ..)) with h1 | h1
   ·exact h1
   ·rcases List.mem_cons.1 ((h b).2 (List.mem_cons_self ..)) with h2 | h2
    ·exact h2.symm
    ·exact absurd (hl1 _ h2) (cmpS_asym (hm1 _ h1))
  subst hab
  have ht : l = m := riseK_ext hl2 hm2 fun x => by
   constructor
   ·intro hx
    rcases List.mem_cons.1 ((h x).1 (List.mem_cons_of_mem _ hx)) with h1 | h1
    ·subst h1; exact absurd (hl1 _ hx) (cmpS_irr _)
    ·exact h1
   ·intro hx
    rcases List.mem_cons.1 ((h x).2 (List.mem_cons_of_mem _ hx)) with h1 | h1
    ·subst h1; exact absurd (hm1 _ hx) (cmpS_irr _)
    ·exact h1
  rw [ht]
theorem riseK_one {α : Type} {key : α → ByteArray} {l : List α} (h : RiseK key l) {x y : α} (hx : x ∈ l) (hy : y ∈ l) (e : key x = key y) : x = y := by
 obtain ⟨i, hi, rfl⟩ := List.getElem_of_mem hx
 obtain ⟨j, hj, rfl⟩ := List.getElem_of_mem hy
 rcases Nat.lt_trichotomy i j with h1 | h1 | h1
 ·exact absurd e (cmpS_ne (List.pairwise_iff_getElem.1 h i j hi hj h1))
 ·subst h1; rfl
 ·exact absurd e.symm (cmpS_ne (List.pairwise_iff_getElem.1 h j i hj hi h1))
def isKy {α : Type} (key : α → ByteArray) (u : ByteArray) (x : α) : Bool := decide (key x = u)
def belK {α : Type} (key : α → ByteArray) (u : ByteArray) (x : α) : Bool := decide (cmpS (key x) u < 0)
def abvK {α : Type} (key : α → ByteArray) (u : ByteArray) (x : α) : Bool := decide (cmpS u (key x) < 0)
def insK {α : Type} (key : α → ByteArray) (u : ByteArray) (m l : List α) : List α := l.filter (belK key u) ++ (m ++ l.filter (abvK key u))
theorem belK_iff {α : Type} {key : α → ByteArray} {u : ByteArray} {x : α} : belK key u x = true ↔ cmpS (key x) u < 0 := decide_eq_true_iff
theorem abvK_iff {α : Type} {key : α → ByteArray} {u : ByteArray} {x : α} : abvK key u x = true ↔ cmpS u (key x) < 0 := decide_eq_true_iff
theorem isKy_iff {α : Type} {key : α → ByteArray} {u : ByteArray} {x : α} : isKy key u x = true ↔ key x = u := decide_eq_true_iff
theorem insK_mem {α : Type} {key : α → ByteArray} {u : ByteArray} {m l : List α} {x : α} : x ∈ insK key u m l ↔ x ∈ m ∨ (x ∈ l ∧ key x ≠ u) := by
 unfold insK
 rw [List.mem_append, List.mem_append, List.mem_filter, List.mem_filter, belK_iff, abvK_iff]
 constructor
 ·rintro (⟨h1, h2⟩ | h1 | ⟨h1, h2⟩)
  ·exact .inr ⟨h1, cmpS_ne h2⟩
  ·exact .inl h1
  ·exact .inr ⟨h1, fun e => cmpS_ne h2 e.symm⟩
 ·rintro (h1 | ⟨h1, h2⟩)
  ·exact .inr (.inl h1)
  ·rcases cmpS_tri (key x) u with h3 | h3 | h3
   ·exact .inl ⟨h1, h3⟩
   ·exact absurd h3 h2
   ·exact .inr (.inr ⟨h1, h3⟩)
theorem insK_rise {α : Type} {key : α → ByteArray} {u : ByteArray} {m l : List α} (h : RiseK key l) (hm : ∀ x ∈ m, key x = u) (h1 : m.length ≤ 1) : RiseK key (insK key u m l) := by
 unfold insK RiseK
 rw [List.pairwise_append, List.pairwise_append]
 refine ⟨List.Pairwise.filter _ h, ⟨?_, List.Pairwise.filter _ h, fun x hx y hy => ?_⟩, fun x hx y hy => ?_⟩
 ·rcases m with _ | ⟨a, _ | ⟨b, m⟩⟩
  ·exact .nil
  ·exact List.pairwise_singleton _ _
  ·simp at h1
 ·rw [hm x hx]; exact abvK_iff.1 (List.mem_filter.1 hy).2
 ·have hx1 := belK_iff.1 (List.mem_filter.1 hx).2
  rcases List.mem_append.1 hy with h2 | h2
  ·rw [hm y h2]; exact hx1
  ·exact cmpS_trans hx1 (abvK_iff.1 (List.mem_filter.1 h2).2)
theorem insK_len {α : Type} {key : α → ByteArray} {u : ByteArray} {m l : List α} : (insK key u m l).length ≤ l.length + m.length := by
 have h : ∀ l : List α, (l.filter (belK key u)).length + (l.filter (abvK key u)).length ≤ l.length := by
  intro l
  induction l with
  | nil => simp
  | cons a l ih =>
   rw [List.filter_cons, List.filter_cons]
   by_cases h1 : belK key u a = true
   ·have h2 : ¬ abvK key u a = true := fun h2 => cmpS_asym (belK_iff.1 h1) (abvK_iff.1 h2)
    rw [if_pos h1, if_neg h2, List.length_cons, List.length_cons]; omega
   ·rw [if_neg h1]
    split <;> (simp only [List.length_cons]; omega)
 have := h l
 unfold insK
 rw [List.length_append, List.length_append]
 omega
theorem find_key {α : Type} {key : α → ByteArray} {l : List α} (h : RiseK key l) {u : ByteArray} {x : α} : l.find? (isKy key u) = some x ↔ x ∈ l ∧ key x = u := by
 constructor
 ·intro h1
  exact ⟨List.mem_of_find?_eq_some h1, isKy_iff.1 (List.find?_some h1)⟩
 ·rintro ⟨h1, h2⟩
  cases hf : l.find? (isKy key u) with
  | none => exact absurd (isKy_iff.2 h2) (List.find?_eq_none.1 hf x h1)
  | some y =>
   have h3 := List.mem_of_find?_eq_some hf
   have h4 := isKy_iff.1 (List.find?_some hf)
   rw [riseK_one h h3 h1 (h4.trans h2.symm)]
structure UsM where
 u : ByteArray
 l : List StM
structure TbM where
 u : ByteArray
 a : Int
structure SaM where
 now : Int
 hor : Int
 op : List OpM
 us : List UsM
 su : List EnM
 tb : List TbM
def saZ : SaM := ⟨0, 0, [], [], [], []⟩
instance : Inhabited UsM := ⟨⟨⟨#[]⟩, []⟩⟩
instance : Inhabited TbM := ⟨⟨⟨#[]⟩, 0⟩⟩
instance : Inhabited SaM := ⟨saZ⟩
def ofU (l : List UsM) (u : ByteArray) : List StM := match l.find? (isKy UsM.u u) with
 | none => []
 | some x => x.l
def rowU (u : ByteArray) (r : List StM) : List UsM := if r.isEmpty then [] else [⟨u, r⟩]
def putU (l : List UsM) (u : ByteArray) (r : List StM) : List UsM := insK UsM.u u (rowU u r) l
def addU (l : List UsM) (u : ByteArray) (x : StM) : List UsM := if x.f < x.t then putU l u (addS (ofU l u) x) else l
def tombU (l : List TbM) (u : ByteArray) (a : Int) : List TbM := insK TbM.u u [⟨u, a⟩] l
theorem rowU_u {u : ByteArray} {r : List StM} : ∀ x ∈ rowU u r, x.u = u := fun x hx => by
 unfold rowU at hx
 split at hx
 ·cases hx
 ·rw [List.mem_singleton.1 hx]
theorem rowU_len {u : ByteArray} {r : List StM} : (rowU u r).length ≤ 1 := by
 unfold rowU
 split <;> simp
theorem rowU_mem {u : ByteArray} {r : List StM} {x : UsM} : x ∈ rowU u r ↔ x = ⟨u, r⟩ ∧ r ≠ [] := by
 unfold rowU
 cases r with
 | nil => simp
 | cons a r => simp
theorem putU_rise {l : List UsM} {u : ByteArray} {r : List StM} (h : RiseK UsM.u l) : RiseK UsM.u (putU l u r) := insK_rise h rowU_u rowU_len
theorem putU_mem {l : List UsM} {u : ByteArray} {r : List StM} {x : UsM} : x ∈ putU l u r ↔ (x = ⟨u, r⟩ ∧ r ≠ []) ∨ (x ∈ l ∧ x.u ≠ u) := by
 unfold putU
 rw [insK_mem, rowU_mem]
theorem ofU_mem {l : List UsM} (h : RiseK UsM.u l) {x : UsM} (hx : x ∈ l) : ofU l x.u = x.l := by
 unfold ofU
 rw [(find_key h).2 ⟨hx, rfl⟩]
theorem ofU_cases (l : List UsM) (u : ByteArray) : ofU l u = [] ∨ ⟨u, ofU l u⟩ ∈ l := by
 unfold ofU
 cases hf : l.find? (isKy UsM.u u) with
 | none => exact .inl rfl
 | some x =>
  have h1 := List.mem_of_find?_eq_some hf
  have h2 := isKy_iff.1 (List.find?_some hf)
  refine .inr ?_
  obtain ⟨xu, xl⟩ := x
  simp only at h2
  subst h2
  exact h1
theorem addU_rise {l : List UsM} {u : ByteArray} {x : StM} (h : RiseK UsM.u l) : RiseK UsM.u (addU l u x) := by
 unfold addU
 split
 ·exact putU_rise h
 ·exact h
theorem tombU_rise {l : List TbM} {u : ByteArray} {a : Int} (h : RiseK TbM.u l) : RiseK TbM.u (tombU l u a) :=
 insK_rise h (fun x hx => by rw [List.mem_singleton.1 hx]) (by simp)
theorem tombU_mem {l : List TbM} {u : ByteArray} {a : Int} {x : TbM} : x ∈ tombU l u a ↔ x = ⟨u, a⟩ ∨ (x ∈ l ∧ x.u ≠ u) := by
 unfold tombU
 rw [insK_mem, List.mem_singleton]
end Go.Proofs.YtapacckmgmdnoaaGreat
namespace Go.Proofs.YtapacckmgmdnoaaGreat
open Go.RowKit
set_option linter.unusedVariables false
set_option maxRecDepth 100000
set_option maxRecDepth 100000
def encT (s : StM) : List Value := [.int .i64 s.f, .int .i64 s.t, .int .i64 s.n, .int .i64 s.s]
def sts (l : List StM) : List Value := l.flatMap encT
theorem sts_cons (s : StM) (l : List StM) : sts (s :: l) = encT s ++ sts l := by simp [sts]
theorem sts_len (l : List StM) : (sts l).length = l.length * 4 := by
 induction l with
 | nil => rfl
 | cons e l ih => rw [sts_cons, List.length_append, ih, List.length_cons]; simp only [encT, List.length_cons, List.length_nil]; omega
theorem sts_append (l m : List StM) : sts (l ++ m) = sts l ++ sts m := by simp [sts]
theorem sts_snoc (l : List StM) (x : StM) : sts (l ++ [x]) = sts l ++ [.int .i64 x.f, .int .i64 x.t, .int .i64 x.n, .int .i64 x.s] := by simp [sts, encT]
theorem sts_get (l : List StM) : ∀ (k : Nat) (h : k < l.length), (sts l)[k * 4]? = some (.int .i64 l[k].f) ∧ (sts l)[k * 4 + 1]? = some (.int .i64 l[k].t) ∧ (sts l)[k * 4 + 2]? = some (.int .i64 l[k].n) ∧ (sts l)[k * 4 + 3]? = some (.int .i64 l[k].s) := by
 induction l with
 | nil => intro k h; exact absurd h (by simp)
 | cons x l ih =>
  intro k h
  rw [sts_cons]
  cases k with
  | zero => exact ⟨rfl, rfl, rfl, rfl⟩
  | succ k =>
   have := ih k (by simpa using h)
   rw [show (k + 1) * 4 = k * 4 + 1 + 1 + 1 + 1 by omega]
   simpa [encT] using this
def StSl (w : World) (a : Option Addr) (l : List StM) : Prop := ∀ k (h : k < l.length), ∃ b off, a = some ⟨b, off, none⟩ ∧ b < w.heap.size ∧
 w.cell? ⟨b, off + k * 4, none⟩ = some (.int .i64 l[k].f) ∧ w.cell? ⟨b, off + k * 4 + 1, none⟩ = some (.int .i64 l[k].t) ∧ w.cell? ⟨b, off + k * 4 + 2, none⟩ = some (.int .i64 l[k].n) ∧ w.cell? ⟨b, off + k * 4 + 3, none⟩ = some (.int .i64 l[k].s)
theorem StSl.nil (w : World) (a : Option Addr) : StSl w a [] := fun k h => absurd h (by simp)
theorem StSl.below {w w' : World} {a : Option Addr} {l : List StM} (h : StSl w a l) (hb : Below w.heap.size w w') : StSl w' a l := fun k hk => by
 obtain ⟨b, off, e, hlt, h0, h1, h2, h3⟩ := h k hk
 exact ⟨b, off, e, Nat.lt_of_lt_of_le hlt hb.size, (hb.cell (p := ⟨b, off + k * 4, none⟩) hlt).trans h0, (hb.cell (p := ⟨b, off + k * 4 + 1, none⟩) hlt).trans h1, (hb.cell (p := ⟨b, off + k * 4 + 2, none⟩) hlt).trans h2, (hb.cell (p := ⟨b, off + k * 4 + 3, none⟩) hlt).trans h3⟩
theorem StSl.at_ {w : World} {a : Option Addr} {l : List StM} (h : StSl w a l) {k : Nat} (hk : k < l.length) : ∃ b off, a = some ⟨b, off, none⟩ ∧ b < w.heap.size ∧
  w.cell? ⟨b, off + k * 4, none⟩ = some (.int .i64 l[k].f) ∧ w.cell? ⟨b, off + k * 4 + 1, none⟩ = some (.int .i64 l[k].t) ∧ w.cell? ⟨b, off + k * 4 + 2, none⟩ = some (.int .i64 l[k].n) ∧ w.cell? ⟨b, off + k * 4 + 3, none⟩ = some (.int .i64 l[k].s) := h k hk
theorem StSl.take {w : World} {a : Option Addr} {l : List StM} (h : StSl w a l) (n : Nat) : StSl w a (l.take n) := fun k hk => by
 have hk2 : k < l.length := by simp at hk; omega
 obtain ⟨b, off, e, hlt, h0, h1, h2, h3⟩ := h k hk2
 rw [List.getElem_take]
 exact ⟨b, off, e, hlt, h0, h1, h2, h3⟩
theorem StSl.drop {w : World} {b off : Nat} {l : List StM} (h : StSl w (some ⟨b, off, none⟩) l) (n : Nat) : StSl w (some ⟨b, off + n * 4, none⟩) (l.drop n) := fun k hk => by
 have hk2 : n + k < l.length := by simp at hk; omega
 obtain ⟨b', off', e, hlt, h0, h1, h2, h3⟩ := h (n + k) hk2
 cases e
 rw [List.getElem_drop]
 have e1 : off + n * 4 + k * 4 = off + (n + k) * 4 := by omega
 exact ⟨b, off + n * 4, rfl, hlt, by rw [e1]; exact h0, by rw [e1]; exact h1, by rw [e1]; exact h2, by rw [e1]; exact h3⟩
theorem StSl.cells {w : World} {a : Option Addr} {l : List StM} (h : StSl w a l) : ∀ ad, a = some ad → ∀ j u, (sts l)[j]? = some u → w.cell? (ad.add j) = some u := fun ad ha j u hu => by
 have hj : j < l.length * 4 := by rw [← sts_len]; exact (List.getElem?_eq_some_iff.1 hu).1
 have hk : j / 4 < l.length := by omega
 obtain ⟨b, off, e, _, h1, h2, h3, h4⟩ := h (j / 4) hk
 rw [ha] at e
 cases e
 obtain ⟨g1, g2, g3, g4⟩ := sts_get l (j / 4) hk
 have hadd : (⟨b, off, none⟩ : Addr).add j = ⟨b, off + j, none⟩ := by
  unfold Addr.add
  split
  ·rename_i h; subst h; rfl
  ·rfl
 rw [hadd]
 have hd : j = j / 4 * 4 ∨ j = j / 4 * 4 + 1 ∨ j = j / 4 * 4 + 2 ∨ j = j / 4 * 4 + 3 := by omega
 generalize j / 4 = k at *
 rcases hd with rfl | rfl | rfl | rfl
 ·rw [g1] at hu
  cases hu
  exact h1
 ·rw [g2] at hu
  cases hu
  exact h2
 ·rw [g3] at hu
  cases hu
  exact h3
 ·rw [g4] at hu
  cases hu
  exact h4
theorem four_one (a b c d : Int) : ∀ u ∈ [Value.int .i64 a, .int .i64 b, .int .i64 c, .int .i64 d], u.oneCell' = true := by
 intro u hu
 simp only [List.mem_cons, List.mem_nil_iff, or_false] at hu
 rcases hu with rfl | rfl | rfl | rfl <;> rfl
theorem sts_one (l : List StM) : ∀ u ∈ sts l, u.oneCell' = true := fun u hu => by
 unfold sts at hu
 obtain ⟨y, _, hy⟩ := List.mem_flatMap.1 hu
 exact four_one _ _ _ _ u hy
theorem own_st {w : World} {B e : Nat} {v : Value} {l : List StM} (h : w.ownsRow B e 4 v l.length (sts l)) : ∃ a c, v = .slice a l.length c ∧ l.length ≤ c ∧ c ≤ maxLen ∧ StSl w a l ∧ (a = none → c = 0) := by
 rcases h.2 with ⟨rfl, hn⟩ | ⟨g, cap, cur, rfl, hg, hh, hn, hc, hsz, ht⟩
 ·have : l = [] := List.eq_nil_of_length_eq_zero hn
  subst this
  exact ⟨none, 0, rfl, Nat.le_refl _, by unfold maxLen; omega, StSl.nil _ _, fun _ => rfl⟩
 ·have hlt : g < w.heap.size := by
   rcases Nat.lt_or_ge g w.heap.size with h1 | h1
   ·exact h1
   ·rw [Array.getElem?_eq_none h1] at hh; cases hh
  refine ⟨_, cap, rfl, hn, hc, fun k hk => ⟨g, 0, rfl, hlt, ?_, ?_, ?_, ?_⟩, fun e => by cases e⟩
  ·have hg := (sts_get l k hk).1
   rw [← ht, List.getElem?_take, if_pos (by omega), Array.getElem?_toList] at hg
   rw [cell_of_row w g _ cur e (0, 0) hh, Nat.zero_add, hg]
  ·have hg := (sts_get l k hk).2.1
   rw [← ht, List.getElem?_take, if_pos (by omega), Array.getElem?_toList] at hg
   rw [cell_of_row w g _ cur e (0, 0) hh, Nat.zero_add, hg]
  ·have hg := (sts_get l k hk).2.2.1
   rw [← ht, List.getElem?_take, if_pos (by omega), Array.getElem?_toList] at hg
   rw [cell_of_row w g _ cur e (0, 0) hh, Nat.zero_add, hg]
  ·have hg := (sts_get l k hk).2.2.2
   rw [← ht, List.getElem?_take, if_pos (by omega), Array.getElem?_toList] at hg
   rw [cell_of_row w g _ cur e (0, 0) hh, Nat.zero_add, hg]
theorem cells_st (W : World) (l : List StM) (xs : Array Value) (t : TypeId) (g : Nat) (hg : g = W.heap.size) (hx : xs.toList = sts l) : StSl (W.alloc (.cells xs t)) (some ⟨g, 0, none⟩) l := fun k hk => by
 subst hg
 obtain ⟨g1, g2, g3, g4⟩ := sts_get l k hk
 rw [← hx, Array.getElem?_toList] at g1 g2 g3 g4
 refine ⟨W.heap.size, 0, rfl, by rw [size1]; omega, ?_, ?_, ?_, ?_⟩
 ·rw [cell_of_row _ _ _ xs t (0, 0) (heap_alloc_new W _), Nat.zero_add, g1]
 ·rw [cell_of_row _ _ _ xs t (0, 0) (heap_alloc_new W _), Nat.zero_add, g2]
 ·rw [cell_of_row _ _ _ xs t (0, 0) (heap_alloc_new W _), Nat.zero_add, g3]
 ·rw [cell_of_row _ _ _ xs t (0, 0) (heap_alloc_new W _), Nat.zero_add, g4]
def stV (s : StM) : Value := .agg #[.int .i64 s.f, .int .i64 s.t, .int .i64 s.n, .int .i64 s.s]
theorem infoStay : (Tryz.prog.info? 111).map (fun i => (i.zero, i.size, i.bytes)) = some (some (.agg #[.int .i64 0, .int .i64 0, .int .i64 0, .int .i64 0]), 4, 32) := by kernel_rfl
theorem cells4 {g : Nat} {a b c d : Value} {t : TypeId} {W : World} (h : W.heap[g]? = some (.cells #[a, b, c, d] t (0, 0))) : W.cell? ⟨g, 0, none⟩ = some a ∧ W.cell? ⟨g, 1, none⟩ = some b ∧ W.cell? ⟨g, 2, none⟩ = some c ∧ W.cell? ⟨g, 3, none⟩ = some d :=
 ⟨cell_of_row _ _ _ _ _ _ h, cell_of_row _ _ _ _ _ _ h, cell_of_row _ _ _ _ _ _ h, cell_of_row _ _ _ _ _ _ h⟩
theorem wpList_append_st {P : Program} (w : World) {ops : Array Oper} {rest : List Oper} {o : Oper} {a : Act} {Q : Exit → Act → World → Prop} (hgd : o.guard = none) (s x : Operand) (t : TypeId)
  (ho : o.op = .call { callee := .builtin .append, args := #[s, x], argTypes := #[t, t] })
  (base : Nat) (e : TypeId) (i : TypeInfo) (z : Value) (ht : P.underlying t = some (.slice e)) (hi : P.info? e = some i) (hz : i.zero = some z)
  (hsize : i.size = 4) (hby : i.bytes = 32) (hzs : z.cells.size = 4)
  (v : Value) (l : List StM) (hs : a.eval s = v) (hown : w.ownsRow base e 4 v l.length (sts l))
  (A : Option Addr) (c : Nat) (m : List StM) (hx : a.eval x = .slice A m.length c) (hsl : StSl w A m) (hnil : A = none → c = 0)
  (hlen : l.length + m.length ≤ 1000000) (hbase : base ≤ w.heap.size)
  (h : ∀ v' w', w'.ownsRow base e 4 v' (l ++ m).length (sts (l ++ m)) → Below base w w' → wpList P ops Q rest (a.put o.dst v') w') : wpList P ops Q (o :: rest) a w := by
 rw [List.length_append, sts_append] at h
 cases A with
 | none =>
  have hc := hnil rfl
  subst hc
  have hm0 : m = [] := by
   cases m with
   | nil => rfl
   | cons y m => obtain ⟨_, _, e, _⟩ := hsl 0 (by simp); cases e
  subst hm0
  exact wpList_append_own_none hgd s x t ho base e i 4 ht hi v l.length (sts l) hs hown hx (h v w (by simpa [sts] using hown) (Below.refl _ _))
 | some ad =>
  exact wpList_append_own w hgd s x t ho base e i z 4 32 ht hi hz hsize hby hzs (by decide) v l.length (sts l) hs hown ad m.length c (sts m) hx (sts_len m) (hsl.cells ad rfl) (sts_one m) (by unfold maxLen; omega) (by omega) hbase (fun v' w' h2 h3 _ => h v' w' h2 (app_below (Below.refl _ _) hbase hown h3))
def encO (s : OpM) : List Value := [.int .i64 s.n, .string s.u, .int .i64 s.s, .int .i64 s.f]
def oes (l : List OpM) : List Value := l.flatMap encO
theorem oes_cons (s : OpM) (l : List OpM) : oes (s :: l) = encO s ++ oes l := by simp [oes]
theorem oes_len (l : List OpM) : (oes l).length = l.length * 4 := by
 induction l with
 | nil => rfl
 | cons e l ih => rw [oes_cons, List.length_append, ih, List.length_cons]; simp only [encO, List.length_cons, List.length_nil]; omega
theorem oes_append (l m : List OpM) : oes (l ++ m) = oes l ++ oes m := by simp [oes]
theorem oes_snoc (l : List OpM) (x : OpM) : oes (l ++ [x]) = oes l ++ [.int .i64 x.n, .string x.u, .int .i64 x.s, .int .i64 x.f] := by simp [oes, encO]
theorem oes_get (l : List OpM) : ∀ (k : Nat) (h : k < l.length), (oes l)[k * 4]? = some (.int .i64 l[k].n) ∧ (oes l)[k * 4 + 1]? = some (.string l[k].u) ∧ (oes l)[k * 4 + 2]? = some (.int .i64 l[k].s) ∧ (oes l)[k * 4 + 3]? = some (.int .i64 l[k].f) := by
 induction l with
 | nil => intro k h; exact absurd h (by simp)
 | cons x l ih =>
  intro k h
  rw [oes_cons]
  cases k with
  | zero => exact ⟨rfl, rfl, rfl, rfl⟩
  | succ k =>
   have := ih k (by simpa using h)
   rw [show (k + 1) * 4 = k * 4 + 1 + 1 + 1 + 1 by omega]
   simpa [encO] using this
def OpSl (w : World) (a : Option Addr) (l : List OpM) : Prop := ∀ k (h : k < l.length), ∃ b off, a = some ⟨b, off, none⟩ ∧ b < w.heap.size ∧
 w.cell? ⟨b, off + k * 4, none⟩ = some (.int .i64 l[k].n) ∧ w.cell? ⟨b, off + k * 4 + 1, none⟩ = some (.string l[k].u) ∧ w.cell? ⟨b, off + k * 4 + 2, none⟩ = some (.int .i64 l[k].s) ∧ w.cell? ⟨b, off + k * 4 + 3, none⟩ = some (.int .i64 l[k].f)
theorem OpSl.nil (w : World) (a : Option Addr) : OpSl w a [] := fun k h => absurd h (by simp)
theorem OpSl.below {w w' : World} {a : Option Addr} {l : List OpM} (h : OpSl w a l) (hb : Below w.heap.size w w') : OpSl w' a l := fun k hk => by
 obtain ⟨b, off, e, hlt, h0, h1, h2, h3⟩ := h k hk
 exact ⟨b, off, e, Nat.lt_of_lt_of_le hlt hb.size, (hb.cell (p := ⟨b, off + k * 4, none⟩) hlt).trans h0, (hb.cell (p := ⟨b, off + k * 4 + 1, none⟩) hlt).trans h1, (hb.cell (p := ⟨b, off + k * 4 + 2, none⟩) hlt).trans h2, (hb.cell (p := ⟨b, off + k * 4 + 3, none⟩) hlt).trans h3⟩
theorem OpSl.at_ {w : World} {a : Option Addr} {l : List OpM} (h : OpSl w a l) {k : Nat} (hk : k < l.length) : ∃ b off, a = some ⟨b, off, none⟩ ∧ b < w.heap.size ∧
  w.cell? ⟨b, off + k * 4, none⟩ = some (.int .i64 l[k].n) ∧ w.cell? ⟨b, off + k * 4 + 1, none⟩ = some (.string l[k].u) ∧ w.cell? ⟨b, off + k * 4 + 2, none⟩ = some (.int .i64 l[k].s) ∧ w.cell? ⟨b, off + k * 4 + 3, none⟩ = some (.int .i64 l[k].f) := h k hk
theorem OpSl.take {w : World} {a : Option Addr} {l : List OpM} (h : OpSl w a l) (n : Nat) : OpSl w a (l.take n) := fun k hk => by
 have hk2 : k < l.length := by simp at hk; omega
 obtain ⟨b, off, e, hlt, h0, h1, h2, h3⟩ := h k hk2
 rw [List.getElem_take]
 exact ⟨b, off, e, hlt, h0, h1, h2, h3⟩
theorem OpSl.drop {w : World} {b off : Nat} {l : List OpM} (h : OpSl w (some ⟨b, off, none⟩) l) (n : Nat) : OpSl w (some ⟨b, off + n * 4, none⟩) (l.drop n) := fun k hk => by
 have hk2 : n + k < l.length := by simp at hk; omega
 obtain ⟨b', off', e, hlt, h0, h1, h2, h3⟩ := h (n + k) hk2
 cases e
 rw [List.getElem_drop]
 have e1 : off + n * 4 + k * 4 = off + (n + k) * 4 := by omega
 exact ⟨b, off + n * 4, rfl, hlt, by rw [e1]; exact h0, by rw [e1]; exact h1, by rw [e1]; exact h2, by rw [e1]; exact h3⟩
theorem OpSl.cells {w : World} {a : Option Addr} {l : List OpM} (h : OpSl w a l) : ∀ ad, a = some ad → ∀ j u, (oes l)[j]? = some u → w.cell? (ad.add j) = some u := fun ad ha j u hu => by
 have hj : j < l.length * 4 := by rw [← oes_len]; exact (List.getElem?_eq_some_iff.1 hu).1
 have hk : j / 4 < l.length := by omega
 obtain ⟨b, off, e, _, h1, h2, h3, h4⟩ := h (j / 4) hk
 rw [ha] at e
 cases e
 obtain ⟨g1, g2, g3, g4⟩ := oes_get l (j / 4) hk
 have hadd : (⟨b, off, none⟩ : Addr).add j = ⟨b, off + j, none⟩ := by
  unfold Addr.add
  split
  ·rename_i h; subst h; rfl
  ·rfl
 rw [hadd]
 have hd : j = j / 4 * 4 ∨ j = j / 4 * 4 + 1 ∨ j = j / 4 * 4 + 2 ∨ j = j / 4 * 4 + 3 := by omega
 generalize j / 4 = k at *
 rcases hd with rfl | rfl | rfl | rfl
 ·rw [g1] at hu
  cases hu
  exact h1
 ·rw [g2] at hu
  cases hu
  exact h2
 ·rw [g3] at hu
  cases hu
  exact h3
 ·rw [g4] at hu
  cases hu
  exact h4
theorem four_o (a : Int) (b : ByteArray) (c d : Int) : ∀ u ∈ [Value.int .i64 a, .string b, .int .i64 c, .int .i64 d], u.oneCell' = true := by
 intro u hu
 simp only [List.mem_cons, List.mem_nil_iff, or_false] at hu
 rcases hu with rfl | rfl | rfl | rfl <;> rfl
theorem oes_one (l : List OpM) : ∀ u ∈ oes l, u.oneCell' = true := fun u hu => by
 unfold oes at hu
 obtain ⟨y, _, hy⟩ := List.mem_flatMap.1 hu
 exact four_o _ _ _ _ u hy
theorem own_op {w : World} {B e : Nat} {v : Value} {l : List OpM} (h : w.ownsRow B e 4 v l.length (oes l)) : ∃ a c, v = .slice a l.length c ∧ l.length ≤ c ∧ c ≤ maxLen ∧ OpSl w a l ∧ (a = none → c = 0) := by
 rcases h.2 with ⟨rfl, hn⟩ | ⟨g, cap, cur, rfl, hg, hh, hn, hc, hsz, ht⟩
 ·have : l = [] := List.eq_nil_of_length_eq_zero hn
  subst this
  exact ⟨none, 0, rfl, Nat.le_refl _, by unfold maxLen; omega, OpSl.nil _ _, fun _ => rfl⟩
 ·have hlt : g < w.heap.size := by
   rcases Nat.lt_or_ge g w.heap.size with h1 | h1
   ·exact h1
   ·rw [Array.getElem?_eq_none h1] at hh; cases hh
  refine ⟨_, cap, rfl, hn, hc, fun k hk => ⟨g, 0, rfl, hlt, ?_, ?_, ?_, ?_⟩, fun e => by cases e⟩
  ·have hg := (oes_get l k hk).1
   rw [← ht, List.getElem?_take, if_pos (by omega), Array.getElem?_toList] at hg
   rw [cell_of_row w g _ cur e (0, 0) hh, Nat.zero_add, hg]
  ·have hg := (oes_get l k hk).2.1
   rw [← ht, List.getElem?_take, if_pos (by omega), Array.getElem?_toList] at hg
   rw [cell_of_row w g _ cur e (0, 0) hh, Nat.zero_add, hg]
  ·have hg := (oes_get l k hk).2.2.1
   rw [← ht, List.getElem?_take, if_pos (by omega), Array.getElem?_toList] at hg
   rw [cell_of_row w g _ cur e (0, 0) hh, Nat.zero_add, hg]
  ·have hg := (oes_get l k hk).2.2.2
   rw [← ht, List.getElem?_take, if_pos (by omega), Array.getElem?_toList] at hg
   rw [cell_of_row w g _ cur e (0, 0) hh, Nat.zero_add, hg]
theorem cells_op (W : World) (l : List OpM) (xs : Array Value) (t : TypeId) (g : Nat) (hg : g = W.heap.size) (hx : xs.toList = oes l) : OpSl (W.alloc (.cells xs t)) (some ⟨g, 0, none⟩) l := fun k hk => by
 subst hg
 obtain ⟨g1, g2, g3, g4⟩ := oes_get l k hk
 rw [← hx, Array.getElem?_toList] at g1 g2 g3 g4
 refine ⟨W.heap.size, 0, rfl, by rw [size1]; omega, ?_, ?_, ?_, ?_⟩
 ·rw [cell_of_row _ _ _ xs t (0, 0) (heap_alloc_new W _), Nat.zero_add, g1]
 ·rw [cell_of_row _ _ _ xs t (0, 0) (heap_alloc_new W _), Nat.zero_add, g2]
 ·rw [cell_of_row _ _ _ xs t (0, 0) (heap_alloc_new W _), Nat.zero_add, g3]
 ·rw [cell_of_row _ _ _ xs t (0, 0) (heap_alloc_new W _), Nat.zero_add, g4]
def opV (s : OpM) : Value := .agg #[.int .i64 s.n, .string s.u, .int .i64 s.s, .int .i64 s.f]
theorem infoOp : (Tryz.prog.info? 184).map (fun i => (i.zero, i.size, i.bytes)) = some (some (.agg #[.int .i64 0, .string ⟨#[]⟩, .int .i64 0, .int .i64 0]), 4, 40) := by kernel_rfl
theorem wpList_append_op {P : Program} (w : World) {ops : Array Oper} {rest : List Oper} {o : Oper} {a : Act} {Q : Exit → Act → World → Prop} (hgd : o.guard = none) (s x : Operand) (t : TypeId)
  (ho : o.op = .call { callee := .builtin .append, args := #[s, x], argTypes := #[t, t] })
  (base : Nat) (e : TypeId) (i : TypeInfo) (z : Value) (ht : P.underlying t = some (.slice e)) (hi : P.info? e = some i) (hz : i.zero = some z)
  (hsize : i.size = 4) (hby : i.bytes = 40) (hzs : z.cells.size = 4)
  (v : Value) (l : List OpM) (hs : a.eval s = v) (hown : w.ownsRow base e 4 v l.length (oes l))
  (A : Option Addr) (c : Nat) (m : List OpM) (hx : a.eval x = .slice A m.length c) (hsl : OpSl w A m) (hnil : A = none → c = 0)
  (hlen : l.length + m.length ≤ 1000000) (hbase : base ≤ w.heap.size)
  (h : ∀ v' w', w'.ownsRow base e 4 v' (l ++ m).length (oes (l ++ m)) → Below base w w' → wpList P ops Q rest (a.put o.dst v') w') : wpList P ops Q (o :: rest) a w := by
 rw [List.length_append, oes_append] at h
 cases A with
 | none =>
  have hc := hnil rfl
  subst hc
  have hm0 : m = [] := by
   cases m with
   | nil => rfl
   | cons y m => obtain ⟨_, _, e, _⟩ := hsl 0 (by simp); cases e
  subst hm0
  exact wpList_append_own_none hgd s x t ho base e i 4 ht hi v l.length (oes l) hs hown hx (h v w (by simpa [oes] using hown) (Below.refl _ _))
 | some ad =>
  exact wpList_append_own w hgd s x t ho base e i z 4 40 ht hi hz hsize hby hzs (by decide) v l.length (oes l) hs hown ad m.length c (oes m) hx (oes_len m) (hsl.cells ad rfl) (oes_one m) (by unfold maxLen; omega) (by omega) hbase (fun v' w' h2 h3 _ => h v' w' h2 (app_below (Below.refl _ _) hbase hown h3))
def encE (s : EnM) : List Value := [.string s.w, .string s.u, .int .i64 s.f, .int .i64 s.t]
def ens (l : List EnM) : List Value := l.flatMap encE
theorem ens_cons (s : EnM) (l : List EnM) : ens (s :: l) = encE s ++ ens l := by simp [ens]
theorem ens_len (l : List EnM) : (ens l).length = l.length * 4 := by
 induction l with
 | nil => rfl
 | cons e l ih => rw [ens_cons, List.length_append, ih, List.length_cons]; simp only [encE, List.length_cons, List.length_nil]; omega
theorem ens_append (l m : List EnM) : ens (l ++ m) = ens l ++ ens m := by simp [ens]
theorem ens_snoc (l : List EnM) (x : EnM) : ens (l ++ [x]) = ens l ++ [.string x.w, .string x.u, .int .i64 x.f, .int .i64 x.t] := by simp [ens, encE]
theorem ens_get (l : List EnM) : ∀ (k : Nat) (h : k < l.length), (ens l)[k * 4]? = some (.string l[k].w) ∧ (ens l)[k * 4 + 1]? = some (.string l[k].u) ∧ (ens l)[k * 4 + 2]? = some (.int .i64 l[k].f) ∧ (ens l)[k * 4 + 3]? = some (.int .i64 l[k].t) := by
 induction l with
 | nil => intro k h; exact absurd h (by simp)
 | cons x l ih =>
  intro k h
  rw [ens_cons]
  cases k with
  | zero => exact ⟨rfl, rfl, rfl, rfl⟩
  | succ k =>
   have := ih k (by simpa using h)
   rw [show (k + 1) * 4 = k * 4 + 1 + 1 + 1 + 1 by omega]
   simpa [encE] using this
def EnSl (w : World) (a : Option Addr) (l : List EnM) : Prop := ∀ k (h : k < l.length), ∃ b off, a = some ⟨b, off, none⟩ ∧ b < w.heap.size ∧
 w.cell? ⟨b, off + k * 4, none⟩ = some (.string l[k].w) ∧ w.cell? ⟨b, off + k * 4 + 1, none⟩ = some (.string l[k].u) ∧ w.cell? ⟨b, off + k * 4 + 2, none⟩ = some (.int .i64 l[k].f) ∧ w.cell? ⟨b, off + k * 4 + 3, none⟩ = some (.int .i64 l[k].t)
theorem EnSl.nil (w : World) (a : Option Addr) : EnSl w a [] := fun k h => absurd h (by simp)
theorem EnSl.below {w w' : World} {a : Option Addr} {l : List EnM} (h : EnSl w a l) (hb : Below w.heap.size w w') : EnSl w' a l := fun k hk => by
 obtain ⟨b, off, e, hlt, h0, h1, h2, h3⟩ := h k hk
 exact ⟨b, off, e, Nat.lt_of_lt_of_le hlt hb.size, (hb.cell (p := ⟨b, off + k * 4, none⟩) hlt).trans h0, (hb.cell (p := ⟨b, off + k * 4 + 1, none⟩) hlt).trans h1, (hb.cell (p := ⟨b, off + k * 4 + 2, none⟩) hlt).trans h2, (hb.cell (p := ⟨b, off + k * 4 + 3, none⟩) hlt).trans h3⟩
theorem EnSl.at_ {w : World} {a : Option Addr} {l : List EnM} (h : EnSl w a l) {k : Nat} (hk : k < l.length) : ∃ b off, a = some ⟨b, off, none⟩ ∧ b < w.heap.size ∧
  w.cell? ⟨b, off + k * 4, none⟩ = some (.string l[k].w) ∧ w.cell? ⟨b, off + k * 4 + 1, none⟩ = some (.string l[k].u) ∧ w.cell? ⟨b, off + k * 4 + 2, none⟩ = some (.int .i64 l[k].f) ∧ w.cell? ⟨b, off + k * 4 + 3, none⟩ = some (.int .i64 l[k].t) := h k hk
theorem EnSl.take {w : World} {a : Option Addr} {l : List EnM} (h : EnSl w a l) (n : Nat) : EnSl w a (l.take n) := fun k hk => by
 have hk2 : k < l.length := by simp at hk; omega
 obtain ⟨b, off, e, hlt, h0, h1, h2, h3⟩ := h k hk2
 rw [List.getElem_take]
 exact ⟨b, off, e, hlt, h0, h1, h2, h3⟩
theorem EnSl.drop {w : World} {b off : Nat} {l : List EnM} (h : EnSl w (some ⟨b, off, none⟩) l) (n : Nat) : EnSl w (some ⟨b, off + n * 4, none⟩) (l.drop n) := fun k hk => by
 have hk2 : n + k < l.length := by simp at hk; omega
 obtain ⟨b', off', e, hlt, h0, h1, h2, h3⟩ := h (n + k) hk2
 cases e
 rw [List.getElem_drop]
 have e1 : off + n * 4 + k * 4 = off + (n + k) * 4 := by omega
 exact ⟨b, off + n * 4, rfl, hlt, by rw [e1]; exact h0, by rw [e1]; exact h1, by rw [e1]; exact h2, by rw [e1]; exact h3⟩
theorem EnSl.cells {w : World} {a : Option Addr} {l : List EnM} (h : EnSl w a l) : ∀ ad, a = some ad → ∀ j u, (ens l)[j]? = some u → w.cell? (ad.add j) = some u := fun ad ha j u hu => by
 have hj : j < l.length * 4 := by rw [← ens_len]; exact (List.getElem?_eq_some_iff.1 hu).1
 have hk : j / 4 < l.length := by omega
 obtain ⟨b, off, e, _, h1, h2, h3, h4⟩ := h (j / 4) hk
 rw [ha] at e
 cases e
 obtain ⟨g1, g2, g3, g4⟩ := ens_get l (j / 4) hk
 have hadd : (⟨b, off, none⟩ : Addr).add j = ⟨b, off + j, none⟩ := by
  unfold Addr.add
  split
  ·rename_i h; subst h; rfl
  ·rfl
 rw [hadd]
 have hd : j = j / 4 * 4 ∨ j = j / 4 * 4 + 1 ∨ j = j / 4 * 4 + 2 ∨ j = j / 4 * 4 + 3 := by omega
 generalize j / 4 = k at *
 rcases hd with rfl | rfl | rfl | rfl
 ·rw [g1] at hu
  cases hu
  exact h1
 ·rw [g2] at hu
  cases hu
  exact h2
 ·rw [g3] at hu
  cases hu
  exact h3
 ·rw [g4] at hu
  cases hu
  exact h4
theorem four_e (a b : ByteArray) (c d : Int) : ∀ u ∈ [Value.string a, .string b, .int .i64 c, .int .i64 d], u.oneCell' = true := by
 intro u hu
 simp only [List.mem_cons, List.mem_nil_iff, or_false] at hu
 rcases hu with rfl | rfl | rfl | rfl <;> rfl
theorem ens_one (l : List EnM) : ∀ u ∈ ens l, u.oneCell' = true := fun u hu => by
 unfold ens at hu
 obtain ⟨y, _, hy⟩ := List.mem_flatMap.1 hu
 exact four_e _ _ _ _ u hy
theorem own_en {w : World} {B e : Nat} {v : Value} {l : List EnM} (h : w.ownsRow B e 4 v l.length (ens l)) : ∃ a c, v = .slice a l.length c ∧ l.length ≤ c ∧ c ≤ maxLen ∧ EnSl w a l ∧ (a = none → c = 0) := by
 rcases h.2 with ⟨rfl, hn⟩ | ⟨g, cap, cur, rfl, hg, hh, hn, hc, hsz, ht⟩
 ·have : l = [] := List.eq_nil_of_length_eq_zero hn
  subst this
  exact ⟨none, 0, rfl, Nat.le_refl _, by unfold maxLen; omega, EnSl.nil _ _, fun _ => rfl⟩
 ·have hlt : g < w.heap.size := by
   rcases Nat.lt_or_ge g w.heap.size with h1 | h1
   ·exact h1
   ·rw [Array.getElem?_eq_none h1] at hh; cases hh
  refine ⟨_, cap, rfl, hn, hc, fun k hk => ⟨g, 0, rfl, hlt, ?_, ?_, ?_, ?_⟩, fun e => by cases e⟩
  ·have hg := (ens_get l k hk).1
   rw [← ht, List.getElem?_take, if_pos (by omega), Array.getElem?_toList] at hg
   rw [cell_of_row w g _ cur e (0, 0) hh, Nat.zero_add, hg]
  ·have hg := (ens_get l k hk).2.1
   rw [← ht, List.getElem?_take, if_pos (by omega), Array.getElem?_toList] at hg
   rw [cell_of_row w g _ cur e (0, 0) hh, Nat.zero_add, hg]
  ·have hg := (ens_get l k hk).2.2.1
   rw [← ht, List.getElem?_take, if_pos (by omega), Array.getElem?_toList] at hg
   rw [cell_of_row w g _ cur e (0, 0) hh, Nat.zero_add, hg]
  ·have hg := (ens_get l k hk).2.2.2
   rw [← ht, List.getElem?_take, if_pos (by omega), Array.getElem?_toList] at hg
   rw [cell_of_row w g _ cur e (0, 0) hh, Nat.zero_add, hg]
theorem cells_en (W : World) (l : List EnM) (xs : Array Value) (t : TypeId) (g : Nat) (hg : g = W.heap.size) (hx : xs.toList = ens l) : EnSl (W.alloc (.cells xs t)) (some ⟨g, 0, none⟩) l := fun k hk => by
 subst hg
 obtain ⟨g1, g2, g3, g4⟩ := ens_get l k hk
 rw [← hx, Array.getElem?_toList] at g1 g2 g3 g4
 refine ⟨W.heap.size, 0, rfl, by rw [size1]; omega, ?_, ?_, ?_, ?_⟩
 ·rw [cell_of_row _ _ _ xs t (0, 0) (heap_alloc_new W _), Nat.zero_add, g1]
 ·rw [cell_of_row _ _ _ xs t (0, 0) (heap_alloc_new W _), Nat.zero_add, g2]
 ·rw [cell_of_row _ _ _ xs t (0, 0) (heap_alloc_new W _), Nat.zero_add, g3]
 ·rw [cell_of_row _ _ _ xs t (0, 0) (heap_alloc_new W _), Nat.zero_add, g4]
def enV (s : EnM) : Value := .agg #[.string s.w, .string s.u, .int .i64 s.f, .int .i64 s.t]
theorem infoEn : (Tryz.prog.info? 165).map (fun i => (i.zero, i.size, i.bytes)) = some (some (.agg #[.string ⟨#[]⟩, .string ⟨#[]⟩, .int .i64 0, .int .i64 0]), 4, 48) := by kernel_rfl
theorem ecells4 {g : Nat} {a b c d : Value} {t : TypeId} {W : World} (h : W.heap[g]? = some (.cells #[a, b, c, d] t (0, 0))) : W.cell? ⟨g, 0, none⟩ = some a ∧ W.cell? ⟨g, 1, none⟩ = some b ∧ W.cell? ⟨g, 2, none⟩ = some c ∧ W.cell? ⟨g, 3, none⟩ = some d :=
 ⟨cell_of_row _ _ _ _ _ _ h, cell_of_row _ _ _ _ _ _ h, cell_of_row _ _ _ _ _ _ h, cell_of_row _ _ _ _ _ _ h⟩
theorem wpList_append_en {P : Program} (w : World) {ops : Array Oper} {rest : List Oper} {o : Oper} {a : Act} {Q : Exit → Act → World → Prop} (hgd : o.guard = none) (s x : Operand) (t : TypeId)
  (ho : o.op = .call { callee := .builtin .append, args := #[s, x], argTypes := #[t, t] })
  (base : Nat) (e : TypeId) (i : TypeInfo) (z : Value) (ht : P.underlying t = some (.slice e)) (hi : P.info? e = some i) (hz : i.zero = some z)
  (hsize : i.size = 4) (hby : i.bytes = 48) (hzs : z.cells.size = 4)
  (v : Value) (l : List EnM) (hs : a.eval s = v) (hown : w.ownsRow base e 4 v l.length (ens l))
  (A : Option Addr) (c : Nat) (m : List EnM) (hx : a.eval x = .slice A m.length c) (hsl : EnSl w A m) (hnil : A = none → c = 0)
  (hlen : l.length + m.length ≤ 1000000) (hbase : base ≤ w.heap.size)
  (h : ∀ v' w', w'.ownsRow base e 4 v' (l ++ m).length (ens (l ++ m)) → Below base w w' → wpList P ops Q rest (a.put o.dst v') w') : wpList P ops Q (o :: rest) a w := by
 rw [List.length_append, ens_append] at h
 cases A with
 | none =>
  have hc := hnil rfl
  subst hc
  have hm0 : m = [] := by
   cases m with
   | nil => rfl
   | cons y m => obtain ⟨_, _, e, _⟩ := hsl 0 (by simp); cases e
  subst hm0
  exact wpList_append_own_none hgd s x t ho base e i 4 ht hi v l.length (ens l) hs hown hx (h v w (by simpa [ens] using hown) (Below.refl _ _))
 | some ad =>
  exact wpList_append_own w hgd s x t ho base e i z 4 48 ht hi hz hsize hby hzs (by decide) v l.length (ens l) hs hown ad m.length c (ens m) hx (ens_len m) (hsl.cells ad rfl) (ens_one m) (by unfold maxLen; omega) (by omega) hbase (fun v' w' h2 h3 _ => h v' w' h2 (app_below (Below.refl _ _) hbase hown h3))
def pps (l : List (Value × Value)) : List Value := l.flatMap fun x => [x.1, x.2]
theorem pps_cons (s : Value × Value) (l : List (Value × Value)) : pps (s :: l) = [s.1, s.2] ++ pps l := by simp [pps]
theorem pps_len (l : List (Value × Value)) : (pps l).length = l.length * 2 := by
 induction l with
 | nil => rfl
 | cons e l ih => rw [pps_cons, List.length_append, ih, List.length_cons]; simp only [List.length_cons, List.length_nil]; omega
theorem pps_append (l m : List (Value × Value)) : pps (l ++ m) = pps l ++ pps m := by simp [pps]
theorem pps_get (l : List (Value × Value)) : ∀ (k : Nat) (h : k < l.length), (pps l)[k * 2]? = some l[k].1 ∧ (pps l)[k * 2 + 1]? = some l[k].2 := by
 induction l with
 | nil => intro k h; exact absurd h (by simp)
 | cons x l ih =>
  intro k h
  rw [pps_cons]
  cases k with
  | zero => exact ⟨rfl, rfl⟩
  | succ k =>
   have := ih k (by simpa using h)
   rw [show (k + 1) * 2 = k * 2 + 1 + 1 by omega]
   simpa using this
def PpSl (w : World) (a : Option Addr) (l : List (Value × Value)) : Prop := ∀ k (h : k < l.length), ∃ b off, a = some ⟨b, off, none⟩ ∧ b < w.heap.size ∧
 w.cell? ⟨b, off + k * 2, none⟩ = some l[k].1 ∧ w.cell? ⟨b, off + k * 2 + 1, none⟩ = some l[k].2
theorem PpSl.nil (w : World) (a : Option Addr) : PpSl w a [] := fun k h => absurd h (by simp)
theorem PpSl.below {w w' : World} {a : Option Addr} {l : List (Value × Value)} (h : PpSl w a l) (hb : Below w.heap.size w w') : PpSl w' a l := fun k hk => by
 obtain ⟨b, off, e, hlt, h0, h1⟩ := h k hk
 exact ⟨b, off, e, Nat.lt_of_lt_of_le hlt hb.size, (hb.cell (p := ⟨b, off + k * 2, none⟩) hlt).trans h0, (hb.cell (p := ⟨b, off + k * 2 + 1, none⟩) hlt).trans h1⟩
theorem PpSl.at_ {w : World} {a : Option Addr} {l : List (Value × Value)} (h : PpSl w a l) {k : Nat} (hk : k < l.length) : ∃ b off, a = some ⟨b, off, none⟩ ∧ b < w.heap.size ∧
  w.cell? ⟨b, off + k * 2, none⟩ = some l[k].1 ∧ w.cell? ⟨b, off + k * 2 + 1, none⟩ = some l[k].2 := h k hk
theorem PpSl.take {w : World} {a : Option Addr} {l : List (Value × Value)} (h : PpSl w a l) (n : Nat) : PpSl w a (l.take n) := fun k hk => by
 have hk2 : k < l.length := by simp at hk; omega
 obtain ⟨b, off, e, hlt, h0, h1⟩ := h k hk2
 rw [List.getElem_take]
 exact ⟨b, off, e, hlt, h0, h1⟩
theorem PpSl.drop {w : World} {b off : Nat} {l : List (Value × Value)} (h : PpSl w (some ⟨b, off, none⟩) l) (n : Nat) : PpSl w (some ⟨b, off + n * 2, none⟩) (l.drop n) := fun k hk => by
 have hk2 : n + k < l.length := by simp at hk; omega
 obtain ⟨b', off', e, hlt, h0, h1⟩ := h (n + k) hk2
 cases e
 rw [List.getElem_drop]
 have e1 : off + n * 2 + k * 2 = off + (n + k) * 2 := by omega
 exact ⟨b, off + n * 2, rfl, hlt, by rw [e1]; exact h0, by rw [e1]; exact h1⟩
theorem PpSl.cells {w : World} {a : Option Addr} {l : List (Value × Value)} (h : PpSl w a l) : ∀ ad, a = some ad → ∀ j u, (pps l)[j]? = some u → w.cell? (ad.add j) = some u := fun ad ha j u hu => by
 have hj : j < l.length * 2 := by rw [← pps_len]; exact (List.getElem?_eq_some_iff.1 hu).1
 have hk : j / 2 < l.length := by omega
 obtain ⟨b, off, e, _, h1, h2⟩ := h (j / 2) hk
 rw [ha] at e
 cases e
 obtain ⟨g1, g2⟩ := pps_get l (j / 2) hk
 have hadd : (⟨b, off, none⟩ : Addr).add j = ⟨b, off + j, none⟩ := by
  unfold Addr.add
  split
  ·rename_i h; subst h; rfl
  ·rfl
 rw [hadd]
 have hd : j = j / 2 * 2 ∨ j = j / 2 * 2 + 1 := by omega
 generalize j / 2 = k at *
 rcases hd with rfl | rfl
 ·rw [g1] at hu
  cases hu
  exact h1
 ·rw [g2] at hu
  cases hu
  exact h2
def OneP (l : List (Value × Value)) : Prop := ∀ x ∈ l, x.1.oneCell' = true ∧ x.2.oneCell' = true
theorem pps_one {l : List (Value × Value)} (h : OneP l) : ∀ u ∈ pps l, u.oneCell' = true := fun u hu => by
 unfold pps at hu
 obtain ⟨y, hy, hu⟩ := List.mem_flatMap.1 hu
 simp only [List.mem_cons, List.mem_nil_iff, or_false] at hu
 rcases hu with rfl | rfl
 ·exact (h y hy).1
 ·exact (h y hy).2
theorem own_pp {w : World} {B e : Nat} {v : Value} {l : List (Value × Value)} (h : w.ownsRow B e 2 v l.length (pps l)) : ∃ a c, v = .slice a l.length c ∧ l.length ≤ c ∧ c ≤ maxLen ∧ PpSl w a l ∧ (a = none → c = 0) := by
 rcases h.2 with ⟨rfl, hn⟩ | ⟨g, cap, cur, rfl, hg, hh, hn, hc, hsz, ht⟩
 ·have : l = [] := List.eq_nil_of_length_eq_zero hn
  subst this
  exact ⟨none, 0, rfl, Nat.le_refl _, by unfold maxLen; omega, PpSl.nil _ _, fun _ => rfl⟩
 ·have hlt : g < w.heap.size := by
   rcases Nat.lt_or_ge g w.heap.size with h1 | h1
   ·exact h1
   ·rw [Array.getElem?_eq_none h1] at hh; cases hh
  refine ⟨_, cap, rfl, hn, hc, fun k hk => ⟨g, 0, rfl, hlt, ?_, ?_⟩, fun e => by cases e⟩
  ·have hg := (pps_get l k hk).1
   rw [← ht, List.getElem?_take, if_pos (by omega), Array.getElem?_toList] at hg
   rw [cell_of_row w g _ cur e (0, 0) hh, Nat.zero_add, hg]
  ·have hg := (pps_get l k hk).2
   rw [← ht, List.getElem?_take, if_pos (by omega), Array.getElem?_toList] at hg
   rw [cell_of_row w g _ cur e (0, 0) hh, Nat.zero_add, hg]
theorem cells_pp (W : World) (l : List (Value × Value)) (xs : Array Value) (t : TypeId) (g : Nat) (hg : g = W.heap.size) (hx : xs.toList = pps l) : PpSl (W.alloc (.cells xs t)) (some ⟨g, 0, none⟩) l := fun k hk => by
 subst hg
 obtain ⟨g1, g2⟩ := pps_get l k hk
 rw [← hx, Array.getElem?_toList] at g1 g2
 refine ⟨W.heap.size, 0, rfl, by rw [size1]; omega, ?_, ?_⟩
 ·rw [cell_of_row _ _ _ xs t (0, 0) (heap_alloc_new W _), Nat.zero_add, g1]
 ·rw [cell_of_row _ _ _ xs t (0, 0) (heap_alloc_new W _), Nat.zero_add, g2]
theorem pcell2 {g : Nat} {a b : Value} {t : TypeId} {W : World} (h : W.heap[g]? = some (.cells #[a, b] t (0, 0))) : W.cell? ⟨g, 0, none⟩ = some a ∧ W.cell? ⟨g, 1, none⟩ = some b :=
 ⟨cell_of_row _ _ _ _ _ _ h, cell_of_row _ _ _ _ _ _ h⟩
theorem wpList_append_pp {P : Program} (w : World) {ops : Array Oper} {rest : List Oper} {o : Oper} {a : Act} {Q : Exit → Act → World → Prop} (hgd : o.guard = none) (s x : Operand) (t : TypeId)
  (ho : o.op = .call { callee := .builtin .append, args := #[s, x], argTypes := #[t, t] })
  (base : Nat) (e : TypeId) (i : TypeInfo) (z : Value) (bb : Nat) (ht : P.underlying t = some (.slice e)) (hi : P.info? e = some i) (hz : i.zero = some z)
  (hsize : i.size = 2) (hby : i.bytes = bb) (hbb : bb ≤ 64) (hzs : z.cells.size = 2)
  (v : Value) (l : List (Value × Value)) (hs : a.eval s = v) (hown : w.ownsRow base e 2 v l.length (pps l))
  (A : Option Addr) (c : Nat) (m : List (Value × Value)) (hx : a.eval x = .slice A m.length c) (hsl : PpSl w A m) (hone : OneP m) (hnil : A = none → c = 0)
  (hlen : l.length + m.length ≤ 1000000) (hbase : base ≤ w.heap.size)
  (h : ∀ v' w', w'.ownsRow base e 2 v' (l ++ m).length (pps (l ++ m)) → Below base w w' → wpList P ops Q rest (a.put o.dst v') w') : wpList P ops Q (o :: rest) a w := by
 rw [List.length_append, pps_append] at h
 cases A with
 | none =>
  have hc := hnil rfl
  subst hc
  have hm0 : m = [] := by
   cases m with
   | nil => rfl
   | cons y m => obtain ⟨_, _, e, _⟩ := hsl 0 (by simp); cases e
  subst hm0
  exact wpList_append_own_none hgd s x t ho base e i 2 ht hi v l.length (pps l) hs hown hx (h v w (by simpa [pps] using hown) (Below.refl _ _))
 | some ad =>
  exact wpList_append_own w hgd s x t ho base e i z 2 bb ht hi hz hsize hby hzs (by decide) v l.length (pps l) hs hown ad m.length c (pps m) hx (pps_len m) (hsl.cells ad rfl) (pps_one hone) (by unfold maxLen; omega)
   (Nat.le_trans (Nat.mul_le_mul hlen hbb) (by decide)) hbase (fun v' w' h2 h3 _ => h v' w' h2 (app_below (Below.refl _ _) hbase hown h3))
structure UsL where
 u : ByteArray
 a : Option Addr
 l : List StM
 c : Nat
def UsL.m (x : UsL) : UsM := ⟨x.u, x.l⟩
def usp (x : UsL) : Value × Value := (.string x.u, .slice x.a x.l.length x.c)
structure UsAt (W : World) (x : UsL) : Prop where
 st : StSl W x.a x.l
 le : x.l.length ≤ x.c
 mx : x.c ≤ maxLen
 nil : x.a = none → x.c = 0
theorem UsAt.below {W W' : World} {x : UsL} (h : UsAt W x) (q : Below W.heap.size W W') : UsAt W' x := ⟨h.st.below q, h.le, h.mx, h.nil⟩
instance : Inhabited UsL := ⟨⟨⟨#[]⟩, none, [], 0⟩⟩
theorem usp_one (l : List UsL) : OneP (l.map usp) := fun x hx => by
 obtain ⟨y, _, rfl⟩ := List.mem_map.1 hx
 exact ⟨rfl, rfl⟩
structure UsSl (W : World) (a : Option Addr) (D : List UsL) : Prop where
 row : PpSl W a (D.map usp)
 at_ : ∀ x ∈ D, UsAt W x
theorem UsSl.below {W W' : World} {a : Option Addr} {D : List UsL} (h : UsSl W a D) (q : Below W.heap.size W W') : UsSl W' a D := ⟨h.row.below q, fun x hx => (h.at_ x hx).below q⟩
theorem UsSl.nil (W : World) (a : Option Addr) : UsSl W a [] := ⟨PpSl.nil _ _, fun x h => by cases h⟩
theorem UsSl.get {W : World} {a : Option Addr} {D : List UsL} (h : UsSl W a D) {k : Nat} (hk : k < D.length) : ∃ b off, a = some ⟨b, off, none⟩ ∧ b < W.heap.size ∧
  W.cell? ⟨b, off + k * 2, none⟩ = some (.string D[k].u) ∧ W.cell? ⟨b, off + k * 2 + 1, none⟩ = some (.slice D[k].a D[k].l.length D[k].c) ∧ UsAt W D[k] := by
 obtain ⟨b, off, e, h1, h2, h3⟩ := h.row.at_ (k := k) (by simpa using hk)
 rw [List.getElem_map] at h2 h3
 exact ⟨b, off, e, h1, h2, h3, h.at_ _ (List.getElem_mem hk)⟩
def usv (D : List UsL) : List Value := pps (D.map usp)
def umS (D : List UsL) : List UsM := D.map UsL.m
theorem umS_len (D : List UsL) : (umS D).length = D.length := List.length_map _
theorem own_us {w : World} {B e : Nat} {v : Value} {D : List UsL} (h : w.ownsRow B e 2 v D.length (usv D)) : ∃ a c, v = .slice a D.length c ∧ D.length ≤ c ∧ c ≤ maxLen ∧ PpSl w a (D.map usp) ∧ (a = none → c = 0) := by
 have h2 := own_pp (l := D.map usp) (by rw [List.length_map]; exact h)
 rw [List.length_map] at h2
 exact h2
def tbp (x : TbM) : Value × Value := (.string x.u, .int .i64 x.a)
theorem tbp_one (l : List TbM) : OneP (l.map tbp) := fun x hx => by
 obtain ⟨y, _, rfl⟩ := List.mem_map.1 hx
 exact ⟨rfl, rfl⟩
def TbSl (W : World) (a : Option Addr) (l : List TbM) : Prop := PpSl W a (l.map tbp)
theorem TbSl.below {W W' : World} {a : Option Addr} {D : List TbM} (h : TbSl W a D) (q : Below W.heap.size W W') : TbSl W' a D := PpSl.below h q
theorem TbSl.nil (W : World) (a : Option Addr) : TbSl W a [] := PpSl.nil _ _
theorem TbSl.get {W : World} {a : Option Addr} {D : List TbM} (h : TbSl W a D) {k : Nat} (hk : k < D.length) : ∃ b off, a = some ⟨b, off, none⟩ ∧ b < W.heap.size ∧
  W.cell? ⟨b, off + k * 2, none⟩ = some (.string D[k].u) ∧ W.cell? ⟨b, off + k * 2 + 1, none⟩ = some (.int .i64 D[k].a) := by
 obtain ⟨b, off, e, h1, h2, h3⟩ := PpSl.at_ h (k := k) (by simpa using hk)
 rw [List.getElem_map] at h2 h3
 exact ⟨b, off, e, h1, h2, h3⟩
def tbv (D : List TbM) : List Value := pps (D.map tbp)
theorem own_tb {w : World} {B e : Nat} {v : Value} {D : List TbM} (h : w.ownsRow B e 2 v D.length (tbv D)) : ∃ a c, v = .slice a D.length c ∧ D.length ≤ c ∧ c ≤ maxLen ∧ TbSl w a D ∧ (a = none → c = 0) := by
 have h2 := own_pp (l := D.map tbp) (by rw [List.length_map]; exact h)
 rw [List.length_map] at h2
 exact h2
structure SaL where
 now : Int
 hor : Int
 oa : Option Addr
 op : List OpM
 oc : Nat
 ua : Option Addr
 us : List UsL
 uc : Nat
 sa : Option Addr
 su : List EnM
 sc : Nat
 ta : Option Addr
 tb : List TbM
 tc : Nat
def SaL.m (x : SaL) : SaM := ⟨x.now, x.hor, x.op, umS x.us, x.su, x.tb⟩
structure Cp (a : Option Addr) (n c : Nat) : Prop where
 le : n ≤ c
 mx : c ≤ maxLen
 nil : a = none → c = 0
theorem Cp.none : Cp none 0 0 := ⟨Nat.le_refl _, by unfold maxLen; omega, fun _ => rfl⟩
structure SaAt (W : World) (x : SaL) : Prop where
 op : OpSl W x.oa x.op
 us : UsSl W x.ua x.us
 su : EnSl W x.sa x.su
 tb : TbSl W x.ta x.tb
 oc : Cp x.oa x.op.length x.oc
 uc : Cp x.ua x.us.length x.uc
 sc : Cp x.sa x.su.length x.sc
 tc : Cp x.ta x.tb.length x.tc
theorem SaAt.below {W W' : World} {x : SaL} (h : SaAt W x) (q : Below W.heap.size W W') : SaAt W' x := ⟨h.op.below q, h.us.below q, h.su.below q, h.tb.below q, h.oc, h.uc, h.sc, h.tc⟩
def saC (x : SaL) : Array Value := #[.int .i64 x.now, .int .i64 x.hor, .slice x.oa x.op.length x.oc, .slice x.ua x.us.length x.uc, .slice x.sa x.su.length x.sc, .slice x.ta x.tb.length x.tc]
def saV (x : SaL) : Value := .agg (saC x)
def saO : SaL := ⟨0, 0, none, [], 0, none, [], 0, none, [], 0, none, [], 0⟩
theorem SaAt.zero (W : World) : SaAt W saO := ⟨OpSl.nil _ _, UsSl.nil _ _, EnSl.nil _ _, TbSl.nil _ _, Cp.none, Cp.none, Cp.none, Cp.none⟩
structure Few (x : SaM) (n : Nat) : Prop where
 op : x.op.length ≤ n
 us : x.us.length ≤ n
 su : x.su.length ≤ n
 tb : x.tb.length ≤ n
 st : ∀ u ∈ x.us, u.l.length ≤ n
end Go.Proofs.YtapacckmgmdnoaaGreat
