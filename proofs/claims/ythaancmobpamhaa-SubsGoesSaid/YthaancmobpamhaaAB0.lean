/- Layer 9: plain mathematics of entries: how two pairs of texts compare, the order of entries, a grant, a revoke, periods. -/
import Derived.Test.YthaancmobpamhaaW0
import Derived.Test.YthaancmobpamhaaAA0
namespace Go.Proofs.Ythaancmobpamhaa
set_option linter.unusedVariables false

/-! ### texts and pairs of them, in order -/
def cmpS (a b : ByteArray) : Int := Lib.compareBytes a.data.toList b.data.toList
def cmpP (a b c d : ByteArray) : Int := if cmpS a c = 0 then cmpS b d else cmpS a c
theorem cmpS_self (a : ByteArray) : cmpS a a = 0 := cb_refl _
theorem cmpS_eq {a b : ByteArray} : cmpS a b = 0 ↔ a = b := ⟨fun h => toL_inj (cb_eq _ _ h), fun h => by rw [h]; exact cmpS_self _⟩
theorem cmpS_neg (a b : ByteArray) : cmpS b a = - cmpS a b := cb_neg _ _
theorem cmpS_trans {a b c : ByteArray} (h : cmpS a b < 0) (k : cmpS b c < 0) : cmpS a c < 0 := cb_trans _ _ _ h k
theorem cmpP_eq {a b c d : ByteArray} : cmpP a b c d = 0 ↔ a = c ∧ b = d := by
  unfold cmpP
  by_cases h : cmpS a c = 0
  · rw [if_pos h, cmpS_eq]
    exact ⟨fun k => ⟨cmpS_eq.1 h, k⟩, fun k => k.2⟩
  · rw [if_neg h]
    exact ⟨fun k => absurd k h, fun k => absurd (cmpS_eq.2 k.1) h⟩
theorem cmpP_neg (a b c d : ByteArray) : cmpP c d a b = - cmpP a b c d := by
  unfold cmpP
  have h1 := cmpS_neg a c
  have h2 := cmpS_neg b d
  by_cases h : cmpS a c = 0
  · rw [if_pos h, if_pos (by omega)]; exact h2
  · rw [if_neg h, if_neg (by omega)]; exact h1
theorem cmpP_trans {a b c d e f : ByteArray} (h : cmpP a b c d < 0) (k : cmpP c d e f < 0) : cmpP a b e f < 0 := by
  unfold cmpP at *
  by_cases h1 : cmpS a c = 0
  · rw [if_pos h1] at h
    obtain rfl := cmpS_eq.1 h1
    by_cases h2 : cmpS a e = 0
    · rw [if_pos h2] at k ⊢
      exact cmpS_trans h k
    · rw [if_neg h2] at k ⊢
      exact k
  · rw [if_neg h1] at h
    by_cases h2 : cmpS c e = 0
    · obtain rfl := cmpS_eq.1 h2
      rw [if_neg h1]
      exact h
    · rw [if_neg h2] at k
      have h3 := cmpS_trans h k
      rw [if_neg (by omega)]
      exact h3

/-- an entry: a watcher, a user, from, to -/
structure EnM where
  w : ByteArray
  u : ByteArray
  f : Int
  t : Int
instance : Inhabited EnM := ⟨⟨ByteArray.empty, ByteArray.empty, 0, 0⟩⟩
theorem EnM.same {a b : EnM} (h1 : a.w = b.w) (h2 : a.u = b.u) (h3 : a.f = b.f) (h4 : a.t = b.t) : a = b := by
  obtain ⟨_, _, _, _⟩ := a
  obtain ⟨_, _, _, _⟩ := b
  simp only at h1 h2 h3 h4
  rw [h1, h2, h3, h4]
theorem EnM.iff {a b : EnM} : a = b ↔ a.w = b.w ∧ a.u = b.u ∧ a.f = b.f ∧ a.t = b.t := ⟨fun h => by rw [h]; exact ⟨rfl, rfl, rfl, rfl⟩, fun h => EnM.same h.1 h.2.1 h.2.2.1 h.2.2.2⟩
instance enDec : DecidableEq EnM := fun a b => decidable_of_iff (a.w = b.w ∧ a.u = b.u ∧ a.f = b.f ∧ a.t = b.t) EnM.iff.symm
/-- its times -/
def EnM.sp (a : EnM) : SpM := ⟨a.f, a.t⟩
/-- how the pairs of two entries compare -/
def pc (a b : EnM) : Int := cmpP a.w a.u b.w b.u
theorem pc_eq {a b : EnM} : pc a b = 0 ↔ a.w = b.w ∧ a.u = b.u := cmpP_eq
theorem pc_neg (a b : EnM) : pc b a = - pc a b := cmpP_neg _ _ _ _
theorem pc_trans {a b c : EnM} (h : pc a b < 0) (k : pc b c < 0) : pc a c < 0 := cmpP_trans h k
theorem pc_left {a b c : EnM} (h : pc a b = 0) : pc a c = pc b c := by
  obtain ⟨h1, h2⟩ := pc_eq.1 h
  unfold pc
  rw [h1, h2]
theorem pc_right {a b c : EnM} (h : pc b c = 0) : pc a b = pc a c := by
  obtain ⟨h1, h2⟩ := pc_eq.1 h
  unfold pc
  rw [h1, h2]
/-- does a come ahead of b? -/
def aheadE (a b : EnM) : Prop := pc a b < 0 ∨ (pc a b = 0 ∧ a.f < b.f)
instance aheadDec (a b : EnM) : Decidable (aheadE a b) := by unfold aheadE; infer_instance
/-- is it of that pair? -/
def ofE (w u : ByteArray) (e : EnM) : Bool := decide (e.w = w ∧ e.u = u)
theorem ofE_iff {w u : ByteArray} {e : EnM} : ofE w u e = true ↔ e.w = w ∧ e.u = u := decide_eq_true_iff
/-- is it of that pair, and in force? -/
def infE (w u : ByteArray) (e : EnM) : Bool := ofE w u e && decide (e.t = 1099511627776)
theorem infE_iff {w u : ByteArray} {e : EnM} : infE w u e = true ↔ e.w = w ∧ e.u = u ∧ e.t = 1099511627776 := by
  unfold infE
  rw [Bool.and_eq_true, ofE_iff, decide_eq_true_iff, and_assoc]
def mkE (w u : ByteArray) (a : Int) : EnM := ⟨w, u, a, 1099511627776⟩

/-! ### where the first one stands -/
structure IsFirst (p : EnM → Bool) (l : List EnM) (k : Nat) : Prop where
  le : k ≤ l.length
  low : ∀ i (h : i < l.length), i < k → p l[i] = false
  hit : ∀ (h : k < l.length), p l[k] = true
theorem first_idx (p : EnM → Bool) (l : List EnM) : IsFirst p l (l.findIdx p) :=
  ⟨List.findIdx_le_length, fun i h h1 => by simpa using List.not_of_lt_findIdx h1, fun h => List.findIdx_getElem (w := h)⟩
theorem IsFirst.only {p : EnM → Bool} {l : List EnM} {a b : Nat} (ha : IsFirst p l a) (hb : IsFirst p l b) : a = b := by
  have h1 := ha.le
  have h2 := hb.le
  rcases Nat.lt_trichotomy a b with h | h | h
  · have k1 := ha.hit (by omega)
    rw [hb.low a (by omega) h] at k1
    cases k1
  · exact h
  · have k1 := hb.hit (by omega)
    rw [ha.low b (by omega) h] at k1
    cases k1
theorem IsFirst.idx {p : EnM → Bool} {l : List EnM} {k : Nat} (h : IsFirst p l k) : l.findIdx p = k := (first_idx p l).only h
theorem IsFirst.any {p : EnM → Bool} {l : List EnM} {k : Nat} (h : IsFirst p l k) : l.any p = decide (k < l.length) := by
  by_cases h1 : k < l.length
  · rw [decide_eq_true h1, List.any_eq_true]
    exact ⟨_, List.getElem_mem h1, h.hit h1⟩
  · rw [decide_eq_false h1, List.any_eq_false]
    intro x hx
    obtain ⟨i, hi, rfl⟩ := List.getElem_of_mem hx
    rw [h.low i hi (by omega)]
    exact Bool.false_ne_true

/-! ### a grant, a revoke -/
def grantS (l : List EnM) (e : EnM) : List EnM := l.take (l.findIdx fun x => decide (aheadE e x)) ++ e :: l.drop (l.findIdx fun x => decide (aheadE e x))
def endS (e : EnM) (a : Int) : List EnM := if a ≤ e.f then [] else [⟨e.w, e.u, e.f, a⟩]
def cutS (l : List EnM) (k : Nat) (a : Int) : List EnM := match l[k]? with
  | some e => l.take k ++ (endS e a ++ l.drop (k + 1))
  | none => l
def revokeS (l : List EnM) (w u : ByteArray) (a : Int) : List EnM := cutS l (l.findIdx (infE w u)) a
theorem grant_at {l : List EnM} {e : EnM} {k : Nat} (h : IsFirst (fun x => decide (aheadE e x)) l k) : grantS l e = l.take k ++ e :: l.drop k := by
  unfold grantS
  rw [h.idx]
theorem cut_at {l : List EnM} {k : Nat} (h : k < l.length) (a : Int) : cutS l k a = l.take k ++ (endS l[k] a ++ l.drop (k + 1)) := by
  unfold cutS
  rw [List.getElem?_eq_getElem h]
theorem revoke_at {l : List EnM} {w u : ByteArray} {k : Nat} (h : IsFirst (infE w u) l k) (a : Int) : revokeS l w u a = cutS l k a := by
  unfold revokeS
  rw [h.idx]
theorem endS_len (e : EnM) (a : Int) : (endS e a).length ≤ 1 := by
  unfold endS
  split <;> simp
theorem grant_len (l : List EnM) (e : EnM) : (grantS l e).length = l.length + 1 := by
  have h := (first_idx (fun x => decide (aheadE e x)) l).le
  unfold grantS
  generalize l.findIdx _ = k at *
  simp only [List.length_append, List.length_take, List.length_cons, List.length_drop]
  omega
theorem cut_len (l : List EnM) (k : Nat) (a : Int) : (cutS l k a).length ≤ l.length := by
  by_cases h : k < l.length
  · have h1 := endS_len l[k] a
    rw [cut_at h]
    simp only [List.length_append, List.length_take, List.length_drop]
    omega
  · unfold cutS
    rw [List.getElem?_eq_none (by omega)]
    exact Nat.le_refl _
theorem revoke_len (l : List EnM) (w u : ByteArray) (a : Int) : (revokeS l w u a).length ≤ l.length := cut_len _ _ _
theorem split_at {l : List EnM} {k : Nat} (h : k < l.length) : l = l.take k ++ (l[k] :: l.drop (k + 1)) := by
  rw [← List.drop_eq_getElem_cons h, List.take_append_drop]

/-! ### periods -/
def perS (l : List EnM) (w u : ByteArray) : List SpM := (l.filter (ofE w u)).map EnM.sp
theorem per_len (l : List EnM) (w u : ByteArray) : (perS l w u).length ≤ l.length := by
  unfold perS
  rw [List.length_map]
  exact List.length_filter_le _ _
theorem per_has {l : List EnM} {w u : ByteArray} {x : Int} : HasL (perS l w u) x ↔ ∃ e ∈ l, (e.w = w ∧ e.u = u) ∧ e.f ≤ x ∧ x < e.t := by
  unfold HasL perS
  constructor
  · rintro ⟨s, hs, h1, h2⟩
    obtain ⟨e, he, rfl⟩ := List.mem_map.1 hs
    obtain ⟨he1, he2⟩ := List.mem_filter.1 he
    exact ⟨e, he1, ofE_iff.1 he2, h1, h2⟩
  · rintro ⟨e, he, h, h1, h2⟩
    exact ⟨e.sp, List.mem_map.2 ⟨e, List.mem_filter.2 ⟨he, ofE_iff.2 h⟩, rfl⟩, h1, h2⟩
theorem ofE_other {e : EnM} {w u w' u' : ByteArray} (h : e.w = w ∧ e.u = u) (hne : ¬ (w = w' ∧ u = u')) : ofE w' u' e = false := by
  cases hc : ofE w' u' e with
  | false => rfl
  | true =>
    obtain ⟨h1, h2⟩ := ofE_iff.1 hc
    exact absurd ⟨h.1.symm.trans h1, h.2.symm.trans h2⟩ hne
theorem per_grant {l : List EnM} {w u w' u' : ByteArray} {a : Int} (hne : ¬ (w = w' ∧ u = u')) : perS (grantS l (mkE w u a)) w' u' = perS l w' u' := by
  unfold perS grantS
  congr 1
  rw [List.filter_append, List.filter_cons_of_neg (by rw [ofE_other (e := mkE w u a) ⟨rfl, rfl⟩ hne]; exact Bool.false_ne_true), ← List.filter_append, List.take_append_drop]
theorem end_other {e : EnM} {w u w' u' : ByteArray} {a : Int} (h : e.w = w ∧ e.u = u) (hne : ¬ (w = w' ∧ u = u')) : (endS e a).filter (ofE w' u') = [] := by
  unfold endS
  split
  · rfl
  · rw [List.filter_cons_of_neg (by rw [ofE_other (e := ⟨e.w, e.u, e.f, a⟩) h hne]; exact Bool.false_ne_true)]
    rfl
theorem per_revoke {l : List EnM} {w u w' u' : ByteArray} {a : Int} (hne : ¬ (w = w' ∧ u = u')) : perS (revokeS l w u a) w' u' = perS l w' u' := by
  have h := first_idx (infE w u) l
  unfold revokeS
  generalize l.findIdx (infE w u) = k at *
  by_cases hk : k < l.length
  · have h1 := infE_iff.1 (h.hit hk)
    rw [cut_at hk]
    unfold perS
    congr 1
    conv => rhs; rw [split_at hk]
    rw [List.filter_append, List.filter_append, end_other ⟨h1.1, h1.2.1⟩ hne, List.filter_append, List.filter_cons_of_neg (by rw [ofE_other ⟨h1.1, h1.2.1⟩ hne]; exact Bool.false_ne_true), List.nil_append]
  · unfold cutS
    rw [List.getElem?_eq_none (by omega)]

/-! ### rising -/
def nameB (s : ByteArray) : Bool := isName s.data.toList
def OkE (e : EnM) : Prop := e.f < e.t ∧ nameB e.w = true ∧ nameB e.u = true
instance okDec (e : EnM) : Decidable (OkE e) := by unfold OkE; infer_instance
def FolE (a b : EnM) : Prop := aheadE a b ∧ (a.w = b.w ∧ a.u = b.u → a.t ≤ b.f)
instance folDec (a b : EnM) : Decidable (FolE a b) := by unfold FolE; infer_instance
def RiseE (l : List EnM) : Prop := ∀ k (h : k < l.length), OkE l[k] ∧ (0 < k → FolE (l[k - 1]'(by omega)) l[k])
instance riseEDec (l : List EnM) : Decidable (RiseE l) := by unfold RiseE; infer_instance
def BelE (a b : EnM) : Prop := pc a b < 0 ∨ (pc a b = 0 ∧ a.t ≤ b.f)
theorem fol_bel {a b : EnM} (h : FolE a b) : BelE a b := by
  obtain ⟨h1, h2⟩ := h
  rcases h1 with h1 | ⟨h1, h3⟩
  · exact Or.inl h1
  · exact Or.inr ⟨h1, h2 (pc_eq.1 h1)⟩
theorem bel_fol {a b : EnM} (h : BelE a b) (ha : a.f < a.t) : FolE a b := by
  rcases h with h | ⟨h, h1⟩
  · exact ⟨Or.inl h, fun k => by have := pc_eq.2 k; omega⟩
  · exact ⟨Or.inr ⟨h, by omega⟩, fun _ => h1⟩
theorem bel_trans {a b c : EnM} (h : BelE a b) (k : BelE b c) (hb : b.f < b.t) : BelE a c := by
  rcases h with h | ⟨h, h1⟩
  · rcases k with k | ⟨k, k1⟩
    · exact Or.inl (pc_trans h k)
    · exact Or.inl (by rw [← pc_right k]; exact h)
  · rcases k with k | ⟨k, k1⟩
    · exact Or.inl (by rw [pc_left h]; exact k)
    · exact Or.inr ⟨by rw [pc_left h]; exact k, by omega⟩
theorem riseE_iff {l : List EnM} : RiseE l ↔ (∀ e ∈ l, OkE e) ∧ l.Pairwise BelE := by
  constructor
  · intro h
    refine ⟨fun s hs => ?_, ?_⟩
    · obtain ⟨k, hk, rfl⟩ := List.getElem_of_mem hs
      exact (h k hk).1
    · rw [List.pairwise_iff_getElem]
      intro i j hi hj hij
      induction j with
      | zero => omega
      | succ j ih =>
        have h1 := fol_bel ((h (j + 1) hj).2 (by omega))
        rcases Nat.lt_or_ge i j with h2 | h2
        · exact bel_trans (ih (by omega) h2) h1 (h j (by omega)).1.1
        · obtain rfl : i = j := by omega
          exact h1
  · rintro ⟨h1, h2⟩ k hk
    exact ⟨h1 _ (List.getElem_mem hk), fun h0 => bel_fol (List.pairwise_iff_getElem.1 h2 (k - 1) k (by omega) hk (by omega)) (h1 _ (List.getElem_mem _)).1⟩
theorem rise_filter {l : List EnM} (h : RiseE l) (p : EnM → Bool) : RiseE (l.filter p) := by
  rw [riseE_iff] at *
  exact ⟨fun e he => h.1 e (List.mem_filter.1 he).1, h.2.sublist List.filter_sublist⟩

/-! ### without somebody; behind a time -/
def withoutS (l : List EnM) (s : ByteArray) : List EnM := l.filter fun e => decide (e.w ≠ s) && decide (e.u ≠ s)
def aftE (l : List EnM) (t : Int) : List EnM := l.filter fun e => decide (t < e.t)
theorem without_of {l : List EnM} {s w u : ByteArray} (h : w = s ∨ u = s) : (withoutS l s).filter (ofE w u) = [] := by
  rw [List.filter_eq_nil_iff]
  intro e he hc
  obtain ⟨h1, h2⟩ := ofE_iff.1 hc
  have h3 := (List.mem_filter.1 he).2
  rw [Bool.and_eq_true, decide_eq_true_iff, decide_eq_true_iff, h1, h2] at h3
  rcases h with h | h
  · exact h3.1 h
  · exact h3.2 h
theorem without_per {l : List EnM} {s w u : ByteArray} (h : ¬ (w = s ∨ u = s)) : perS (withoutS l s) w u = perS l w u := by
  unfold perS withoutS
  rw [List.filter_filter]
  congr 2
  funext e
  cases hc : ofE w u e with
  | false => rfl
  | true =>
    obtain ⟨h1, h2⟩ := ofE_iff.1 hc
    rw [h1, h2, decide_eq_true (show w ≠ s from fun e => h (Or.inl e)), decide_eq_true (show u ≠ s from fun e => h (Or.inr e))]
    rfl
theorem without_none {l : List EnM} {s w u : ByteArray} (h : w = s ∨ u = s) : perS (withoutS l s) w u = [] := by
  unfold perS
  rw [without_of h]
  rfl
theorem without_inf {l : List EnM} {s w u : ByteArray} (h : w = s ∨ u = s) : (withoutS l s).any (infE w u) = false := by
  rw [List.any_eq_false]
  intro e he hc
  have h1 := infE_iff.1 hc
  have h2 : e ∈ (withoutS l s).filter (ofE w u) := List.mem_filter.2 ⟨he, ofE_iff.2 ⟨h1.1, h1.2.1⟩⟩
  rw [without_of h] at h2
  cases h2

/-! ### a grant that is revoked at once -/
theorem grant_back {l : List EnM} {w u : ByteArray} {a : Int} (h : l.any (infE w u) = false) : revokeS (grantS l (mkE w u a)) w u a = l ∧ (grantS l (mkE w u a)).any (infE w u) = true := by
  have hno : ∀ e ∈ l, infE w u e = false := fun e he => by
    have := List.any_eq_false.1 h e he
    simpa using this
  have hle := (first_idx (fun x => decide (aheadE (mkE w u a) x)) l).le
  unfold grantS
  generalize l.findIdx _ = k at *
  have hlen : (l.take k).length = k := by rw [List.length_take]; omega
  have hk : k < (l.take k ++ mkE w u a :: l.drop k).length := by rw [List.length_append, hlen, List.length_cons]; omega
  have hg : (l.take k ++ mkE w u a :: l.drop k)[k] = mkE w u a := by
    rw [List.getElem_append_right (by omega)]
    simp [hlen]
  have hF : IsFirst (infE w u) (l.take k ++ mkE w u a :: l.drop k) k := ⟨Nat.le_of_lt hk, fun i hi hik => by
    rw [List.getElem_append_left (by omega)]
    exact hno _ (List.mem_of_mem_take (List.getElem_mem _)), fun _ => by rw [hg]; exact infE_iff.2 ⟨rfl, rfl, rfl⟩⟩
  refine ⟨?_, by rw [hF.any]; exact decide_eq_true hk⟩
  rw [revoke_at hF, cut_at hk, hg]
  unfold endS
  rw [if_pos (show a ≤ (mkE w u a).f from Int.le_refl a), List.nil_append, List.take_append_of_le_length (by omega), List.take_of_length_le (by omega), List.drop_append, hlen, List.drop_of_length_le (by omega), List.nil_append, show k + 1 - k = 1 by omega, List.drop_one, List.tail_cons, List.take_append_drop]

/-! ### grants and revokes at times that never fall -/
structure GoE (m : List EnM) (a : Int) : Prop where
  rise : RiseE m
  bnd : ∀ e ∈ m, 0 ≤ e.f ∧ e.f ≤ a ∧ (e.t = 1099511627776 ∨ e.t ≤ a)
theorem GoE.nil : GoE [] 0 := ⟨fun k h => absurd h (by simp), fun e h => by cases h⟩
theorem pair_mid {A B : List EnM} {R : EnM → EnM → Prop} : (A ++ B).Pairwise R ↔ A.Pairwise R ∧ B.Pairwise R ∧ ∀ x ∈ A, ∀ y ∈ B, R x y := List.pairwise_append
theorem GoE.grant {m : List EnM} {a b : Int} {w u : ByteArray} (h : GoE m a) (ha : 0 ≤ a) (hab : a ≤ b) (hb : b < 1099511627776) (hw : nameB w = true) (hu : nameB u = true) (hi : m.any (infE w u) = false) :
    GoE (grantS m (mkE w u b)) b ∧ (∀ x, HasL (perS (grantS m (mkE w u b)) w u) x ↔ HasL (perS m w u) x ∨ (b ≤ x ∧ x < 1099511627776)) ∧ (grantS m (mkE w u b)).any (infE w u) = true := by
  have hno : ∀ e ∈ m, e.w = w ∧ e.u = u → e.t ≤ a := fun e he hp => by
    have h1 := List.any_eq_false.1 hi e he
    rcases (h.bnd e he).2.2 with h2 | h2
    · exact absurd (infE_iff.2 ⟨hp.1, hp.2, h2⟩) h1
    · exact h2
  have hF := first_idx (fun x => decide (aheadE (mkE w u b) x)) m
  have hB := (grant_back (a := b) hi).2
  obtain ⟨hok, hpw⟩ := riseE_iff.1 h.rise
  rw [grant_at hF] at hB ⊢
  generalize m.findIdx _ = k at *
  have hlo : ∀ x ∈ m.take k, BelE x (mkE w u b) := fun x hx => by
    have hxm := List.mem_of_mem_take hx
    obtain ⟨i, hi, rfl⟩ := List.getElem_of_mem hx
    rw [List.length_take] at hi
    rw [List.getElem_take] at *
    have h1 := hF.low i (by omega) (by omega)
    rw [decide_eq_false_iff_not] at h1
    generalize m[i] = y at *
    rcases Int.lt_trichotomy (pc y (mkE w u b)) 0 with h2 | h2 | h2
    · exact Or.inl h2
    · exact Or.inr ⟨h2, Int.le_trans (hno y hxm (pc_eq.1 h2)) hab⟩
    · exact absurd (Or.inl (by have := pc_neg y (mkE w u b); omega)) h1
  have hhi : ∀ y ∈ m.drop k, BelE (mkE w u b) y := fun y hy => by
    by_cases hk : k < m.length
    · have h1 : aheadE (mkE w u b) m[k] := of_decide_eq_true (hF.hit hk)
      have hmk := List.getElem_mem hk
      have h2 : pc (mkE w u b) m[k] < 0 := by
        rcases h1 with h1 | ⟨h1, h2⟩
        · exact h1
        · have h3 := (h.bnd _ hmk).2.1
          have h4 : b < m[k].f := h2
          omega
      have h5 : BelE m[k] y ∨ m[k] = y := by
        rw [List.drop_eq_getElem_cons hk] at hy
        rcases List.mem_cons.1 hy with h6 | h6
        · exact Or.inr h6.symm
        · left
          obtain ⟨j, hj, rfl⟩ := List.getElem_of_mem h6
          rw [List.getElem_drop]
          exact List.pairwise_iff_getElem.1 hpw k _ hk (by rw [List.length_drop] at hj; omega) (by omega)
      rcases h5 with h5 | h5
      · exact bel_trans (Or.inl h2) h5 (hok _ hmk).1
      · rw [← h5]; exact Or.inl h2
    · rw [List.drop_of_length_le (by omega)] at hy; cases hy
  have hmem : ∀ e, e ∈ m.take k ++ mkE w u b :: m.drop k ↔ e ∈ m ∨ e = mkE w u b := fun e => by
    conv => rhs; rw [← List.take_append_drop k m]
    simp only [List.mem_append, List.mem_cons]
    constructor
    · rintro (h | h | h)
      · exact Or.inl (Or.inl h)
      · exact Or.inr h
      · exact Or.inl (Or.inr h)
    · rintro ((h | h) | h)
      · exact Or.inl h
      · exact Or.inr (Or.inr h)
      · exact Or.inr (Or.inl h)
  refine ⟨⟨riseE_iff.2 ⟨fun e he => ?_, ?_⟩, fun e he => ?_⟩, fun x => ?_, hB⟩
  · rcases (hmem e).1 he with h1 | rfl
    · exact hok e h1
    · exact ⟨hb, hw, hu⟩
  · rw [pair_mid, List.pairwise_cons]
    conv at hpw => rw [← List.take_append_drop k m, pair_mid]
    refine ⟨hpw.1, ⟨hhi, hpw.2.1⟩, fun x hx y hy => ?_⟩
    rcases List.mem_cons.1 hy with rfl | hy
    · exact hlo x hx
    · exact hpw.2.2 x hx y hy
  · rcases (hmem e).1 he with h1 | rfl
    · obtain ⟨h2, h3, h4⟩ := h.bnd e h1
      exact ⟨h2, by omega, by omega⟩
    · exact ⟨by show 0 ≤ b; omega, Int.le_refl b, Or.inl rfl⟩
  · rw [per_has, per_has]
    constructor
    · rintro ⟨e, he, hp, h1, h2⟩
      rcases (hmem e).1 he with h3 | rfl
      · exact Or.inl ⟨e, h3, hp, h1, h2⟩
      · exact Or.inr ⟨h1, h2⟩
    · rintro (⟨e, he, hp, h1⟩ | h1)
      · exact ⟨e, (hmem e).2 (Or.inl he), hp, h1⟩
      · exact ⟨_, (hmem _).2 (Or.inr rfl), ⟨rfl, rfl⟩, h1⟩
theorem GoE.revoke {m : List EnM} {a b : Int} {w u : ByteArray} (h : GoE m a) (ha : 0 ≤ a) (hab : a ≤ b) (hb : b < 1099511627776) (hi : m.any (infE w u) = true) :
    GoE (revokeS m w u b) b ∧ (∀ x, HasL (perS (revokeS m w u b) w u) x ↔ HasL (perS m w u) x ∧ ¬ (b ≤ x ∧ x < 1099511627776)) ∧ (revokeS m w u b).any (infE w u) = false := by
  have hF := first_idx (infE w u) m
  rw [revoke_at hF]
  generalize m.findIdx _ = k at *
  have hk : k < m.length := by rw [hF.any] at hi; exact of_decide_eq_true hi
  obtain ⟨hok, hpw⟩ := riseE_iff.1 h.rise
  have hmk := List.getElem_mem hk
  obtain ⟨hkw, hku, hkt⟩ := infE_iff.1 (hF.hit hk)
  have hbk := h.bnd _ hmk
  -- every other entry of the pair has ended
  have hoth : ∀ i (hi : i < m.length), i ≠ k → (m[i].w = w ∧ m[i].u = u) → m[i].t ≤ a := fun i hi hne hp => by
    rcases (h.bnd _ (List.getElem_mem hi)).2.2 with h2 | h2
    · have hp0 : pc m[i] m[k] = 0 := pc_eq.2 ⟨hp.1.trans hkw.symm, hp.2.trans hku.symm⟩
      have hn := pc_neg m[i] m[k]
      have hfi := (h.bnd _ (List.getElem_mem hi)).2.1
      rcases Nat.lt_or_ge i k with h3 | h3
      · rcases List.pairwise_iff_getElem.1 hpw i k hi hk h3 with h4 | ⟨_, h4⟩
        · omega
        · omega
      · rcases List.pairwise_iff_getElem.1 hpw k i hk hi (by omega) with h4 | ⟨_, h4⟩
        · omega
        · omega
    · exact h2
  have hsplit : ∀ e, e ∈ m → e = m[k] ∨ (e ∈ m.take k ++ m.drop (k + 1)) := fun e he => by
    rw [split_at hk, List.mem_append, List.mem_cons] at he
    rw [List.mem_append]
    rcases he with h1 | h1 | h1
    · exact Or.inr (Or.inl h1)
    · exact Or.inl h1
    · exact Or.inr (Or.inr h1)
  have hidx : ∀ e, e ∈ m.take k ++ m.drop (k + 1) → e ∈ m ∧ ((e.w = w ∧ e.u = u) → e.t ≤ a) := fun e he => by
    rcases List.mem_append.1 he with h1 | h1
    · refine ⟨List.mem_of_mem_take h1, ?_⟩
      obtain ⟨i, hi, rfl⟩ := List.getElem_of_mem h1
      rw [List.length_take] at hi
      rw [List.getElem_take]
      exact hoth i (by omega) (by omega)
    · refine ⟨List.mem_of_mem_drop h1, ?_⟩
      obtain ⟨i, hi, rfl⟩ := List.getElem_of_mem h1
      rw [List.length_drop] at hi
      rw [List.getElem_drop]
      exact hoth (k + 1 + i) (by omega) (by omega)
  have hend : ∀ e, e ∈ endS m[k] b ↔ m[k].f < b ∧ e = ⟨m[k].w, m[k].u, m[k].f, b⟩ := fun e => by
    unfold endS
    split
    · exact ⟨fun h => by (cases h), fun h => by omega⟩
    · rw [List.mem_singleton]
      exact ⟨fun h => ⟨by omega, h⟩, fun h => h.2⟩
  have hmem : ∀ e, e ∈ m.take k ++ (endS m[k] b ++ m.drop (k + 1)) ↔ e ∈ m.take k ++ m.drop (k + 1) ∨ e ∈ endS m[k] b := fun e => by
    simp only [List.mem_append]
    constructor
    · rintro (h | h | h)
      · exact Or.inl (Or.inl h)
      · exact Or.inr h
      · exact Or.inl (Or.inr h)
    · rintro ((h | h) | h)
      · exact Or.inl h
      · exact Or.inr (Or.inr h)
      · exact Or.inr (Or.inl h)
  have hpk : ∀ c : EnM, pc (⟨m[k].w, m[k].u, m[k].f, b⟩ : EnM) c = pc m[k] c := fun c => rfl
  have hpk2 : ∀ c : EnM, pc c (⟨m[k].w, m[k].u, m[k].f, b⟩ : EnM) = pc c m[k] := fun c => rfl
  rw [cut_at hk]
  refine ⟨⟨riseE_iff.2 ⟨fun e he => ?_, ?_⟩, fun e he => ?_⟩, fun x => ?_, ?_⟩
  · rcases (hmem e).1 he with h1 | h1
    · exact hok e (hidx e h1).1
    · obtain ⟨h2, rfl⟩ := (hend e).1 h1
      exact ⟨h2, (hok _ hmk).2⟩
  · have hpw2 := hpw
    conv at hpw2 => rw [split_at hk, pair_mid, List.pairwise_cons]
    obtain ⟨p1, ⟨p2, p3⟩, p4⟩ := hpw2
    rw [pair_mid, pair_mid]
    refine ⟨p1, ⟨?_, p3, fun x hx y hy => ?_⟩, fun x hx y hy => ?_⟩
    · unfold endS
      split
      · exact List.Pairwise.nil
      · exact List.pairwise_singleton _ _
    · obtain ⟨h2, rfl⟩ := (hend x).1 hx
      rcases p2 y hy with h3 | ⟨h3, h4⟩
      · exact Or.inl h3
      · have := (h.bnd y (hidx y (List.mem_append_right _ hy)).1).2.1
        omega
    · rcases List.mem_append.1 hy with hy | hy
      · obtain ⟨h2, rfl⟩ := (hend y).1 hy
        exact p4 x hx m[k] (List.mem_cons_self)
      · exact p4 x hx y (List.mem_cons_of_mem _ hy)
  · rcases (hmem e).1 he with h1 | h1
    · obtain ⟨h2, h3, h4⟩ := h.bnd e (hidx e h1).1
      exact ⟨h2, by omega, by omega⟩
    · obtain ⟨h2, rfl⟩ := (hend e).1 h1
      exact ⟨hbk.1, by show m[k].f ≤ b; omega, Or.inr (Int.le_refl b)⟩
  · rw [per_has, per_has]
    constructor
    · rintro ⟨e, he, hp, h1, h2⟩
      rcases (hmem e).1 he with h3 | h3
      · have := (hidx e h3).2 hp
        exact ⟨⟨e, (hidx e h3).1, hp, h1, h2⟩, by omega⟩
      · obtain ⟨h4, rfl⟩ := (hend e).1 h3
        have h1' : m[k].f ≤ x := h1
        have h2' : x < b := h2
        exact ⟨⟨_, hmk, ⟨hkw, hku⟩, h1', by omega⟩, by omega⟩
    · rintro ⟨⟨e, he, hp, h1, h2⟩, h3⟩
      rcases hsplit e he with rfl | h4
      · have h5 : x < b := by omega
        exact ⟨⟨m[k].w, m[k].u, m[k].f, b⟩, (hmem _).2 (Or.inr ((hend _).2 ⟨by omega, rfl⟩)), hp, h1, h5⟩
      · exact ⟨e, (hmem e).2 (Or.inl h4), hp, h1, h2⟩
  · rw [List.any_eq_false]
    intro e he hc
    obtain ⟨h1, h2, h3⟩ := infE_iff.1 hc
    rcases (hmem e).1 he with h4 | h4
    · have := (hidx e h4).2 ⟨h1, h2⟩
      omega
    · obtain ⟨_, rfl⟩ := (hend e).1 h4
      have h5 : b = 1099511627776 := h3
      omega
end Go.Proofs.Ythaancmobpamhaa
