/- Layer 8: plain mathematics of stays: their order, one more, what is left within spans, how many have a time. -/
import Derived.Test.YtlgicjebaehgeaaW0
namespace Go.Proofs.Ytlgicjebaehgeaa
set_option linter.unusedVariables false
set_option maxRecDepth 100000

/-- a stay: from, to, a session, a status -/
structure StM where
  f : Int
  t : Int
  n : Int
  s : Int
instance : Inhabited StM := ⟨⟨0, 0, 0, 0⟩⟩
theorem StM.same {a b : StM} (h1 : a.f = b.f) (h2 : a.t = b.t) (h3 : a.n = b.n) (h4 : a.s = b.s) : a = b := by
  obtain ⟨_, _, _, _⟩ := a
  obtain ⟨_, _, _, _⟩ := b
  simp only at h1 h2 h3 h4
  rw [h1, h2, h3, h4]
theorem StM.iff {a b : StM} : a = b ↔ a.f = b.f ∧ a.t = b.t ∧ a.n = b.n ∧ a.s = b.s := ⟨fun h => by rw [h]; exact ⟨rfl, rfl, rfl, rfl⟩, fun h => StM.same h.1 h.2.1 h.2.2.1 h.2.2.2⟩
instance stDec : DecidableEq StM := fun a b => decidable_of_iff (a.f = b.f ∧ a.t = b.t ∧ a.n = b.n ∧ a.s = b.s) StM.iff.symm
/-- its times -/
def StM.sp (a : StM) : SpM := ⟨a.f, a.t⟩
/-- is a ahead of b? -/
def ltSt (a b : StM) : Prop := a.f < b.f ∨ (a.f = b.f ∧ (a.t < b.t ∨ (a.t = b.t ∧ (a.n < b.n ∨ (a.n = b.n ∧ a.s < b.s)))))
instance ltStDec (a b : StM) : Decidable (ltSt a b) := by unfold ltSt; infer_instance
theorem ltSt_irrefl (a : StM) : ¬ ltSt a a := by unfold ltSt; omega
theorem ltSt_trans {a b c : StM} (h : ltSt a b) (k : ltSt b c) : ltSt a c := by unfold ltSt at *; omega
theorem ltSt_asymm {a b : StM} (h : ltSt a b) : ¬ ltSt b a := by unfold ltSt at *; omega
theorem ltSt_tri {a b : StM} (h : ¬ ltSt a b) (k : ¬ ltSt b a) : a = b := by
  unfold ltSt at *
  exact StM.same (by omega) (by omega) (by omega) (by omega)
theorem leSt_trans {a b c : StM} (h : ¬ ltSt b a) (k : ¬ ltSt c b) : ¬ ltSt c a := by unfold ltSt at *; omega
theorem ltSt_of_le {a b : StM} (h : ¬ ltSt b a) (k : a ≠ b) : ltSt a b := by
  by_cases h1 : ltSt a b
  · exact h1
  · exact absurd (ltSt_tri h1 h) k
theorem ltSt_le {a b c : StM} (h : ltSt a b) (k : ¬ ltSt c b) : ltSt a c := by unfold ltSt at *; omega
theorem le_ltSt {a b c : StM} (h : ¬ ltSt b a) (k : ltSt b c) : ltSt a c := by unfold ltSt at *; omega
/-- -1, 0, 1 -/
def cmpSt (a b : StM) : Int := if ltSt a b then -1 else if ltSt b a then 1 else 0
/-- rising, or alike -/
def SortedS (l : List StM) : Prop := l.Pairwise (fun a b => ¬ ltSt b a)
theorem sorted_only {a b : List StM} (ha : SortedS a) (hb : SortedS b) (h : a.Perm b) : a = b :=
  h.eq_of_pairwise (fun x y _ _ h1 h2 => ltSt_tri h2 h1) ha hb
/-- rising, each with some time -/
def RiseS (l : List StM) : Prop := ∀ k (h : k < l.length), l[k].f < l[k].t ∧ (0 < k → ltSt (l[k - 1]'(by omega)) l[k])
instance riseDec (l : List StM) : Decidable (RiseS l) := by unfold RiseS; infer_instance
theorem rise_iff {l : List StM} : RiseS l ↔ (∀ s ∈ l, s.f < s.t) ∧ l.Pairwise ltSt := by
  constructor
  · intro h
    refine ⟨fun s hs => ?_, ?_⟩
    · obtain ⟨k, hk, rfl⟩ := List.getElem_of_mem hs
      exact (h k hk).1
    · rw [List.pairwise_iff_getElem]
      intro i j hi hj hij
      induction j with
      | zero => omega
      | succ j ih =>
        have h1 := (h (j + 1) hj).2 (by omega)
        rcases Nat.lt_or_ge i j with h2 | h2
        · exact ltSt_trans (ih (by omega) h2) h1
        · obtain rfl : i = j := by omega
          exact h1
  · rintro ⟨h1, h2⟩ k hk
    exact ⟨h1 _ (List.getElem_mem hk), fun h0 => List.pairwise_iff_getElem.1 h2 (k - 1) k (by omega) hk (by omega)⟩
theorem rise_sorted {l : List StM} (h : RiseS l) : SortedS l := (rise_iff.1 h).2.imp ltSt_asymm

/-! ### one more stay -/
structure IsPos (l : List StM) (s : StM) (k : Nat) : Prop where
  le : k ≤ l.length
  up : ∀ j (h : j < l.length), k ≤ j → ltSt s l[j]
  low : ∀ (h : 0 < k) (h1 : k - 1 < l.length), ¬ ltSt s l[k - 1]
theorem IsPos.only {l : List StM} {s : StM} {a b : Nat} (ha : IsPos l s a) (hb : IsPos l s b) : a = b := by
  have h1 := ha.le
  have h2 := hb.le
  rcases Nat.lt_trichotomy a b with h | h | h
  · exact absurd (ha.up (b - 1) (by omega) (by omega)) (hb.low (by omega) (by omega))
  · exact h
  · exact absurd (hb.up (a - 1) (by omega) (by omega)) (ha.low (by omega) (by omega))
def posS : List StM → StM → Nat
  | [], _ => 0
  | x :: l, s => if posS l s = 0 then (if ltSt s x then 0 else 1) else posS l s + 1
theorem get_pred {l : List StM} {x : StM} {q : Nat} (h0 : ¬ q = 0) (hq : q ≤ l.length) (h1 : q + 1 - 1 < (x :: l).length) : (x :: l)[q + 1 - 1] = l[q - 1]'(by omega) := by
  obtain ⟨p, rfl⟩ : ∃ p, q = p + 1 := ⟨q - 1, by omega⟩
  rfl
theorem posS_is (s : StM) : ∀ l : List StM, IsPos l s (posS l s)
  | [] => ⟨Nat.le_refl _, fun j h => absurd h (by simp), fun h => absurd h (by simp [posS])⟩
  | x :: l => by
    have ih := posS_is s l
    unfold posS
    by_cases h0 : posS l s = 0
    · rw [if_pos h0]
      by_cases h1 : ltSt s x
      · rw [if_pos h1]
        refine ⟨Nat.zero_le _, fun j h _ => ?_, fun h => absurd h (by omega)⟩
        cases j with
        | zero => exact h1
        | succ j => exact ih.up j (by simpa using h) (by omega)
      · rw [if_neg h1]
        refine ⟨by simp, fun j h hj => ?_, fun _ _ => h1⟩
        cases j with
        | zero => omega
        | succ j => exact ih.up j (by simpa using h) (by omega)
    · rw [if_neg h0]
      refine ⟨by have := ih.le; simp; omega, fun j h hj => ?_, fun _ h1 => ?_⟩
      · cases j with
        | zero => omega
        | succ j => exact ih.up j (by simpa using h) (by omega)
      · have h3 := ih.le
        have h2 := ih.low (by omega) (by omega)
        rw [get_pred h0 h3]
        exact h2
theorem posS_eq {l : List StM} {s : StM} {k : Nat} (h : IsPos l s k) : k = posS l s := h.only (posS_is s l)
def putS (l : List StM) (s : StM) : List StM := l.take (posS l s) ++ s :: l.drop (posS l s)
def addS (l : List StM) (s : StM) : List StM := if s.t ≤ s.f then l else putS l s
theorem putS_at {l : List StM} {s : StM} {k : Nat} (h : IsPos l s k) : putS l s = l.take k ++ s :: l.drop k := by unfold putS; rw [← posS_eq h]
theorem putS_len (l : List StM) (s : StM) : (putS l s).length = l.length + 1 := by
  have := (posS_is s l).le
  simp [putS]; omega
theorem addS_len (l : List StM) (s : StM) : (addS l s).length ≤ l.length + 1 := by
  unfold addS
  split
  · omega
  · rw [putS_len]; omega
theorem putS_perm (l : List StM) (s : StM) : (putS l s).Perm (s :: l) := by
  have h : (l.take (posS l s) ++ s :: l.drop (posS l s)).Perm (s :: (l.take (posS l s) ++ l.drop (posS l s))) := List.perm_middle
  rw [List.take_append_drop] at h
  exact h
theorem mem_take_get {α : Type} {l : List α} {k : Nat} {x : α} (h : x ∈ l.take k) : ∃ j, ∃ hj : j < l.length, j < k ∧ l[j] = x := by
  obtain ⟨j, hj, e⟩ := List.getElem_of_mem h
  have h1 : j < k ∧ j < l.length := by simp at hj; omega
  exact ⟨j, h1.2, h1.1, by rw [← e, List.getElem_take]⟩
theorem mem_drop_get {α : Type} {l : List α} {k : Nat} {x : α} (h : x ∈ l.drop k) : ∃ j, ∃ hj : j < l.length, k ≤ j ∧ l[j] = x := by
  obtain ⟨j, hj, e⟩ := List.getElem_of_mem h
  have h1 : j < l.length - k := by simpa using hj
  exact ⟨k + j, by omega, by omega, by rw [← e, List.getElem_drop]⟩
theorem putS_sorted {l : List StM} {s : StM} (h : SortedS l) : SortedS (putS l s) := by
  have hp := posS_is s l
  unfold putS
  generalize posS l s = k at *
  have hle : ∀ x ∈ l.take k, ¬ ltSt s x := fun x hx => by
    obtain ⟨j, hj, hjk, rfl⟩ := mem_take_get hx
    have h1 := hp.le
    have h2 := hp.low (by omega) (by omega)
    rcases Nat.lt_or_ge j (k - 1) with h3 | h3
    · exact leSt_trans (List.pairwise_iff_getElem.1 h j (k - 1) hj (by omega) h3) h2
    · have : j = k - 1 := by omega
      subst this
      exact h2
  have hup : ∀ y ∈ l.drop k, ltSt s y := fun y hy => by
    obtain ⟨j, hj, hjk, rfl⟩ := mem_drop_get hy
    exact hp.up j hj hjk
  unfold SortedS
  rw [List.pairwise_append]
  refine ⟨h.sublist (List.take_sublist _ _), ?_, fun x hx y hy => ?_⟩
  · rw [List.pairwise_cons]
    exact ⟨fun y hy => ltSt_asymm (hup y hy), h.sublist (List.drop_sublist _ _)⟩
  · rcases List.mem_cons.1 hy with rfl | hy
    · exact hle x hx
    · exact leSt_trans (hle x hx) (ltSt_asymm (hup y hy))
theorem addS_sorted {l : List StM} {s : StM} (h : SortedS l) : SortedS (addS l s) := by
  unfold addS
  split
  · exact h
  · exact putS_sorted h
theorem addS_rise {l : List StM} {s : StM} (h : RiseS l) : RiseS (addS l s) ↔ s ∉ l := by
  obtain ⟨h1, h2⟩ := rise_iff.1 h
  unfold addS
  split
  · rename_i hs
    exact ⟨fun _ hm => by have := h1 s hm; omega, fun _ => h⟩
  · rename_i hs
    constructor
    · intro hr hm
      have h3 := (rise_iff.1 hr).2
      have hp : (putS l s).Nodup := h3.imp (fun {a b} h e => by subst e; exact ltSt_irrefl _ h)
      have := (putS_perm l s).nodup_iff.1 hp
      rw [List.nodup_cons] at this
      exact this.1 hm
    · intro hm
      have hsort := putS_sorted (s := s) (rise_sorted h)
      have hp := putS_perm l s
      have hnd : l.Nodup := h2.imp (fun {a b} h e => by subst e; exact ltSt_irrefl _ h)
      have hnd2 : (putS l s).Nodup := hp.nodup_iff.2 (List.nodup_cons.2 ⟨hm, hnd⟩)
      refine rise_iff.2 ⟨fun x hx => ?_, ?_⟩
      · rcases List.mem_cons.1 (hp.mem_iff.1 hx) with rfl | hx
        · omega
        · exact h1 x hx
      · exact List.Pairwise.imp (fun {a b} (hab : (¬ ltSt b a) ∧ a ≠ b) => ltSt_of_le hab.1 hab.2) (List.pairwise_and_iff.2 ⟨hsort, hnd2⟩)
theorem addS_comm {l : List StM} (h : SortedS l) (a b : StM) : addS (addS l a) b = addS (addS l b) a := by
  refine sorted_only (addS_sorted (addS_sorted h)) (addS_sorted (addS_sorted h)) ?_
  unfold addS
  by_cases ha : a.t ≤ a.f <;> by_cases hb : b.t ≤ b.f
  · rw [if_pos ha, if_pos hb, if_pos ha]
  · rw [if_pos ha, if_neg hb, if_pos ha]
  · rw [if_neg ha, if_pos hb, if_pos hb, if_neg ha]
  · rw [if_neg ha, if_neg hb, if_neg hb, if_neg ha]
    refine (putS_perm _ _).trans (((putS_perm l a).cons b).trans ((List.Perm.swap a b l).trans ?_))
    exact ((putS_perm _ _).trans ((putS_perm l b).cons a)).symm

/-! ### what is left within spans -/
def tB (s : SpM) : Bool := decide (s.f < s.t)
/-- what a stay has in common with each span, if that is some time -/
def rowOf (s : SpM) (r : List SpM) : List SpM := (r.map (meetS s)).filter tB
def ofSp (x : StM) (m : SpM) : StM := ⟨m.f, m.t, x.n, x.s⟩
def piecesS (x : StM) (r : List SpM) : List StM := (rowOf x.sp r).map (ofSp x)
def rawS (l : List StM) (r : List SpM) : List StM := l.flatMap fun x => piecesS x r
theorem rowOf_cons (s n : SpM) (r : List SpM) : rowOf s (n :: r) = if (meetS s n).f < (meetS s n).t then meetS s n :: rowOf s r else rowOf s r := by
  unfold rowOf
  rw [List.map_cons, List.filter_cons]
  by_cases h : (meetS s n).f < (meetS s n).t
  · simp [tB, h]
  · simp [tB, h]
theorem rowOf_mem {s : SpM} {r : List SpM} {m : SpM} (h : m ∈ rowOf s r) : ∃ n ∈ r, m = meetS s n ∧ m.f < m.t := by
  obtain ⟨h1, h2⟩ := List.mem_filter.1 h
  obtain ⟨n, hn, rfl⟩ := List.mem_map.1 h1
  exact ⟨n, hn, rfl, of_decide_eq_true h2⟩
theorem rowOf_norm (s : SpM) : ∀ {r : List SpM}, NormL r → NormL (rowOf s r)
  | [], _ => NormL.nil
  | n :: r, h => by
    have ih := rowOf_norm s h.tail
    rw [rowOf_cons]
    split
    · rename_i ht
      refine ⟨⟨Int.le_of_lt ht, fun u hu => ?_, ih.1⟩, fun u hu => ?_⟩
      · obtain ⟨o, ho, rfl, _⟩ := rowOf_mem hu
        have := h.1.2.1 o ho
        show min s.t n.t < max s.f o.f
        omega
      · rcases List.mem_cons.1 hu with rfl | hu
        · exact ht
        · exact ih.2 u hu
    · exact ih
theorem rowOf_has (s : SpM) (x : Int) : ∀ {r : List SpM}, HasL (rowOf s r) x ↔ (s.f ≤ x ∧ x < s.t) ∧ HasL r x
  | [] => ⟨fun h => absurd h HasL.nil, fun h => absurd h.2 HasL.nil⟩
  | n :: r => by
    have ih := rowOf_has s x (r := r)
    rw [rowOf_cons, hasL_cons (s := n)]
    split
    · rw [hasL_cons, ih]
      show (max s.f n.f ≤ x ∧ x < min s.t n.t) ∨ _ ↔ _
      constructor
      · rintro (h | h)
        · exact ⟨by omega, .inl (by omega)⟩
        · exact ⟨h.1, .inr h.2⟩
      · rintro ⟨h1, h2 | h2⟩
        · exact .inl (by omega)
        · exact .inr ⟨h1, h2⟩
    · rename_i ht
      rw [ih]
      constructor
      · rintro ⟨h1, h2⟩
        exact ⟨h1, .inr h2⟩
      · rintro ⟨h1, h2 | h2⟩
        · exact absurd (show max s.f n.f < min s.t n.t by omega) ht
        · exact ⟨h1, h2⟩
theorem rowOf_set {P : Int → Prop} {s : SpM} {r : List SpM} (h : IsSet P r) : IsSet (fun x => (s.f ≤ x ∧ x < s.t) ∧ P x) (rowOf s r) :=
  ⟨rowOf_norm s h.1, fun x => (rowOf_has s x).trans (and_congr_right fun _ => h.2 x)⟩
/-- a row, each of whose spans is cut by another one -/
theorem rows_norm (q : List SpM) (hq : NormL q) : ∀ {r : List SpM}, NormL r → NormL (r.flatMap fun s => rowOf s q)
  | [], _ => NormL.nil
  | s :: r, h => by
    have ih := rows_norm q hq h.tail
    rw [List.flatMap_cons]
    have hin : ∀ u ∈ rowOf s q, u.t ≤ s.t := fun u hu => by
      obtain ⟨o, _, rfl, _⟩ := rowOf_mem hu
      show min s.t o.t ≤ s.t
      omega
    have hout : ∀ u ∈ r.flatMap (fun s => rowOf s q), s.t < u.f := fun u hu => by
      obtain ⟨o, ho, hu⟩ := List.mem_flatMap.1 hu
      obtain ⟨n, _, rfl, _⟩ := rowOf_mem hu
      have := h.1.2.1 o ho
      show s.t < max o.f n.f
      omega
    have key : ∀ (A B : List SpM), NormL A → NormL B → (∀ u ∈ A, u.t ≤ s.t) → (∀ u ∈ B, s.t < u.f) → NormL (A ++ B) := by
      intro A
      induction A with
      | nil => intro B _ hB _ _; exact hB
      | cons u A ihA =>
        intro B hA hB h1 h2
        have h3 := ihA B hA.tail hB (fun v hv => h1 v (List.mem_cons_of_mem _ hv)) h2
        refine ⟨⟨hA.1.1, fun v hv => ?_, h3.1⟩, fun v hv => ?_⟩
        · rcases List.mem_append.1 hv with hv | hv
          · exact hA.1.2.1 v hv
          · have := h2 v hv
            have := h1 u (by simp)
            omega
        · rcases List.mem_cons.1 hv with rfl | hv
          · exact hA.2 v (by simp)
          · exact h3.2 v hv
    exact key _ _ (rowOf_norm s hq) ih hin hout
theorem rows_has (q : List SpM) (x : Int) (r : List SpM) : HasL (r.flatMap fun s => rowOf s q) x ↔ HasL r x ∧ HasL q x := by
  constructor
  · rintro ⟨u, hu, h1⟩
    obtain ⟨s, hs, hu⟩ := List.mem_flatMap.1 hu
    have := (rowOf_has s x).1 ⟨u, hu, h1⟩
    exact ⟨⟨s, hs, this.1⟩, this.2⟩
  · rintro ⟨⟨s, hs, h1⟩, h2⟩
    obtain ⟨u, hu, h3⟩ := (rowOf_has s x).2 ⟨h1, h2⟩
    exact ⟨u, List.mem_flatMap.2 ⟨s, hs, hu⟩, h3⟩
theorem pieces_twice {P Q : Int → Prop} {r q z : List SpM} (hr : IsSet P r) (hq : IsSet Q q) (hz : IsSet (fun x => P x ∧ Q x) z) (x : StM) : rawS (piecesS x r) q = piecesS x z := by
  unfold rawS piecesS
  rw [List.flatMap_map]
  have e : ∀ m : SpM, (rowOf (ofSp x m).sp q).map (ofSp (ofSp x m)) = (rowOf m q).map (ofSp x) := fun m => rfl
  simp only [e]
  rw [← List.map_flatMap]
  congr 1
  have h1 : IsSet (fun y => (x.sp.f ≤ y ∧ y < x.sp.t) ∧ (P y ∧ Q y)) ((rowOf x.sp r).flatMap fun s => rowOf s q) := by
    refine ⟨rows_norm q hq.1 (rowOf_norm _ hr.1), fun y => ?_⟩
    rw [rows_has, rowOf_has, hr.2, hq.2, and_assoc]
  exact h1.only (rowOf_set hz)
theorem raw_twice {P Q : Int → Prop} {r q z : List SpM} (hr : IsSet P r) (hq : IsSet Q q) (hz : IsSet (fun x => P x ∧ Q x) z) (l : List StM) : rawS (rawS l r) q = rawS l z := by
  induction l with
  | nil => rfl
  | cons x l ih =>
    have h1 : rawS (x :: l) r = piecesS x r ++ rawS l r := by simp [rawS]
    have h2 : rawS (x :: l) z = piecesS x z ++ rawS l z := by simp [rawS]
    have h3 : ∀ a b : List StM, rawS (a ++ b) q = rawS a q ++ rawS b q := fun a b => by simp [rawS]
    rw [h1, h2, h3, ih, pieces_twice hr hq hz]
theorem raw_perm {l m : List StM} (h : l.Perm m) (r : List SpM) : (rawS l r).Perm (rawS m r) := h.flatMap_right _
/-- m: what is left of l within the times P, sorted -/
def IsCut (l : List StM) (P : Int → Prop) (m : List StM) : Prop := ∃ r, IsSet P r ∧ m.Perm (rawS l r) ∧ SortedS m
theorem IsCut.only {l a b : List StM} {P : Int → Prop} (ha : IsCut l P a) (hb : IsCut l P b) : a = b := by
  obtain ⟨r, h1, h2, h3⟩ := ha
  obtain ⟨q, k1, k2, k3⟩ := hb
  obtain rfl := h1.only k1
  exact sorted_only h3 k3 (h2.trans k2.symm)
theorem IsCut.congr {l a : List StM} {P Q : Int → Prop} (ha : IsCut l P a) (h : ∀ x, P x ↔ Q x) : IsCut l Q a := by
  obtain ⟨r, h1, h2, h3⟩ := ha
  exact ⟨r, h1.congr h, h2, h3⟩
theorem IsCut.twice {l a b : List StM} {P Q : Int → Prop} {z : List SpM} (ha : IsCut l P a) (hb : IsCut a Q b) (hz : IsSet (fun x => P x ∧ Q x) z) : IsCut l (fun x => P x ∧ Q x) b := by
  obtain ⟨r, h1, h2, h3⟩ := ha
  obtain ⟨q, k1, k2, k3⟩ := hb
  refine ⟨z, hz, ?_, k3⟩
  rw [← raw_twice h1 k1 hz l]
  exact k2.trans (raw_perm h2 q)
theorem IsCut.again {l a b : List StM} {P : Int → Prop} (ha : IsCut l P a) (hb : IsCut a P b) : b = a := by
  obtain ⟨r, h1, h2, h3⟩ := ha
  have hz : IsSet (fun x => P x ∧ P x) r := h1.congr fun x => (and_self_iff).symm
  exact ((IsCut.twice ⟨r, h1, h2, h3⟩ hb hz).congr fun x => and_self_iff).only ⟨r, h1, h2, h3⟩
theorem IsCut.within {l a : List StM} {P : Int → Prop} (ha : IsCut l P a) : ∀ s ∈ a, ∀ x, s.f ≤ x → x < s.t → P x := by
  obtain ⟨r, h1, h2, h3⟩ := ha
  intro s hs x h4 h5
  obtain ⟨y, _, hy⟩ := List.mem_flatMap.1 (h2.mem_iff.1 hs)
  obtain ⟨m, hm, rfl⟩ := List.mem_map.1 hy
  exact ((rowOf_set h1).2 x).1 ⟨m, hm, h4, h5⟩ |>.2
/-! ### how many have a time -/
def atT (x : Int) (s : StM) : Bool := decide (s.f ≤ x) && decide (x < s.t)
def atP (x : Int) (s : SpM) : Bool := decide (s.f ≤ x) && decide (x < s.t)
theorem norm_count {x : Int} : ∀ {r : List SpM}, NormL r → (HasL r x → r.countP (atP x) = 1) ∧ (¬ HasL r x → r.countP (atP x) = 0)
  | [], _ => ⟨fun h => absurd h HasL.nil, fun _ => rfl⟩
  | s :: r, h => by
    have ih := norm_count (x := x) h.tail
    rw [List.countP_cons]
    by_cases hs : s.f ≤ x ∧ x < s.t
    · have hn : ¬ HasL r x := fun ⟨u, hu, h1, h2⟩ => by
        have := h.1.2.1 u hu
        omega
      have : atP x s = true := by simp [atP, hs]
      rw [this, ih.2 hn]
      exact ⟨fun _ => rfl, fun h1 => absurd (hasL_cons.2 (.inl hs)) h1⟩
    · have : atP x s = false := by
        simp only [atP, Bool.and_eq_false_imp, decide_eq_true_eq, decide_eq_false_iff_not]
        intro h1 h2; exact hs ⟨h1, h2⟩
      rw [this]
      refine ⟨fun h1 => ?_, fun h1 => ?_⟩
      · rw [ih.1 ((hasL_cons.1 h1).resolve_left hs)]; simp
      · rw [ih.2 (fun h2 => h1 (hasL_cons.2 (.inr h2)))]; simp
theorem pieces_count {P : Int → Prop} {r : List SpM} (hr : IsSet P r) (x : Int) (s : StM) : (P x → (piecesS s r).countP (atT x) = (if atT x s then 1 else 0)) ∧ (¬ P x → (piecesS s r).countP (atT x) = 0) := by
  have e : (piecesS s r).countP (atT x) = (rowOf s.sp r).countP (atP x) := by
    unfold piecesS
    rw [List.countP_map]
    rfl
  rw [e]
  have hc := norm_count (x := x) (rowOf_norm s.sp hr.1)
  have hh := (rowOf_set (s := s.sp) hr).2 x
  refine ⟨fun hp => ?_, fun hp => hc.2 (fun h => hp (hh.1 h).2)⟩
  by_cases hs : s.f ≤ x ∧ x < s.t
  · rw [hc.1 (hh.2 ⟨hs, hp⟩), show atT x s = true by simp [atT, hs]]
    rfl
  · rw [hc.2 (fun h => hs (hh.1 h).1)]
    have : atT x s = false := by
      simp only [atT, Bool.and_eq_false_imp, decide_eq_true_eq, decide_eq_false_iff_not]
      intro h1 h2; exact hs ⟨h1, h2⟩
    rw [this]; rfl
theorem IsCut.count {l a : List StM} {P : Int → Prop} (h : IsCut l P a) (x : Int) : (P x → a.countP (atT x) = l.countP (atT x)) ∧ (¬ P x → a.countP (atT x) = 0) := by
  obtain ⟨r, h1, h2, _⟩ := h
  rw [h2.countP_eq]
  clear h2
  induction l with
  | nil => exact ⟨fun _ => rfl, fun _ => rfl⟩
  | cons s l ih =>
    have e : rawS (s :: l) r = piecesS s r ++ rawS l r := by simp [rawS]
    rw [e, List.countP_append, List.countP_cons]
    have hp := pieces_count h1 x s
    refine ⟨fun hx => ?_, fun hx => ?_⟩
    · rw [hp.1 hx, ih.1 hx]; omega
    · rw [hp.2 hx, ih.2 hx]
theorem rowOf_le (s : SpM) (r : List SpM) : (rowOf s r).length ≤ r.length := by
  unfold rowOf
  exact Nat.le_trans (List.length_filter_le _ _) (by simp)
theorem pieces_le (x : StM) (r : List SpM) : (piecesS x r).length ≤ r.length := by
  unfold piecesS
  rw [List.length_map]
  exact rowOf_le _ _
theorem raw_le (r : List SpM) : ∀ l : List StM, (rawS l r).length ≤ l.length * r.length
  | [] => by simp [rawS]
  | x :: l => by
    have ih := raw_le r l
    have h1 := pieces_le x r
    have e : rawS (x :: l) r = piecesS x r ++ rawS l r := by simp [rawS]
    rw [e, List.length_append, List.length_cons, Nat.succ_mul]
    omega
theorem raw_take (l : List StM) (r : List SpM) (j : Nat) (h : j < l.length) : rawS (l.take (j + 1)) r = rawS (l.take j) r ++ piecesS l[j] r := by
  unfold rawS
  rw [List.take_succ_eq_append_getElem h, List.flatMap_append]
  simp
/-! ### the spans ahead of a stay, and behind it -/
def firstS (s : SpM) (r : List SpM) : Nat := (List.range r.length).countP (fun i => !decide (s.f < (r.getD i ⟨0, 0⟩).t))
theorem rowOf_take (s : SpM) (r : List SpM) (j : Nat) (h : j < r.length) : rowOf s (r.take (j + 1)) = rowOf s (r.take j) ++ (if (meetS s r[j]).f < (meetS s r[j]).t then [meetS s r[j]] else []) := by
  unfold rowOf
  rw [List.take_succ_eq_append_getElem h, List.map_append, List.filter_append]
  congr 1
  by_cases h1 : (meetS s r[j]).f < (meetS s r[j]).t
  · simp [tB, h1]
  · simp [tB, h1]
theorem rowOf_none {s : SpM} {r : List SpM} (h : ∀ n ∈ r, ¬ (meetS s n).f < (meetS s n).t) : rowOf s r = [] := by
  unfold rowOf
  rw [List.filter_eq_nil_iff]
  intro m hm
  obtain ⟨n, hn, rfl⟩ := List.mem_map.1 hm
  simpa [tB] using h n hn
theorem rowOf_append (s : SpM) (a b : List SpM) : rowOf s (a ++ b) = rowOf s a ++ rowOf s b := by simp [rowOf]
/-- the spans that end ahead of the stay have none of it -/
theorem rowOf_drop {s : SpM} {r : List SpM} {k : Nat} (h : ∀ j (hj : j < r.length), j < k → r[j].t ≤ s.f) : rowOf s (r.drop k) = rowOf s r := by
  have h1 : rowOf s (r.take k) = [] := rowOf_none fun n hn => by
    obtain ⟨j, hj, hjk, rfl⟩ := mem_take_get hn
    have := h j hj hjk
    show ¬ max s.f r[j].f < min s.t r[j].t
    omega
  have h2 := rowOf_append s (r.take k) (r.drop k)
  rw [List.take_append_drop, h1, List.nil_append] at h2
  exact h2.symm
/-- where the first span has none of it, though it ends behind its beginning, no later one has -/
theorem rowOf_rest {s : SpM} {n : SpM} {r : List SpM} (hn : NormL (n :: r)) (ht : s.f < n.t) (h : ¬ (meetS s n).f < (meetS s n).t) : rowOf s (n :: r) = [] := by
  have h1 : ¬ max s.f n.f < min s.t n.t := h
  have h2 := hn.2 n (by simp)
  refine rowOf_none fun o ho => ?_
  show ¬ max s.f o.f < min s.t o.t
  rcases List.mem_cons.1 ho with rfl | ho
  · exact h1
  · have := hn.1.2.1 o ho
    omega
end Go.Proofs.Ytlgicjebaehgeaa
