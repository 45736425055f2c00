/- Texts of mine, one behind the other, of each what is wanted. -/
import Derived.Test.YtmfpjapiijgdgaaGreatQ00
import Derived.Test.YtmfpjapiijgdgaaGreatShelf
import Derived.Test.YtmfpjapiijgdgaaGreatRows
import Derived.Test.YtmfpjapiijgdgaaGreatQ01
import Derived.Test.YtmfpjapiijgdgaaGreatQ04
import Derived.Test.YtmfpjapiijgdgaaGreatQ05
import Derived.Test.YtmfpjapiijgdgaaGreatQ06
import Derived.Test.YtmfpjapiijgdgaaGreatQ08
import Derived.Test.YtmfpjapiijgdgaaGreatQ17
import Derived.Test.YtmfpjapiijgdgaaGreatQ26
import Derived.Test.YtmfpjapiijgdgaaGreatQ28
import Derived.Test.YtmfpjapiijgdgaaGreatQ52
namespace Go.Proofs.YtmfpjapiijgdgaaGreat
set_option linter.unusedVariables false
theorem inf_split {l : List EnM} {w u : ByteArray} (h : l.any (infE w u) = true) : ∃ A e B, l = A ++ e :: B ∧ (∀ x ∈ A, infE w u x = false) ∧ infE w u e = true := by
 have hF := first_idx (infE w u) l
 rw [hF.any] at h
 have hk := of_decide_eq_true h
 exact ⟨_, _, _, split_at hk, fun x hx => by obtain ⟨j, hj, hjk, rfl⟩ := mem_take_get hx; exact hF.low j hj hjk, hF.hit hk⟩
theorem IsBeg.two {p q : EvM → Bool} {l : List EvM} {a b : Nat} (h : IsBeg p l a) (k : IsBeg q l b) : IsBeg (fun e => p e || q e) l (max a b) := by
 have h1 := h.le
 have h2 := k.le
 refine ⟨by omega, fun i hi hm => ?_, fun h0 => ?_⟩
 ·rw [h.none i hi (by omega), k.none i hi (by omega)]; rfl
 ·rcases Nat.le_total a b with h3 | h3
  ·have e1 : max a b = b := by omega
   have := k.last (by omega)
   simp only [e1, this, Bool.or_true]
  ·have e1 : max a b = a := by omega
   have := h.last (by omega)
   simp only [e1, this, Bool.true_or]
def isGr (w u : ByteArray) (e : EvM) : Bool := decide (e.kind = 4) && (decide (e.user = w) && decide (e.other = u))
def isRv (w u : ByteArray) (e : EvM) : Bool := decide (e.kind = 5) && (decide (e.user = w) && decide (e.other = u))
def toV (w u : ByteArray) (l : List EvM) : Int := match l.find? (isRv w u) with
 | none => 1099511627776
 | some x => x.at_
def rawP (w u : ByteArray) : List EvM → List SpM
 | [] => []
 | e :: l => if isGr w u e = true then ⟨e.at_, toV w u l⟩ :: rawP w u l else rawP w u l
def erTwo (w u : ByteArray) (e : EvM) : Bool := isEr w e || isEr u e
def perV (w u : ByteArray) (l : List EvM) : List SpM := rawP w u (tailP (erTwo w u) l)
def opP (w u : ByteArray) : List EvM → List Int
 | [] => []
 | e :: l => if isGr w u e = true ∧ l.find? (isRv w u) = none then e.at_ :: opP w u l else opP w u l
def clP (w u : ByteArray) : List EvM → List SpM
 | [] => []
 | e :: l => if isGr w u e = true then (match l.find? (isRv w u) with
  | none => clP w u l
  | some x => (⟨e.at_, x.at_⟩ : SpM) :: clP w u l) else clP w u l
def upE (f : Int) : SpM := ⟨f, 1099511627776⟩
theorem rawP_parts (w u : ByteArray) : ∀ l : List EvM, (rawP w u l).Perm (clP w u l ++ (opP w u l).map upE)
 | [] => .refl _
 | e :: l => by
  have ih := rawP_parts w u l
  unfold rawP clP opP
  by_cases hb : isGr w u e = true
  ·rw [if_pos hb, if_pos hb]
   unfold toV
   cases hf : l.find? (isRv w u) with
   | none =>
    rw [if_pos ⟨hb, rfl⟩]
    exact (ih.cons _).trans List.perm_middle.symm
   | some x =>
    rw [if_neg (fun h => by cases h.2)]
    exact ih.cons _
  ·rw [if_neg hb, if_neg hb, if_neg (fun h => hb h.1)]
   exact ih
theorem opP_snoc (w u : ByteArray) (x : EvM) : ∀ B : List EvM, opP w u (B ++ [x]) = (if isRv w u x = true then [] else opP w u B) ++ (if isGr w u x = true then [x.at_] else [])
 | [] => by
  show (if isGr w u x = true ∧ ([] : List EvM).find? (isRv w u) = none then x.at_ :: opP w u [] else opP w u []) = _
  have e0 : (if isRv w u x = true then [] else opP w u []) = [] := by split <;> rfl
  rw [e0]
  by_cases hb : isGr w u x = true
  ·rw [if_pos ⟨hb, rfl⟩, if_pos hb]; rfl
  ·rw [if_neg (fun h => hb h.1), if_neg hb]; rfl
 | e :: B => by
  have ih := opP_snoc w u x B
  show (if isGr w u e = true ∧ (B ++ [x]).find? (isRv w u) = none then e.at_ :: opP w u (B ++ [x]) else opP w u (B ++ [x])) = (if isRv w u x = true then [] else (if isGr w u e = true ∧ B.find? (isRv w u) = none then e.at_ :: opP w u B else opP w u B)) ++ _
  rw [find_snoc, ih]
  by_cases hb : isGr w u e = true
  ·cases hf : B.find? (isRv w u) with
   | none =>
    cases hx : isRv w u x with
    | true => simp
    | false => simp [hb]
   | some y => simp
  ·simp [hb]
theorem clP_end {w u : ByteArray} {e y : EvM} {l : List EvM} (hb : isGr w u e = true) (hf : l.find? (isRv w u) = some y) : clP w u (e :: l) = (⟨e.at_, y.at_⟩ : SpM) :: clP w u l := by
 rw [clP, if_pos hb, hf]
theorem clP_up {w u : ByteArray} {e : EvM} {l : List EvM} (h : ¬ isGr w u e = true ∨ l.find? (isRv w u) = none) : clP w u (e :: l) = clP w u l := by
 rw [clP]
 split
 ·rename_i hb
  rw [h.resolve_left (fun h => h hb)]
 ·rfl
theorem opP_up {w u : ByteArray} {e : EvM} {l : List EvM} (hb : isGr w u e = true) (hf : l.find? (isRv w u) = none) : opP w u (e :: l) = e.at_ :: opP w u l := by
 rw [opP, if_pos ⟨hb, hf⟩]
theorem opP_no {w u : ByteArray} {e : EvM} {l : List EvM} (h : ¬ (isGr w u e = true ∧ l.find? (isRv w u) = none)) : opP w u (e :: l) = opP w u l := by
 rw [opP, if_neg h]
theorem clP_snoc (w u : ByteArray) (x : EvM) : ∀ B : List EvM, (clP w u (B ++ [x])).Perm (clP w u B ++ (if isRv w u x = true then (opP w u B).map (fun f => (⟨f, x.at_⟩ : SpM)) else []))
 | [] => by
  have h : clP w u ([] ++ [x]) = clP w u [] := clP_up (.inr rfl)
  rw [h]
  split <;> exact .refl _
 | e :: B => by
  have ih := clP_snoc w u x B
  have hs := find_snoc (isRv w u) B x
  rw [List.cons_append]
  by_cases hb : isGr w u e = true
  ·cases hf : B.find? (isRv w u) with
   | none =>
    rw [hf] at hs
    rw [clP_up (l := B) (.inr hf), opP_up hb hf]
    cases hx : isRv w u x with
    | true =>
     rw [hx] at hs ih
     rw [if_pos rfl] at ih
     rw [clP_end hb hs, if_pos rfl, List.map_cons]
     exact (ih.cons _).trans List.perm_middle.symm
    | false =>
     rw [hx] at hs ih
     rw [clP_up (.inr hs)]
     exact ih
   | some y =>
    rw [hf] at hs
    rw [clP_end hb hs, clP_end hb hf, opP_no (fun h => by rw [hf] at h; cases h.2)]
    exact ih.cons _
  ·rw [clP_up (.inl hb), clP_up (l := B) (.inl hb), opP_no (fun h => hb h.1)]
   exact ih
def ovE (w u : ByteArray) (e : EnM) : Bool := ofE w u e && !decide (e.t = 1099511627776)
structure Per (w u : ByteArray) (l : List EnM) (B : List EvM) : Prop where
 inf : ((l.filter (infE w u)).map EnM.f).Perm (opP w u B)
 ov : ((l.filter (ovE w u)).map EnM.sp).Perm ((clP w u B).filter tB)
theorem Per.idle {w u : ByteArray} {l m : List EnM} {B : List EvM} {x : EvM} (h : Per w u l B) (h1 : m.filter (infE w u) = l.filter (infE w u)) (h2 : m.filter (ovE w u) = l.filter (ovE w u)) (hg : isGr w u x = false) (hr : isRv w u x = false) : Per w u m (B ++ [x]) := by
 refine ⟨?_, ?_⟩
 ·rw [h1, opP_snoc, if_neg (by rw [hr]; decide), if_neg (by rw [hg]; decide), List.append_nil]
  exact h.inf
 ·have h3 := (clP_snoc w u x B).filter tB
  rw [if_neg (by rw [hr]; decide), List.append_nil] at h3
  rw [h2]
  exact h.ov.trans h3.symm
theorem ov_of {w u : ByteArray} {e : EnM} (h : ofE w u e = false) : infE w u e = false ∧ ovE w u e = false := by
 unfold infE ovE
 rw [h]
 exact ⟨rfl, rfl⟩
theorem filter_of {l m : List EnM} {w u : ByteArray} (h : l.filter (ofE w u) = m.filter (ofE w u)) : l.filter (infE w u) = m.filter (infE w u) ∧ l.filter (ovE w u) = m.filter (ovE w u) := by
 have h1 : ∀ (p : EnM → Bool) (l : List EnM), l.filter (fun e => ofE w u e && p e) = (l.filter (ofE w u)).filter p := fun p l => by
  rw [List.filter_filter]
  congr 1
  funext e
  exact Bool.and_comm _ _
 constructor
 ·show l.filter (fun e => ofE w u e && decide (e.t = 1099511627776)) = m.filter (fun e => ofE w u e && decide (e.t = 1099511627776))
  rw [h1, h1, h]
 ·show l.filter (fun e => ofE w u e && !decide (e.t = 1099511627776)) = m.filter (fun e => ofE w u e && !decide (e.t = 1099511627776))
  rw [h1, h1, h]
theorem inf_one {A B : List EnM} {x : EnM} {w u : ByteArray} (h : RiseE (A ++ x :: B)) (hx : infE w u x = true) : ∀ y ∈ A ++ B, infE w u y = false := fun y hy => by
 obtain ⟨hok, hpw⟩ := riseE_iff.1 h
 obtain ⟨x1, x2, x3⟩ := infE_iff.1 hx
 refine Bool.eq_false_iff.2 fun hy1 => ?_
 obtain ⟨y1, y2, y3⟩ := infE_iff.1 hy1
 have hym : y ∈ A ++ x :: B := by
  rw [List.mem_append] at hy ⊢
  exact hy.elim .inl fun h => .inr (List.mem_cons_of_mem _ h)
 have ky := (hok y hym).1
 have kx := (hok x (by simp)).1
 have hpc : pc x y = 0 := pc_eq.2 ⟨x1.trans y1.symm, x2.trans y2.symm⟩
 have hpc2 : pc y x = 0 := pc_eq.2 ⟨y1.trans x1.symm, y2.trans x2.symm⟩
 rw [List.pairwise_append] at hpw
 obtain ⟨_, p2, p3⟩ := hpw
 rw [List.pairwise_cons] at p2
 rcases List.mem_append.1 hy with hy | hy
 ·rcases p3 y hy x (List.mem_cons_self ..) with h1 | ⟨_, h1⟩
  ·omega
  ·omega
 ·rcases p2.1 y hy with h1 | ⟨_, h1⟩
  ·omega
  ·omega
theorem Per.go {w u : ByteArray} {s : SaM} {l : List EvM} (h : Per w u s.su (tailP (erTwo w u) l)) (hs : RightS s) {e : EvM} (he : errE s e = 0) : Per w u (goE s e).su (tailP (erTwo w u) (l ++ [e])) := by
 obtain ⟨⟨_, hb0, hr⟩, ha, hc⟩ := errS_ok he
 rw [tailP_snoc]
 generalize tailP (erTwo w u) l = B at *
 unfold errK at hc
 obtain ⟨k, a, eu, eo, n, st⟩ := e
 unfold goE goS
 dsimp only at *
 rcases hr with ⟨h1 | h1, _⟩ | ⟨h1, _⟩ | ⟨h1 | h1, _⟩ | ⟨h1, _⟩ | ⟨h1, _⟩
 ·subst h1
  show Per w u s.su _
  rw [if_neg  (by simp [erTwo, isEr])]
  exact h.idle  rfl rfl (by simp [isGr]) (by simp [isRv])
 ·subst h1
  show Per w u s.su _
  rw [if_neg  (by simp [erTwo, isEr])]
  exact h.idle  rfl rfl (by simp [isGr]) (by simp [isRv])
 ·subst h1
  show Per w u s.su _
  rw [if_neg  (by simp [erTwo, isEr])]
  exact h.idle  rfl rfl (by simp [isGr]) (by simp [isRv])
 ·subst h1
  show Per w u (grantS s.su (mkE eu eo a)) _
  rw [if_neg (by simp [erTwo, isEr])]
  have hpm := grant_perm s.su (mkE eu eo a)
  have h4 := hpm.filter (infE w u)
  have h5 := hpm.filter (ovE w u)
  rw [List.filter_cons] at h4 h5
  by_cases hw : eu = w ∧ eo = u
  ·have hi : infE w u (mkE eu eo a) = true := infE_iff.2 ⟨hw.1, hw.2, rfl⟩
   have ho : ovE w u (mkE eu eo a) = false := by unfold ovE mkE; simp
   rw [if_pos hi] at h4
   rw [if_neg (by rw [ho]; decide)] at h5
   have hrv : isRv w u ⟨4, a, eu, eo, n, st⟩ = false := by simp [isRv]
   refine ⟨?_, ?_⟩
   ·rw [opP_snoc, if_neg (by rw [hrv]; decide), if_pos (by simp [isGr, hw.1, hw.2])]
    refine (h4.map EnM.f).trans ?_
    rw [List.map_cons]
    exact (h.inf.cons _).trans (List.perm_append_comm (l₁ := [_]))
   ·have h3 := (clP_snoc w u ⟨4, a, eu, eo, n, st⟩ B).filter tB
    rw [if_neg (by rw [hrv]; decide), List.append_nil] at h3
    exact ((h5.map EnM.sp).trans h.ov).trans h3.symm
  ·have hof : ofE w u (mkE eu eo a) = false := by
    unfold ofE mkE
    rw [decide_eq_false_iff_not]
    exact hw
   obtain ⟨q1, q2⟩ := ov_of hof
   rw [if_neg (by rw [q1]; decide)] at h4
   rw [if_neg (by rw [q2]; decide)] at h5
   have hg : isGr w u ⟨4, a, eu, eo, n, st⟩ = false := by
    unfold isGr
    simp only [Bool.and_eq_false_iff, decide_eq_false_iff_not]
    by_cases h1 : eu = w
    ·exact .inr (.inr fun h2 => hw ⟨h1, h2⟩)
    ·exact .inr (.inl h1)
   have hrv : isRv w u ⟨4, a, eu, eo, n, st⟩ = false := by simp [isRv]
   refine ⟨?_, ?_⟩
   ·rw [opP_snoc, if_neg (by rw [hrv]; decide), if_neg (by rw [hg]; decide), List.append_nil]
    exact (h4.map EnM.f).trans h.inf
   ·have h3 := (clP_snoc w u ⟨4, a, eu, eo, n, st⟩ B).filter tB
    rw [if_neg (by rw [hrv]; decide), List.append_nil] at h3
    exact ((h5.map EnM.sp).trans h.ov).trans h3.symm
 ·subst h1
  show Per w u (revokeS s.su eu eo a) _
  rw [if_neg (by simp [erTwo, isEr])]
  have hany : s.su.any (infE eu eo) = true := by
   by_cases hq : s.su.any (infE eu eo) = true
   ·exact hq
   ·simp [hq] at hc
  obtain ⟨A, x, C, hl, hA, hx⟩ := inf_split hany
  obtain ⟨x1, x2, x3⟩ := infE_iff.1 hx
  have hgr : isGr w u ⟨5, a, eu, eo, n, st⟩ = false := by simp [isGr]
  rw [hl, revoke_mid hA hx]
  by_cases hw : eu = w ∧ eo = u
  ·obtain ⟨rfl, rfl⟩ := hw
   have hone := inf_one (hl ▸ hs.su.rise) hx
   have hof : ofE eu eo x = true := ofE_iff.2 ⟨x1, x2⟩
   have hxo : ovE eu eo x = false := by unfold ovE; rw [x3]; simp
   have hrv : isRv eu eo ⟨5, a, eu, eo, n, st⟩ = true := by simp [isRv]
   have hei : (endS x a).filter (infE eu eo) = [] := by
    unfold endS
    split
    ·rfl
    ·refine filter_no fun y hy => ?_
     rw [List.mem_singleton.1 hy]
     unfold infE
     rw [show decide ((⟨x.w, x.u, x.f, a⟩ : EnM).t = 1099511627776) = false from decide_eq_false (by dsimp only; omega), Bool.and_false]
   have heo : ((endS x a).filter (ovE eu eo)).map EnM.sp = [(⟨x.f, a⟩ : SpM)].filter tB := by
    unfold endS
    split
    ·rename_i h2
     rw [List.filter_cons, if_neg (show ¬ tB ⟨x.f, a⟩ = true from by unfold tB; rw [decide_eq_true_iff]; dsimp only; omega)]
     rfl
    ·rename_i h2
     have hov : ovE eu eo ⟨x.w, x.u, x.f, a⟩ = true := by
      unfold ovE
      rw [show ofE eu eo ⟨x.w, x.u, x.f, a⟩ = true from ofE_iff.2 ⟨x1, x2⟩, show decide ((⟨x.w, x.u, x.f, a⟩ : EnM).t = 1099511627776) = false from decide_eq_false (by dsimp only; omega)]
      rfl
     rw [List.filter_cons, if_pos hov, List.filter_cons, if_pos (show tB ⟨x.f, a⟩ = true from decide_eq_true (by dsimp only; omega))]
     rfl
   have hinf := h.inf
   have hov := h.ov
   rw [hl, List.filter_append, List.filter_cons, if_pos hx, filter_no fun y hy => hone y (List.mem_append_left _ hy), filter_no fun y hy => hone y (List.mem_append_right _ hy)] at hinf
   rw [hl, List.filter_append, List.filter_cons, if_neg (by rw [hxo]; decide), ← List.filter_append] at hov
   refine ⟨?_, ?_⟩
   ·rw [opP_snoc, if_pos hrv, if_neg (by rw [hgr]; decide), List.filter_append, List.filter_append, filter_no fun y hy => hone y (List.mem_append_left _ hy), hei, filter_no fun y hy => hone y (List.mem_append_right _ hy)]
    exact .refl _
   ·have h3 := (clP_snoc eu eo ⟨5, a, eu, eo, n, st⟩ B).filter tB
    rw [if_pos hrv, List.filter_append] at h3
    refine List.Perm.trans ?_ h3.symm
    have h4 : (((opP eu eo B).map fun f => (⟨f, a⟩ : SpM)).filter tB).Perm ([(⟨x.f, a⟩ : SpM)].filter tB) := (hinf.symm.map fun f => (⟨f, a⟩ : SpM)).filter tB
    refine List.Perm.trans ?_ (List.Perm.append hov h4.symm)
    rw [← heo, ← List.map_append, List.filter_append, List.filter_append, List.filter_append, List.append_assoc]
    exact (List.Perm.append_left _ List.perm_append_comm).map _
  ·have hxf : ofE w u x = false := by
    unfold ofE
    rw [decide_eq_false_iff_not, x1, x2]
    exact hw
   have hof : (A ++ (endS x a ++ C)).filter (ofE w u) = s.su.filter (ofE w u) := by
    rw [hl, List.filter_append, List.filter_append, List.filter_append, List.filter_cons, if_neg (by rw [hxf]; decide), end_other ⟨x1, x2⟩ hw, List.nil_append]
   obtain ⟨q1, q2⟩ := filter_of hof
   refine h.idle q1 q2 hgr ?_
   unfold isRv
   simp only [Bool.and_eq_false_iff, decide_eq_false_iff_not]
   by_cases h1 : eu = w
   ·exact .inr (.inr fun h2 => hw ⟨h1, h2⟩)
   ·exact .inr (.inl h1)
 ·subst h1
  show Per w u s.su _
  rw [if_neg  (by simp [erTwo, isEr])]
  exact h.idle  rfl rfl (by simp [isGr]) (by simp [isRv])
 ·subst h1
  show Per w u (withoutS s.su eu) _
  by_cases hu : w = eu ∨ u = eu
  ·rw [if_pos (by rcases hu with rfl | rfl <;> simp [erTwo, isEr])]
   have h0 := without_of (l := s.su) hu
   obtain ⟨q1, q2⟩ := filter_of (m := []) h0
   refine ⟨?_, ?_⟩
   ·rw [q1]; exact .refl _
   ·rw [q2]; exact .refl _
  ·have h1 : ¬ eu = w := fun e => hu (.inl e.symm)
   have h2 : ¬ eu = u := fun e => hu (.inr e.symm)
   rw [if_neg (by simp [erTwo, isEr, h1, h2])]
   have h0 : (withoutS s.su eu).filter (ofE w u) = s.su.filter (ofE w u) := by
    unfold withoutS
    rw [List.filter_filter]
    refine List.filter_congr fun e he => ?_
    by_cases h3 : ofE w u e = true
    ·obtain ⟨g1, g2⟩ := ofE_iff.1 h3
     rw [h3, g1, g2]
     simp only [ne_eq, Bool.true_and, decide_not, Bool.and_eq_true, Bool.not_eq_eq_eq_not, Bool.not_true, decide_eq_false_iff_not]
     exact ⟨fun e => h1 e.symm, fun e => h2 e.symm⟩
    ·rw [Bool.eq_false_iff.2 h3]; rfl
   obtain ⟨q1, q2⟩ := filter_of h0
   exact h.idle q1 q2 (by simp [isGr]) (by simp [isRv])
theorem Per.fold {w u : ByteArray} : ∀ (l2 l1 : List EvM), Per w u (foldE saZ l1).su (tailP (erTwo w u) l1) → AllT (foldE saZ l1) l2 → Per w u (foldE saZ (l1 ++ l2)).su (tailP (erTwo w u) (l1 ++ l2))
 | [], l1, h, _ => by rw [List.append_nil]; exact h
 | e :: l2, l1, h, ha => by
  obtain ⟨h1, h2⟩ := ha.cons
  have h3 := h.go (right_fold l1 RightS.zero) h1
  have e1 : foldE saZ (l1 ++ [e]) = goE (foldE saZ l1) e := by rw [foldE_append, foldE_cons, nxE_ok h1]; rfl
  rw [← e1] at h3 h2
  have h4 := Per.fold l2 (l1 ++ [e]) h3 h2
  rw [List.append_assoc] at h4
  exact h4
theorem has_perm {a b : List SpM} (h : a.Perm b) (x : Int) : HasL a x ↔ HasL b x := by
 unfold HasL
 exact ⟨fun ⟨s, hs, k⟩ => ⟨s, h.mem_iff.1 hs, k⟩, fun ⟨s, hs, k⟩ => ⟨s, h.mem_iff.2 hs, k⟩⟩
theorem has_tB (a : List SpM) (x : Int) : HasL (a.filter tB) x ↔ HasL a x := by
 unfold HasL
 constructor
 ·rintro ⟨s, hs, k⟩; exact ⟨s, (List.mem_filter.1 hs).1, k⟩
 ·rintro ⟨s, hs, k1, k2⟩; exact ⟨s, List.mem_filter.2 ⟨hs, decide_eq_true (by omega)⟩, k1, k2⟩
theorem fold_sees (l : List EvM) (w u : ByteArray) (h : AllT saZ l) (x : Int) : HasL (perS (foldE saZ l).su w u) x ↔ HasL (perV w u l) x := by
 have hP := Per.fold (w := w) (u := u) l [] ⟨.refl _, .refl _⟩ h
 rw [List.nil_append] at hP
 unfold perV
 rw [has_perm (rawP_parts w u _) x]
 generalize tailP (erTwo w u) l = B at *
 generalize (foldE saZ l).su = m at *
 have h1 : HasL (perS m w u) x ↔ HasL ((m.filter (ovE w u)).map EnM.sp ++ ((m.filter (infE w u)).map EnM.f).map upE) x := by
  unfold HasL perS
  constructor
  ·rintro ⟨s, hs, k⟩
   obtain ⟨e, he, rfl⟩ := List.mem_map.1 hs
   obtain ⟨he1, he2⟩ := List.mem_filter.1 he
   by_cases ht : e.t = 1099511627776
   ·refine ⟨e.sp, List.mem_append_right _ ?_, k⟩
    rw [List.map_map]
    refine List.mem_map.2 ⟨e, List.mem_filter.2 ⟨he1, by unfold infE; rw [he2, decide_eq_true ht]; rfl⟩, ?_⟩
    show upE e.f = e.sp
    unfold upE EnM.sp
    rw [ht]
   ·exact ⟨e.sp, List.mem_append_left _ (List.mem_map.2 ⟨e, List.mem_filter.2 ⟨he1, by unfold ovE; rw [he2, decide_eq_false ht]; rfl⟩, rfl⟩), k⟩
  ·rintro ⟨s, hs, k⟩
   rcases List.mem_append.1 hs with hs | hs
   ·obtain ⟨e, he, rfl⟩ := List.mem_map.1 hs
    obtain ⟨he1, he2⟩ := List.mem_filter.1 he
    unfold ovE at he2
    rw [Bool.and_eq_true] at he2
    exact ⟨e.sp, List.mem_map.2 ⟨e, List.mem_filter.2 ⟨he1, he2.1⟩, rfl⟩, k⟩
   ·rw [List.map_map] at hs
    obtain ⟨e, he, rfl⟩ := List.mem_map.1 hs
    obtain ⟨he1, he2⟩ := List.mem_filter.1 he
    obtain ⟨g1, g2, g3⟩ := infE_iff.1 he2
    refine ⟨e.sp, List.mem_map.2 ⟨e, List.mem_filter.2 ⟨he1, ofE_iff.2 ⟨g1, g2⟩⟩, rfl⟩, ?_⟩
    have e2 : (upE ∘ EnM.f) e = e.sp := by
     show upE e.f = e.sp
     unfold upE EnM.sp
     rw [g3]
    rw [e2] at k
    exact k
 rw [h1]
 have h2 : ∀ (a b c d : List SpM), (HasL a x ↔ HasL c x) → (HasL b x ↔ HasL d x) → (HasL (a ++ b) x ↔ HasL (c ++ d) x) := fun a b c d e1 e2 => by
  unfold HasL at *
  constructor
  ·rintro ⟨s, hs, k⟩
   rcases List.mem_append.1 hs with hs | hs
   ·obtain ⟨s', hs', k'⟩ := e1.1 ⟨s, hs, k⟩
    exact ⟨s', List.mem_append_left _ hs', k'⟩
   ·obtain ⟨s', hs', k'⟩ := e2.1 ⟨s, hs, k⟩
    exact ⟨s', List.mem_append_right _ hs', k'⟩
  ·rintro ⟨s, hs, k⟩
   rcases List.mem_append.1 hs with hs | hs
   ·obtain ⟨s', hs', k'⟩ := e1.2 ⟨s, hs, k⟩
    exact ⟨s', List.mem_append_left _ hs', k'⟩
   ·obtain ⟨s', hs', k'⟩ := e2.2 ⟨s, hs, k⟩
    exact ⟨s', List.mem_append_right _ hs', k'⟩
 exact h2 _ _ _ _ ((has_perm hP.ov x).trans (has_tB _ x)) (has_perm (hP.inf.map upE) x)
def horV (l : List EvM) : Int := l.foldl (fun m e => if e.kind = 6 then max m e.n else m) 0
theorem horV_take (l : List EvM) (j : Nat) (h : j < l.length) : horV (l.take (j + 1)) = if l[j].kind = 6 then max (horV (l.take j)) l[j].n else horV (l.take j) := by
 rw [List.take_succ_eq_append_getElem h]
 unfold horV
 rw [List.foldl_append]
 rfl
theorem go_hor {s : SaM} {e : EvM} (he : errE s e = 0) : (goE s e).hor = if e.kind = 6 then max s.hor e.n else s.hor := by
 obtain ⟨⟨_, _, hr⟩, _, _⟩ := errS_ok he
 obtain ⟨k, a, eu, eo, n, st⟩ := e
 unfold goE goS
 dsimp only at *
 rcases hr with ⟨h1 | h1, _⟩ | ⟨h1, _⟩ | ⟨h1 | h1, _⟩ | ⟨h1, _⟩ | ⟨h1, _⟩ <;> subst h1 <;> rfl
theorem hor_fold : ∀ (l : List EvM) (s : SaM), AllT s l → (foldE s l).hor = l.foldl (fun m e => if e.kind = 6 then max m e.n else m) s.hor
 | [], _, _ => rfl
 | e :: l, s, h => by
  obtain ⟨h1, h2⟩ := h.cons
  rw [foldE_cons, nxE_ok h1, hor_fold l _ h2, go_hor h1]
  rfl
theorem fold_hor (l : List EvM) (h : AllT saZ l) : (foldE saZ l).hor = horV l := hor_fold l saZ h
end Go.Proofs.YtmfpjapiijgdgaaGreat
namespace Go.Proofs.YtmfpjapiijgdgaaGreat
open Go.RowKit
set_option linter.unusedVariables false
set_option maxRecDepth 100000
set_option maxRecDepth 100000
set_option maxHeartbeats 4000000 in
theorem ends_any (a : Option Addr) (c : Nat) (l : List SpM) (w : World) (hr : SpSl w a l) (hl : l.length ≤ 100000) :
  Calls Tryz.prog 159 #[.slice a l.length c] w fun e w' => ∃ (v : Value) (r : List Int), e = .returned v ∧ IsEnds l r ∧ r.length ≤ 2 * l.length ∧ w'.ownsRow w.heap.size 3 1 v r.length (ints r) ∧ Below w.heap.size w w' := by
 have HR := Lib.hid hr
 have HPA := Lib.hid put_any
 clear hr
 go_enter Tryz.func159, Tryz.ntmps159
 go_wp2
 go_loopw [3, 4] (fun v i wr => ∃ (j : Nat) (e : List Int), j ≤ l.length ∧ i = .int .i64 j ∧ e.length ≤ 2 * j ∧ Hid (IsEnds (l.take j) e) ∧ Hid (wr.ownsRow w.heap.size 3 1 v e.length (ints e)) ∧ Hid (Below w.heap.size w wr)) (fun _ i _ => l.length - (intOf i).toNat)
 case atStart => exact ⟨0, [], by omega, rfl, by simp, IsEnds.nil, ⟨rfl, .inl ⟨rfl, rfl⟩⟩, Below.refl _ _⟩
 case round =>
  obtain ⟨j, e, hj, rfl, hel, HI, HO, HB⟩ := hrel
  by_cases hjl : j < l.length
  ·obtain ⟨b, off, rfl, hbl, hc0, hc1⟩ := (HR.out.below HB.out).at_ hjl
   have HC : Hid (l.take (j + 1) = l.take j ++ [l[j]]) := by unfold Hid; rw [List.take_succ_eq_append_getElem hjl]
   have HSC : Hid (∀ W, Below wr.heap.size wr W → W.cell? ⟨b, off + j * 2, none⟩ = some (.int .i64 l[j].f) ∧ W.cell? ⟨b, off + j * 2 + 1, none⟩ = some (.int .i64 l[j].t)) := fun W hW => by
    obtain ⟨_, _, e1, _, h1, h2⟩ := ((HR.out.below HB.out).below hW).at_ hjl
    cases e1
    exact ⟨h1, h2⟩
   generalize l[j] = x at *
   obtain ⟨va, vc, rfl, _, _, hsl, _, _⟩ := own_slice HO.out
   have HSL := Lib.hid hsl
   clear hsl
   have HTR : Hid (∀ W W', Below wr.heap.size wr W → Below W.heap.size W W' → Below wr.heap.size wr W') := fun W W' h q => h.trans (q.mono h.size)
   have hX : Below wr.heap.size wr wr.drew := (Below.refl _ _).drew
   have HP1 : Hid (Calls Tryz.prog 211 #[.slice va e.length vc, .int .i64 x.f] wr.drew _) := HPA.out va vc e x.f wr.drew (HSL.out.below hX) HI.out.1 (by omega)
   go_wp2
   go_region_held3 (fun W => W.cell? ⟨b, off + j * 2, none⟩ = some (.int .i64 x.f) ∧ W.cell? ⟨b, off + j * 2 + 1, none⟩ = some (.int .i64 x.t))
    (first | with_reducible exact HSC.out _ hX | with_reducible exact HSC.out _ hY | with_reducible exact HSC.out _ hZ | assumption)
    (first | (have hseen := hY; clear hseen; go_at_call 211; refine (HPA.out a1 c1 e1 x.t _ hs1 hrise1 (by omega)).mono ?_; rintro r w3 ⟨v2, e2, rfl, hrise2, hmem2, hlen2, hown2, hB2⟩; have hZ := HTR.out _ _ hY hB2) | (go_at_call 211; refine HP1.out.mono ?_; rintro r w2 ⟨v1, e1, rfl, hrise1, hmem1, hlen1, hown1, hB1⟩; obtain ⟨a1, c1, rfl, _, _, hs1, _, _⟩ := own_slice hown1; have hY := HTR.out _ _ hX hB1))
   have HI2 : Hid (IsEnds (l.take (j + 1)) e2) := by
    unfold Hid
    rw [HC.out]
    exact HI.out.snoc ⟨hrise1, hmem1⟩ ⟨hrise2, hmem2⟩
   have HO2 : Hid (w3.ownsRow w.heap.size 3 1 v2 e2.length (ints e2)) := own_low hown2 (Nat.le_trans HB.out.size hY.size)
   have HB2 := Lib.hid (HB.out.trans (hZ.mono HB.out.size))
   clear hown2 hown1 hmem1 hmem2 hrise1 hrise2 hX hY hZ hB1 hB2 HSC HPA HP1
   go_wp2
   go_roundw
   case rel => exact ⟨j + 1, e2, by omega, by go_num, by omega, HI2, HO2, HB2⟩
   case measure => simp [intOf]; omega
  ·obtain rfl : j = l.length := by omega
   rw [List.take_of_length_le (Nat.le_refl _)] at HI
   go_wp2
   go_ret
   first | exact ⟨_, e, rfl, HI.out, hel, HO.out, HB.out⟩ | exact ⟨_, rfl, e, HI.out, hel, HO.out, HB.out⟩
structure CellP (P : Int → Prop) (e : List Int) : Prop where
 rise : Rise e
 cell : ∀ k (h : k + 1 < e.length) x, e[k] ≤ x → x < e[k + 1] → (P x ↔ P e[k])
 first : ∀ x, P x → ∃ h : 0 < e.length, e[0] ≤ x
 last : ∀ x, P x → ∀ k (h : k + 1 = e.length), x < e[k]
def GlW (P : Int → Prop) (e : List Int) (k : Nat) (r : List SpM) : Prop := (r = [] ∧ e = []) ∨ ∃ h : k < e.length, GlueI P e[k] r
theorem CellP.start {P : Int → Prop} {e : List Int} (h : CellP P e) : GlW P e 0 [] := by
 rcases Nat.eq_zero_or_pos e.length with h0 | h0
 ·exact .inl ⟨rfl, List.eq_nil_of_length_eq_zero h0⟩
 ·exact .inr ⟨h0, GlueI.start fun x hx => (h.first x hx).2⟩
theorem CellP.lt {P : Int → Prop} {e : List Int} (h : CellP P e) {k : Nat} (hk : k + 1 < e.length) : e[k] < e[k + 1] := (List.pairwise_iff_getElem.1 h.rise) k (k + 1) (by omega) hk (by omega)
theorem CellP.step {P : Int → Prop} {e : List Int} (h : CellP P e) {k : Nat} {r : List SpM} (g : GlW P e k r) (hk : k + 1 < e.length) (hp : P e[k]) : GlW P e (k + 1) (glueS r ⟨e[k], e[k + 1]⟩) := by
 rcases g with ⟨_, rfl⟩ | ⟨h0, g⟩
 ·simp at hk
 ·exact .inr ⟨hk, g.step (h.lt hk) fun x h1 h2 => (h.cell k hk x h1 h2).2 hp⟩
theorem CellP.skip {P : Int → Prop} {e : List Int} (h : CellP P e) {k : Nat} {r : List SpM} (g : GlW P e k r) (hk : k + 1 < e.length) (hp : ¬ P e[k]) : GlW P e (k + 1) r := by
 rcases g with ⟨_, rfl⟩ | ⟨h0, g⟩
 ·simp at hk
 ·exact .inr ⟨hk, g.skip (h.lt hk) fun x h1 h2 hx => hp ((h.cell k hk x h1 h2).1 hx)⟩
theorem CellP.done {P : Int → Prop} {e : List Int} (h : CellP P e) {k : Nat} {r : List SpM} (g : GlW P e k r) (hk : ¬ k + 1 < e.length) : IsSet P r := by
 rcases g with ⟨rfl, rfl⟩ | ⟨h0, g⟩
 ·exact ⟨NormL.nil, fun x => ⟨fun hx => absurd hx HasL.nil, fun hx => by obtain ⟨h0, _⟩ := h.first x hx; simp at h0⟩⟩
 ·exact g.done fun x hx => h.last x hx k (by omega)
theorem cell_one {l : List SpM} {e : List Int} (h : IsEnds l e) : CellP (HasL l) e :=
 ⟨h.1, fun k hk x h1 h2 => h.cell (fun _ hs => hs) hk h1 h2, fun x hx => h.first (fun _ hs => hs) hx, fun x hx k hk => h.last (fun _ hs => hs) hx hk⟩
theorem glueS_le (r : List SpM) (s : SpM) : (glueS r s).length ≤ r.length + 1 := by
 rcases List.eq_nil_or_concat r with rfl | ⟨fr, u, hfu⟩
 ·rw [glueS_nil]; simp
 ·rw [hfu, List.concat_eq_append, glueS_snoc]
  split <;> simp
theorem ints_two {w : World} {a : Option Addr} {e : List Int} (h : Sl w a (ints e)) {k : Nat} (hk : k + 1 < e.length) : ∃ b off, a = some ⟨b, off, none⟩ ∧ ∀ W, Below w.heap.size w W → W.cell? ⟨b, off + k, none⟩ = some (.int .i64 e[k]) ∧ W.cell? ⟨b, off + (k + 1), none⟩ = some (.int .i64 e[k + 1]) := by
 obtain ⟨b, off, rfl, _, _⟩ := ints_at h hk
 refine ⟨b, off, rfl, fun W hW => ?_⟩
 obtain ⟨_, _, e1, _, h1⟩ := ints_at (h.below hW) (k := k) (by omega)
 obtain ⟨_, _, e2, _, h2⟩ := ints_at (h.below hW) hk
 cases e1
 cases e2
 exact ⟨h1, h2⟩
set_option maxHeartbeats 4000000 in
theorem refNorm_any (a : Option Addr) (c : Nat) (l : List SpM) (w : World) (hr : SpSl w a l) (hl : l.length ≤ 100000) :
  Calls Tryz.prog 96 #[.slice a l.length c] w fun e w' => ∃ (v : Value) (r : List SpM), e = .returned v ∧ IsSet (HasL l) r ∧ r.length ≤ 2 * l.length ∧ w'.ownsRow w.heap.size 106 2 v r.length (sps r) ∧ Below w.heap.size w w' := by
 have HR := Lib.hid hr
 have HE := Lib.hid (ends_any a c l w hr hl)
 have HH := Lib.hid refHas_any
 have HG := Lib.hid glue_any
 have hlm : l.length ≤ maxLen := by unfold maxLen; omega
 clear hr
 go_enter Tryz.func96, Tryz.ntmps96
 go_wp2_with fail
 refine HE.out.mono ?_
 rintro r w1 ⟨v, e, rfl, hen, hel, hown, hB1⟩
 clear HE
 have HP := Lib.hid (cell_one hen)
 have HB1 := Lib.hid hB1
 obtain ⟨ea, ec, rfl, _, hecm, hsl, _, _⟩ := own_slice hown
 have HSL := Lib.hid hsl
 clear hen hown hB1 hsl
 go_wp2
 go_loopw [4, 5] (fun v i wr => ∃ (k : Nat) (r : List SpM), i = .int .i64 k ∧ k ≤ e.length ∧ r.length ≤ k ∧ Hid (GlW (HasL l) e k r) ∧ Hid (wr.ownsRow w1.heap.size 106 2 v r.length (sps r)) ∧ Hid (Below w1.heap.size w1 wr)) (fun _ i _ => e.length - (intOf i).toNat)
 case atStart => exact ⟨0, [], rfl, by omega, by simp, HP.out.start, ⟨rfl, .inl ⟨rfl, rfl⟩⟩, Below.refl _ _⟩
 case round =>
  obtain ⟨k, r, rfl, hke, hrk, HI, HO, HB⟩ := hrel
  by_cases hk : k + 1 < e.length
  ·obtain ⟨b, off, rfl, hc⟩ := ints_two HSL.out hk
   have HSC := Lib.hid (fun W (hW : Below w1.heap.size wr W) => hc W (HB.out.trans hW))
   obtain ⟨c0, c1⟩ := hc wr HB.out
   have HST := Lib.hid (fun hp => HP.out.step HI.out hk hp)
   have HSK := Lib.hid (fun hp => HP.out.skip HI.out hk hp)
   have HRW := Lib.hid (HR.out.below (HB1.out.trans (HB.out.mono HB1.out.size)))
   have HHW := Lib.hid (HH.out a c l e[k] wr HRW.out hlm)
   have HBI := Lib.hid (hasB_iff l e[k])
   clear hc HI
   generalize e[k] = x at *
   generalize e[k + 1] = y at *
   by_cases hb : hasB l x = true
   ·rw [hb] at HHW
    have HN := Lib.hid (HST.out (HBI.out.1 hb))
    clear HST HSK HBI hb
    go_wp2_with fail
    refine HHW.out.mono ?_
    rintro r1 w2 ⟨rfl, hw2⟩
    obtain rfl : wr = w2 := hw2.symm
    clear hw2
    go_wp2_with fail
    have hX : Below w1.heap.size wr wr.drew := (Below.refl _ _).drew
    have hwk : IntKind.i64.wrap ((k : Int) + 1) = (k : Int) + 1 := by rw [IntWalk.i64_in] <;> omega
    have hk0 : (0 : Int) ≤ (k : Int) := Int.natCast_nonneg _
    have hk1 : (k : Int) < (e.length : Int) := by omega
    have hk2 : (k : Int) + 1 < (e.length : Int) := by omega
    have hk3 : (0 : Int) ≤ (k : Int) + 1 := by omega
    have hk4 : ((k : Int) + 1).toNat = k + 1 := by omega
    have HGW : Hid (Calls Tryz.prog 160 #[_, .agg #[.int .i64 x, .int .i64 y]] wr.drew _) := HG.out w1.heap.size _ r ⟨x, y⟩ wr.drew HB.out.size HO.out.drew (by omega)
    go_region_held3 (fun W => W.cell? ⟨b, off + k, none⟩ = some (.int .i64 x) ∧ W.cell? ⟨b, off + (k + 1), none⟩ = some (.int .i64 y))
     (first | with_reducible exact HSC.out _ hX | with_reducible exact HSC.out _ hY | assumption)
     ((go_at_call 160; refine HGW.out.mono ?_; rintro r3 w3 ⟨v3, rfl, hown3, hB3⟩; have hY := hX.trans hB3))
    clear hwk hk0 hk1 hk2 hk3 hk4 hX HSC HGW HHW
    go_wp2
    go_roundw
    case rel => exact ⟨k + 1, glueS r ⟨x, y⟩, by go_num, by omega, Nat.le_trans (glueS_le _ _) (by omega), HN, hown3, HB.out.trans hY⟩
    case measure => simp [intOf]; omega
   ·have hb : hasB l x = false := by simpa using hb
    rw [hb] at HHW
    have HN := Lib.hid (HSK.out (fun h => by rw [HBI.out.2 h] at hb; cases hb))
    clear HST HSK HBI hb
    go_wp2_with fail
    refine HHW.out.mono ?_
    rintro r1 w2 ⟨rfl, hw2⟩
    obtain rfl : wr = w2 := hw2.symm
    clear hw2 HSC HHW
    go_wp2
    go_roundw
    case rel => exact ⟨k + 1, r, by go_num, by omega, by omega, HN, HO, HB⟩
    case measure => simp [intOf]; omega
  ·have HD := Lib.hid (HP.out.done HI.out hk)
   go_wp2
   go_ret
   first | exact ⟨_, r, rfl, HD.out, by omega, own_low HO.out HB1.out.size, HB1.out.trans (HB.out.mono HB1.out.size)⟩ | exact ⟨_, rfl, r, HD.out, by omega, own_low HO.out HB1.out.size, HB1.out.trans (HB.out.mono HB1.out.size)⟩
theorem c_olds (a : Option Addr) (c : Nat) (l : List SpM) (W : World) (h : SpSl W a l) (hl : l.length ≤ 1000) : Calls Tryz.prog 42 #[.slice a l.length c] W fun e w' => ∃ x q, e = .returned (.slice x l.length q) ∧ SpSl w' x l ∧ Below W.heap.size W w' := by
 refine (olds_any a c l W h (by omega)).mono ?_
 rintro e w' ⟨v, rfl, ho, hb⟩
 obtain ⟨x, q, rfl, h1, h3⟩ := own_sp ho
 exact ⟨x, q, rfl, h3, hb⟩
theorem c_rsame (a b : Option Addr) (c q : Nat) (l : List SpM) (W : World) (ha : SpSl W a l) (hb : SpSl W b l) (hl : l.length ≤ 1000) : Calls Tryz.prog 41 #[.slice a l.length c, .slice b l.length q] W fun e w' => e = .returned (.bool true) ∧ Below W.heap.size W w' := by
 have h := refSame_any a b c q l l W ha hb (by unfold maxLen; omega) (by unfold maxLen; omega)
 rw [decide_eq_true rfl] at h
 exact h
theorem c_rnorm (xa : Option Addr) (ca : Nat) (A : List SpM) (W : World) (ha : SpSl W xa A) (hl : A.length ≤ 1000) (r : List SpM) (hr : IsSet (HasL A) r) :
  Calls Tryz.prog 96 #[.slice xa A.length ca] W fun e w' => ∃ x q, e = .returned (.slice x r.length q) ∧ SpSl w' x r ∧ Below W.heap.size W w' := by
 refine (refNorm_any xa ca A W ha (by omega)).mono ?_
 rintro e w' ⟨v, r', rfl, hs, hl, ho, hb⟩
 obtain rfl := hs.only hr
 obtain ⟨x, q, rfl, k1, k3⟩ := own_sp ho
 exact ⟨x, q, rfl, k3, hb⟩
theorem e_periods (a : Option Addr) (c : Nat) (l : List EnM) (p u : ByteArray) (W : World) (h : EnSl W a l) (hl : l.length ≤ 1000) : Calls Tryz.prog 43 #[.slice a l.length c, .agg #[.string p, .string u]] W fun e w' => ∃ x q r, e = .returned (.slice x r.length q) ∧ IsSet (HasL (perS l p u)) r ∧ r.length ≤ l.length ∧ r.length ≤ q ∧ q ≤ maxLen ∧ (x = none → q = 0) ∧ SpSl w' x r ∧ Below W.heap.size W w' := by
 refine (periods_any a c l p u W h hl).mono ?_
 rintro e w' ⟨v, r, rfl, hs, hr, ho, hb⟩
 obtain ⟨x, q, rfl, h1, h2, h3, h4⟩ := own_spm ho
 exact ⟨x, q, r, rfl, hs, hr, h1, h2, h4, h3, hb⟩
end Go.Proofs.YtmfpjapiijgdgaaGreat
namespace Go.Proofs.YtmfpjapiijgdgaaGreat
open Go.RowKit Go.Proofs
set_option linter.unusedVariables false
set_option maxRecDepth 100000
theorem rawP_next (w u : ByteArray) (l : List EvM) (j : Nat) (h : j < l.length) : rawP w u (l.drop j) = if isGr w u l[j] = true then (⟨l[j].at_, toV w u (l.drop (j + 1))⟩ : SpM) :: rawP w u (l.drop (j + 1)) else rawP w u (l.drop (j + 1)) := by
 rw [drop_next l j h]
 rfl
theorem toV_hit {w u : ByteArray} {l : List EvM} {j : Nat} (h : j < l.length) (hp : isRv w u l[j] = true) : toV w u (l.drop j) = l[j].at_ := by
 unfold toV
 rw [drop_next l j h, List.find?_cons_of_pos hp]
theorem toV_up {w u : ByteArray} {l : List EvM} {j : Nat} (h : j < l.length) (hp : isRv w u l[j] = false) : toV w u (l.drop j) = toV w u (l.drop (j + 1)) := by
 unfold toV
 rw [drop_next l j h, List.find?_cons_of_neg (by rw [hp]; decide)]
theorem toV_end {w u : ByteArray} (l : List EvM) : toV w u (l.drop l.length) = 1099511627776 := by
 rw [List.drop_length]
 rfl
theorem hor_model (l : List EvM) : (foldE saZ l).hor = horV (takenE saZ l) := by
 obtain ⟨h1, h2, -⟩ := taken_again l saZ
 rw [← h1]
 exact fold_hor _ h2
theorem sees_model (l : List EvM) (w u : ByteArray) (x : Int) : HasL (perS (foldE saZ l).su w u) x ↔ HasL (perV w u (takenE saZ l)) x := by
 obtain ⟨h1, h2, -⟩ := taken_again l saZ
 rw [← h1]
 exact fold_sees _ w u h2 x
set_option maxHeartbeats 4000000 in
theorem rhorizon_any (a : Option Addr) (c : Nat) (l : List EvM) (w : World) (hs : EvSl w a l) (hl : l.length ≤ 1000) :
  Calls Tryz.prog 45 #[.slice a l.length c] w fun e w' => e = .returned (.int .i64 (horV l)) ∧ Below w.heap.size w w' := by
 have HS := Lib.hid hs
 clear hs
 go_enter Tryz.func45, Tryz.ntmps45
 go_wp2
 go_loopw [3, 4] (fun hv iv wr => ∃ (j : Nat) (h : Int), j ≤ l.length ∧ hv = .int .i64 h ∧ iv = .int .i64 j ∧ Hid (h = horV (l.take j)) ∧ Hid (Below w.heap.size w wr)) (fun _ iv _ => l.length - (intOf iv).toNat)
 case atStart => exact ⟨0, 0, by omega, rfl, rfl, Lib.hid rfl, Lib.hid (Below.refl _ _)⟩
 case round =>
  obtain ⟨j, h, hj, rfl, rfl, HN, HB⟩ := hrel
  by_cases hjl : j < l.length
  ·have hw1 : IntKind.i64.wrap ((j : Int) + 1) = (j : Int) + 1 := IntWalk.i64_in _ (by omega)
   obtain ⟨b, off, rfl, hbl, r0, r1, r2, r3, r4, r5⟩ := (HS.out.below HB.out).at_ hjl
   have HX := Lib.hid (horV_take l j hjl)
   generalize l[j] = e at *
   by_cases h6 : e.kind = 6
   ·have k6 : (e.kind == 6) = true := beq_iff_eq.2 h6
    rw [if_pos h6] at HX
    clear h6
    obtain ⟨m, hm⟩ : ∃ m, m = max h e.n := ⟨_, rfl⟩
    go_wp2
    go_roundw
    case rel => exact ⟨j + 1, max h e.n, by omega, by first | rfl | (congr 1), by go_num, Lib.hid (by rw [HX.out, ← HN.out]), HB⟩
    case measure => simp [intOf]; omega
   ·have k6 : (e.kind == 6) = false := beq_false_of_ne h6
    rw [if_neg h6] at HX
    clear h6
    go_wp2
    go_roundw
    case rel => exact ⟨j + 1, h, by omega, rfl, by go_num, Lib.hid (by rw [HX.out, ← HN.out]), HB⟩
    case measure => simp [intOf]; omega
  ·obtain rfl : j = l.length := by omega
   rw [List.take_length] at HN
   go_wp2
   go_ret
   exact ⟨retI HN.out, HB.out⟩
set_option maxHeartbeats 4000000 in
theorem mperiods_any (a : Option Addr) (c : Nat) (l : List EvM) (p u : ByteArray) (R : List SpM) (w : World) (hs : EvSl w a l) (hl : l.length ≤ 400) (hR : IsSet (HasL (perV p u l)) R) :
  Calls Tryz.prog 44 #[.slice a l.length c, .string p, .string u] w fun e w' => ∃ x q, e = .returned (.slice x R.length q) ∧ SpSl w' x R ∧ Below w.heap.size w w' := by
 obtain ⟨i0, hi0, hz0, hz1, hz2⟩ := info_parts infoSpanR
 have HBP := Lib.hid (fun V (h : EvSl V a l) => rbegin_any a c l p V h (by omega))
 have HBU := Lib.hid (fun V (h : EvSl V a l) => rbegin_any a c l u V h (by omega))
 have HNX : Hid (∀ j (h : j < l.length), rawP p u (l.drop j) = if isGr p u l[j] = true then (⟨l[j].at_, toV p u (l.drop (j + 1))⟩ : SpM) :: rawP p u (l.drop (j + 1)) else rawP p u (l.drop (j + 1))) := Lib.hid fun j h => rawP_next p u l j h
 have HNM := Lib.hid (fun V x q (O : List SpM) (h : SpSl V x O) (hO : O.length ≤ 1000) (e : perV p u l = O) => c_rnorm x q O V h hO R (by rw [← e]; exact hR))
 have HS := Lib.hid hs
 have HFI : Hid (∀ O, perV p u l = O ++ rawP p u (l.drop l.length) → perV p u l = O) := Lib.hid fun O h => by rw [h, List.drop_length]; exact List.append_nil _
 have HST : Hid (∀ b1 b2, IsBeg (isEr p) l b1 → IsBeg (isEr u) l b2 → max b1 b2 ≤ l.length ∧ perV p u l = [] ++ rawP p u (l.drop (max b1 b2))) := Lib.hid fun b1 b2 h k => ⟨(h.two k).le, by
  rw [(h.two k).tail]
  rfl⟩
 clear hs hR
 generalize perV p u l = M at *
 go_enter Tryz.func44, Tryz.ntmps44
 go_wp2_with fail
 refine (HBP.out _ HS.out).mono ?_
 rintro r w1 ⟨b1, rfl, hb1, h1⟩
 have HS1 := Lib.hid (HS.out.below h1)
 go_wp2_with fail
 refine (HBU.out _ HS1.out).mono ?_
 rintro r w2 ⟨b2, rfl, hb2, h2⟩
 obtain ⟨hbl, hM0⟩ := HST.out b1 b2 hb1 hb2
 have HM0 := Lib.hid hM0
 have HB1 := Lib.hid (h1.trans (h2.mono h1.size))
 have hmx : (max (b1 : Int) (b2 : Int)) = ((max b1 b2 : Nat) : Int) := by omega
 obtain ⟨bm, hbm⟩ : ∃ bm, bm = max b1 b2 := ⟨_, rfl⟩
 rw [← hbm] at hmx hbl HM0
 clear HST HBP HBU hb1 hb2 h1 h2 hM0 HS1 hbm
 have H0 : Hid (w2.ownsRow w.heap.size 106 2 (.slice none 0 0) ([] : List SpM).length (sps [])) := Lib.hid ⟨rfl, .inl ⟨rfl, rfl⟩⟩
 go_wp2
 go_loopw [7, 8] (fun v iv wr => ∃ (j : Nat) (O : List SpM), j ≤ l.length ∧ O.length ≤ j ∧ iv = .int .i64 j ∧ Hid (wr.ownsRow w.heap.size 106 2 v O.length (sps O)) ∧ Hid (M = O ++ rawP p u (l.drop j)) ∧ Hid (Below w.heap.size w wr)) (fun _ iv _ => l.length - (intOf iv).toNat)
 case atStart => exact ⟨bm, [], hbl, Nat.zero_le _, by first | rfl | (rw [hmx]) | (congr 1; omega), H0, HM0, HB1⟩
 case round =>
  clear HM0 HB1 hbl H0 hmx
  obtain ⟨j, O, hj, hO, rfl, HO, HM, HB⟩ := hrel
  by_cases hjl : j < l.length
  ·have hw1 : IntKind.i64.wrap ((j : Int) + 1) = (j : Int) + 1 := IntWalk.i64_in _ (by omega)
   have hw0 : IntKind.i64.wrap ((l.length : Int) - 1) = (l.length : Int) - 1 := IntWalk.i64_in _ (by omega)
   have HEV := Lib.hid (HS.out.below HB.out)
   obtain ⟨ba, ao, ea, -, r0, r1, r2, r3, r4, r5⟩ := HEV.out.at_ hjl
   subst ea
   have HRW := HM.out
   rw [HNX.out j hjl] at HRW
   clear HNX HM HNM HFI
   obtain ⟨x, hx⟩ : ∃ x, l[j] = x := ⟨_, rfl⟩
   rw [hx] at HRW r0 r1 r2 r3 r4 r5
   have hk1 : isGr p u x = (decide (x.kind = 4) && (decide (x.user = p) && decide (x.other = u))) := rfl
   by_cases h4 : x.kind = 4
   ·have k4 : (x.kind == 4) = true := beq_iff_eq.2 h4
    have n4 : (x.kind != 4) = false := by rw [bne, k4]; rfl
    by_cases hp : x.user = p
    ·have q1 : (x.user.toList == p.toList) = true := by rw [hp]; exact txt_eq _
     have n1 : (x.user.toList != p.toList) = false := by rw [bne, q1]; rfl
     by_cases hu : x.other = u
     ·have q2 : (x.other.toList == u.toList) = true := by rw [hu]; exact txt_eq _
      have n2 : (x.other.toList != u.toList) = false := by rw [bne, q2]; rfl
      rw [if_pos (by rw [hk1, decide_eq_true h4, decide_eq_true hp, decide_eq_true hu]; rfl)] at HRW
      have HMN : Hid (M = O ++ ((⟨x.at_, toV p u (l.drop (j + 1))⟩ : SpM) :: rawP p u (l.drop (j + 1)))) := Lib.hid HRW
      clear HRW hk1 h4 hp hu
      rename World => wo
      go_wp2
      go_loopw [9, 10] (fun tv iv wr => ∃ (m : Nat) (tz : Int), j ≤ m ∧ m < l.length ∧ tv = .int .i64 tz ∧ iv = .int .i64 m ∧ Hid (tz = toV p u (l.drop (m + 1))) ∧ Hid (Below wo.heap.size wo wr)) (fun _ iv _ => (intOf iv).toNat - j)
      case atStart => exact ⟨l.length - 1, 1099511627776, by omega, by omega, rfl, by congr 1; omega, Lib.hid (by rw [show l.length - 1 + 1 = l.length by omega, toV_end]), Lib.hid (Below.refl _ _)⟩
      case round =>
       obtain ⟨m, tz, hjm, hml, rfl, rfl, HT, HI⟩ := hrel
       clear r0 r1 r2 r3 r4 r5
       by_cases hm : j < m
       ·have hw2 : IntKind.i64.wrap ((m : Int) - 1) = (m : Int) - 1 := IntWalk.i64_in _ (by omega)
        obtain ⟨bm, om, em, -, s0, s1, s2, s3, s4, s5⟩ := (HEV.out.below HI.out).at_ hml
        cases em
        have HIT : Hid (isRv p u l[m] = true → l[m].at_ = toV p u (l.drop m)) := Lib.hid fun h => (toV_hit hml h).symm
        have HUP : Hid (isRv p u l[m] = false → tz = toV p u (l.drop m)) := Lib.hid fun h => by rw [HT.out]; exact (toV_up hml h).symm
        have HRV : Hid (isRv p u l[m] = (decide (l[m].kind = 5) && (decide (l[m].user = p) && decide (l[m].other = u)))) := Lib.hid rfl
        have hmm : m - 1 + 1 = m := by omega
        have hmi : ((m - 1 : Nat) : Int) = (m : Int) - 1 := by omega
        clear HT
        generalize l[m] = y at *
        by_cases h5 : y.kind = 5
        ·have k5 : (y.kind == 5) = true := beq_iff_eq.2 h5
         by_cases hy1 : y.user = p
         ·have q1 : (y.user.toList == p.toList) = true := by rw [hy1]; exact txt_eq _
          by_cases hy2 : y.other = u
          ·have q2 : (y.other.toList == u.toList) = true := by rw [hy2]; exact txt_eq _
           have HN := Lib.hid (HIT.out (by rw [HRV.out, decide_eq_true h5, decide_eq_true hy1, decide_eq_true hy2]; rfl))
           clear HIT HUP HRV h5 hy1 hy2
           go_wp2
           go_roundw
           case rel => exact ⟨m - 1, y.at_, by omega, by omega, rfl, by rw [hmi], Lib.hid (by rw [hmm]; exact HN.out), HI⟩
           case measure => simp [intOf]; omega
          ·have q2 := txt_ne hy2
           have HN := Lib.hid (HUP.out (by rw [HRV.out, decide_eq_false hy2, Bool.and_false, Bool.and_false]))
           clear HIT HUP HRV h5 hy1 hy2
           go_wp2
           go_roundw
           case rel => exact ⟨m - 1, tz, by omega, by omega, rfl, by rw [hmi], Lib.hid (by rw [hmm]; exact HN.out), HI⟩
           case measure => simp [intOf]; omega
         ·have q1 := txt_ne hy1
          have HN := Lib.hid (HUP.out (by rw [HRV.out, decide_eq_false hy1, Bool.false_and, Bool.and_false]))
          clear HIT HUP HRV h5 hy1
          go_wp2
          go_roundw
          case rel => exact ⟨m - 1, tz, by omega, by omega, rfl, by rw [hmi], Lib.hid (by rw [hmm]; exact HN.out), HI⟩
          case measure => simp [intOf]; omega
        ·have k5 : (y.kind == 5) = false := beq_false_of_ne h5
         have HN := Lib.hid (HUP.out (by rw [HRV.out, decide_eq_false h5, Bool.false_and]))
         clear HIT HUP HRV h5
         go_wp2
         go_roundw
         case rel => exact ⟨m - 1, tz, by omega, by omega, rfl, by rw [hmi], Lib.hid (by rw [hmm]; exact HN.out), HI⟩
         case measure => simp [intOf]; omega
       ·obtain rfl : m = j := by omega
        obtain ⟨bm, om, em, -, s0, s1, s2, s3, s4, s5⟩ := (HEV.out.below HI.out).at_ hml
        cases em
        rw [hx] at s1
        have HMO := HMN.out
        rw [← HT.out] at HMO
        have HMN2 := Lib.hid HMO
        have ho1 := own_below HO.out HI.out
        have hb1 := below_one wr (.cells #[.int .i64 x.at_, .int .i64 tz] 106)
        have HO2 := Lib.hid (own_below ho1 hb1)
        have HB2 := Lib.hid ((HB.out.trans (HI.out.mono HB.out.size)).trans (hb1.mono (Nat.le_trans HB.out.size HI.out.size)))
        have HS2 := Lib.hid HB2.out.size
        clear HMO HMN HT ho1 hb1 HO HB HI s0 s2 s3 s4 s5 hx HEV
        go_wp2_with (at_builtin; refine wpList_append_own _ rfl (.tmp 85) (.tmp 93) 74 rfl w.heap.size 106 i0 _ 2 16 Tryz.underlying74 hi0 hz0 hz1 hz2 rfl (by decide) _ _ _ rfl HO2.out ⟨wr.heap.size, 0, none⟩ 1 1 [.int .i64 x.at_, .int .i64 tz] rfl rfl (news_at _ _ _ _ rfl) (by intro u hu; simp at hu; rcases hu with rfl | rfl <;> rfl) (by unfold maxLen; omega) (by omega) HS2.out ?_; intro v' w3 hown' hgrow hiff)
        have HB4 := Lib.hid (app_below HB2.out HS2.out HO2.out hgrow)
        have HO4 : Hid (w3.ownsRow w.heap.size 106 2 v' (O ++ [(⟨x.at_, tz⟩ : SpM)]).length (sps (O ++ [(⟨x.at_, tz⟩ : SpM)]))) := Lib.hid (by rw [sps_snoc, List.length_append]; exact hown')
        clear hown' hgrow hiff HO2 HB2 HS2 s1
        go_wp2
        go_roundw
        case rel => exact ⟨m + 1, O ++ [⟨x.at_, tz⟩], by omega, by rw [List.length_append, List.length_singleton]; omega, by go_num, HO4, Lib.hid (by rw [HMN2.out, List.append_assoc]; rfl), HB4⟩
        case measure => simp [intOf]; omega
     ·have q2 := txt_ne hu
      have n2 : (x.other.toList != u.toList) = true := by rw [bne, q2]; rfl
      rw [if_neg (by rw [hk1, decide_eq_false hu, Bool.and_false, Bool.and_false]; decide)] at HRW
      have HMN := Lib.hid HRW
      clear HRW hk1 h4 hp hu hx
      go_wp2
      go_roundw
      case rel => exact ⟨j + 1, O, by omega, by omega, by go_num, HO, Lib.hid (by rw [HMN.out]), HB⟩
      case measure => simp [intOf]; omega
    ·have q1 := txt_ne hp
     have n1 : (x.user.toList != p.toList) = true := by rw [bne, q1]; rfl
     rw [if_neg (by rw [hk1, decide_eq_false hp, Bool.false_and, Bool.and_false]; decide)] at HRW
     have HMN := Lib.hid HRW
     clear HRW hk1 h4 hp hx
     go_wp2
     go_roundw
     case rel => exact ⟨j + 1, O, by omega, by omega, by go_num, HO, Lib.hid (by rw [HMN.out]), HB⟩
     case measure => simp [intOf]; omega
   ·have k4 : (x.kind == 4) = false := beq_false_of_ne h4
    have n4 : (x.kind != 4) = true := by rw [bne, k4]; rfl
    rw [if_neg (by rw [hk1, decide_eq_false h4, Bool.false_and]; decide)] at HRW
    have HMN := Lib.hid HRW
    clear HRW hk1 h4 hx
    go_wp2
    go_roundw
    case rel => exact ⟨j + 1, O, by omega, by omega, by go_num, HO, Lib.hid (by rw [HMN.out]), HB⟩
    case measure => simp [intOf]; omega
  ·obtain rfl : j = l.length := by omega
   have HE := Lib.hid (HFI.out O HM.out)
   obtain ⟨xo, qo, rfl, ho1, ho2⟩ := own_sp HO.out
   have HNN := Lib.hid (HNM.out wr xo qo O ho2 (by omega) HE.out)
   clear HM HO HFI HNM HNX ho1 ho2
   go_wp2_with fail
   refine HNN.out.mono ?_
   rintro r w3 ⟨x, q, rfl, k1, h3⟩
   have HH := Lib.hid (And.intro k1 (HB.out.trans (h3.mono HB.out.size)))
   clear k1 h3 HNN HB
   go_wp2
   go_ret
   exact ⟨x, q, rfl, HH.out⟩
end Go.Proofs.YtmfpjapiijgdgaaGreat
