/- Texts of mine, one behind the other, of each what is wanted. -/
import Derived.Test.YtmfpjapiijgdgaaGreatQ00
import Derived.Test.YtmfpjapiijgdgaaGreatShelf
import Derived.Test.YtmfpjapiijgdgaaGreatRows
import Derived.Test.YtmfpjapiijgdgaaGreatQ01
import Derived.Test.YtmfpjapiijgdgaaGreatQ02
import Derived.Test.YtmfpjapiijgdgaaGreatQ04
import Derived.Test.YtmfpjapiijgdgaaGreatQ05
import Derived.Test.YtmfpjapiijgdgaaGreatQ06
import Derived.Test.YtmfpjapiijgdgaaGreatQ08
import Derived.Test.YtmfpjapiijgdgaaGreatQ17
import Derived.Test.YtmfpjapiijgdgaaGreatQ20
import Derived.Test.YtmfpjapiijgdgaaGreatQ46
import Derived.Test.YtmfpjapiijgdgaaGreatQ52
namespace Go.Proofs.YtmfpjapiijgdgaaGreat
set_option linter.unusedVariables false
set_option maxRecDepth 100000
def isU (u : ByteArray) (e : OpM) : Bool := decide (e.u = u)
theorem find_ins_self {α : Type} {key : α → ByteArray} {l : List α} (h : RiseK key l) {u : ByteArray} {x : α} (hx : key x = u) : (insK key u [x] l).find? (isKy key u) = some x :=
 (find_key (insK_rise h (fun y hy => by rw [List.mem_singleton.1 hy]; exact hx) (by simp))).2 ⟨insK_mem.2 (.inl (by simp)), hx⟩
theorem find_ins_none {α : Type} {key : α → ByteArray} {l : List α} {u : ByteArray} : (insK key u [] l).find? (isKy key u) = none := by
 rw [List.find?_eq_none]
 intro x hx hk
 rcases insK_mem.1 hx with h2 | h2
 ·cases h2
 ·exact h2.2 (isKy_iff.1 hk)
theorem ofU_put {l : List UsM} {u : ByteArray} {r : List StM} (h : RiseK UsM.u l) : ofU (putU l u r) u = r := by
 unfold ofU putU rowU
 cases r with
 | nil =>
  have h1 := find_ins_none (key := UsM.u) (l := l) (u := u)
  have e : (if ([] : List StM).isEmpty = true then [] else [(⟨u, []⟩ : UsM)]) = [] := rfl
  rw [e, h1]
 | cons a r =>
  have e : (if (a :: r).isEmpty = true then [] else [(⟨u, a :: r⟩ : UsM)]) = [⟨u, a :: r⟩] := rfl
  have h1 := find_ins_self (key := UsM.u) h (x := ⟨u, a :: r⟩) rfl
  rw [e, h1]
theorem ofU_add {l : List UsM} {u : ByteArray} {x : StM} (h : RiseK UsM.u l) : ofU (addU l u x) u = addS (ofU l u) x := by
 unfold addU
 split
 ·rw [ofU_put h]
 ·rename_i h1
  unfold addS
  rw [if_pos (by omega)]
theorem addS_perm (l : List StM) (x : StM) : (addS l x).Perm (if x.f < x.t then x :: l else l) := by
 unfold addS
 by_cases h : x.f < x.t
 ·rw [if_neg (by omega), if_pos h]; exact putS_perm l x
 ·rw [if_pos (by omega), if_neg h]
theorem addsS_sorted : ∀ (l : List StM) {r : List StM}, SortedS r → SortedS (addsS l r)
 | [], _, h => h
 | x :: l, _, h => addsS_sorted l (addS_sorted h)
end Go.Proofs.YtmfpjapiijgdgaaGreat
namespace Go.Proofs.YtmfpjapiijgdgaaGreat
set_option linter.unusedVariables false
theorem op_one {l : List OpM} (h : l.Pairwise fun a b => a.n < b.n) {x y : OpM} (hx : x ∈ l) (hy : y ∈ l) (e : x.n = y.n) : x = y := by
 obtain ⟨i, hi, rfl⟩ := List.getElem_of_mem hx
 obtain ⟨j, hj, rfl⟩ := List.getElem_of_mem hy
 rw [List.pairwise_iff_getElem] at h
 rcases Nat.lt_trichotomy i j with h1 | h1 | h1
 ·have := h i j hi hj h1; omega
 ·subst h1; rfl
 ·have := h j i hj hi h1; omega
theorem pw_of {l : List OpM} (h : RiseO l) : l.Pairwise fun a b => a.n < b.n := (riseO_iff.1 h).2.2
theorem notU_iff {u : ByteArray} {e : OpM} : notU u e = true ↔ ¬ e.u = u := decide_eq_true_iff
def isBe (u : ByteArray) (e : EvM) : Bool := (decide (e.kind = 1) || decide (e.kind = 2)) && decide (e.user = u)
def stV12 (now : Int) (e : EvM) (l : List EvM) : StM := ⟨e.at_, endV e.n now l, e.n, e.status⟩
def rawV (u : ByteArray) (now : Int) : List EvM → List StM
 | [] => []
 | e :: l => if isBe u e = true then stV12 now e l :: rawV u now l else rawV u now l
def modelV (u : ByteArray) (now : Int) (l : List EvM) : List StM := addsS (rawV u now (tailP (isEr u) l)) []
def opE (e : EvM) : OpM := ⟨e.n, e.user, e.status, e.at_⟩
def opVE (u : ByteArray) : List EvM → List OpM
 | [] => []
 | e :: l => if isBe u e = true ∧ l.find? (isEn e.n) = none then opE e :: opVE u l else opVE u l
def clV (u : ByteArray) : List EvM → List StM
 | [] => []
 | e :: l => if isBe u e = true then (match l.find? (isEn e.n) with
  | none => clV u l
  | some x => (⟨e.at_, x.at_, e.n, e.status⟩ : StM) :: clV u l) else clV u l
theorem raw_parts (u : ByteArray) (now : Int) : ∀ l : List EvM, (rawV u now l).Perm (clV u l ++ (opVE u l).map fun o => stayO o now)
 | [] => .refl _
 | e :: l => by
  have ih := raw_parts u now l
  unfold rawV clV opVE
  by_cases hb : isBe u e = true
  ·rw [if_pos hb, if_pos hb]
   unfold stV12 endV
   cases hf : l.find? (isEn e.n) with
   | none =>
    rw [if_pos ⟨hb, rfl⟩]
    exact (ih.cons _).trans List.perm_middle.symm
   | some x =>
    rw [if_neg (fun h => by cases h.2)]
    exact ih.cons _
  ·rw [if_neg hb, if_neg hb, if_neg (fun h => hb h.1)]
   exact ih
def enB (x : EvM) (o : OpM) : Bool := isEn o.n x
theorem op_snoc (u : ByteArray) (x : EvM) : ∀ B : List EvM, opVE u (B ++ [x]) = (opVE u B).filter (fun o => !enB x o) ++ (if isBe u x = true then [opE x] else [])
 | [] => by
  show (if isBe u x = true ∧ ([] : List EvM).find? (isEn x.n) = none then opE x :: opVE u [] else opVE u []) = [] ++ _
  by_cases hb : isBe u x = true
  ·rw [if_pos ⟨hb, rfl⟩, if_pos hb]; rfl
  ·rw [if_neg (fun h => hb h.1), if_neg hb]; rfl
 | e :: B => by
  have ih := op_snoc u x B
  show (if isBe u e = true ∧ (B ++ [x]).find? (isEn e.n) = none then opE e :: opVE u (B ++ [x]) else opVE u (B ++ [x])) = (if isBe u e = true ∧ B.find? (isEn e.n) = none then opE e :: opVE u B else opVE u B).filter _ ++ _
  rw [find_snoc, ih]
  by_cases hb : isBe u e = true
  ·cases hf : B.find? (isEn e.n) with
   | none =>
    cases hx : isEn e.n x with
    | true => simp [hb, hx, enB, opE]
    | false => simp [hb, hx, enB, opE]
   | some y => simp
  ·simp [hb]
theorem clV_end {u : ByteArray} {e y : EvM} {l : List EvM} (hb : isBe u e = true) (hf : l.find? (isEn e.n) = some y) : clV u (e :: l) = (⟨e.at_, y.at_, e.n, e.status⟩ : StM) :: clV u l := by
 rw [clV, if_pos hb, hf]
theorem clV_up {u : ByteArray} {e : EvM} {l : List EvM} (h : ¬ isBe u e = true ∨ l.find? (isEn e.n) = none) : clV u (e :: l) = clV u l := by
 rw [clV]
 split
 ·rename_i hb
  rw [h.resolve_left (fun h => h hb)]
 ·rfl
theorem opV_up {u : ByteArray} {e : EvM} {l : List EvM} (hb : isBe u e = true) (hf : l.find? (isEn e.n) = none) : opVE u (e :: l) = opE e :: opVE u l := by
 rw [opVE, if_pos ⟨hb, hf⟩]
theorem opV_no {u : ByteArray} {e : EvM} {l : List EvM} (h : ¬ (isBe u e = true ∧ l.find? (isEn e.n) = none)) : opVE u (e :: l) = opVE u l := by
 rw [opVE, if_neg h]
theorem cl_snoc (u : ByteArray) (x : EvM) : ∀ B : List EvM, (clV u (B ++ [x])).Perm (clV u B ++ ((opVE u B).filter (enB x)).map fun o => stayO o x.at_)
 | [] => by
  have h : clV u ([] ++ [x]) = clV u [] := clV_up (.inr rfl)
  rw [h]
  exact .refl _
 | e :: B => by
  have ih := cl_snoc u x B
  have hs := find_snoc (isEn e.n) B x
  rw [List.cons_append]
  by_cases hb : isBe u e = true
  ·cases hf : B.find? (isEn e.n) with
   | none =>
    rw [hf] at hs
    rw [clV_up (l := B) (.inr hf), opV_up hb hf, List.filter_cons]
    cases hx : isEn e.n x with
    | true =>
     rw [hx] at hs
     rw [clV_end hb hs, if_pos (show enB x (opE e) = true from hx), List.map_cons]
     exact (ih.cons _).trans List.perm_middle.symm
    | false =>
     rw [hx] at hs
     rw [clV_up (.inr hs), if_neg (show ¬ enB x (opE e) = true from by unfold enB opE; rw [hx]; decide)]
     exact ih
   | some y =>
    rw [hf] at hs
    rw [clV_end hb hs, clV_end hb hf, opV_no (fun h => by rw [hf] at h; cases h.2)]
    exact ih.cons _
  ·rw [clV_up (.inl hb), clV_up (l := B) (.inl hb), opV_no (fun h => hb h.1)]
   exact ih
def tmS (x : StM) : Bool := decide (x.f < x.t)
structure Mod (u : ByteArray) (s : SaM) (B : List EvM) : Prop where
 op : (s.op.filter (isU u)).Perm (opVE u B)
 us : (ofU s.us u).Perm ((clV u B).filter tmS)
theorem isU_iff {u : ByteArray} {e : OpM} : isU u e = true ↔ e.u = u := decide_eq_true_iff
theorem filter_all {α : Type} {p : α → Bool} {l : List α} (h : ∀ x ∈ l, p x = true) : l.filter p = l := List.filter_eq_self.2 h
theorem not_en {x : EvM} {L : List OpM} (h : ∀ o ∈ L, enB x o = false) : L.filter (fun o => !enB x o) = L := filter_all fun o ho => by rw [h o ho]; rfl
theorem Mod.idle {u : ByteArray} {s t : SaM} {B : List EvM} {x : EvM} (h : Mod u s B) (ho : t.op.filter (isU u) = s.op.filter (isU u)) (hu : ofU t.us u = ofU s.us u) (hb : isBe u x = false) (he : ∀ o ∈ s.op.filter (isU u), isEn o.n x = false) : Mod u t (B ++ [x]) := by
 have he' : ∀ o ∈ opVE u B, enB x o = false := fun o hoo => he o (h.op.mem_iff.2 hoo)
 refine ⟨?_, ?_⟩
 ·rw [ho, op_snoc, if_neg (by rw [hb]; decide), List.append_nil, not_en he']
  exact h.op
 ·have h1 := (cl_snoc u x B).filter tmS
  rw [filter_no he', List.map_nil, List.append_nil] at h1
  rw [hu]
  exact h.us.trans h1.symm
theorem Mod.ends {u : ByteArray} {s : SaM} {B : List EvM} {x : EvM} (h : Mod u s B) (hp : s.op.Pairwise fun a b => a.n < b.n) {k : Nat} (hk : k < s.op.length) (hn : s.op[k].n = x.n) (hu : s.op[k].u = u) (hx : x.kind = 2 ∨ x.kind = 3) :
  ((s.op.take k ++ s.op.drop (k + 1)).filter (isU u)).Perm ((opVE u B).filter fun o => !enB x o) ∧ (clV u (B ++ [x])).Perm (stayO s.op[k] x.at_ :: clV u B) := by
 have he : ∀ o : OpM, enB x o = decide (o.n = x.n) := fun o => by
  unfold enB isEn
  have h1 : (decide (x.kind = 2) || decide (x.kind = 3)) = true := by rcases hx with e | e <;> simp [e]
  rw [h1, Bool.true_and]
  exact decide_eq_decide.2 eq_comm
 have hR : ∀ o ∈ s.op.take k ++ s.op.drop (k + 1), o.n ≠ x.n := fun o ho => by
  have := (mem_cut hp hk (show o ∈ cutAt s.op k from ho)).2
  rw [← hn]; exact this
 have hl : (s.op.filter (isU u)).Perm (s.op[k] :: (s.op.take k ++ s.op.drop (k + 1)).filter (isU u)) := by
  have h1 : s.op.Perm (s.op[k] :: (s.op.take k ++ s.op.drop (k + 1))) := by
   conv => lhs; rw [← List.take_append_drop k s.op, List.drop_eq_getElem_cons hk]
   exact List.perm_middle
  have h2 := h1.filter (isU u)
  rwa [List.filter_cons, if_pos (isU_iff.2 hu)] at h2
 have hV := h.op.symm.trans hl
 generalize hRR : (s.op.take k ++ s.op.drop (k + 1)).filter (isU u) = R at *
 have hRn : ∀ o ∈ R, enB x o = false := fun o ho => by
  rw [← hRR] at ho
  rw [he, decide_eq_false_iff_not]
  exact hR o (List.mem_filter.1 ho).1
 constructor
 ·have h1 := hV.filter fun o => !enB x o
  rw [List.filter_cons, if_neg (by rw [he, hn]; simp), not_en hRn] at h1
  exact h1.symm
 ·have h1 := hV.filter (enB x)
  rw [List.filter_cons, if_pos (by rw [he, hn]; simp), filter_no hRn] at h1
  have h2 := (cl_snoc u x B).trans (List.Perm.append_left _ (h1.map fun o => stayO o x.at_))
  exact h2.trans (List.perm_append_comm)
theorem Mod.go {u : ByteArray} {s : SaM} {l : List EvM} (h : Mod u s (tailP (isEr u) l)) (hs : RightS s) {e : EvM} (he : errE s e = 0) : Mod u (goE s e) (tailP (isEr u) (l ++ [e])) := by
 obtain ⟨⟨_, _, hr⟩, ha, hc⟩ := errS_ok he
 rw [tailP_snoc]
 generalize tailP (isEr u) l = B at *
 have hp := pw_of hs.op
 unfold errK at hc
 obtain ⟨k, a, eu, eo, n, st⟩ := e
 unfold goE goS
 dsimp only at *
 have hno : ∀ {x : OpM}, x ∈ s.op → x.u ≠ u → ∀ o ∈ s.op.filter (isU u), o.n ≠ x.n := fun {x} hx hxu o ho e0 => by
  obtain ⟨h1, h2⟩ := List.mem_filter.1 ho
  exact hxu (by rw [← op_one hp h1 hx e0]; exact isU_iff.1 h2)
 have hmid : ∀ {A C : List OpM} {y : OpM}, y.u ≠ u → (A ++ y :: C).filter (isU u) = (A ++ C).filter (isU u) := fun {A C y} hy => by
  rw [List.filter_append, List.filter_append, List.filter_cons, if_neg (by rw [isU_iff]; exact hy)]
 have hsp : ∀ {k : Nat} (hk : k < s.op.length), s.op[k].u ≠ u → s.op.filter (isU u) = (s.op.take k ++ s.op.drop (k + 1)).filter (isU u) := fun {k} hk hy => by
  conv => lhs; rw [← List.take_append_drop k s.op, List.drop_eq_getElem_cons hk]
  exact hmid hy
 rcases hr with ⟨h1 | h1, _⟩ | ⟨h1, _⟩ | ⟨h1 | h1, _⟩ | ⟨h1, _⟩ | ⟨h1, _⟩
 ·subst h1
  rw [if_pos rfl] at hc
  show Mod u { s with now := a, op := openR s.op ⟨n, eu, st, a⟩ } _
  rw [if_neg (by simp [isEr])]
  have hE : ∀ o, isEn o ⟨1, a, eu, eo, n, st⟩ = false := fun o => by simp [isEn]
  have hpm : (openR s.op ⟨n, eu, st, a⟩).Perm (⟨n, eu, st, a⟩ :: s.op) := by
   unfold openR openS
   rw [if_pos hc]
   generalize s.op.findIdx _ = k
   refine List.perm_middle.trans ?_
   rw [List.take_append_drop]
  have hpf := hpm.filter (isU u)
  rw [List.filter_cons] at hpf
  by_cases hu : eu = u
  ·rw [if_pos (isU_iff.2 hu)] at hpf
   refine ⟨?_, ?_⟩
   ·rw [op_snoc, if_pos (by simp [isBe, hu]), not_en (L := opVE u B) (fun o ho => hE _)]
    exact hpf.trans ((h.op.cons _).trans (List.perm_append_comm (l₁ := [_])))
   ·have h2 := (cl_snoc u ⟨1, a, eu, eo, n, st⟩ B).filter tmS
    rw [filter_no (p := enB ⟨1, a, eu, eo, n, st⟩) (l := opVE u B) (fun o ho => hE _), List.map_nil, List.append_nil] at h2
    exact h.us.trans h2.symm
  ·rw [if_neg (by rw [isU_iff]; exact hu)] at hpf
   refine ⟨?_, ?_⟩
   ·rw [op_snoc, if_neg (by simp [isBe, hu]), List.append_nil, not_en (L := opVE u B) (fun o ho => hE _)]
    exact hpf.trans h.op
   ·have h2 := (cl_snoc u ⟨1, a, eu, eo, n, st⟩ B).filter tmS
    rw [filter_no (p := enB ⟨1, a, eu, eo, n, st⟩) (l := opVE u B) (fun o ho => hE _), List.map_nil, List.append_nil] at h2
    exact h.us.trans h2.symm
 ·subst h1
  have hc : findC s.op n eu = 0 := hc
  rcases fc_three s.op n eu with ⟨_, k, hk, hf, g1, g2, g3, g4⟩ | ⟨g1 | g1, _⟩
  ·have hR : chgR s.op n eu st a = s.op.take k ++ ⟨s.op[k].n, s.op[k].u, st, a⟩ :: s.op.drop (k + 1) := by
    unfold chgR
    rw [if_pos hc, g4, chgAt_at hk]
   have hF : fndS s.op n eu a = stayO s.op[k] a := by unfold fndS; rw [if_pos hc, g3]
   show Mod u { s with now := a, op := chgR s.op n eu st a, us := addU s.us eu (fndS s.op n eu a) } _
   rw [if_neg (by simp [isEr])]
   by_cases hu : eu = u
   ·subst hu
    obtain ⟨k1, k2⟩ := h.ends (x := ⟨2, a, eu, eo, n, st⟩) hp hk g1 g2 (.inl rfl)
    refine ⟨?_, ?_⟩
    ·show (chgR s.op n eu st a).filter (isU eu) |>.Perm _
     rw [hR, op_snoc, if_pos (by simp [isBe])]
     have h2 : ((s.op.take k ++ (⟨s.op[k].n, s.op[k].u, st, a⟩ : OpM) :: s.op.drop (k + 1)).filter (isU eu)).Perm (opE ⟨2, a, eu, eo, n, st⟩ :: (s.op.take k ++ s.op.drop (k + 1)).filter (isU eu)) := by
      have h3 := (List.perm_middle (a := (⟨s.op[k].n, s.op[k].u, st, a⟩ : OpM)) (l₁ := s.op.take k) (l₂ := s.op.drop (k + 1))).filter (isU eu)
      rw [List.filter_cons, if_pos (show isU eu (⟨s.op[k].n, s.op[k].u, st, a⟩ : OpM) = true from isU_iff.2 g2)] at h3
      have h4 : (⟨s.op[k].n, s.op[k].u, st, a⟩ : OpM) = opE ⟨2, a, eu, eo, n, st⟩ := by rw [g1, g2]; rfl
      rw [h4] at h3 ⊢
      exact h3
     exact h2.trans ((k1.cons _).trans (List.perm_append_comm (l₁ := [_])))
    ·show (ofU (addU s.us eu _) eu).Perm _
     rw [ofU_add hs.ur, hF]
     refine (addS_perm _ _).trans ?_
     have h5 := k2.filter tmS
     rw [List.filter_cons] at h5
     have e1 : tmS (stayO s.op[k] a) = decide ((stayO s.op[k] a).f < (stayO s.op[k] a).t) := rfl
     by_cases hlt : (stayO s.op[k] a).f < (stayO s.op[k] a).t
     ·rw [if_pos (by rw [e1]; exact decide_eq_true hlt)] at h5
      rw [if_pos hlt]
      exact (h.us.cons _).trans h5.symm
     ·rw [if_neg (by rw [e1, decide_eq_true_iff]; exact hlt)] at h5
      rw [if_neg hlt]
      exact h.us.trans h5.symm
   ·have hku : s.op[k].u ≠ u := by rw [g2]; exact hu
    refine h.idle ?_ (ofU_add_other hs.ur (fun e => hu e.symm)) (by simp [isBe, hu]) fun o ho => ?_
    ·show (chgR s.op n eu st a).filter (isU u) = _
     rw [hR, hmid (y := (⟨s.op[k].n, s.op[k].u, st, a⟩ : OpM)) hku, ← hsp hk hku]
    ·have := hno (List.getElem_mem hk) hku o ho
     rw [g1] at this
     unfold isEn; rw [show decide ((⟨2, a, eu, eo, n, st⟩ : EvM).n = o.n) = false from decide_eq_false (fun e => this e.symm), Bool.and_false]
  ·rw [hc] at g1; exact absurd g1 (by decide)
  ·rw [hc] at g1; exact absurd g1 (by decide)
 ·subst h1
  have hc : findC s.op n eu = 0 := hc
  rcases fc_three s.op n eu with ⟨_, k, hk, hf, g1, g2, g3, g4⟩ | ⟨g1 | g1, _⟩
  ·have hR : cloR s.op n eu = s.op.take k ++ s.op.drop (k + 1) := by
    unfold cloR cutAt
    rw [if_pos hc, g4]
   have hF : fndS s.op n eu a = stayO s.op[k] a := by unfold fndS; rw [if_pos hc, g3]
   show Mod u { s with now := a, op := cloR s.op n eu, us := addU s.us eu (fndS s.op n eu a) } _
   rw [if_neg (by simp [isEr])]
   by_cases hu : eu = u
   ·subst hu
    obtain ⟨k1, k2⟩ := h.ends (x := ⟨3, a, eu, eo, n, st⟩) hp hk g1 g2 (.inr rfl)
    refine ⟨?_, ?_⟩
    ·show (cloR s.op n eu).filter (isU eu) |>.Perm _
     rw [hR, op_snoc, if_neg (by simp [isBe]), List.append_nil]
     exact k1
    ·show (ofU (addU s.us eu _) eu).Perm _
     rw [ofU_add hs.ur, hF]
     refine (addS_perm _ _).trans ?_
     have h5 := k2.filter tmS
     rw [List.filter_cons] at h5
     have e1 : tmS (stayO s.op[k] a) = decide ((stayO s.op[k] a).f < (stayO s.op[k] a).t) := rfl
     by_cases hlt : (stayO s.op[k] a).f < (stayO s.op[k] a).t
     ·rw [if_pos (by rw [e1]; exact decide_eq_true hlt)] at h5
      rw [if_pos hlt]
      exact (h.us.cons _).trans h5.symm
     ·rw [if_neg (by rw [e1, decide_eq_true_iff]; exact hlt)] at h5
      rw [if_neg hlt]
      exact h.us.trans h5.symm
   ·have hku : s.op[k].u ≠ u := by rw [g2]; exact hu
    refine h.idle ?_ (ofU_add_other hs.ur (fun e => hu e.symm)) (by simp [isBe]) fun o ho => ?_
    ·show (cloR s.op n eu).filter (isU u) = _
     rw [hR, ← hsp hk hku]
    ·have := hno (List.getElem_mem hk) hku o ho
     rw [g1] at this
     unfold isEn; rw [show decide ((⟨3, a, eu, eo, n, st⟩ : EvM).n = o.n) = false from decide_eq_false (fun e => this e.symm), Bool.and_false]
  ·rw [hc] at g1; exact absurd g1 (by decide)
  ·rw [hc] at g1; exact absurd g1 (by decide)
 ·subst h1
  show Mod u { s with now := a, su := grantS s.su (mkE eu eo a) } _
  rw [if_neg  (by simp [isEr])]
  exact h.idle  rfl rfl (by simp [isBe]) fun o ho => by simp [isEn]
 ·subst h1
  show Mod u { s with now := a, su := revokeS s.su eu eo a } _
  rw [if_neg  (by simp [isEr])]
  exact h.idle  rfl rfl (by simp [isBe]) fun o ho => by simp [isEn]
 ·subst h1
  show Mod u { s with now := a, hor := max s.hor n } _
  rw [if_neg  (by simp [isEr])]
  exact h.idle  rfl rfl (by simp [isBe]) fun o ho => by simp [isEn]
 ·subst h1
  show Mod u { s with now := a, op := s.op.filter (notU eu), su := withoutS s.su eu, us := putU s.us eu [], tb := tombU s.tb eu a } _
  by_cases hu : eu = u
  ·subst hu
   rw [if_pos (by simp [isEr])]
   refine ⟨?_, ?_⟩
   ·show ((s.op.filter (notU eu)).filter (isU eu)).Perm []
    rw [filter_no fun o ho => Bool.eq_false_iff.2 fun h1 => notU_iff.1 (List.mem_filter.1 ho).2 (isU_iff.1 h1)]
   ·show (ofU (putU s.us eu []) eu).Perm []
    rw [ofU_put hs.ur]
  ·rw [if_neg (by simp [isEr, hu])]
   refine h.idle ?_ (ofU_other hs.ur (fun e => hu e.symm)) (by simp [isBe]) fun o ho => by simp [isEn]
   show (s.op.filter (notU eu)).filter (isU u) = _
   rw [List.filter_filter]
   refine List.filter_congr fun o ho => ?_
   by_cases h1 : o.u = u
   ·rw [isU_iff.2 h1, notU_iff.2 (by rw [h1]; exact fun e => hu e.symm)]; rfl
   ·rw [Bool.eq_false_iff.2 fun h2 => h1 (isU_iff.1 h2), Bool.false_and]
theorem Mod.zero (u : ByteArray) : Mod u saZ [] := ⟨.refl _, .refl _⟩
theorem Mod.fold {u : ByteArray} : ∀ (l2 l1 : List EvM), Mod u (foldE saZ l1) (tailP (isEr u) l1) → AllT (foldE saZ l1) l2 → Mod u (foldE saZ (l1 ++ l2)) (tailP (isEr u) (l1 ++ l2))
 | [], l1, h, _ => by rw [List.append_nil]; exact h
 | e :: l2, l1, h, ha => by
  obtain ⟨h1, h2⟩ := ha.cons
  have h3 := h.go (right_fold l1 RightS.zero) h1
  have e1 : foldE saZ (l1 ++ [e]) = goE (foldE saZ l1) e := by rw [foldE_append, foldE_cons, nxE_ok h1]; rfl
  rw [← e1] at h3 h2
  have h4 := Mod.fold l2 (l1 ++ [e]) h3 h2
  rw [List.append_assoc] at h4
  exact h4
theorem adds_perm2 : ∀ (l : List StM) {r : List StM}, (addsS l r).Perm (l.filter tmS ++ r)
 | [], r => .refl _
 | x :: l, r => by
  have h1 : (addsS (x :: l) r) = addsS l (addS r x) := rfl
  rw [h1]
  refine (adds_perm2 l).trans ?_
  refine (List.Perm.append_left _ (addS_perm r x)).trans ?_
  rw [List.filter_cons]
  by_cases h : x.f < x.t
  ·rw [if_pos h, if_pos (show tmS x = true from decide_eq_true h)]
   exact List.perm_middle
  ·rw [if_neg h, if_neg (show ¬ tmS x = true from by unfold tmS; rw [decide_eq_true_iff]; exact h)]
theorem fold_model (l : List EvM) (u : ByteArray) (w : Int) (h : AllT saZ l) : staysS (foldE saZ l) u w = modelV u w l := by
 have hM := Mod.fold (u := u) l [] (Mod.zero u) h
 rw [List.nil_append] at hM
 have hR := right_fold l RightS.zero
 unfold staysS modelV
 generalize foldE saZ l = s at *
 generalize tailP (isEr u) l = B at *
 have hso := rise_sorted (ofU_okst (u := u) hR.us).1
 refine sorted_only (addsS_sorted _ hso) (addsS_sorted _ List.Pairwise.nil) ?_
 refine (adds_perm2 _).trans (List.Perm.trans ?_ (adds_perm2 _).symm)
 rw [List.append_nil]
 refine List.Perm.trans ?_ ((raw_parts u w B).filter tmS).symm
 rw [List.filter_append]
 refine List.Perm.trans ?_ List.perm_append_comm
 refine List.Perm.append ?_ hM.us
 have h1 := (stays_is s.op u w s.op.length (Nat.le_refl _)).1
 rw [List.take_length] at h1
 refine (h1.filter tmS).trans ?_
 unfold rawO
 have h2 : ((s.op.filter (stU u w)).map fun e => stayO e w).filter tmS = ((s.op.filter (isU u)).map fun e => stayO e w).filter tmS := by
  rw [List.filter_map, List.filter_map, List.filter_filter, List.filter_filter]
  congr 1
  refine List.filter_congr fun o ho => ?_
  show (tmS (stayO o w) && stU u w o) = (tmS (stayO o w) && isU u o)
  unfold tmS stayO stU isU
  dsimp only
  cases decide (o.f < w) <;> simp
 rw [h2]
 exact (hM.op.map _).filter _
end Go.Proofs.YtmfpjapiijgdgaaGreat
namespace Go.Proofs.YtmfpjapiijgdgaaGreat
open Go.RowKit
set_option linter.unusedVariables false
set_option maxRecDepth 100000
set_option maxRecDepth 100000
theorem EvSl.drew {w : World} {a : Option Addr} {l : List EvM} (h : EvSl w a l) : EvSl w.drew a l := h.below (Below.refl _ _).drew
end Go.Proofs.YtmfpjapiijgdgaaGreat
namespace Go.Proofs.YtmfpjapiijgdgaaGreat
open Go.RowKit Go.Proofs
set_option linter.unusedVariables false
set_option maxRecDepth 100000
theorem rawV_next (u : ByteArray) (now : Int) (l : List EvM) (j : Nat) (h : j < l.length) : rawV u now (l.drop j) = if isBe u l[j] = true then stV12 now l[j] (l.drop (j + 1)) :: rawV u now (l.drop (j + 1)) else rawV u now (l.drop (j + 1)) := by
 rw [drop_next l j h]
 rfl
theorem endV_hit {n now : Int} {l : List EvM} {j : Nat} (h : j < l.length) (hp : isEn n l[j] = true) : endV n now (l.drop j) = l[j].at_ := by
 unfold endV
 rw [drop_next l j h, List.find?_cons_of_pos hp]
theorem endV_up {n now : Int} {l : List EvM} {j : Nat} (h : j < l.length) (hp : isEn n l[j] = false) : endV n now (l.drop j) = endV n now (l.drop (j + 1)) := by
 unfold endV
 rw [drop_next l j h, List.find?_cons_of_neg (by rw [hp]; decide)]
theorem endV_end {n now : Int} (l : List EvM) : endV n now (l.drop l.length) = now := by
 rw [List.drop_length]
 rfl
theorem stays_model (l : List EvM) (u : ByteArray) (t : Int) : staysS (foldE saZ l) u t = modelV u t (takenE saZ l) := by
 obtain ⟨h1, h2, -⟩ := taken_again l saZ
 rw [← h1]
 exact fold_model _ u t h2
set_option maxHeartbeats 4000000 in
theorem rend_any (a : Option Addr) (c : Nat) (l : List EvM) (k : Nat) (now : Int) (w : World) (hs : EvSl w a l) (hl : l.length ≤ 1000) (hk : k < l.length) :
  Calls Tryz.prog 94 #[.slice a l.length c, .int .i64 k, .int .i64 now] w fun e w' => e = .returned (.int .i64 (endV l[k].n now (l.drop (k + 1)))) ∧ Below w.heap.size w w' := by
 have HS := Lib.hid hs
 have hw0 : IntKind.i64.wrap ((k : Int) + 1) = (k : Int) + 1 := IntWalk.i64_in _ (by omega)
 obtain ⟨ba, oa, rfl, -, -, -, -, -, -, -⟩ := hs.at_ hk
 have HKN : Hid (∀ V, EvSl V (some ⟨ba, oa, none⟩) l → V.cell? ⟨ba, oa + k * 6 + 4, none⟩ = some (.int .i64 l[k].n)) := Lib.hid fun V h => by
  obtain ⟨b, o, e, -, -, -, -, -, h4, -⟩ := h.at_ hk
  cases e
  exact h4
 obtain ⟨N, hN⟩ : ∃ N, N = l[k].n := ⟨_, rfl⟩
 rw [← hN] at HKN ⊢
 clear hs hN
 go_enter Tryz.func94, Tryz.ntmps94
 go_wp2
 go_loopw [7] (fun iv wr => ∃ (j : Nat), j ≤ l.length ∧ iv = .int .i64 j ∧ Hid (endV N now (l.drop (k + 1)) = endV N now (l.drop j)) ∧ Hid (Below w.heap.size w wr)) (fun iv _ => l.length - (intOf iv).toNat)
 case atStart => exact ⟨k + 1, by omega, by go_num, Lib.hid rfl, Lib.hid (Below.refl _ _)⟩
 case round =>
  obtain ⟨j, hj, rfl, HN, HB⟩ := hrel
  by_cases hjl : j < l.length
  ·have hw1 : IntKind.i64.wrap ((j : Int) + 1) = (j : Int) + 1 := IntWalk.i64_in _ (by omega)
   have n0 := HKN.out _ (HS.out.below HB.out)
   obtain ⟨b, off, eb, hbl, r0, r1, r2, r3, r4, r5⟩ := (HS.out.below HB.out).at_ hjl
   cases eb
   have HIT : Hid (isEn N l[j] = true → endV N now (l.drop (k + 1)) = l[j].at_) := Lib.hid fun h => HN.out.trans (endV_hit hjl h)
   have HUP : Hid (isEn N l[j] = false → endV N now (l.drop (k + 1)) = endV N now (l.drop (j + 1))) := Lib.hid fun h => HN.out.trans (endV_up hjl h)
   have HEN : Hid (isEn N l[j] = ((decide (l[j].kind = 2) || decide (l[j].kind = 3)) && decide (l[j].n = N))) := Lib.hid rfl
   have hkj : decide ((k : Int) < (l.length : Int)) = true := decide_eq_true (by omega)
   generalize l[j] = e at *
   by_cases h2 : e.kind = 2
   ·have k2 : (e.kind == 2) = true := beq_iff_eq.2 h2
    by_cases hn : e.n = N
    ·have hq : (e.n == N) = true := beq_iff_eq.2 hn
     have HI := Lib.hid (HIT.out (by rw [HEN.out, decide_eq_true h2, decide_eq_true hn]; rfl))
     clear HIT HUP HEN HN h2 hn HKN
     go_wp2
     go_quiet (fail)
     go_wp2
     go_ret
     exact ⟨retI HI.out.symm, HB.out.trans (Drew.below ⟨_, rfl⟩ _)⟩
    ·have hq : (e.n == N) = false := beq_false_of_ne hn
     have HU := Lib.hid (HUP.out (by rw [HEN.out, decide_eq_false hn, Bool.and_false]))
     clear HIT HUP HEN HN h2 hn HKN
     go_wp2
     go_quiet (fail)
     go_wp2
     go_roundw
     case rel => exact ⟨j + 1, by omega, by go_num, HU, Lib.hid (HB.out.trans (Drew.below ⟨_, rfl⟩ _))⟩
     case measure => simp [intOf]; omega
   ·have k2 : (e.kind == 2) = false := beq_false_of_ne h2
    by_cases h3 : e.kind = 3
    ·have k3 : (e.kind == 3) = true := beq_iff_eq.2 h3
     by_cases hn : e.n = N
     ·have hq : (e.n == N) = true := beq_iff_eq.2 hn
      have HI := Lib.hid (HIT.out (by rw [HEN.out, decide_eq_true h3, decide_eq_true hn, Bool.or_true]; rfl))
      clear HIT HUP HEN HN h2 h3 hn HKN
      go_wp2
      go_quiet (fail)
      go_wp2
      go_ret
      exact ⟨retI HI.out.symm, HB.out.trans (Drew.below ⟨_, rfl⟩ _)⟩
     ·have hq : (e.n == N) = false := beq_false_of_ne hn
      have HU := Lib.hid (HUP.out (by rw [HEN.out, decide_eq_false hn, Bool.and_false]))
      clear HIT HUP HEN HN h2 h3 hn HKN
      go_wp2
      go_quiet (fail)
      go_wp2
      go_roundw
      case rel => exact ⟨j + 1, by omega, by go_num, HU, Lib.hid (HB.out.trans (Drew.below ⟨_, rfl⟩ _))⟩
      case measure => simp [intOf]; omega
    ·have k3 : (e.kind == 3) = false := beq_false_of_ne h3
     have HU := Lib.hid (HUP.out (by rw [HEN.out, decide_eq_false h2, decide_eq_false h3]; rfl))
     clear HIT HUP HEN HN h2 h3 HKN
     go_wp2
     go_quiet (fail)
     go_wp2
     go_roundw
     case rel => exact ⟨j + 1, by omega, by go_num, HU, Lib.hid (HB.out.trans (Drew.below ⟨_, rfl⟩ _))⟩
     case measure => simp [intOf]; omega
  ·obtain rfl : j = l.length := by omega
   rw [endV_end] at HN
   clear HKN
   go_wp2
   go_ret
   exact ⟨retI HN.out.symm, HB.out⟩
set_option maxHeartbeats 4000000 in
theorem mstays_any (a : Option Addr) (c : Nat) (l : List EvM) (u : ByteArray) (now : Int) (w : World) (hs : EvSl w a l) (hl : l.length ≤ 400) :
  Calls Tryz.prog 40 #[.slice a l.length c, .string u, .int .i64 now] w fun e w' => ∃ x q, e = .returned (.slice x (modelV u now l).length q) ∧ StSl w' x (modelV u now l) ∧ Below w.heap.size w w' := by
 have HBG := Lib.hid (fun V (h : EvSl V a l) => rbegin_any a c l u V h (by omega))
 have HEN0 := Lib.hid (fun V k (hk : k < l.length) (h : EvSl V a l) => rend_any a c l k now V h (by omega) hk)
 have HAD := Lib.hid (fun V a c (l : List StM) (s : StM) (h : StSl V a l) (k : Cp a l.length c) (hl : l.length ≤ 1000) => refAdd_more a c l s V h k.nil hl k.le k.mx)
 have HNX : Hid (∀ j (h : j < l.length), rawV u now (l.drop j) = if isBe u l[j] = true then stV12 now l[j] (l.drop (j + 1)) :: rawV u now (l.drop (j + 1)) else rawV u now (l.drop (j + 1))) := Lib.hid fun j h => rawV_next u now l j h
 have HS := Lib.hid hs
 have HFI : Hid (∀ O, modelV u now l = addsS (rawV u now (l.drop l.length)) O → modelV u now l = O) := Lib.hid fun O h => by rw [h, List.drop_length]; rfl
 have HST : Hid (∀ b, IsBeg (isEr u) l b → modelV u now l = addsS (rawV u now (l.drop b)) []) := Lib.hid fun b h => by rw [h.tail]; rfl
 clear hs
 generalize modelV u now l = M at *
 go_enter Tryz.func40, Tryz.ntmps40
 go_wp2_with fail
 refine (HBG.out _ HS.out).mono ?_
 rintro r w1 ⟨b, rfl, hb, h1⟩
 have hbl := hb.le
 have HM0 := Lib.hid (HST.out b hb)
 have HB1 := Lib.hid h1
 clear HST HBG hb h1
 go_wp2
 go_loopw [7, 8] (fun v iv wr => ∃ (j : Nat) (a' : Option Addr) (c' : Nat) (O : List StM), j ≤ l.length ∧ O.length ≤ j ∧ v = .slice a' O.length c' ∧ iv = .int .i64 j ∧ Hid (StSl wr a' O) ∧ Hid (Cp a' O.length c') ∧ Hid (M = addsS (rawV u now (l.drop j)) O) ∧ Hid (Below w.heap.size w wr)) (fun _ iv _ => l.length - (intOf iv).toNat)
 case atStart => exact ⟨b, none, 0, [], hbl, Nat.zero_le _, rfl, rfl, Lib.hid (StSl.nil _ _), Lib.hid Cp.none, HM0, HB1⟩
 case round =>
  clear HM0 HB1 hbl
  obtain ⟨j, a', c', O, hj, hO, rfl, rfl, HR, HC, HM, HB⟩ := hrel
  by_cases hjl : j < l.length
  ·have hw1 : IntKind.i64.wrap ((j : Int) + 1) = (j : Int) + 1 := IntWalk.i64_in _ (by omega)
   have HEV := Lib.hid (HS.out.below HB.out)
   obtain ⟨ba, ao, ea, -, r0, r1, r2, r3, r4, r5⟩ := HEV.out.at_ hjl
   subst ea
   have HEN := Lib.hid (fun V (h : EvSl V (some ⟨ba, ao, none⟩) l) => HEN0.out V j hjl h)
   have HMN := HNX.out j hjl
   have HRW := HM.out
   rw [HMN] at HRW
   clear HNX HMN HM HEN0
   obtain ⟨x, hx⟩ : ∃ x, l[j] = x := ⟨_, rfl⟩
   rw [hx] at HRW HEN r0 r1 r2 r3 r4 r5
   have hk1 : isBe u x = ((decide (x.kind = 1) || decide (x.kind = 2)) && decide (x.user = u)) := rfl
   by_cases hu : x.user = u
   ·have hq : (x.user.toList == u.toList) = true := by rw [hu]; exact txt_eq _
    by_cases h1 : x.kind = 1
    ·have k1 : (x.kind == 1) = true := beq_iff_eq.2 h1
     rw [if_pos (by rw [hk1, decide_eq_true h1, decide_eq_true hu]; rfl)] at HRW
     have HMN : Hid (M = addsS (rawV u now (l.drop (j + 1))) (addS O ⟨x.at_, endV x.n now (l.drop (j + 1)), x.n, x.status⟩)) := Lib.hid HRW
     clear HRW hk1 hu h1
     have HMN2 := HMN
     clear HMN
     generalize endV x.n now (l.drop (j + 1)) = T at *
     have HAD1 := Lib.hid (fun V (h : StSl V a' O) => HAD.out V a' c' O ⟨x.at_, T, x.n, x.status⟩ h HC.out (by omega))
     unfold stV at HAD1
     have hal := addS_len O ⟨x.at_, T, x.n, x.status⟩
     generalize addS O ⟨x.at_, T, x.n, x.status⟩ = O2 at *
     have HSC : Hid (∀ V, EvSl V (some ⟨ba, ao, none⟩) l → V.cell? ⟨ba, ao + j * 6 + 1, none⟩ = some (.int .i64 x.at_) ∧ V.cell? ⟨ba, ao + j * 6 + 4, none⟩ = some (.int .i64 x.n) ∧ V.cell? ⟨ba, ao + j * 6 + 5, none⟩ = some (.int .i64 x.status)) := Lib.hid fun V h => by
      obtain ⟨b', o', e', -, h0, h1, h2, h3, h4, h5⟩ := h.at_ hjl
      cases e'
      rw [hx] at h1 h4 h5
      exact ⟨h1, h4, h5⟩
     have K0 := HEV.out.drew
     have R0 : StSl wr.drew a' O := HR.out.below (Below.refl _ _).drew
     have B0 := (Below.refl wr.heap.size wr).drew
     clear hx HR HAD
     go_wp2_with fail
     go_region_held3 (fun V => V.cell? ⟨ba, ao + j * 6 + 1, none⟩ = some (.int .i64 x.at_) ∧ V.cell? ⟨ba, ao + j * 6 + 4, none⟩ = some (.int .i64 x.n) ∧ V.cell? ⟨ba, ao + j * 6 + 5, none⟩ = some (.int .i64 x.status))
      (first | with_reducible exact HSC.out _ K2 | with_reducible exact HSC.out _ K1 | with_reducible exact HSC.out _ K0)
      (first | (have hseen := K1; clear hseen; go_at_call 93; refine (HAD1.out _ R1).mono ?_; rintro r v2 ⟨x2, q2, rfl, S2, h2, D2⟩; have K2 := K1.below h2; have B2 := B1.trans (h2.mono B1.size)) | (have hseen := K0; clear hseen; go_at_call 94; refine (HEN.out _ K0).mono ?_; rintro r v1 ⟨rfl, h1⟩; have K1 := K0.below h1; have R1 := R0.below h1; have B1 := B0.trans (h1.mono B0.size)))
     all_goals
      have HS2 := Lib.hid S2
      have HC2 := Lib.hid (Cp.mk D2.le D2.max D2.nil)
      have HBN := Lib.hid (HB.out.trans (B2.mono HB.out.size))
      clear K0 K1 K2 R0 R1 B0 B1 B2 S2 D2 h1 h2 HSC HAD1 HEN r0 r1 r2 r3 r4 r5
      go_wp2
      go_roundw
      case rel => exact ⟨j + 1, x2, q2, O2, by omega, by omega, rfl, by go_num, HS2, HC2, Lib.hid (by rw [HMN2.out]), HBN⟩
      case measure => simp [intOf]; omega
    ·have k1 : (x.kind == 1) = false := beq_false_of_ne h1
     by_cases h2 : x.kind = 2
     ·have k2 : (x.kind == 2) = true := beq_iff_eq.2 h2
      rw [if_pos (by rw [hk1, decide_eq_true h2, decide_eq_true hu, Bool.or_true]; rfl)] at HRW
      have HMN : Hid (M = addsS (rawV u now (l.drop (j + 1))) (addS O ⟨x.at_, endV x.n now (l.drop (j + 1)), x.n, x.status⟩)) := Lib.hid HRW
      clear HRW hk1 hu h1 h2
      have HMN2 := HMN
      clear HMN
      generalize endV x.n now (l.drop (j + 1)) = T at *
      have HAD1 := Lib.hid (fun V (h : StSl V a' O) => HAD.out V a' c' O ⟨x.at_, T, x.n, x.status⟩ h HC.out (by omega))
      unfold stV at HAD1
      have hal := addS_len O ⟨x.at_, T, x.n, x.status⟩
      generalize addS O ⟨x.at_, T, x.n, x.status⟩ = O2 at *
      have HSC : Hid (∀ V, EvSl V (some ⟨ba, ao, none⟩) l → V.cell? ⟨ba, ao + j * 6 + 1, none⟩ = some (.int .i64 x.at_) ∧ V.cell? ⟨ba, ao + j * 6 + 4, none⟩ = some (.int .i64 x.n) ∧ V.cell? ⟨ba, ao + j * 6 + 5, none⟩ = some (.int .i64 x.status)) := Lib.hid fun V h => by
       obtain ⟨b', o', e', -, h0, h1, h2, h3, h4, h5⟩ := h.at_ hjl
       cases e'
       rw [hx] at h1 h4 h5
       exact ⟨h1, h4, h5⟩
      have K0 := HEV.out.drew
      have R0 : StSl wr.drew a' O := HR.out.below (Below.refl _ _).drew
      have B0 := (Below.refl wr.heap.size wr).drew
      clear hx HR HAD
      go_wp2_with fail
      go_region_held3 (fun V => V.cell? ⟨ba, ao + j * 6 + 1, none⟩ = some (.int .i64 x.at_) ∧ V.cell? ⟨ba, ao + j * 6 + 4, none⟩ = some (.int .i64 x.n) ∧ V.cell? ⟨ba, ao + j * 6 + 5, none⟩ = some (.int .i64 x.status))
       (first | with_reducible exact HSC.out _ K2 | with_reducible exact HSC.out _ K1 | with_reducible exact HSC.out _ K0)
       (first | (have hseen := K1; clear hseen; go_at_call 93; refine (HAD1.out _ R1).mono ?_; rintro r v2 ⟨x2, q2, rfl, S2, h2, D2⟩; have K2 := K1.below h2; have B2 := B1.trans (h2.mono B1.size)) | (have hseen := K0; clear hseen; go_at_call 94; refine (HEN.out _ K0).mono ?_; rintro r v1 ⟨rfl, h1⟩; have K1 := K0.below h1; have R1 := R0.below h1; have B1 := B0.trans (h1.mono B0.size)))
      all_goals
       have HS2 := Lib.hid S2
       have HC2 := Lib.hid (Cp.mk D2.le D2.max D2.nil)
       have HBN := Lib.hid (HB.out.trans (B2.mono HB.out.size))
       clear K0 K1 K2 R0 R1 B0 B1 B2 S2 D2 h1 h2 HSC HAD1 HEN r0 r1 r2 r3 r4 r5
       go_wp2
       go_roundw
       case rel => exact ⟨j + 1, x2, q2, O2, by omega, by omega, rfl, by go_num, HS2, HC2, Lib.hid (by rw [HMN2.out]), HBN⟩
       case measure => simp [intOf]; omega
     ·have k2 : (x.kind == 2) = false := beq_false_of_ne h2
      rw [if_neg (by rw [hk1, decide_eq_false h1, decide_eq_false h2]; simp)] at HRW
      have HMN : Hid (M = addsS (rawV u now (l.drop (j + 1))) O) := Lib.hid HRW
      clear HRW hk1 hu h1 h2 hx HEN HAD
      go_wp2
      go_roundw
      case rel => exact ⟨j + 1, a', c', O, by omega, by omega, rfl, by go_num, HR, HC, Lib.hid (by rw [HMN.out]), HB⟩
      case measure => simp [intOf]; omega
   ·have hq := txt_ne hu
    rw [if_neg (by rw [hk1, decide_eq_false hu, Bool.and_false]; simp)] at HRW
    have HMN : Hid (M = addsS (rawV u now (l.drop (j + 1))) O) := Lib.hid HRW
    clear HRW hk1 hu hx HEN HAD
    by_cases h1 : x.kind = 1
    ·have k1 : (x.kind == 1) = true := beq_iff_eq.2 h1
     clear h1
     go_wp2
     go_roundw
     case rel => exact ⟨j + 1, a', c', O, by omega, by omega, rfl, by go_num, HR, HC, Lib.hid (by rw [HMN.out]), HB⟩
     case measure => simp [intOf]; omega
    ·have k1 : (x.kind == 1) = false := beq_false_of_ne h1
     by_cases h2 : x.kind = 2
     ·have k2 : (x.kind == 2) = true := beq_iff_eq.2 h2
      clear h1 h2
      go_wp2
      go_roundw
      case rel => exact ⟨j + 1, a', c', O, by omega, by omega, rfl, by go_num, HR, HC, Lib.hid (by rw [HMN.out]), HB⟩
      case measure => simp [intOf]; omega
     ·have k2 : (x.kind == 2) = false := beq_false_of_ne h2
      clear h1 h2
      go_wp2
      go_roundw
      case rel => exact ⟨j + 1, a', c', O, by omega, by omega, rfl, by go_num, HR, HC, Lib.hid (by rw [HMN.out]), HB⟩
      case measure => simp [intOf]; omega
  ·obtain rfl : j = l.length := by omega
   have HE := Lib.hid (HFI.out O HM.out)
   have HH : Hid (StSl wr a' M ∧ Below w.heap.size w wr) := Lib.hid ⟨by rw [HE.out]; exact HR.out, HB.out⟩
   clear HM HR HB HC HFI HAD HEN0
   go_wp2
   go_ret
   exact ⟨a', c', congrArg (fun z : List StM => Ending.returned (.slice a' z.length c')) HE.out.symm, HH.out⟩
end Go.Proofs.YtmfpjapiijgdgaaGreat
