/- Texts of mine, one behind the other, of each what is wanted. -/
import Derived.Test.YtapacckmgmdnoaaGreatU00
import Derived.Test.YtapacckmgmdnoaaGreatShelf
import Derived.Test.YtapacckmgmdnoaaGreatRows
import Derived.Test.YtapacckmgmdnoaaGreatU01
import Derived.Test.YtapacckmgmdnoaaGreatU02
import Derived.Test.YtapacckmgmdnoaaGreatU04
import Derived.Test.YtapacckmgmdnoaaGreatU05
import Derived.Test.YtapacckmgmdnoaaGreatU07
import Derived.Test.YtapacckmgmdnoaaGreatU09
import Derived.Test.YtapacckmgmdnoaaGreatU10
namespace Go.Proofs.YtapacckmgmdnoaaGreat
set_option linter.unusedVariables false
set_option maxRecDepth 100000
def OkSt (now : Int) (op : List OpM) (x : StM) : Prop := 0 ≤ x.f ∧ x.t ≤ now ∧ 1 ≤ x.n ∧ x.n ≤ 999 ∧ 1 ≤ x.s ∧ x.s ≤ 4 ∧ ∀ o ∈ op, o.n = x.n → x.t ≤ o.f
def OkU (now : Int) (op : List OpM) (x : UsM) : Prop := nameB x.u = true ∧ x.l ≠ [] ∧ RiseS x.l ∧ ∀ s ∈ x.l, OkSt now op s
def OkT (now : Int) (x : TbM) : Prop := nameB x.u = true ∧ 0 ≤ x.a ∧ x.a ≤ now
structure RightS (s : SaM) : Prop where
 now : 0 ≤ s.now ∧ s.now < 1099511627776
 hor : 0 ≤ s.hor ∧ s.hor < 1099511627776
 op : RiseO s.op
 frm : ∀ e ∈ s.op, e.f ≤ s.now
 us : ∀ x ∈ s.us, OkU s.now s.op x
 ur : RiseK UsM.u s.us
 su : GoE s.su s.now
 tb : ∀ x ∈ s.tb, OkT s.now x
 tr : RiseK TbM.u s.tb
theorem RightS.zero : RightS saZ :=
 ⟨⟨Int.le_refl _, by decide⟩, ⟨Int.le_refl _, by decide⟩, ⟨by decide, fun k h => absurd h (by simp [saZ])⟩, fun e h => (by cases h), fun e h => (by cases h), .nil, .nil, fun e h => (by cases h), .nil⟩
theorem addS_mem {l : List StM} {x y : StM} : y ∈ addS l x ↔ (y = x ∧ x.f < x.t) ∨ y ∈ l := by
 unfold addS
 split
 ·exact ⟨fun h => .inr h, fun h => h.elim (fun h => by omega) id⟩
 ·rw [(putS_perm l x).mem_iff, List.mem_cons]
  exact ⟨fun h => h.imp (fun h => ⟨h, by omega⟩) id, fun h => h.imp And.left id⟩
theorem addS_some {l : List StM} {x : StM} (h : x.f < x.t) : addS l x ≠ [] := by
 unfold addS
 rw [if_neg (by omega)]
 intro h1
 have := putS_len l x
 rw [h1] at this
 simp at this
theorem riseS_nil : RiseS [] := fun k h => absurd h (by simp)
theorem ofU_okst {now : Int} {op : List OpM} {us : List UsM} {u : ByteArray} (h : ∀ x ∈ us, OkU now op x) : RiseS (ofU us u) ∧ ∀ y ∈ ofU us u, OkSt now op y := by
 rcases ofU_cases us u with h1 | h1
 ·rw [h1]; exact ⟨riseS_nil, fun y hy => by cases hy⟩
 ·have h2 := h _ h1
  exact ⟨h2.2.2.1, h2.2.2.2⟩
theorem addU_ok {now : Int} {op : List OpM} {us : List UsM} {u : ByteArray} {x : StM} (h : ∀ x ∈ us, OkU now op x) (hu : nameB u = true) (hx : x.f < x.t → OkSt now op x) (hn : x.f < x.t → x ∉ ofU us u) : ∀ y ∈ addU us u x, OkU now op y := by
 unfold addU
 split
 ·rename_i h1
  intro y hy
  rcases putU_mem.1 hy with ⟨rfl, h2⟩ | ⟨h2, _⟩
  ·obtain ⟨h3, h4⟩ := ofU_okst (u := u) h
   refine ⟨hu, h2, (addS_rise h3).2 (hn h1), fun z hz => ?_⟩
   rcases addS_mem.1 hz with ⟨rfl, _⟩ | h5
   ·exact hx h1
   ·exact h4 z h5
  ·exact h y h2
 ·exact h
theorem OkSt.mono {a b : Int} {op op' : List OpM} {x : StM} (h : OkSt a op x) (hab : a ≤ b) (ho : ∀ o ∈ op', o.n = x.n → x.t ≤ o.f) : OkSt b op' x := by
 obtain ⟨h1, h2, h3, h4, h5, h6, h7⟩ := h
 exact ⟨h1, by omega, h3, h4, h5, h6, ho⟩
theorem OkU.mono {a b : Int} {op op' : List OpM} {x : UsM} (h : OkU a op x) (hab : a ≤ b) (ho : ∀ y, OkSt a op y → ∀ o ∈ op', o.n = y.n → y.t ≤ o.f) : OkU b op' x :=
 ⟨h.1, h.2.1, h.2.2.1, fun s hs => (h.2.2.2 s hs).mono hab (ho s (h.2.2.2 s hs))⟩
theorem pw_mid {l : List OpM} (h : l.Pairwise fun a b => a.n < b.n) {k : Nat} (hk : k < l.length) : (∀ y ∈ l.take k, y.n < l[k].n) ∧ (∀ y ∈ l.drop (k + 1), l[k].n < y.n) := by
 rw [List.pairwise_iff_getElem] at h
 constructor
 ·intro y hy
  obtain ⟨j, hj, hjk, rfl⟩ := mem_take_get hy
  exact h j k hj hk hjk
 ·intro y hy
  obtain ⟨j, hj, hjk, rfl⟩ := mem_drop_get hy
  exact h k j hk hj (by omega)
theorem mem_chg {l : List OpM} (h : l.Pairwise fun a b => a.n < b.n) {k : Nat} (hk : k < l.length) {s f : Int} {y : OpM} (hy : y ∈ chgAt l k s f) : y = ⟨l[k].n, l[k].u, s, f⟩ ∨ (y ∈ l ∧ y.n ≠ l[k].n) := by
 obtain ⟨h1, h2⟩ := pw_mid h hk
 rw [chgAt_at hk] at hy
 rcases List.mem_append.1 hy with h3 | h3
 ·have := h1 y h3
  exact .inr ⟨List.mem_of_mem_take h3, by omega⟩
 ·rcases List.mem_cons.1 h3 with h3 | h3
  ·exact .inl h3
  ·have := h2 y h3
   exact .inr ⟨List.mem_of_mem_drop h3, by omega⟩
theorem mem_cut {l : List OpM} (h : l.Pairwise fun a b => a.n < b.n) {k : Nat} (hk : k < l.length) {y : OpM} (hy : y ∈ cutAt l k) : y ∈ l ∧ y.n ≠ l[k].n := by
 obtain ⟨h1, h2⟩ := pw_mid h hk
 unfold cutAt at hy
 rcases List.mem_append.1 hy with h3 | h3
 ·have := h1 y h3
  exact ⟨List.mem_of_mem_take h3, by omega⟩
 ·have := h2 y h3
  exact ⟨List.mem_of_mem_drop h3, by omega⟩
theorem chg_n {l : List OpM} {k : Nat} (hk : k < l.length) (s f : Int) : (chgAt l k s f).map OpM.n = l.map OpM.n := by
 have h : l = l.take k ++ l[k] :: l.drop (k + 1) := by rw [← List.drop_eq_getElem_cons hk, List.take_append_drop]
 rw [chgAt_at hk]
 conv => rhs; rw [h]
 rw [List.map_append, List.map_append, List.map_cons, List.map_cons]
theorem pw_n {l : List OpM} : (l.Pairwise fun a b => a.n < b.n) ↔ (l.map OpM.n).Pairwise (· < ·) := by
 rw [List.pairwise_map]
theorem chg_rise {l : List OpM} (h : RiseO l) {k : Nat} (hk : k < l.length) {s f : Int} (hs : 1 ≤ s ∧ s ≤ 4) (hf : 0 ≤ f ∧ f ≤ 1099511627775) : RiseO (chgAt l k s f) := by
 obtain ⟨h0, h1, h2⟩ := riseO_iff.1 h
 rw [riseO_iff, chgAt_len, pw_n, chg_n hk, ← pw_n]
 refine ⟨h0, fun e he => ?_, h2⟩
 rcases mem_chg h2 hk he with rfl | ⟨h3, _⟩
 ·obtain ⟨k1, k2, k3, _⟩ := h1 _ (List.getElem_mem hk)
  exact ⟨k1, k2, k3, hs.1, hs.2, hf.1, hf.2⟩
 ·exact h1 e h3
theorem cut_rise {l : List OpM} (h : RiseO l) {k : Nat} : RiseO (cutAt l k) := by
 obtain ⟨h0, h1, h2⟩ := riseO_iff.1 h
 have hsub : (cutAt l k).Sublist l := by
  unfold cutAt
  have h3 : (l.take k ++ l.drop (k + 1)).Sublist (l.take k ++ l.drop k) := by
   refine List.Sublist.append_left ?_ _
   rw [← List.drop_drop]
   exact List.drop_sublist _ _
  rwa [List.take_append_drop] at h3
 rw [riseO_iff]
 exact ⟨Nat.le_trans (cutAt_len l k) h0, fun e he => h1 e (hsub.subset he), h2.sublist hsub⟩
theorem rise_filterO {l : List OpM} (h : RiseO l) (p : OpM → Bool) : RiseO (l.filter p) := by
 obtain ⟨h0, h1, h2⟩ := riseO_iff.1 h
 rw [riseO_iff]
 exact ⟨Nat.le_trans (List.length_filter_le _ _) h0, fun e he => h1 e (List.mem_filter.1 he).1, h2.filter _⟩
def RightV (k a n st : Int) (u o : ByteArray) : Prop :=
 0 ≤ a ∧ a < 1099511627776 ∧ (((k = 1 ∨ k = 2) ∧ 1 ≤ n ∧ n ≤ 999 ∧ nameB u = true ∧ o = ⟨#[]⟩ ∧ 1 ≤ st ∧ st ≤ 4)
  ∨ (k = 3 ∧ 1 ≤ n ∧ n ≤ 999 ∧ nameB u = true ∧ o = ⟨#[]⟩ ∧ st = 0)
  ∨ ((k = 4 ∨ k = 5) ∧ nameB u = true ∧ nameB o = true ∧ n = 0 ∧ st = 0)
  ∨ (k = 6 ∧ u = ⟨#[]⟩ ∧ o = ⟨#[]⟩ ∧ st = 0 ∧ 0 ≤ n ∧ n < 1099511627776)
  ∨ (k = 7 ∧ nameB u = true ∧ o = ⟨#[]⟩ ∧ n = 0 ∧ st = 0))
instance rightVDec (k a n st : Int) (u o : ByteArray) : Decidable (RightV k a n st u o) := by unfold RightV; infer_instance
def errK (s : SaM) (k a n st : Int) (u o : ByteArray) : Int :=
 if k = 1 then openC s.op ⟨n, u, st, a⟩ else if k = 2 ∨ k = 3 then findC s.op n u
 else if k = 4 then (if s.su.any (infE u o) = true then 90 else 0) else if k = 5 then (if s.su.any (infE u o) = true then 0 else 91) else 0
def errS (s : SaM) (k a n st : Int) (u o : ByteArray) : Int := if RightV k a n st u o then (if a < s.now then 111 else errK s k a n st u o) else 110
def goS (s : SaM) (k a n st : Int) (u o : ByteArray) : SaM :=
 if k = 1 then { s with now := a, op := openR s.op ⟨n, u, st, a⟩ }
 else if k = 2 then { s with now := a, op := chgR s.op n u st a, us := addU s.us u (fndS s.op n u a) }
 else if k = 3 then { s with now := a, op := cloR s.op n u, us := addU s.us u (fndS s.op n u a) }
 else if k = 4 then { s with now := a, su := grantS s.su (mkE u o a) }
 else if k = 5 then { s with now := a, su := revokeS s.su u o a }
 else if k = 6 then { s with now := a, hor := max s.hor n }
 else { s with now := a, op := s.op.filter (notU u), su := withoutS s.su u, us := putU s.us u [], tb := tombU s.tb u a }
def tellS (s : SaM) (k a n st : Int) (u o : ByteArray) : SaM := if errS s k a n st u o = 0 then goS s k a n st u o else saZ
theorem errS_ok {s : SaM} {k a n st : Int} {u o : ByteArray} (h : errS s k a n st u o = 0) : RightV k a n st u o ∧ s.now ≤ a ∧ errK s k a n st u o = 0 := by
 unfold errS at h
 split at h
 ·rename_i h1
  split at h
  ·exact absurd h (by decide)
  ·exact ⟨h1, by omega, h⟩
 ·exact absurd h (by decide)
theorem GoE.mono {m : List EnM} {a b : Int} (h : GoE m a) (hab : a ≤ b) : GoE m b :=
 ⟨h.rise, fun e he => by obtain ⟨h1, h2, h3⟩ := h.bnd e he; exact ⟨h1, by omega, h3.imp id (by omega)⟩⟩
theorem GoE.filter {m : List EnM} {a : Int} (h : GoE m a) (p : EnM → Bool) : GoE (m.filter p) a :=
 ⟨rise_filter h.rise p, fun e he => h.bnd e (List.mem_filter.1 he).1⟩
theorem OkT.mono {a b : Int} {x : TbM} (h : OkT a x) (hab : a ≤ b) : OkT b x := by
 obtain ⟨h1, h2, h3⟩ := h
 exact ⟨h1, h2, by omega⟩
theorem right_open {s : SaM} (h : RightS s) {a n st : Int} {u : ByteArray} (hn : 1 ≤ n ∧ n ≤ 999) (hs : 1 ≤ st ∧ st ≤ 4) (ha : s.now ≤ a) (hb : a < 1099511627776) (hu : nameB u = true) (hc : openC s.op ⟨n, u, st, a⟩ = 0) :
  RightS { s with now := a, op := openR s.op ⟨n, u, st, a⟩ } := by
 have h0 := h.now
 have hnew : ∀ y ∈ openR s.op ⟨n, u, st, a⟩, y = ⟨n, u, st, a⟩ ∨ y ∈ s.op := fun y hy => by
  unfold openR at hy
  rw [if_pos hc] at hy
  unfold openS at hy
  rcases List.mem_append.1 hy with h1 | h1
  ·exact .inr (List.mem_of_mem_take h1)
  ·rcases List.mem_cons.1 h1 with h1 | h1
   ·exact .inl h1
   ·exact .inr (List.mem_of_mem_drop h1)
 refine ⟨⟨by simp only; omega, hb⟩, h.hor, open_rise hc h.op ?_, fun e he => ?_, fun x hx => (h.us x hx).mono ha fun y hy z hz hzn => ?_, h.ur, h.su.mono ha, fun x hx => (h.tb x hx).mono ha, h.tr⟩
 ·rw [riseO_iff]
  refine ⟨by simp, fun e he => ?_, List.pairwise_singleton _ _⟩
  rw [List.mem_singleton.1 he]
  exact ⟨hu, hn.1, hn.2, hs.1, hs.2, by simp only; omega, by simp only; omega⟩
 ·rcases hnew e he with rfl | h1
  ·exact Int.le_refl _
  ·exact Int.le_trans (h.frm e h1) ha
 ·rcases hnew z hz with rfl | h1
  ·exact Int.le_trans hy.2.1 ha
  ·exact hy.2.2.2.2.2.2 z h1 hzn
theorem right_stay {s : SaM} (h : RightS s) {a st : Int} {k : Nat} (hk : k < s.op.length) (ha : s.now ≤ a) {op' : List OpM} (hop : ∀ y ∈ op', y.n = s.op[k].n → a ≤ y.f) (hb : a < 1099511627776)
  (hkeep : ∀ y ∈ op', y.n ≠ s.op[k].n → y ∈ s.op) (hu : nameB s.op[k].u = true) : ∀ y ∈ addU s.us s.op[k].u (stayO s.op[k] a), OkU a op' y := by
 obtain ⟨h1, h2, h3⟩ := riseO_iff.1 h.op
 obtain ⟨k1, k2, k3, k4, k5, k6, k7⟩ := h2 _ (List.getElem_mem hk)
 have hold : ∀ x ∈ s.us, OkU a op' x := fun x hx => (h.us x hx).mono ha fun y hy z hz hzn => by
  by_cases hzk : z.n = s.op[k].n
  ·exact Int.le_trans (Int.le_trans hy.2.1 ha) (hop z hz hzk)
  ·exact hy.2.2.2.2.2.2 z (hkeep z hz hzk) hzn
 refine addU_ok hold hu (fun hlt => ?_) (fun hlt hm => ?_)
 ·exact ⟨k6, Int.le_refl _, k2, k3, k4, k5, fun o ho hon => hop o ho hon⟩
 ·have h4 := (ofU_okst (u := s.op[k].u) h.us).2 _ hm
  have h5 := h4.2.2.2.2.2.2 _ (List.getElem_mem hk) rfl
  have h6 : s.op[k].f < a := hlt
  have h7 : a ≤ s.op[k].f := h5
  omega
theorem right_change {s : SaM} (h : RightS s) {a n st : Int} {u : ByteArray} (hs : 1 ≤ st ∧ st ≤ 4) (ha : s.now ≤ a) (hb : a < 1099511627776) (hc : findC s.op n u = 0) :
  RightS { s with now := a, op := chgR s.op n u st a, us := addU s.us u (fndS s.op n u a) } := by
 have h0 := h.now
 rcases fc_three s.op n u with ⟨_, k, hk, hf, h1, h2, h3, h4⟩ | ⟨h1 | h1, _⟩
 ·obtain ⟨_, h6, h7⟩ := riseO_iff.1 h.op
  have hcr : chgR s.op n u st a = chgAt s.op k st a := by unfold chgR; rw [if_pos hc, h4]
  have hst : fndS s.op n u a = stayO s.op[k] a := by unfold fndS; rw [if_pos hc, h3]
  have hmem : ∀ y ∈ chgAt s.op k st a, y = ⟨s.op[k].n, s.op[k].u, st, a⟩ ∨ (y ∈ s.op ∧ y.n ≠ s.op[k].n) := fun y hy => mem_chg h7 hk hy
  rw [hcr, hst, ← h2]
  refine ⟨⟨by simp only; omega, hb⟩, h.hor, chg_rise h.op hk hs ⟨by omega, by omega⟩, fun e he => ?_, right_stay (st := st) h hk ha (fun y hy hyn => ?_) hb (fun y hy hyn => ?_) (h6 _ (List.getElem_mem hk)).1, addU_rise h.ur, h.su.mono ha, fun x hx => (h.tb x hx).mono ha, h.tr⟩
  ·rcases hmem e he with rfl | ⟨h8, _⟩
   ·exact Int.le_refl _
   ·exact Int.le_trans (h.frm e h8) ha
  ·rcases hmem y hy with rfl | ⟨_, h8⟩
   ·exact Int.le_refl _
   ·exact absurd hyn h8
  ·rcases hmem y hy with rfl | ⟨h8, _⟩
   ·exact absurd rfl hyn
   ·exact h8
 ·rw [hc] at h1; exact absurd h1 (by decide)
 ·rw [hc] at h1; exact absurd h1 (by decide)
theorem right_close {s : SaM} (h : RightS s) {a n : Int} {u : ByteArray} (ha : s.now ≤ a) (hb : a < 1099511627776) (hc : findC s.op n u = 0) :
  RightS { s with now := a, op := cloR s.op n u, us := addU s.us u (fndS s.op n u a) } := by
 have h0 := h.now
 rcases fc_three s.op n u with ⟨_, k, hk, hf, h1, h2, h3, h4⟩ | ⟨h1 | h1, _⟩
 ·obtain ⟨_, h6, h7⟩ := riseO_iff.1 h.op
  have hcr : cloR s.op n u = cutAt s.op k := by unfold cloR; rw [if_pos hc, h4]
  have hst : fndS s.op n u a = stayO s.op[k] a := by unfold fndS; rw [if_pos hc, h3]
  have hmem : ∀ y ∈ cutAt s.op k, y ∈ s.op ∧ y.n ≠ s.op[k].n := fun y hy => mem_cut h7 hk hy
  rw [hcr, hst, ← h2]
  exact ⟨⟨by simp only; omega, hb⟩, h.hor, cut_rise h.op, fun e he => Int.le_trans (h.frm e (hmem e he).1) ha, right_stay (st := 1) h hk ha (fun y hy hyn => absurd hyn (hmem y hy).2) hb (fun y hy hyn => (hmem y hy).1) (h6 _ (List.getElem_mem hk)).1, addU_rise h.ur, h.su.mono ha, fun x hx => (h.tb x hx).mono ha, h.tr⟩
 ·rw [hc] at h1; exact absurd h1 (by decide)
 ·rw [hc] at h1; exact absurd h1 (by decide)
theorem right_erase {s : SaM} (h : RightS s) {a : Int} {u : ByteArray} (ha : s.now ≤ a) (hb : a < 1099511627776) (hu : nameB u = true) :
  RightS { s with now := a, op := s.op.filter (notU u), su := withoutS s.su u, us := putU s.us u [], tb := tombU s.tb u a } := by
 have h0 := h.now
 refine ⟨⟨by simp only; omega, hb⟩, h.hor, rise_filterO h.op _, fun e he => Int.le_trans (h.frm e (List.mem_filter.1 he).1) ha, fun x hx => ?_, putU_rise h.ur, (h.su.mono ha).filter _, fun x hx => ?_, tombU_rise h.tr⟩
 ·rcases putU_mem.1 hx with ⟨_, h1⟩ | ⟨h1, _⟩
  ·exact absurd rfl h1
  ·exact (h.us x h1).mono ha fun y hy z hz hzn => hy.2.2.2.2.2.2 z (List.mem_filter.1 hz).1 hzn
 ·rcases tombU_mem.1 hx with rfl | ⟨h1, _⟩
  ·exact ⟨hu, by simp only; omega, Int.le_refl _⟩
  ·exact (h.tb x h1).mono ha
theorem right_go {s : SaM} (h : RightS s) {k a n st : Int} {u o : ByteArray} (he : errS s k a n st u o = 0) : RightS (goS s k a n st u o) := by
 obtain ⟨hv, ha, hk⟩ := errS_ok he
 have h0 := h.now
 obtain ⟨ha0, hb, hv⟩ := hv
 have hold : ∀ x ∈ s.us, OkU a s.op x := fun x hx => (h.us x hx).mono ha fun y hy z hz hzn => hy.2.2.2.2.2.2 z hz hzn
 unfold errK at hk
 unfold goS
 rcases hv with ⟨h1 | h1, h2, h3, h4, _, h5, h6⟩ | ⟨h1, h2, h3, h4, _, _⟩ | ⟨h1 | h1, h2, h3, _, _⟩ | ⟨h1, _, _, _, h2, h3⟩ | ⟨h1, h2, _, _, _⟩
 ·subst h1
  exact right_open h ⟨h2, h3⟩ ⟨h5, h6⟩ ha hb h4 hk
 ·subst h1
  exact right_change h ⟨h5, h6⟩ ha hb hk
 ·subst h1
  exact right_close h ha hb hk
 ·subst h1
  have hi : s.su.any (infE u o) = false := by
   rw [if_neg (by decide), if_neg (by decide), if_pos rfl] at hk
   split at hk
   ·exact absurd hk (by decide)
   ·rename_i h4; exact Bool.eq_false_iff.2 h4
  exact ⟨⟨ha0, hb⟩, h.hor, h.op, fun e he => Int.le_trans (h.frm e he) ha, hold, h.ur, (h.su.grant h0.1 ha hb h2 h3 hi).1, fun x hx => (h.tb x hx).mono ha, h.tr⟩
 ·subst h1
  have hi : s.su.any (infE u o) = true := by
   rw [if_neg (by decide), if_neg (by decide), if_neg (by decide), if_pos rfl] at hk
   split at hk
   ·rename_i h4; exact h4
   ·exact absurd hk (by decide)
  exact ⟨⟨ha0, hb⟩, h.hor, h.op, fun e he => Int.le_trans (h.frm e he) ha, hold, h.ur, (h.su.revoke h0.1 ha hb hi).1, fun x hx => (h.tb x hx).mono ha, h.tr⟩
 ·subst h1
  have h4 := h.hor
  exact ⟨⟨ha0, hb⟩, ⟨Int.le_trans h4.1 (Int.le_max_left _ _), Int.max_lt.2 ⟨h4.2, h3⟩⟩, h.op, fun e he => Int.le_trans (h.frm e he) ha, hold, h.ur, h.su.mono ha, fun x hx => (h.tb x hx).mono ha, h.tr⟩
 ·subst h1
  exact right_erase h ha hb h2
theorem addS_perm (l : List StM) (x : StM) : (addS l x).Perm (if x.f < x.t then x :: l else l) := by
 unfold addS
 by_cases h : x.f < x.t
 ·rw [if_neg (by omega), if_pos h]; exact putS_perm l x
 ·rw [if_pos (by omega), if_neg h]
def addsS (l : List StM) (r : List StM) : List StM := l.foldl addS r
def staysS (s : SaM) (u : ByteArray) (w : Int) : List StM := addsS (staysO s.op u w) (ofU s.us u)
theorem addsS_len : ∀ (l r : List StM), (addsS l r).length ≤ r.length + l.length
 | [], r => by simp [addsS]
 | x :: l, r => by
  have h1 := addsS_len l (addS r x)
  have h2 := addS_len r x
  show (addsS l (addS r x)).length ≤ _
  rw [List.length_cons]
  omega
theorem addsS_next (l : List StM) (r : List StM) (j : Nat) (h : j < l.length) : addsS (l.take (j + 1)) r = addS (addsS (l.take j) r) l[j] := by
 unfold addsS
 rw [List.take_succ_eq_append_getElem h, List.foldl_append]
 rfl
theorem addsS_perm : ∀ (l : List StM) {r : List StM}, (∀ x ∈ l, x.f < x.t) → (addsS l r).Perm (l ++ r)
 | [], _, _ => List.Perm.refl _
 | x :: l, r, h => by
  show (addsS l (addS r x)).Perm _
  refine (addsS_perm l fun y hy => h y (List.mem_cons_of_mem _ hy)).trans ?_
  have h1 := addS_perm r x
  rw [if_pos (h x (List.mem_cons_self ..))] at h1
  exact (h1.append_left l).trans List.perm_middle
def cntU (l : List UsM) : Nat := (l.map fun x => x.l.length).sum
def stCnt (s : SaM) : Nat := s.op.length + s.su.length + s.tb.length + cntU s.us
theorem cntU_cons (x : UsM) (l : List UsM) : cntU (x :: l) = x.l.length + cntU l := by simp [cntU]
theorem cntU_append (a b : List UsM) : cntU (a ++ b) = cntU a + cntU b := by simp [cntU]
theorem cntU_take (l : List UsM) (j : Nat) (h : j < l.length) : cntU (l.take (j + 1)) = cntU (l.take j) + l[j].l.length := by
 rw [List.take_succ_eq_append_getElem h, cntU_append]
 simp [cntU]
theorem cntU_parts (u : ByteArray) : ∀ l : List UsM, cntU (l.filter (belK UsM.u u)) + cntU (l.filter (abvK UsM.u u)) + (ofU l u).length ≤ cntU l
 | [] => by simp [cntU, ofU]
 | x :: l => by
  have ih := cntU_parts u l
  rw [List.filter_cons, List.filter_cons, cntU_cons]
  by_cases h : x.u = u
  ·have h1 : ¬ belK UsM.u u x = true := fun h1 => cmpS_ne (belK_iff.1 h1) h
   have h2 : ¬ abvK UsM.u u x = true := fun h1 => cmpS_ne (abvK_iff.1 h1) h.symm
   have h3 : ofU (x :: l) u = x.l := by
    unfold ofU
    rw [List.find?_cons_of_pos (isKy_iff.2 h)]
   rw [if_neg h1, if_neg h2, h3]
   omega
  ·have h3 : ofU (x :: l) u = ofU l u := by
    unfold ofU
    rw [List.find?_cons_of_neg (fun h1 => h (isKy_iff.1 h1))]
   rw [h3]
   by_cases h1 : belK UsM.u u x = true
   ·have h2 : ¬ abvK UsM.u u x = true := fun h2 => cmpS_asym (belK_iff.1 h1) (abvK_iff.1 h2)
    rw [if_pos h1, if_neg h2, cntU_cons]
    omega
   ·rw [if_neg h1]
    split
    ·rw [cntU_cons]; omega
    ·omega
theorem cntU_put (l : List UsM) (u : ByteArray) (r : List StM) : cntU (putU l u r) + (ofU l u).length ≤ cntU l + r.length := by
 have h := cntU_parts u l
 have h1 : cntU (rowU u r) = r.length := by
  unfold rowU
  cases r with
  | nil => rfl
  | cons a r => simp [cntU]
 unfold putU insK
 rw [cntU_append, cntU_append, h1]
 omega
theorem cntU_add (l : List UsM) (u : ByteArray) (x : StM) : cntU (addU l u x) ≤ cntU l + 1 := by
 unfold addU
 split
 ·have h1 := cntU_put l u (addS (ofU l u) x)
  have h2 := addS_len (ofU l u) x
  omega
 ·omega
theorem cnt_go (s : SaM) (k a n st : Int) (u o : ByteArray) : stCnt (goS s k a n st u o) ≤ stCnt s + 1 := by
 have h1 := openR_len s.op ⟨n, u, st, a⟩
 have h2 := chgR_len s.op n u st a
 have h3 := cloR_len s.op n u
 have h4 := cntU_add s.us u (fndS s.op n u a)
 have h5 := grant_len s.su (mkE u o a)
 have h6 := revoke_len s.su u o a
 have h7 : (s.op.filter (notU u)).length ≤ s.op.length := List.length_filter_le _ _
 have h8 : (withoutS s.su u).length ≤ s.su.length := List.length_filter_le _ _
 have h9 := cntU_put s.us u []
 have h10 : (tombU s.tb u a).length ≤ s.tb.length + 1 := insK_len
 simp only [List.length_nil] at h9
 unfold stCnt goS
 repeat' split
 all_goals (simp only; omega)
def gateP (s : SaM) (w u : ByteArray) (f t : Int) (x : Int) : Prop := HasL (perS s.su w u) x ∧ (f ≤ x ∧ x < t) ∧ s.hor ≤ x ∧ x < 1099511627776
def IsRange (s : SaM) (w u : ByteArray) (f t now : Int) (m : List StM) : Prop := IsCut (staysS s u now) (gateP s w u f t) m
theorem IsRange.only {s : SaM} {w u : ByteArray} {f t now : Int} {a b : List StM} (ha : IsRange s w u f t now a) (hb : IsRange s w u f t now b) : a = b := IsCut.only ha hb
theorem stays_perm (s : SaM) (u : ByteArray) (w : Int) : (staysS s u w).Perm (rawO s.op u w ++ ofU s.us u) := by
 have h0 := (stays_is s.op u w s.op.length (Nat.le_refl _)).1
 rw [List.take_length] at h0
 have h1 : ∀ x ∈ staysO s.op u w, x.f < x.t := fun x hx => by
  have h2 := h0.mem_iff.1 hx
  unfold rawO at h2
  obtain ⟨e, he, rfl⟩ := List.mem_map.1 h2
  have h3 := (List.mem_filter.1 he).2
  unfold stU at h3
  simp only [Bool.and_eq_true, decide_eq_true_eq] at h3
  exact h3.2
 exact (addsS_perm (staysO s.op u w) h1).trans (h0.append_right _)
theorem has_one (m : SpM) (x : Int) : HasL [m] x ↔ m.f ≤ x ∧ x < m.t := by
 unfold HasL
 constructor
 ·rintro ⟨s, hs, h⟩; rw [List.mem_singleton.1 hs] at h; exact h
 ·intro h; exact ⟨m, List.mem_singleton.2 rfl, h⟩
theorem gate_prog {s : SaM} {w u : ByteArray} {f t : Int} {r : List SpM} (h : IsSet (fun x => HasL [meetS ⟨f, t⟩ ⟨s.hor, 1099511627776⟩] x ∧ HasL (perS s.su w u) x) r) : IsSet (gateP s w u f t) r :=
 h.congr fun x => by
  rw [has_one]
  unfold gateP meetS
  dsimp only
  constructor
  ·rintro ⟨⟨k1, k2⟩, k3⟩; exact ⟨k3, by omega⟩
  ·rintro ⟨k3, k1, k2⟩; exact ⟨by omega, k3⟩
def whyV (s : SaM) (w u : ByteArray) (now : Int) : Int := if nameB w = true ∧ nameB u = true then (if now < s.now ∨ 1099511627776 ≤ now then 130 else 0) else 1
theorem range_none {s : SaM} {w u : ByteArray} {f t now : Int} {a : List StM} (h : staysS s u now = [] ∨ ∀ x, ¬ HasL (perS s.su w u) x) (ha : IsRange s w u f t now a) : a = [] := by
 obtain ⟨r, k1, k2, k3⟩ := ha
 rcases h with h | h
 ·rw [h] at k2
  exact k2.eq_nil
 ·have hr : r = [] := by
   rw [List.eq_nil_iff_forall_not_mem]
   intro m hm
   exact h m.f ((k1.2 m.f).1 ⟨m, hm, Int.le_refl _, k1.1.2 m hm⟩).1
  subst hr
  have : ∀ l : List StM, rawS l [] = [] := fun l => by
   unfold rawS
   rw [List.flatMap_eq_nil_iff]
   intro x _
   rfl
  rw [this] at k2
  exact k2.eq_nil
theorem low_of {α : Type} {key : α → ByteArray} {u : ByteArray} {l : List α} (hr : RiseK key l) {j : Nat} (hj : j < l.length) (hlt : cmpS (key l[j]) u < 0) : ∀ i (h : i < l.length), i < j → cmpS (key l[i]) u < 0 := fun i hi hij =>
 cmpS_trans (List.pairwise_iff_getElem.1 hr i j hi hj hij) hlt
def notBel {α : Type} (key : α → ByteArray) (u : ByteArray) (x : α) : Bool := !belK key u x
theorem fst_parts {α : Type} {key : α → ByteArray} {u : ByteArray} {l : List α} (hr : RiseK key l) {k : Nat} (h : IsFst (notBel key u) l k) : l.filter (belK key u) = l.take k ∧ (∀ x ∈ l.drop k, ¬ cmpS (key x) u < 0) := by
 have hlo : ∀ x ∈ l.take k, belK key u x = true := fun x hx => by
  have := h.take x hx
  unfold notBel at this
  simpa using this
 have hup : ∀ x ∈ l.drop k, ¬ cmpS (key x) u < 0 := fun x hx hlt => by
  obtain ⟨j, hj, hkj, rfl⟩ := mem_drop_get hx
  have h1 := h.hit (by omega)
  unfold notBel at h1
  have h2 : ¬ cmpS (key (l[k]'(by omega))) u < 0 := fun h2 => by rw [belK_iff.2 h2] at h1; cases h1
  rcases Nat.lt_or_ge k j with h3 | h3
  ·exact h2 (low_of hr hj hlt k (by omega) h3)
  ·obtain rfl : k = j := by omega
   exact h2 hlt
 refine ⟨?_, hup⟩
 have h3 : l.filter (belK key u) = (l.take k).filter (belK key u) ++ (l.drop k).filter (belK key u) := by rw [← List.filter_append, List.take_append_drop]
 rw [h3, List.filter_eq_self.2 hlo, List.filter_eq_nil_iff.2 fun x hx hb => hup x hx (belK_iff.1 hb), List.append_nil]
theorem ins_new {α : Type} {key : α → ByteArray} {u : ByteArray} {m l : List α} (hr : RiseK key l) {k : Nat} (h : IsFst (notBel key u) l k) (hn : ∀ x ∈ l, key x ≠ u) : insK key u m l = l.take k ++ (m ++ l.drop k) := by
 obtain ⟨h1, h2⟩ := fst_parts hr h
 unfold insK
 rw [h1]
 congr 2
 have h3 : l.filter (abvK key u) = (l.take k).filter (abvK key u) ++ (l.drop k).filter (abvK key u) := by rw [← List.filter_append, List.take_append_drop]
 rw [h3, List.filter_eq_nil_iff.2, List.nil_append, List.filter_eq_self.2]
 ·intro x hx
  rcases cmpS_tri (key x) u with h4 | h4 | h4
  ·exact absurd h4 (h2 x hx)
  ·exact absurd h4 (hn x (List.mem_of_mem_drop hx))
  ·exact abvK_iff.2 h4
 ·intro x hx ha
  rw [← h1] at hx
  exact cmpS_asym (belK_iff.1 (List.mem_filter.1 hx).2) (abvK_iff.1 ha)
theorem ins_old {α : Type} {key : α → ByteArray} {u : ByteArray} {m l : List α} (hr : RiseK key l) {k : Nat} (hk : k < l.length) (he : key l[k] = u) : insK key u m l = l.take k ++ (m ++ l.drop (k + 1)) := by
 have hpw := List.pairwise_iff_getElem.1 hr
 have hlo : ∀ x ∈ l.take k, cmpS (key x) u < 0 := fun x hx => by
  obtain ⟨j, hj, hjk, rfl⟩ := mem_take_get hx
  rw [← he]; exact hpw j k hj hk hjk
 have hup : ∀ x ∈ l.drop (k + 1), cmpS u (key x) < 0 := fun x hx => by
  obtain ⟨j, hj, hjk, rfl⟩ := mem_drop_get hx
  rw [← he]; exact hpw k j hk hj (by omega)
 have hl : l = l.take k ++ l[k] :: l.drop (k + 1) := by rw [← List.drop_eq_getElem_cons hk, List.take_append_drop]
 have hb : ¬ belK key u l[k] = true := fun hb => cmpS_ne (belK_iff.1 hb) he
 have ha : ¬ abvK key u l[k] = true := fun ha => cmpS_ne (abvK_iff.1 ha) he.symm
 have f1 : l.filter (belK key u) = l.take k := by
  conv => lhs; rw [hl]
  rw [List.filter_append, List.filter_cons, if_neg hb, List.filter_eq_self.2 fun x hx => belK_iff.2 (hlo x hx), List.filter_eq_nil_iff.2 fun x hx h => cmpS_asym (hup x hx) (belK_iff.1 h), List.append_nil]
 have f2 : l.filter (abvK key u) = l.drop (k + 1) := by
  conv => lhs; rw [hl]
  rw [List.filter_append, List.filter_cons, if_neg ha, List.filter_eq_nil_iff.2 fun x hx h => cmpS_asym (hlo x hx) (abvK_iff.1 h), List.filter_eq_self.2 fun x hx => abvK_iff.2 (hup x hx), List.nil_append]
 unfold insK
 rw [f1, f2]
theorem ins_out {α : Type} {key : α → ByteArray} {u : ByteArray} {l : List α} (hr : RiseK key l) : insK key u [] l = l.filter fun x => !isKy key u x := by
 refine riseK_ext (insK_rise hr (fun x hx => by cases hx) (by simp)) (List.Pairwise.filter _ hr) fun x => ?_
 rw [insK_mem, List.mem_filter]
 constructor
 ·rintro (h | ⟨h1, h2⟩)
  ·cases h
  ·refine ⟨h1, ?_⟩
   have h3 : isKy key u x = false := decide_eq_false h2
   rw [h3]; rfl
 ·rintro ⟨h1, h2⟩
  refine .inr ⟨h1, fun e => ?_⟩
  rw [isKy_iff.2 e] at h2
  cases h2
end Go.Proofs.YtapacckmgmdnoaaGreat
namespace Go.Proofs.YtapacckmgmdnoaaGreat
open Go.RowKit
set_option linter.unusedVariables false
set_option maxRecDepth 100000
set_option maxRecDepth 100000
theorem cells2 {g : Nat} {a b : Value} {t : TypeId} {W : World} (h : W.heap[g]? = some (.cells #[a, b] t (0, 0))) : W.cell? ⟨g, 0, none⟩ = some a ∧ W.cell? ⟨g, 1, none⟩ = some b := ⟨cell_of_row _ _ _ _ _ _ h, cell_of_row _ _ _ _ _ _ h⟩
end Go.Proofs.YtapacckmgmdnoaaGreat
namespace Go.Proofs.YtapacckmgmdnoaaGreat
open Go.RowKit Go.Proofs
set_option linter.unusedVariables false
set_option maxRecDepth 100000
set_option maxRecDepth 100000
theorem txt_dec (a b : ByteArray) : (a.toList == b.toList) = decide (a = b) := by
 by_cases h : a = b
 ·subst h; rw [txt_eq, decide_eq_true rfl]
 ·rw [txt_ne h, decide_eq_false h]
theorem txt_ndec (a b : ByteArray) : (a.toList != b.toList) = !decide (a = b) := by unfold bne; rw [txt_dec]
set_option maxHeartbeats 1000000 in
theorem userName_any (u : ByteArray) (a : Option Addr) (n c : Nat) (W : World) :
  Calls Tryz.prog 117 #[.agg #[.string u, .slice a n c]] W fun r w' => r = .returned (.string u) ∧ Below W.heap.size W w' := by
 have HB := Lib.hid (below_one W (.cells #[.string u, .slice a n c] 108))
 go_enter Tryz.func117, Tryz.ntmps117
 go_wp2
 go_ret
 exact ⟨rfl, HB.out⟩
set_option maxHeartbeats 1000000 in
theorem tombName_any (u : ByteArray) (n : Int) (W : World) :
  Calls Tryz.prog 126 #[.agg #[.string u, .int .i64 n]] W fun r w' => r = .returned (.string u) ∧ Below W.heap.size W w' := by
 have HB := Lib.hid (below_one W (.cells #[.string u, .int .i64 n] 141))
 go_enter Tryz.func126, Tryz.ntmps126
 go_wp2
 go_ret
 exact ⟨rfl, HB.out⟩
set_option maxHeartbeats 1000000 in
theorem c_staysOf (x : UsL) (u : ByteArray) (g : Nat) (W : World) (h : CapO W g (.string u)) :
  Calls Tryz.prog 155 #[.agg #[.string x.u, .slice x.a x.l.length x.c], .pointer (some ⟨g, 0, none⟩)] W fun r w' => r = .returned (.bool (decide (x.u = u))) ∧ Below W.heap.size W w' := by
 have hb := below_one W (.cells #[.string x.u, .slice x.a x.l.length x.c] 108)
 obtain ⟨c0, hg⟩ := h.below hb
 have HB := Lib.hid hb
 have HE := Lib.hid (txt_dec x.u u)
 clear hb hg h
 go_enter Tryz.func155, Tryz.ntmps155
 go_wp2
 go_ret
 exact ⟨retB HE.out, HB.out⟩
set_option maxHeartbeats 1000000 in
theorem c_erased (x : UsL) (u : ByteArray) (g : Nat) (W : World) (h : CapO W g (.string u)) :
  Calls Tryz.prog 237 #[.agg #[.string x.u, .slice x.a x.l.length x.c], .pointer (some ⟨g, 0, none⟩)] W fun r w' => r = .returned (.bool (!decide (x.u = u))) ∧ Below W.heap.size W w' := by
 have hb := below_one W (.cells #[.string x.u, .slice x.a x.l.length x.c] 108)
 obtain ⟨c0, hg⟩ := h.below hb
 have HB := Lib.hid hb
 have HE := Lib.hid (txt_ndec x.u u)
 clear hb hg h
 go_enter Tryz.func237, Tryz.ntmps237
 go_wp2
 go_ret
 exact ⟨retB HE.out, HB.out⟩
set_option maxHeartbeats 1000000 in
theorem c_those (x : UsL) (N g b : Nat) (q : Bool) (W : World) (h : CapO W b (.func (.func N) #[] #[.pointer (some ⟨g, 0, none⟩)])) (hF : ∀ args V, Sem.run Tryz.prog (callFunc N args) V = .ok (.enter N args) V)
  (hN : ∀ V, Below W.heap.size W V → Calls Tryz.prog N #[.agg #[.string x.u, .slice x.a x.l.length x.c], .pointer (some ⟨g, 0, none⟩)] V fun r w' => r = .returned (.bool q) ∧ Below V.heap.size V w') :
  Calls Tryz.prog 263 #[.agg #[.string x.u, .slice x.a x.l.length x.c], .pointer (some ⟨b, 0, none⟩)] W fun r w' => r = .returned (.bool !q) ∧ Below W.heap.size W w' := by
 have hb := below_one W (.cells #[.string x.u, .slice x.a x.l.length x.c] 108)
 obtain ⟨c0, hg⟩ := h.below hb
 have HB := Lib.hid hb
 have HC := Lib.hid (hN _ hb)
 clear hb hg h hN
 go_enter Tryz.func263, Tryz.ntmps263
 go_wp2_with fail
 refine HC.out.mono ?_
 rintro r w2 ⟨rfl, hB⟩
 go_wp2
 go_ret
 exact ⟨rfl, HB.out.trans (hB.mono HB.out.size)⟩
def butU (u : ByteArray) (D : List UsL) : List UsL := D.filter fun x => !decide (x.u = u)
theorem butU_m (u : ByteArray) (D : List UsL) : umS (butU u D) = (umS D).filter fun x => !isKy UsM.u u x := by
 unfold umS butU
 rw [List.filter_map]
 rfl
set_option maxHeartbeats 2000000 in
theorem those_any (a : Option Addr) (c : Nat) (D : List UsL) (u : ByteArray) (g : Nat) (w : World) (hr : UsSl w a D) (hc : Cp a D.length c) (hl : D.length ≤ 10000) (hg : CapO w g (.string u)) :
  Calls Tryz.prog 236 #[.slice a D.length c, .func (.func 237) #[] #[.pointer (some ⟨g, 0, none⟩)]] w fun e w' => ∃ x q, e = .returned (.slice x (butU u D).length q) ∧ UsSl w' x (butU u D) ∧ Cp x (butU u D).length q ∧ Below w.heap.size w w' := by
 have hb := below_one w (.cells #[.func (.func 237) #[] #[.pointer (some ⟨g, 0, none⟩)]] 190)
 have hcap : CapO (w.alloc (.cells #[.func (.func 237) #[] #[.pointer (some ⟨g, 0, none⟩)]] 190)) w.heap.size (.func (.func 237) #[] #[.pointer (some ⟨g, 0, none⟩)]) := ⟨cell_of_row _ _ 0 _ _ (0, 0) (heap_alloc_new w _), by rw [size1]; omega⟩
 have HCL := Lib.hid (pclone_us a c (D.map usp) (usp_one D) (w.alloc (.cells #[.func (.func 237) #[] #[.pointer (some ⟨g, 0, none⟩)]] 190)) (hr.row.below hb) (by rw [List.length_map]; exact hc) (by rw [List.length_map]; omega))
 rw [List.length_map] at HCL
 have HDE : Hid (∀ v V, (w.alloc (.cells #[.func (.func 237) #[] #[.pointer (some ⟨g, 0, none⟩)]] 190)).heap.size ≤ V.heap.size → Below (w.alloc (.cells #[.func (.func 237) #[] #[.pointer (some ⟨g, 0, none⟩)]] 190)).heap.size (w.alloc (.cells #[.func (.func 237) #[] #[.pointer (some ⟨g, 0, none⟩)]] 190)) V → V.ownsRow (w.alloc (.cells #[.func (.func 237) #[] #[.pointer (some ⟨g, 0, none⟩)]] 190)).heap.size 108 2 v D.length (usv D) →
   Calls Tryz.prog 262 #[v, .func (.func 263) #[] #[.pointer (some ⟨w.heap.size, 0, none⟩)]] V fun r w' => ∃ v', r = .returned v' ∧ w'.ownsRow (w.alloc (.cells #[.func (.func 237) #[] #[.pointer (some ⟨g, 0, none⟩)]] 190)).heap.size 108 2 v' (butU u D).length (usv (butU u D)) ∧ Below (w.alloc (.cells #[.func (.func 237) #[] #[.pointer (some ⟨g, 0, none⟩)]] 190)).heap.size V w') := fun v V hsz hbV hoV => by
  have h := del_us v D 263 w.heap.size (w.alloc (.cells #[.func (.func 237) #[] #[.pointer (some ⟨g, 0, none⟩)]] 190)).heap.size (fun x => decide (x.u = u))
   (fun V => CapO V w.heap.size (.func (.func 237) #[] #[.pointer (some ⟨g, 0, none⟩)]) ∧ CapO V g (.string u) ∧ (w.alloc (.cells #[.func (.func 237) #[] #[.pointer (some ⟨g, 0, none⟩)]] 190)).heap.size ≤ V.heap.size) V hoV ⟨hcap.below hbV, (hg.below hb).below hbV, hsz⟩ hsz (by omega) (call_known Tryz.func263 rfl)
   (fun W W' h q => by
    have hw1 : w.heap.size < (w.alloc (.cells #[.func (.func 237) #[] #[.pointer (some ⟨g, 0, none⟩)]] 190)).heap.size := by rw [size1]; omega
    have hw2 : g < (w.alloc (.cells #[.func (.func 237) #[] #[.pointer (some ⟨g, 0, none⟩)]] 190)).heap.size := Nat.lt_trans hg.2 hw1
    exact ⟨⟨(q.cell (p := ⟨w.heap.size, 0, none⟩) hw1).trans h.1.1, Nat.lt_of_lt_of_le h.1.2 q.size⟩, ⟨(q.cell (p := ⟨g, 0, none⟩) hw2).trans h.2.1.1, Nat.lt_of_lt_of_le h.2.1.2 q.size⟩, Nat.le_trans h.2.2 q.size⟩)
   (fun x hx V h => by
    have h2 := c_those x 237 g w.heap.size (!decide (x.u = u)) V h.1 (call_known Tryz.func237 rfl) (fun V' q => c_erased x u g V' (h.2.1.below q))
    rw [Bool.not_not] at h2
    exact h2)
  exact h
 have HU := Lib.hid hr
 have HB := Lib.hid hb
 clear hr hb hcap hg hc
 go_enter Tryz.func236, Tryz.ntmps236
 go_wp2_with fail
 refine HCL.out.mono ?_
 rintro e w2 ⟨v, rfl, ho, hB2⟩
 go_wp2_with fail
 refine (HDE.out v w2 hB2.size hB2 ho).mono ?_
 rintro e w3 ⟨v3, rfl, ho3, hB3⟩
 have hB4 : Below w.heap.size w w3 := HB.out.trans ((hB2.trans hB3).mono HB.out.size)
 have HO := Lib.hid ho3
 have HB4 := Lib.hid hB4
 clear hB2 hB3 ho3 ho hB4 HB HDE HCL
 go_wp2
 go_ret
 obtain ⟨x, q, rfl, h1, h2, h3, h4⟩ := own_us HO.out
 exact ⟨x, q, rfl, ⟨h3, fun y hy => (HU.out.at_ y (List.mem_filter.1 hy).1).below HB4.out⟩, ⟨h1, h2, h4⟩, HB4.out⟩
theorem fst_key {D : List UsL} {u : ByteArray} {k : Nat} (hk : D.findIdx (fun x => decide (x.u = u)) = k) : (k = D.length ∧ ofU (umS D) u = []) ∨ ∃ h : k < D.length, ofU (umS D) u = D[k].l ∧ D[k].u = u := by
 have hf : (umS D).find? (isKy UsM.u u) = (D.find? (fun x => decide (x.u = u))).map UsL.m := by
  unfold umS
  rw [List.find?_map]
  rfl
 have hle : D.findIdx (fun x => decide (x.u = u)) ≤ D.length := List.findIdx_le_length
 rcases Nat.lt_or_ge k D.length with h1 | h1
 ·refine .inr ⟨h1, ?_, ?_⟩
  ·have h2 : D.find? (fun x => decide (x.u = u)) = some D[k] := by
    rw [List.find?_eq_some_iff_getElem]
    refine ⟨?_, k, h1, rfl, fun j hj => ?_⟩
    ·have := (List.findIdx_eq h1).1 hk
     exact this.1
    ·have := ((List.findIdx_eq h1).1 hk).2 j hj
     simpa using this
   unfold ofU
   rw [hf, h2]
   rfl
  ·exact of_decide_eq_true ((List.findIdx_eq h1).1 hk).1
 ·refine .inl ⟨by omega, ?_⟩
  have h2 : D.find? (fun x => decide (x.u = u)) = none := by
   rw [List.find?_eq_none]
   intro x hx
   have := List.findIdx_eq_length.1 (show D.findIdx (fun x => decide (x.u = u)) = D.length by omega) x hx
   simpa using this
  unfold ofU
  rw [hf, h2]
  rfl
set_option maxHeartbeats 2000000 in
theorem staysOf_any (a : Option Addr) (c : Nat) (D : List UsL) (u : ByteArray) (w : World) (hr : UsSl w a D) (hl : D.length ≤ 10000) :
  Calls Tryz.prog 90 #[.slice a D.length c, .string u] w fun e w' => ∃ x q, e = .returned (.slice x (ofU (umS D) u).length q) ∧ StSl w' x (ofU (umS D) u) ∧ Cp x (ofU (umS D) u).length q ∧ Below w.heap.size w w' := by
 have hb := below_one w (.cells #[.string u] 9)
 have hcap : CapO (w.alloc (.cells #[.string u] 9)) w.heap.size (.string u) := ⟨cell_of_row _ _ 0 _ _ (0, 0) (heap_alloc_new w _), by rw [size1]; omega⟩
 have HF := Lib.hid (find_us a c D 155 w.heap.size (fun x => decide (x.u = u)) (fun V => CapO V w.heap.size (.string u)) _ (hr.below hb) hcap (by omega) (call_known Tryz.func155 rfl) (fun W W' h q => h.below q) (fun x hx V _ h => c_staysOf x u w.heap.size V h))
 have HK := Lib.hid (fst_key (D := D) (u := u) rfl)
 have HB := Lib.hid hb
 have HR := Lib.hid hr
 clear hr hb hcap
 generalize D.findIdx (fun x => decide (x.u = u)) = k at *
 generalize ofU (umS D) u = m at *
 rcases HK.out with ⟨h1, h2⟩ | ⟨h1, h2, _⟩
 ·subst h2
  have d1 : ((k : Int) == (D.length : Int)) = true := by rw [h1]; exact beq_self_eq_true _
  clear h1 HK HR
  go_enter Tryz.func90, Tryz.ntmps90
  go_wp2_with fail
  refine HF.out.mono ?_
  rintro e w2 ⟨rfl, hB2⟩
  go_wp2
  go_ret
  exact ⟨none, 0, rfl, StSl.nil _ _, Cp.none, HB.out.trans (hB2.mono HB.out.size)⟩
 ·have d1 : ((k : Int) == (D.length : Int)) = false := by rw [beq_eq_false_iff_ne]; omega
  have HM := Lib.hid h2
  clear HK h2
  go_enter Tryz.func90, Tryz.ntmps90
  go_wp2_with fail
  refine HF.out.mono ?_
  rintro e w2 ⟨rfl, hB2⟩
  have hB3 : Below w.heap.size w w2 := HB.out.trans (hB2.mono HB.out.size)
  obtain ⟨b, off, rfl, hbl, hc0, hc1, hat⟩ := (HR.out.below hB3).get h1
  have HB3 := Lib.hid hB3
  have HA := Lib.hid hat
  clear hB2 hB3 HF HB HR hat
  generalize D[k] = x at *
  go_wp2
  go_ret
  exact ⟨x.a, x.c, by rw [HM.out]; rfl, by rw [HM.out]; exact HA.out.st, by rw [HM.out]; exact ⟨HA.out.le, HA.out.mx, HA.out.nil⟩, HB3.out⟩
def latS (op : List OpM) (now n : Int) : Int := if h : op.findIdx (hasN n) < op.length then op[op.findIdx (hasN n)].f else now
def v4 (a b c d : Int) (i : Nat) : Int := if i = 0 then a else if i = 1 then b else if i = 2 then c else d
def stayB (s : SaM) (x : StM) : Bool := wiB (v4 x.f x.t x.n x.s) (v4 0 0 1 1) (v4 s.now (latS s.op s.now x.n) 999 4)
def staysB (s : SaM) (l : List StM) : Bool := decide (0 < l.length) && (decide (RiseS l) && l.all (stayB s))
def timesB (s : SaM) (e : EnM) : Bool := decide (0 ≤ e.f) && (decide (e.f ≤ s.now) && (decide (e.t ≤ s.now) || (e.t == 1099511627776)))
def tombB (s : SaM) (x : TbM) : Bool := decide (0 ≤ x.a) && decide (x.a ≤ s.now)
def fromB (s : SaM) (e : OpM) : Bool := decide (e.f ≤ s.now)
end Go.Proofs.YtapacckmgmdnoaaGreat
namespace Go.Proofs.YtapacckmgmdnoaaGreat
set_option maxRecDepth 100000
theorem pf_heard : Tryz.pinned.checked.prog.stopsHeard = true := by kernel_rfl
theorem pf_maps : mapsRowed Tryz.pinned.checked.prog = true := by kernel_rfl
theorem pf_laid : laidOutB Tryz.pinned.checked.prog = true := by kernel_rfl
theorem pf_keys : Tryz.pinned.checked.prog.plainKeys = Rows.foldModelRow.plainKeys := by kernel_rfl
theorem pf_lift : Tryz.pinned.checked.prog.liftsFinal = Rows.foldModelRow.lifted := by kernel_rfl
theorem pf_enter : Tryz.pinned.checked.prog.mayEnter = true := by kernel_rfl
end Go.Proofs.YtapacckmgmdnoaaGreat
