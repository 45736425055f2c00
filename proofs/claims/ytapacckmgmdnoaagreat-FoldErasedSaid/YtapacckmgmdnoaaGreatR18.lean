/- Texts of mine, one behind the other, of each what is wanted. -/
import Derived.Test.YtapacckmgmdnoaaGreatR00
import Derived.Test.YtapacckmgmdnoaaGreatShelf
import Derived.Test.YtapacckmgmdnoaaGreatRows
import Derived.Test.YtapacckmgmdnoaaGreatR01
import Derived.Test.YtapacckmgmdnoaaGreatR02
import Derived.Test.YtapacckmgmdnoaaGreatR03
import Derived.Test.YtapacckmgmdnoaaGreatR04
import Derived.Test.YtapacckmgmdnoaaGreatR05
import Derived.Test.YtapacckmgmdnoaaGreatR07
import Derived.Test.YtapacckmgmdnoaaGreatR09
import Derived.Test.YtapacckmgmdnoaaGreatR12
import Derived.Test.YtapacckmgmdnoaaGreatR13
import Derived.Test.YtapacckmgmdnoaaGreatR14
import Derived.Test.YtapacckmgmdnoaaGreatR15
import Derived.Test.YtapacckmgmdnoaaGreatR16
import Derived.Test.YtapacckmgmdnoaaGreatR17
namespace Go.Proofs.YtapacckmgmdnoaaGreat
set_option linter.unusedVariables false
set_option maxRecDepth 100000
def OkSt (now : Int) (op : List OpM) (x : StM) : Prop := 0 ≤ x.f ∧ x.t ≤ now ∧ 1 ≤ x.n ∧ x.n ≤ 999 ∧ 1 ≤ x.s ∧ x.s ≤ 4 ∧ ∀ o ∈ op, o.n = x.n → x.t ≤ o.f
def OkU (now : Int) (op : List OpM) (x : UsM) : Prop := nameB x.u = true ∧ x.l ≠ [] ∧ RiseS x.l ∧ ∀ s ∈ x.l, OkSt now op s
def OkT (now : Int) (x : TbM) : Prop := nameB x.u = true ∧ 0 ≤ x.a ∧ x.a ≤ now
structure RightS (s : SaM) : Prop where
 now : 0 ≤ s.now ∧ s.now < 1099511627776
 hor : 0 ≤ s.hor ∧ s.hor < 1099511627776
 op : RiseO s.op
 frm : ∀ e ∈ s.op, e.f ≤ s.now
 us : ∀ x ∈ s.us, OkU s.now s.op x
 ur : RiseK UsM.u s.us
 su : GoE s.su s.now
 tb : ∀ x ∈ s.tb, OkT s.now x
 tr : RiseK TbM.u s.tb
theorem RightS.zero : RightS saZ :=
 ⟨⟨Int.le_refl _, by decide⟩, ⟨Int.le_refl _, by decide⟩, ⟨by decide, fun k h => absurd h (by simp [saZ])⟩, fun e h => (by cases h), fun e h => (by cases h), .nil, .nil, fun e h => (by cases h), .nil⟩
theorem addS_mem {l : List StM} {x y : StM} : y ∈ addS l x ↔ (y = x ∧ x.f < x.t) ∨ y ∈ l := by
 unfold addS
 split
 ·exact ⟨fun h => .inr h, fun h => h.elim (fun h => by omega) id⟩
 ·rw [(putS_perm l x).mem_iff, List.mem_cons]
  exact ⟨fun h => h.imp (fun h => ⟨h, by omega⟩) id, fun h => h.imp And.left id⟩
theorem addS_some {l : List StM} {x : StM} (h : x.f < x.t) : addS l x ≠ [] := by
 unfold addS
 rw [if_neg (by omega)]
 intro h1
 have := putS_len l x
 rw [h1] at this
 simp at this
theorem riseS_nil : RiseS [] := fun k h => absurd h (by simp)
theorem ofU_okst {now : Int} {op : List OpM} {us : List UsM} {u : ByteArray} (h : ∀ x ∈ us, OkU now op x) : RiseS (ofU us u) ∧ ∀ y ∈ ofU us u, OkSt now op y := by
 rcases ofU_cases us u with h1 | h1
 ·rw [h1]; exact ⟨riseS_nil, fun y hy => by cases hy⟩
 ·have h2 := h _ h1
  exact ⟨h2.2.2.1, h2.2.2.2⟩
theorem addU_ok {now : Int} {op : List OpM} {us : List UsM} {u : ByteArray} {x : StM} (h : ∀ x ∈ us, OkU now op x) (hu : nameB u = true) (hx : x.f < x.t → OkSt now op x) (hn : x.f < x.t → x ∉ ofU us u) : ∀ y ∈ addU us u x, OkU now op y := by
 unfold addU
 split
 ·rename_i h1
  intro y hy
  rcases putU_mem.1 hy with ⟨rfl, h2⟩ | ⟨h2, _⟩
  ·obtain ⟨h3, h4⟩ := ofU_okst (u := u) h
   refine ⟨hu, h2, (addS_rise h3).2 (hn h1), fun z hz => ?_⟩
   rcases addS_mem.1 hz with ⟨rfl, _⟩ | h5
   ·exact hx h1
   ·exact h4 z h5
  ·exact h y h2
 ·exact h
theorem OkSt.mono {a b : Int} {op op' : List OpM} {x : StM} (h : OkSt a op x) (hab : a ≤ b) (ho : ∀ o ∈ op', o.n = x.n → x.t ≤ o.f) : OkSt b op' x := by
 obtain ⟨h1, h2, h3, h4, h5, h6, h7⟩ := h
 exact ⟨h1, by omega, h3, h4, h5, h6, ho⟩
theorem OkU.mono {a b : Int} {op op' : List OpM} {x : UsM} (h : OkU a op x) (hab : a ≤ b) (ho : ∀ y, OkSt a op y → ∀ o ∈ op', o.n = y.n → y.t ≤ o.f) : OkU b op' x :=
 ⟨h.1, h.2.1, h.2.2.1, fun s hs => (h.2.2.2 s hs).mono hab (ho s (h.2.2.2 s hs))⟩
theorem pw_mid {l : List OpM} (h : l.Pairwise fun a b => a.n < b.n) {k : Nat} (hk : k < l.length) : (∀ y ∈ l.take k, y.n < l[k].n) ∧ (∀ y ∈ l.drop (k + 1), l[k].n < y.n) := by
 rw [List.pairwise_iff_getElem] at h
 constructor
 ·intro y hy
  obtain ⟨j, hj, hjk, rfl⟩ := mem_take_get hy
  exact h j k hj hk hjk
 ·intro y hy
  obtain ⟨j, hj, hjk, rfl⟩ := mem_drop_get hy
  exact h k j hk hj (by omega)
theorem mem_chg {l : List OpM} (h : l.Pairwise fun a b => a.n < b.n) {k : Nat} (hk : k < l.length) {s f : Int} {y : OpM} (hy : y ∈ chgAt l k s f) : y = ⟨l[k].n, l[k].u, s, f⟩ ∨ (y ∈ l ∧ y.n ≠ l[k].n) := by
 obtain ⟨h1, h2⟩ := pw_mid h hk
 rw [chgAt_at hk] at hy
 rcases List.mem_append.1 hy with h3 | h3
 ·have := h1 y h3
  exact .inr ⟨List.mem_of_mem_take h3, by omega⟩
 ·rcases List.mem_cons.1 h3 with h3 | h3
  ·exact .inl h3
  ·have := h2 y h3
   exact .inr ⟨List.mem_of_mem_drop h3, by omega⟩
theorem mem_cut {l : List OpM} (h : l.Pairwise fun a b => a.n < b.n) {k : Nat} (hk : k < l.length) {y : OpM} (hy : y ∈ cutAt l k) : y ∈ l ∧ y.n ≠ l[k].n := by
 obtain ⟨h1, h2⟩ := pw_mid h hk
 unfold cutAt at hy
 rcases List.mem_append.1 hy with h3 | h3
 ·have := h1 y h3
  exact ⟨List.mem_of_mem_take h3, by omega⟩
 ·have := h2 y h3
  exact ⟨List.mem_of_mem_drop h3, by omega⟩
theorem chg_n {l : List OpM} {k : Nat} (hk : k < l.length) (s f : Int) : (chgAt l k s f).map OpM.n = l.map OpM.n := by
 have h : l = l.take k ++ l[k] :: l.drop (k + 1) := by rw [← List.drop_eq_getElem_cons hk, List.take_append_drop]
 rw [chgAt_at hk]
 conv => rhs; rw [h]
 rw [List.map_append, List.map_append, List.map_cons, List.map_cons]
theorem pw_n {l : List OpM} : (l.Pairwise fun a b => a.n < b.n) ↔ (l.map OpM.n).Pairwise (· < ·) := by
 rw [List.pairwise_map]
theorem chg_rise {l : List OpM} (h : RiseO l) {k : Nat} (hk : k < l.length) {s f : Int} (hs : 1 ≤ s ∧ s ≤ 4) (hf : 0 ≤ f ∧ f ≤ 1099511627775) : RiseO (chgAt l k s f) := by
 obtain ⟨h0, h1, h2⟩ := riseO_iff.1 h
 rw [riseO_iff, chgAt_len, pw_n, chg_n hk, ← pw_n]
 refine ⟨h0, fun e he => ?_, h2⟩
 rcases mem_chg h2 hk he with rfl | ⟨h3, _⟩
 ·obtain ⟨k1, k2, k3, _⟩ := h1 _ (List.getElem_mem hk)
  exact ⟨k1, k2, k3, hs.1, hs.2, hf.1, hf.2⟩
 ·exact h1 e h3
theorem cut_rise {l : List OpM} (h : RiseO l) {k : Nat} : RiseO (cutAt l k) := by
 obtain ⟨h0, h1, h2⟩ := riseO_iff.1 h
 have hsub : (cutAt l k).Sublist l := by
  unfold cutAt
  have h3 : (l.take k ++ l.drop (k + 1)).Sublist (l.take k ++ l.drop k) := by
   refine List.Sublist.append_left ?_ _
   rw [← List.drop_drop]
   exact List.drop_sublist _ _
  rwa [List.take_append_drop] at h3
 rw [riseO_iff]
 exact ⟨Nat.le_trans (cutAt_len l k) h0, fun e he => h1 e (hsub.subset he), h2.sublist hsub⟩
theorem rise_filterO {l : List OpM} (h : RiseO l) (p : OpM → Bool) : RiseO (l.filter p) := by
 obtain ⟨h0, h1, h2⟩ := riseO_iff.1 h
 rw [riseO_iff]
 exact ⟨Nat.le_trans (List.length_filter_le _ _) h0, fun e he => h1 e (List.mem_filter.1 he).1, h2.filter _⟩
def RightV (k a n st : Int) (u o : ByteArray) : Prop :=
 0 ≤ a ∧ a < 1099511627776 ∧ (((k = 1 ∨ k = 2) ∧ 1 ≤ n ∧ n ≤ 999 ∧ nameB u = true ∧ o = ⟨#[]⟩ ∧ 1 ≤ st ∧ st ≤ 4)
  ∨ (k = 3 ∧ 1 ≤ n ∧ n ≤ 999 ∧ nameB u = true ∧ o = ⟨#[]⟩ ∧ st = 0)
  ∨ ((k = 4 ∨ k = 5) ∧ nameB u = true ∧ nameB o = true ∧ n = 0 ∧ st = 0)
  ∨ (k = 6 ∧ u = ⟨#[]⟩ ∧ o = ⟨#[]⟩ ∧ st = 0 ∧ 0 ≤ n ∧ n < 1099511627776)
  ∨ (k = 7 ∧ nameB u = true ∧ o = ⟨#[]⟩ ∧ n = 0 ∧ st = 0))
instance rightVDec (k a n st : Int) (u o : ByteArray) : Decidable (RightV k a n st u o) := by unfold RightV; infer_instance
def errK (s : SaM) (k a n st : Int) (u o : ByteArray) : Int :=
 if k = 1 then openC s.op ⟨n, u, st, a⟩ else if k = 2 ∨ k = 3 then findC s.op n u
 else if k = 4 then (if s.su.any (infE u o) = true then 90 else 0) else if k = 5 then (if s.su.any (infE u o) = true then 0 else 91) else 0
def errS (s : SaM) (k a n st : Int) (u o : ByteArray) : Int := if RightV k a n st u o then (if a < s.now then 111 else errK s k a n st u o) else 110
def goS (s : SaM) (k a n st : Int) (u o : ByteArray) : SaM :=
 if k = 1 then { s with now := a, op := openR s.op ⟨n, u, st, a⟩ }
 else if k = 2 then { s with now := a, op := chgR s.op n u st a, us := addU s.us u (fndS s.op n u a) }
 else if k = 3 then { s with now := a, op := cloR s.op n u, us := addU s.us u (fndS s.op n u a) }
 else if k = 4 then { s with now := a, su := grantS s.su (mkE u o a) }
 else if k = 5 then { s with now := a, su := revokeS s.su u o a }
 else if k = 6 then { s with now := a, hor := max s.hor n }
 else { s with now := a, op := s.op.filter (notU u), su := withoutS s.su u, us := putU s.us u [], tb := tombU s.tb u a }
def tellS (s : SaM) (k a n st : Int) (u o : ByteArray) : SaM := if errS s k a n st u o = 0 then goS s k a n st u o else saZ
theorem errS_ok {s : SaM} {k a n st : Int} {u o : ByteArray} (h : errS s k a n st u o = 0) : RightV k a n st u o ∧ s.now ≤ a ∧ errK s k a n st u o = 0 := by
 unfold errS at h
 split at h
 ·rename_i h1
  split at h
  ·exact absurd h (by decide)
  ·exact ⟨h1, by omega, h⟩
 ·exact absurd h (by decide)
theorem GoE.mono {m : List EnM} {a b : Int} (h : GoE m a) (hab : a ≤ b) : GoE m b :=
 ⟨h.rise, fun e he => by obtain ⟨h1, h2, h3⟩ := h.bnd e he; exact ⟨h1, by omega, h3.imp id (by omega)⟩⟩
theorem GoE.filter {m : List EnM} {a : Int} (h : GoE m a) (p : EnM → Bool) : GoE (m.filter p) a :=
 ⟨rise_filter h.rise p, fun e he => h.bnd e (List.mem_filter.1 he).1⟩
theorem OkT.mono {a b : Int} {x : TbM} (h : OkT a x) (hab : a ≤ b) : OkT b x := by
 obtain ⟨h1, h2, h3⟩ := h
 exact ⟨h1, h2, by omega⟩
theorem right_open {s : SaM} (h : RightS s) {a n st : Int} {u : ByteArray} (hn : 1 ≤ n ∧ n ≤ 999) (hs : 1 ≤ st ∧ st ≤ 4) (ha : s.now ≤ a) (hb : a < 1099511627776) (hu : nameB u = true) (hc : openC s.op ⟨n, u, st, a⟩ = 0) :
  RightS { s with now := a, op := openR s.op ⟨n, u, st, a⟩ } := by
 have h0 := h.now
 have hnew : ∀ y ∈ openR s.op ⟨n, u, st, a⟩, y = ⟨n, u, st, a⟩ ∨ y ∈ s.op := fun y hy => by
  unfold openR at hy
  rw [if_pos hc] at hy
  unfold openS at hy
  rcases List.mem_append.1 hy with h1 | h1
  ·exact .inr (List.mem_of_mem_take h1)
  ·rcases List.mem_cons.1 h1 with h1 | h1
   ·exact .inl h1
   ·exact .inr (List.mem_of_mem_drop h1)
 refine ⟨⟨by simp only; omega, hb⟩, h.hor, open_rise hc h.op ?_, fun e he => ?_, fun x hx => (h.us x hx).mono ha fun y hy z hz hzn => ?_, h.ur, h.su.mono ha, fun x hx => (h.tb x hx).mono ha, h.tr⟩
 ·rw [riseO_iff]
  refine ⟨by simp, fun e he => ?_, List.pairwise_singleton _ _⟩
  rw [List.mem_singleton.1 he]
  exact ⟨hu, hn.1, hn.2, hs.1, hs.2, by simp only; omega, by simp only; omega⟩
 ·rcases hnew e he with rfl | h1
  ·exact Int.le_refl _
  ·exact Int.le_trans (h.frm e h1) ha
 ·rcases hnew z hz with rfl | h1
  ·exact Int.le_trans hy.2.1 ha
  ·exact hy.2.2.2.2.2.2 z h1 hzn
theorem right_stay {s : SaM} (h : RightS s) {a st : Int} {k : Nat} (hk : k < s.op.length) (ha : s.now ≤ a) {op' : List OpM} (hop : ∀ y ∈ op', y.n = s.op[k].n → a ≤ y.f) (hb : a < 1099511627776)
  (hkeep : ∀ y ∈ op', y.n ≠ s.op[k].n → y ∈ s.op) (hu : nameB s.op[k].u = true) : ∀ y ∈ addU s.us s.op[k].u (stayO s.op[k] a), OkU a op' y := by
 obtain ⟨h1, h2, h3⟩ := riseO_iff.1 h.op
 obtain ⟨k1, k2, k3, k4, k5, k6, k7⟩ := h2 _ (List.getElem_mem hk)
 have hold : ∀ x ∈ s.us, OkU a op' x := fun x hx => (h.us x hx).mono ha fun y hy z hz hzn => by
  by_cases hzk : z.n = s.op[k].n
  ·exact Int.le_trans (Int.le_trans hy.2.1 ha) (hop z hz hzk)
  ·exact hy.2.2.2.2.2.2 z (hkeep z hz hzk) hzn
 refine addU_ok hold hu (fun hlt => ?_) (fun hlt hm => ?_)
 ·exact ⟨k6, Int.le_refl _, k2, k3, k4, k5, fun o ho hon => hop o ho hon⟩
 ·have h4 := (ofU_okst (u := s.op[k].u) h.us).2 _ hm
  have h5 := h4.2.2.2.2.2.2 _ (List.getElem_mem hk) rfl
  have h6 : s.op[k].f < a := hlt
  have h7 : a ≤ s.op[k].f := h5
  omega
theorem right_change {s : SaM} (h : RightS s) {a n st : Int} {u : ByteArray} (hs : 1 ≤ st ∧ st ≤ 4) (ha : s.now ≤ a) (hb : a < 1099511627776) (hc : findC s.op n u = 0) :
  RightS { s with now := a, op := chgR s.op n u st a, us := addU s.us u (fndS s.op n u a) } := by
 have h0 := h.now
 rcases fc_three s.op n u with ⟨_, k, hk, hf, h1, h2, h3, h4⟩ | ⟨h1 | h1, _⟩
 ·obtain ⟨_, h6, h7⟩ := riseO_iff.1 h.op
  have hcr : chgR s.op n u st a = chgAt s.op k st a := by unfold chgR; rw [if_pos hc, h4]
  have hst : fndS s.op n u a = stayO s.op[k] a := by unfold fndS; rw [if_pos hc, h3]
  have hmem : ∀ y ∈ chgAt s.op k st a, y = ⟨s.op[k].n, s.op[k].u, st, a⟩ ∨ (y ∈ s.op ∧ y.n ≠ s.op[k].n) := fun y hy => mem_chg h7 hk hy
  rw [hcr, hst, ← h2]
  refine ⟨⟨by simp only; omega, hb⟩, h.hor, chg_rise h.op hk hs ⟨by omega, by omega⟩, fun e he => ?_, right_stay (st := st) h hk ha (fun y hy hyn => ?_) hb (fun y hy hyn => ?_) (h6 _ (List.getElem_mem hk)).1, addU_rise h.ur, h.su.mono ha, fun x hx => (h.tb x hx).mono ha, h.tr⟩
  ·rcases hmem e he with rfl | ⟨h8, _⟩
   ·exact Int.le_refl _
   ·exact Int.le_trans (h.frm e h8) ha
  ·rcases hmem y hy with rfl | ⟨_, h8⟩
   ·exact Int.le_refl _
   ·exact absurd hyn h8
  ·rcases hmem y hy with rfl | ⟨h8, _⟩
   ·exact absurd rfl hyn
   ·exact h8
 ·rw [hc] at h1; exact absurd h1 (by decide)
 ·rw [hc] at h1; exact absurd h1 (by decide)
theorem right_close {s : SaM} (h : RightS s) {a n : Int} {u : ByteArray} (ha : s.now ≤ a) (hb : a < 1099511627776) (hc : findC s.op n u = 0) :
  RightS { s with now := a, op := cloR s.op n u, us := addU s.us u (fndS s.op n u a) } := by
 have h0 := h.now
 rcases fc_three s.op n u with ⟨_, k, hk, hf, h1, h2, h3, h4⟩ | ⟨h1 | h1, _⟩
 ·obtain ⟨_, h6, h7⟩ := riseO_iff.1 h.op
  have hcr : cloR s.op n u = cutAt s.op k := by unfold cloR; rw [if_pos hc, h4]
  have hst : fndS s.op n u a = stayO s.op[k] a := by unfold fndS; rw [if_pos hc, h3]
  have hmem : ∀ y ∈ cutAt s.op k, y ∈ s.op ∧ y.n ≠ s.op[k].n := fun y hy => mem_cut h7 hk hy
  rw [hcr, hst, ← h2]
  exact ⟨⟨by simp only; omega, hb⟩, h.hor, cut_rise h.op, fun e he => Int.le_trans (h.frm e (hmem e he).1) ha, right_stay (st := 1) h hk ha (fun y hy hyn => absurd hyn (hmem y hy).2) hb (fun y hy hyn => (hmem y hy).1) (h6 _ (List.getElem_mem hk)).1, addU_rise h.ur, h.su.mono ha, fun x hx => (h.tb x hx).mono ha, h.tr⟩
 ·rw [hc] at h1; exact absurd h1 (by decide)
 ·rw [hc] at h1; exact absurd h1 (by decide)
theorem right_erase {s : SaM} (h : RightS s) {a : Int} {u : ByteArray} (ha : s.now ≤ a) (hb : a < 1099511627776) (hu : nameB u = true) :
  RightS { s with now := a, op := s.op.filter (notU u), su := withoutS s.su u, us := putU s.us u [], tb := tombU s.tb u a } := by
 have h0 := h.now
 refine ⟨⟨by simp only; omega, hb⟩, h.hor, rise_filterO h.op _, fun e he => Int.le_trans (h.frm e (List.mem_filter.1 he).1) ha, fun x hx => ?_, putU_rise h.ur, (h.su.mono ha).filter _, fun x hx => ?_, tombU_rise h.tr⟩
 ·rcases putU_mem.1 hx with ⟨_, h1⟩ | ⟨h1, _⟩
  ·exact absurd rfl h1
  ·exact (h.us x h1).mono ha fun y hy z hz hzn => hy.2.2.2.2.2.2 z (List.mem_filter.1 hz).1 hzn
 ·rcases tombU_mem.1 hx with rfl | ⟨h1, _⟩
  ·exact ⟨hu, by simp only; omega, Int.le_refl _⟩
  ·exact (h.tb x h1).mono ha
theorem right_go {s : SaM} (h : RightS s) {k a n st : Int} {u o : ByteArray} (he : errS s k a n st u o = 0) : RightS (goS s k a n st u o) := by
 obtain ⟨hv, ha, hk⟩ := errS_ok he
 have h0 := h.now
 obtain ⟨ha0, hb, hv⟩ := hv
 have hold : ∀ x ∈ s.us, OkU a s.op x := fun x hx => (h.us x hx).mono ha fun y hy z hz hzn => hy.2.2.2.2.2.2 z hz hzn
 unfold errK at hk
 unfold goS
 rcases hv with ⟨h1 | h1, h2, h3, h4, _, h5, h6⟩ | ⟨h1, h2, h3, h4, _, _⟩ | ⟨h1 | h1, h2, h3, _, _⟩ | ⟨h1, _, _, _, h2, h3⟩ | ⟨h1, h2, _, _, _⟩
 ·subst h1
  exact right_open h ⟨h2, h3⟩ ⟨h5, h6⟩ ha hb h4 hk
 ·subst h1
  exact right_change h ⟨h5, h6⟩ ha hb hk
 ·subst h1
  exact right_close h ha hb hk
 ·subst h1
  have hi : s.su.any (infE u o) = false := by
   rw [if_neg (by decide), if_neg (by decide), if_pos rfl] at hk
   split at hk
   ·exact absurd hk (by decide)
   ·rename_i h4; exact Bool.eq_false_iff.2 h4
  exact ⟨⟨ha0, hb⟩, h.hor, h.op, fun e he => Int.le_trans (h.frm e he) ha, hold, h.ur, (h.su.grant h0.1 ha hb h2 h3 hi).1, fun x hx => (h.tb x hx).mono ha, h.tr⟩
 ·subst h1
  have hi : s.su.any (infE u o) = true := by
   rw [if_neg (by decide), if_neg (by decide), if_neg (by decide), if_pos rfl] at hk
   split at hk
   ·rename_i h4; exact h4
   ·exact absurd hk (by decide)
  exact ⟨⟨ha0, hb⟩, h.hor, h.op, fun e he => Int.le_trans (h.frm e he) ha, hold, h.ur, (h.su.revoke h0.1 ha hb hi).1, fun x hx => (h.tb x hx).mono ha, h.tr⟩
 ·subst h1
  have h4 := h.hor
  exact ⟨⟨ha0, hb⟩, ⟨Int.le_trans h4.1 (Int.le_max_left _ _), Int.max_lt.2 ⟨h4.2, h3⟩⟩, h.op, fun e he => Int.le_trans (h.frm e he) ha, hold, h.ur, h.su.mono ha, fun x hx => (h.tb x hx).mono ha, h.tr⟩
 ·subst h1
  exact right_erase h ha hb h2
def addsS (l : List StM) (r : List StM) : List StM := l.foldl addS r
def staysS (s : SaM) (u : ByteArray) (w : Int) : List StM := addsS (staysO s.op u w) (ofU s.us u)
theorem addsS_len : ∀ (l r : List StM), (addsS l r).length ≤ r.length + l.length
 | [], r => by simp [addsS]
 | x :: l, r => by
  have h1 := addsS_len l (addS r x)
  have h2 := addS_len r x
  show (addsS l (addS r x)).length ≤ _
  rw [List.length_cons]
  omega
theorem addsS_next (l : List StM) (r : List StM) (j : Nat) (h : j < l.length) : addsS (l.take (j + 1)) r = addS (addsS (l.take j) r) l[j] := by
 unfold addsS
 rw [List.take_succ_eq_append_getElem h, List.foldl_append]
 rfl
def cntU (l : List UsM) : Nat := (l.map fun x => x.l.length).sum
def stCnt (s : SaM) : Nat := s.op.length + s.su.length + s.tb.length + cntU s.us
theorem cntU_cons (x : UsM) (l : List UsM) : cntU (x :: l) = x.l.length + cntU l := by simp [cntU]
theorem cntU_append (a b : List UsM) : cntU (a ++ b) = cntU a + cntU b := by simp [cntU]
theorem cntU_parts (u : ByteArray) : ∀ l : List UsM, cntU (l.filter (belK UsM.u u)) + cntU (l.filter (abvK UsM.u u)) + (ofU l u).length ≤ cntU l
 | [] => by simp [cntU, ofU]
 | x :: l => by
  have ih := cntU_parts u l
  rw [List.filter_cons, List.filter_cons, cntU_cons]
  by_cases h : x.u = u
  ·have h1 : ¬ belK UsM.u u x = true := fun h1 => cmpS_ne (belK_iff.1 h1) h
   have h2 : ¬ abvK UsM.u u x = true := fun h1 => cmpS_ne (abvK_iff.1 h1) h.symm
   have h3 : ofU (x :: l) u = x.l := by
    unfold ofU
    rw [List.find?_cons_of_pos (isKy_iff.2 h)]
   rw [if_neg h1, if_neg h2, h3]
   omega
  ·have h3 : ofU (x :: l) u = ofU l u := by
    unfold ofU
    rw [List.find?_cons_of_neg (fun h1 => h (isKy_iff.1 h1))]
   rw [h3]
   by_cases h1 : belK UsM.u u x = true
   ·have h2 : ¬ abvK UsM.u u x = true := fun h2 => cmpS_asym (belK_iff.1 h1) (abvK_iff.1 h2)
    rw [if_pos h1, if_neg h2, cntU_cons]
    omega
   ·rw [if_neg h1]
    split
    ·rw [cntU_cons]; omega
    ·omega
theorem cntU_put (l : List UsM) (u : ByteArray) (r : List StM) : cntU (putU l u r) + (ofU l u).length ≤ cntU l + r.length := by
 have h := cntU_parts u l
 have h1 : cntU (rowU u r) = r.length := by
  unfold rowU
  cases r with
  | nil => rfl
  | cons a r => simp [cntU]
 unfold putU insK
 rw [cntU_append, cntU_append, h1]
 omega
theorem cntU_add (l : List UsM) (u : ByteArray) (x : StM) : cntU (addU l u x) ≤ cntU l + 1 := by
 unfold addU
 split
 ·have h1 := cntU_put l u (addS (ofU l u) x)
  have h2 := addS_len (ofU l u) x
  omega
 ·omega
theorem cnt_go (s : SaM) (k a n st : Int) (u o : ByteArray) : stCnt (goS s k a n st u o) ≤ stCnt s + 1 := by
 have h1 := openR_len s.op ⟨n, u, st, a⟩
 have h2 := chgR_len s.op n u st a
 have h3 := cloR_len s.op n u
 have h4 := cntU_add s.us u (fndS s.op n u a)
 have h5 := grant_len s.su (mkE u o a)
 have h6 := revoke_len s.su u o a
 have h7 : (s.op.filter (notU u)).length ≤ s.op.length := List.length_filter_le _ _
 have h8 : (withoutS s.su u).length ≤ s.su.length := List.length_filter_le _ _
 have h9 := cntU_put s.us u []
 have h10 : (tombU s.tb u a).length ≤ s.tb.length + 1 := insK_len
 simp only [List.length_nil] at h9
 unfold stCnt goS
 repeat' split
 all_goals (simp only; omega)
theorem take_next_filter {α : Type} (p : α → Bool) (l : List α) (j : Nat) (h : j < l.length) : (l.take (j + 1)).filter p = (l.take j).filter p ++ (if p l[j] = true then [l[j]] else []) := by
 rw [List.take_succ_eq_append_getElem h, List.filter_append, List.filter_cons, List.filter_nil]
theorem low_of {α : Type} {key : α → ByteArray} {u : ByteArray} {l : List α} (hr : RiseK key l) {j : Nat} (hj : j < l.length) (hlt : cmpS (key l[j]) u < 0) : ∀ i (h : i < l.length), i < j → cmpS (key l[i]) u < 0 := fun i hi hij =>
 cmpS_trans (List.pairwise_iff_getElem.1 hr i j hi hj hij) hlt
def notBel {α : Type} (key : α → ByteArray) (u : ByteArray) (x : α) : Bool := !belK key u x
theorem fst_parts {α : Type} {key : α → ByteArray} {u : ByteArray} {l : List α} (hr : RiseK key l) {k : Nat} (h : IsFst (notBel key u) l k) : l.filter (belK key u) = l.take k ∧ (∀ x ∈ l.drop k, ¬ cmpS (key x) u < 0) := by
 have hlo : ∀ x ∈ l.take k, belK key u x = true := fun x hx => by
  have := h.take x hx
  unfold notBel at this
  simpa using this
 have hup : ∀ x ∈ l.drop k, ¬ cmpS (key x) u < 0 := fun x hx hlt => by
  obtain ⟨j, hj, hkj, rfl⟩ := mem_drop_get hx
  have h1 := h.hit (by omega)
  unfold notBel at h1
  have h2 : ¬ cmpS (key (l[k]'(by omega))) u < 0 := fun h2 => by rw [belK_iff.2 h2] at h1; cases h1
  rcases Nat.lt_or_ge k j with h3 | h3
  ·exact h2 (low_of hr hj hlt k (by omega) h3)
  ·obtain rfl : k = j := by omega
   exact h2 hlt
 refine ⟨?_, hup⟩
 have h3 : l.filter (belK key u) = (l.take k).filter (belK key u) ++ (l.drop k).filter (belK key u) := by rw [← List.filter_append, List.take_append_drop]
 rw [h3, List.filter_eq_self.2 hlo, List.filter_eq_nil_iff.2 fun x hx hb => hup x hx (belK_iff.1 hb), List.append_nil]
theorem ins_new {α : Type} {key : α → ByteArray} {u : ByteArray} {m l : List α} (hr : RiseK key l) {k : Nat} (h : IsFst (notBel key u) l k) (hn : ∀ x ∈ l, key x ≠ u) : insK key u m l = l.take k ++ (m ++ l.drop k) := by
 obtain ⟨h1, h2⟩ := fst_parts hr h
 unfold insK
 rw [h1]
 congr 2
 have h3 : l.filter (abvK key u) = (l.take k).filter (abvK key u) ++ (l.drop k).filter (abvK key u) := by rw [← List.filter_append, List.take_append_drop]
 rw [h3, List.filter_eq_nil_iff.2, List.nil_append, List.filter_eq_self.2]
 ·intro x hx
  rcases cmpS_tri (key x) u with h4 | h4 | h4
  ·exact absurd h4 (h2 x hx)
  ·exact absurd h4 (hn x (List.mem_of_mem_drop hx))
  ·exact abvK_iff.2 h4
 ·intro x hx ha
  rw [← h1] at hx
  exact cmpS_asym (belK_iff.1 (List.mem_filter.1 hx).2) (abvK_iff.1 ha)
theorem ins_old {α : Type} {key : α → ByteArray} {u : ByteArray} {m l : List α} (hr : RiseK key l) {k : Nat} (hk : k < l.length) (he : key l[k] = u) : insK key u m l = l.take k ++ (m ++ l.drop (k + 1)) := by
 have hpw := List.pairwise_iff_getElem.1 hr
 have hlo : ∀ x ∈ l.take k, cmpS (key x) u < 0 := fun x hx => by
  obtain ⟨j, hj, hjk, rfl⟩ := mem_take_get hx
  rw [← he]; exact hpw j k hj hk hjk
 have hup : ∀ x ∈ l.drop (k + 1), cmpS u (key x) < 0 := fun x hx => by
  obtain ⟨j, hj, hjk, rfl⟩ := mem_drop_get hx
  rw [← he]; exact hpw k j hk hj (by omega)
 have hl : l = l.take k ++ l[k] :: l.drop (k + 1) := by rw [← List.drop_eq_getElem_cons hk, List.take_append_drop]
 have hb : ¬ belK key u l[k] = true := fun hb => cmpS_ne (belK_iff.1 hb) he
 have ha : ¬ abvK key u l[k] = true := fun ha => cmpS_ne (abvK_iff.1 ha) he.symm
 have f1 : l.filter (belK key u) = l.take k := by
  conv => lhs; rw [hl]
  rw [List.filter_append, List.filter_cons, if_neg hb, List.filter_eq_self.2 fun x hx => belK_iff.2 (hlo x hx), List.filter_eq_nil_iff.2 fun x hx h => cmpS_asym (hup x hx) (belK_iff.1 h), List.append_nil]
 have f2 : l.filter (abvK key u) = l.drop (k + 1) := by
  conv => lhs; rw [hl]
  rw [List.filter_append, List.filter_cons, if_neg ha, List.filter_eq_nil_iff.2 fun x hx h => cmpS_asym (hlo x hx) (abvK_iff.1 h), List.filter_eq_self.2 fun x hx => abvK_iff.2 (hup x hx), List.nil_append]
 unfold insK
 rw [f1, f2]
theorem ins_out {α : Type} {key : α → ByteArray} {u : ByteArray} {l : List α} (hr : RiseK key l) : insK key u [] l = l.filter fun x => !isKy key u x := by
 refine riseK_ext (insK_rise hr (fun x hx => by cases hx) (by simp)) (List.Pairwise.filter _ hr) fun x => ?_
 rw [insK_mem, List.mem_filter]
 constructor
 ·rintro (h | ⟨h1, h2⟩)
  ·cases h
  ·refine ⟨h1, ?_⟩
   have h3 : isKy key u x = false := decide_eq_false h2
   rw [h3]; rfl
 ·rintro ⟨h1, h2⟩
  refine .inr ⟨h1, fun e => ?_⟩
  rw [isKy_iff.2 e] at h2
  cases h2
end Go.Proofs.YtapacckmgmdnoaaGreat
namespace Go.Proofs.YtapacckmgmdnoaaGreat
open Go.RowKit Go.Sort Go.Proofs
set_option linter.unusedVariables false
set_option maxRecDepth 100000
set_option maxRecDepth 100000
instance : Inhabited SpM := ⟨⟨0, 0⟩⟩
end Go.Proofs.YtapacckmgmdnoaaGreat
namespace Go.Proofs.YtapacckmgmdnoaaGreat
open Go.RowKit Go.Proofs
set_option linter.unusedVariables false
set_option maxRecDepth 100000
set_option maxRecDepth 100000
theorem econcatR (x y z : Option Addr) (A B C : List EnM) (c1 c2 c3 n1 n2 n3 : Nat) (W : World) (g : Nat) (T : TypeId) (h1 : n1 = A.length) (h2 : n2 = B.length) (h3 : n3 = C.length) (hA : EnSl W x A) (hB : EnSl W y B) (hC : EnSl W z C) (k1 : x = none → c1 = 0) (k2 : y = none → c2 = 0) (k3 : z = none → c3 = 0) (hg : g = W.heap.size) (hl : A.length + (B.length + C.length) ≤ 1000) :
  Calls Tryz.prog 233 #[.slice (some ⟨g, 0, none⟩) 3 3] (W.alloc (.cells #[.slice x n1 c1, .slice y n2 c2, .slice z n3 c3] T)).drew fun e w' => ∃ v, e = .returned v ∧ w'.ownsRow W.heap.size 165 4 v (A ++ (B ++ C)).length (ens (A ++ (B ++ C))) ∧ Below W.heap.size W w' := by
 subst hg h1 h2 h3
 have hcat : catE [⟨x, A, c1⟩, ⟨y, B, c2⟩, ⟨z, C, c3⟩] = A ++ (B ++ C) := by simp [catE]
 have hb := (ebelow_one W (.cells #[.slice x A.length c1, .slice y B.length c2, .slice z C.length c3] T)).drew
 have hlen : (catE [⟨x, A, c1⟩, ⟨y, B, c2⟩, ⟨z, C, c3⟩]).length ≤ 100000 := by rw [hcat, List.length_append, List.length_append]; omega
 refine (econcat_any (some ⟨W.heap.size, 0, none⟩) 3 [⟨x, A, c1⟩, ⟨y, B, c2⟩, ⟨z, C, c3⟩] _ (sl_drew3 W #[.slice x A.length c1, .slice y B.length c2, .slice z C.length c3] T) ?_ (by show 3 ≤ _; decide) hlen).mono ?_
 ·intro r hr
  simp only [List.mem_cons, List.mem_nil_iff, or_false] at hr
  rcases hr with rfl | rfl | rfl
  ·exact ⟨hA.below hb, k1⟩
  ·exact ⟨hB.below hb, k2⟩
  ·exact ⟨hC.below hb, k3⟩
 ·rintro e w' ⟨v, rfl, ho, hbb⟩
  rw [hcat] at ho
  exact ⟨v, rfl, own_low ho hb.size, hb.trans (hbb.mono hb.size)⟩
set_option maxHeartbeats 8000000 in
theorem revoke_any (a : Option Addr) (c : Nat) (l : List EnM) (p u : ByteArray) (n : Int) (w : World) (hr : EnSl w a l) (hl : l.length ≤ 500) (hc : l.length ≤ c) (hcm : c ≤ maxLen) :
  Calls Tryz.prog 197 #[.slice a l.length c, pr p u, .int .i64 n] w fun e w' => (l.any (infE p u) = false ∧ e = .returned (.tuple #[.slice none 0 0, .int .i64 91]) ∧ Below w.heap.size w w') ∨
   (l.any (infE p u) = true ∧ ∃ v, e = .returned (.tuple #[v, .int .i64 0]) ∧ w'.ownsRow w.heap.size 165 4 v (revokeS l p u n).length (ens (revokeS l p u n)) ∧ Below w.heap.size w w') := by
 obtain ⟨i0, hi, hz0, hz1', hz2'⟩ := info_parts infoEn
 have HPC := Lib.hid (PK.new hr p u 79)
 have HIF := Lib.hid (fun W (h : EnSl W a l) => inforce_any a c l p u W h (by omega))
 have HF := first_idx (infE p u) l
 have HREV := fun k (h : IsFirst (infE p u) l k) => revoke_at h n
 unfold maxLen at hcm
 unfold pr at *
 generalize hG : revokeS l p u n = G at *
 clear hr hG
 have hany := HF.any
 generalize l.findIdx (infE p u) = k at *
 by_cases hk : k < l.length
 ·rw [decide_eq_true hk] at hany
  rw [hany]
  have hix := idx_hit HF hk
  have hG2 := HREV k HF
  rw [cut_at hk] at hG2
  rw [hix] at HIF
  clear HREV HF hix hany
  have hd0 : decide ((k : Int) < 0) = false := decide_eq_false (by omega)
  go_enter Tryz.func197, Tryz.ntmps197
  go_wp2_with fail
  refine (HIF.out _ HPC.out.row).mono ?_
  rintro e w1 ⟨rfl, hB⟩
  have K1 := Lib.hid (HPC.out.below hB)
  obtain ⟨b, off, rfl, hbl, hc0, hc1, hc2, hc3⟩ := K1.out.row.at_ hk
  generalize l[k] = x at *
  have HGH := Lib.hid hG2
  have HK2 : Hid (RsE w w1.heap.size ⟨x.w, x.u, x.f, n⟩ (some ⟨b, off, none⟩) l (w1.alloc (.cells #[.string x.w, .string x.u, .int .i64 x.f, .int .i64 n] 165))) := RsE.new (x := ⟨x.w, x.u, x.f, n⟩) K1.out.row K1.out.frame 165
  have HSB : Hid (∀ W, RsE w w1.heap.size ⟨x.w, x.u, x.f, n⟩ (some ⟨b, off, none⟩) l W → W.cell? ⟨w1.heap.size, 0, none⟩ = some (.string x.w) ∧ W.cell? ⟨w1.heap.size, 1, none⟩ = some (.string x.u) ∧ W.cell? ⟨w1.heap.size, 2, none⟩ = some (.int .i64 x.f) ∧ W.cell? ⟨w1.heap.size, 3, none⟩ = some (.int .i64 n)) := fun W h => h.box
  have HNO := Lib.hid (fun W => enone_any x.f n W)
  obtain ⟨k1, hk1⟩ : ∃ k1, k1 = k + 1 := ⟨_, rfl⟩
  have HK1 := Lib.hid hk1
  have hpw : IntKind.i64.wrap ((k : Int) + 1) = (k1 : Int) := by rw [IntWalk.i64_in] <;> omega
  have hk1l : k1 ≤ l.length := by omega
  have hkk : k < k1 := by omega
  have hz1 : (0 : Int) ≤ (k : Int) := by omega
  have hz2 : (k : Int) ≤ (l.length : Int) := by omega
  have hz3 : (k : Int) ≤ (c : Int) := by omega
  have hz4 : (l.length : Int) ≤ (c : Int) := by omega
  have hz5 : (0 : Int) ≤ (k1 : Int) := by omega
  have hz6 : (k1 : Int) ≤ (l.length : Int) := by omega
  have hz7 : (k1 : Int) ≤ (c : Int) := by omega
  have hz8 : k1 ≤ c := by omega
  have hz9 : k ≤ c := by omega
  clear hB HPC HIF hk1 hG2
  by_cases hn : n ≤ x.f
  ·rw [decide_eq_true hn] at HNO
   have HGG : Hid (l.take k ++ ([] ++ l.drop (k + 1)) = G) := by have := HGH.out; unfold endS at this; rw [if_pos hn] at this; exact this.symm
   clear HGH hn
   go_wp2_with fail
   refine (HNO.out _).mono ?_
   rintro e w3 ⟨rfl, hB⟩
   have K3 := HK2.out.below hB
   clear HK2 HNO hB K1
   by_cases hck : c = k1
   ·have hl1 : l.length = k1 := by omega
    subst hck
    rw [hl1] at *
    have HAC : Hid (∀ W g1 T0, EnSl W (some ⟨b, off, none⟩) l → g1 = W.heap.size → Calls Tryz.prog 233 #[.slice (some ⟨g1, 0, none⟩) 3 3] (W.alloc (.cells #[.slice (some ⟨b, off, none⟩) k c, .slice none 0 0, .slice (some ⟨b, off, none⟩) 0 0] T0)).drew fun e w' => ∃ v, e = .returned v ∧ w'.ownsRow W.heap.size 165 4 v G.length (ens G) ∧ Below W.heap.size W w') := fun W g1 T0 hs e1 => by
     have h := econcatR (some ⟨b, off, none⟩) none (some ⟨b, off, none⟩) (l.take k) [] (l.drop (k + 1)) c 0 0 k 0 0 W g1 T0 (by rw [List.length_take]; omega) rfl (by have := HK1.out; rw [List.length_drop]; omega) (hs.take k) (EnSl.nil _ _) (by have := HK1.out; rw [List.drop_of_length_le (by omega)]; exact EnSl.nil _ _) (fun h => by cases h) (fun _ => rfl) (fun h => by cases h) e1 (by have := HK1.out; rw [List.length_take, List.length_drop]; simp; omega)
     rw [HGG.out] at h
     exact h
    clear HGG HSB
    go_wp2_with fail
    go_region_held3 (fun W => True)
     (first | exact trivial)
     (first | (go_at_call 233; refine (HAC.out _ _ _ K3.row rfl).mono ?_; rintro e w9 ⟨v, rfl, ho9, hb9⟩; have HO9 := Lib.hid ho9; have HB9 := Lib.hid hb9; clear ho9 hb9))
    go_wp2
    go_ret2
    exact Or.inr ⟨by trivial, v, rfl, own_low HO9.out K3.frame.size, K3.frame.trans (HB9.out.mono K3.frame.size)⟩
   ·have hck2 : k1 < c := by omega
    have HAC : Hid (∀ W g1 T0, EnSl W (some ⟨b, off, none⟩) l → g1 = W.heap.size → Calls Tryz.prog 233 #[.slice (some ⟨g1, 0, none⟩) 3 3] (W.alloc (.cells #[.slice (some ⟨b, off, none⟩) k c, .slice none 0 0, .slice (some ⟨b, off + k1 * 4, none⟩) (l.length - k1) (c - k1)] T0)).drew fun e w' => ∃ v, e = .returned v ∧ w'.ownsRow W.heap.size 165 4 v G.length (ens G) ∧ Below W.heap.size W w') := fun W g1 T0 hs e1 => by
     have h := econcatR (some ⟨b, off, none⟩) none (some ⟨b, off + k1 * 4, none⟩) (l.take k) [] (l.drop (k + 1)) c 0 (c - k1) k 0 (l.length - k1) W g1 T0 (by rw [List.length_take]; omega) rfl (by have := HK1.out; rw [List.length_drop]; omega) (hs.take k) (EnSl.nil _ _) (by rw [HK1.out]; exact hs.drop (k + 1)) (fun h => by cases h) (fun _ => rfl) (fun h => by cases h) e1 (by have := HK1.out; rw [List.length_take, List.length_drop]; simp; omega)
     rw [HGG.out] at h
     exact h
    clear HGG HSB
    go_wp2_with fail
    go_region_held3 (fun W => True)
     (first | exact trivial)
     (first | (go_at_call 233; refine (HAC.out _ _ _ K3.row rfl).mono ?_; rintro e w9 ⟨v, rfl, ho9, hb9⟩; have HO9 := Lib.hid ho9; have HB9 := Lib.hid hb9; clear ho9 hb9))
    go_wp2
    go_ret2
    exact Or.inr ⟨by trivial, v, rfl, own_low HO9.out K3.frame.size, K3.frame.trans (HB9.out.mono K3.frame.size)⟩
  ·rw [decide_eq_false hn] at HNO
   have HGG : Hid (l.take k ++ ([⟨x.w, x.u, x.f, n⟩] ++ l.drop (k + 1)) = G) := by have := HGH.out; unfold endS at this; rw [if_neg hn] at this; exact this.symm
   clear HGH hn
   go_wp2_with fail
   refine (HNO.out _).mono ?_
   rintro e w3 ⟨rfl, hB⟩
   have K3 := HK2.out.below hB
   obtain ⟨d0, d1, d2, d3⟩ := HSB.out _ K3
   have HE3 : Hid ((w3.alloc (.cells #[.string x.w, .string x.u, .int .i64 x.f, .int .i64 n] 165)).ownsRow w3.heap.size 165 4 (.slice none 0 0) 0 []) := ⟨rfl, .inl ⟨rfl, rfl⟩⟩
   have HB3 := Lib.hid (ebelow_one w3 (.cells #[.string x.w, .string x.u, .int .i64 x.f, .int .i64 n] 165))
   have HS3 := Lib.hid HB3.out.size
   clear HK2 HNO hB K1
   go_wp2_with (at_builtin; refine wpList_append_own _ rfl (.tmp 27) (.tmp 29) 36 rfl w3.heap.size 165 i0 _ 4 48 Tryz.underlying36 hi hz0 hz1' hz2' rfl (by decide) _ _ _ rfl HE3.out ⟨w3.heap.size, 0, none⟩ 1 1 [.string x.w, .string x.u, .int .i64 x.f, .int .i64 n] rfl rfl (news_at _ _ _ _ rfl) (four_e _ _ _ _) (by unfold maxLen; omega) (by omega) HS3.out ?_; intro v1 w4 ho1 hgrow hiff)
   have hb4 := app_below HB3.out HS3.out HE3.out hgrow
   have ho4 : w4.ownsRow w3.heap.size 165 4 v1 [(⟨x.w, x.u, x.f, n⟩ : EnM)].length (ens [(⟨x.w, x.u, x.f, n⟩ : EnM)]) := ho1
   obtain ⟨xa, xc, hv, -, -, hsl, hnl⟩ := own_en ho4
   have hv2 : v1 = .slice xa 1 xc := hv
   subst hv2
   have K4 := K3.below hb4
   have HY := Lib.hid hsl
   have HYN := Lib.hid hnl
   clear hv ho4 ho1 hgrow hiff hb4 HE3 HB3 HS3 d0 d1 d2 d3 hsl hnl K3
   by_cases hck : c = k1
   ·have hl1 : l.length = k1 := by omega
    subst hck
    rw [hl1] at *
    have HAC : Hid (∀ W g1 T0, EnSl W (some ⟨b, off, none⟩) l → EnSl W xa [⟨x.w, x.u, x.f, n⟩] → g1 = W.heap.size → Calls Tryz.prog 233 #[.slice (some ⟨g1, 0, none⟩) 3 3] (W.alloc (.cells #[.slice (some ⟨b, off, none⟩) k c, .slice xa 1 xc, .slice (some ⟨b, off, none⟩) 0 0] T0)).drew fun e w' => ∃ v, e = .returned v ∧ w'.ownsRow W.heap.size 165 4 v G.length (ens G) ∧ Below W.heap.size W w') := fun W g1 T0 hs hs2 e1 => by
     have h := econcatR (some ⟨b, off, none⟩) xa (some ⟨b, off, none⟩) (l.take k) [⟨x.w, x.u, x.f, n⟩] (l.drop (k + 1)) c xc 0 k 1 0 W g1 T0 (by rw [List.length_take]; omega) rfl (by have := HK1.out; rw [List.length_drop]; omega) (hs.take k) hs2 (by have := HK1.out; rw [List.drop_of_length_le (by omega)]; exact EnSl.nil _ _) (fun h => by cases h) HYN.out (fun h => by cases h) e1 (by have := HK1.out; rw [List.length_take, List.length_drop]; simp; omega)
     rw [HGG.out] at h
     exact h
    clear HGG HSB
    go_wp2_with fail
    go_region_held3 (fun W => True)
     (first | exact trivial)
     (first | (go_at_call 233; refine (HAC.out _ _ _ K4.row HY.out rfl).mono ?_; rintro e w9 ⟨v, rfl, ho9, hb9⟩; have HO9 := Lib.hid ho9; have HB9 := Lib.hid hb9; clear ho9 hb9))
    go_wp2
    go_ret2
    exact Or.inr ⟨by trivial, v, rfl, own_low HO9.out K4.frame.size, K4.frame.trans (HB9.out.mono K4.frame.size)⟩
   ·have hck2 : k1 < c := by omega
    have HAC : Hid (∀ W g1 T0, EnSl W (some ⟨b, off, none⟩) l → EnSl W xa [⟨x.w, x.u, x.f, n⟩] → g1 = W.heap.size → Calls Tryz.prog 233 #[.slice (some ⟨g1, 0, none⟩) 3 3] (W.alloc (.cells #[.slice (some ⟨b, off, none⟩) k c, .slice xa 1 xc, .slice (some ⟨b, off + k1 * 4, none⟩) (l.length - k1) (c - k1)] T0)).drew fun e w' => ∃ v, e = .returned v ∧ w'.ownsRow W.heap.size 165 4 v G.length (ens G) ∧ Below W.heap.size W w') := fun W g1 T0 hs hs2 e1 => by
     have h := econcatR (some ⟨b, off, none⟩) xa (some ⟨b, off + k1 * 4, none⟩) (l.take k) [⟨x.w, x.u, x.f, n⟩] (l.drop (k + 1)) c xc (c - k1) k 1 (l.length - k1) W g1 T0 (by rw [List.length_take]; omega) rfl (by have := HK1.out; rw [List.length_drop]; omega) (hs.take k) hs2 (by rw [HK1.out]; exact hs.drop (k + 1)) (fun h => by cases h) HYN.out (fun h => by cases h) e1 (by have := HK1.out; rw [List.length_take, List.length_drop]; simp; omega)
     rw [HGG.out] at h
     exact h
    clear HGG HSB
    go_wp2_with fail
    go_region_held3 (fun W => True)
     (first | exact trivial)
     (first | (go_at_call 233; refine (HAC.out _ _ _ K4.row HY.out rfl).mono ?_; rintro e w9 ⟨v, rfl, ho9, hb9⟩; have HO9 := Lib.hid ho9; have HB9 := Lib.hid hb9; clear ho9 hb9))
    go_wp2
    go_ret2
    exact Or.inr ⟨by trivial, v, rfl, own_low HO9.out K4.frame.size, K4.frame.trans (HB9.out.mono K4.frame.size)⟩
 ·rw [decide_eq_false hk] at hany
  rw [hany]
  have hix : idxI (infE p u) l = -1 := by
   obtain rfl : k = l.length := Nat.le_antisymm HF.le (by omega)
   exact idx_miss HF
  rw [hix] at HIF
  clear HREV HF hix hany hk
  go_enter Tryz.func197, Tryz.ntmps197
  go_wp2_with fail
  refine (HIF.out _ HPC.out.row).mono ?_
  rintro e w1 ⟨rfl, hB⟩
  have K1 := Lib.hid (HPC.out.below hB)
  go_wp2
  go_ret2
  exact Or.inl ⟨by trivial, rfl, K1.out.frame⟩
end Go.Proofs.YtapacckmgmdnoaaGreat
namespace Go.Proofs.YtapacckmgmdnoaaGreat
open Go.RowKit
set_option linter.unusedVariables false
set_option maxRecDepth 100000
set_option maxRecDepth 100000
theorem e_without (a : Option Addr) (c : Nat) (l : List EnM) (s : ByteArray) (W : World) (h : EnSl W a l) (hl : l.length ≤ 1000) : Calls Tryz.prog 238 #[.slice a l.length c, .string s] W fun e w' => ∃ x q, e = .returned (.slice x (l.filter (wiE s)).length q) ∧ (l.filter (wiE s)).length ≤ q ∧ q ≤ maxLen ∧ (x = none → q = 0) ∧ EnSl w' x (l.filter (wiE s)) ∧ Below W.heap.size W w' := by
 refine (without_any a c l s W h (by omega)).mono ?_
 rintro e w' ⟨v, rfl, ho, hb⟩
 obtain ⟨x, q, rfl, h1, h2, h3, h4⟩ := own_en ho
 exact ⟨x, q, rfl, h1, h2, h4, h3, hb⟩
theorem e_grant (a : Option Addr) (c : Nat) (l : List EnM) (p u : ByteArray) (n : Int) (W : World) (h : EnSl W a l) (hn : a = none → c = 0) (hl : l.length ≤ 500) (hc : l.length ≤ c) (hcm : c ≤ maxLen) (hi : l.any (infE p u) = false) : Calls Tryz.prog 196 #[.slice a l.length c, .agg #[.string p, .string u], .int .i64 n] W fun e w' => ∃ x q, e = .returned (.tuple #[.slice x (grantS l (mkE p u n)).length q, .int .i64 0]) ∧ (grantS l (mkE p u n)).length ≤ q ∧ q ≤ maxLen ∧ (x = none → q = 0) ∧ EnSl w' x (grantS l (mkE p u n)) ∧ Below W.heap.size W w' := by
 refine Calls.mono (P := Tryz.prog) (grant_any a c l p u n W h hn hl hc hcm) ?_
 rintro e w' (⟨k, _, _⟩ | ⟨_, v, rfl, ho, hb⟩)
 ·rw [hi] at k; cases k
 ·obtain ⟨x, q, rfl, h1, h2, h3, h4⟩ := own_en ho
  exact ⟨x, q, rfl, h1, h2, h4, h3, hb⟩
theorem e_grant_no (a : Option Addr) (c : Nat) (l : List EnM) (p u : ByteArray) (n : Int) (W : World) (h : EnSl W a l) (hn : a = none → c = 0) (hl : l.length ≤ 500) (hc : l.length ≤ c) (hcm : c ≤ maxLen) (hi : l.any (infE p u) = true) : Calls Tryz.prog 196 #[.slice a l.length c, .agg #[.string p, .string u], .int .i64 n] W fun e w' => e = .returned (.tuple #[.slice none 0 0, .int .i64 90]) ∧ Below W.heap.size W w' := by
 refine Calls.mono (P := Tryz.prog) (grant_any a c l p u n W h hn hl hc hcm) ?_
 rintro e w' (⟨_, rfl, hb⟩ | ⟨k, _⟩)
 ·exact ⟨rfl, hb⟩
 ·rw [hi] at k; cases k
theorem e_revoke (a : Option Addr) (c : Nat) (l : List EnM) (p u : ByteArray) (n : Int) (W : World) (h : EnSl W a l) (hl : l.length ≤ 500) (hc : l.length ≤ c) (hcm : c ≤ maxLen) (hi : l.any (infE p u) = true) : Calls Tryz.prog 197 #[.slice a l.length c, .agg #[.string p, .string u], .int .i64 n] W fun e w' => ∃ x q, e = .returned (.tuple #[.slice x (revokeS l p u n).length q, .int .i64 0]) ∧ (revokeS l p u n).length ≤ q ∧ q ≤ maxLen ∧ (x = none → q = 0) ∧ EnSl w' x (revokeS l p u n) ∧ Below W.heap.size W w' := by
 refine Calls.mono (P := Tryz.prog) (revoke_any a c l p u n W h hl hc hcm) ?_
 rintro e w' (⟨k, _, _⟩ | ⟨_, v, rfl, ho, hb⟩)
 ·rw [hi] at k; cases k
 ·obtain ⟨x, q, rfl, h1, h2, h3, h4⟩ := own_en ho
  exact ⟨x, q, rfl, h1, h2, h4, h3, hb⟩
theorem e_revoke_no (a : Option Addr) (c : Nat) (l : List EnM) (p u : ByteArray) (n : Int) (W : World) (h : EnSl W a l) (hl : l.length ≤ 500) (hc : l.length ≤ c) (hcm : c ≤ maxLen) (hi : l.any (infE p u) = false) : Calls Tryz.prog 197 #[.slice a l.length c, .agg #[.string p, .string u], .int .i64 n] W fun e w' => e = .returned (.tuple #[.slice none 0 0, .int .i64 91]) ∧ Below W.heap.size W w' := by
 refine Calls.mono (P := Tryz.prog) (revoke_any a c l p u n W h hl hc hcm) ?_
 rintro e w' (⟨_, rfl, hb⟩ | ⟨k, _⟩)
 ·exact ⟨rfl, hb⟩
 ·rw [hi] at k; cases k
end Go.Proofs.YtapacckmgmdnoaaGreat
namespace Go.Proofs.YtapacckmgmdnoaaGreat
open Go.RowKit Go.Proofs
set_option linter.unusedVariables false
set_option maxRecDepth 100000
set_option maxRecDepth 100000
deriving instance DecidableEq for TbM
deriving instance DecidableEq for UsM
def sameS (s t : SaM) : Bool := decide (s.now = t.now) && decide (s.hor = t.hor) && decide (s.op = t.op) && decide (s.us = t.us) && decide (s.su = t.su) && decide (s.tb = t.tb)
theorem sameS_iff (s t : SaM) : sameS s t = true ↔ s = t := by
 unfold sameS
 obtain ⟨a, b, c, d, e, f⟩ := s
 obtain ⟨a', b', c', d', e', f'⟩ := t
 simp [and_assoc]
set_option maxHeartbeats 4000000 in
theorem teq_any (a b : Option Addr) (ca cb : Nat) (l m : List TbM) (w : World) (ha : TbSl w a l) (hb : TbSl w b m) (hla : l.length ≤ maxLen) (hlb : m.length ≤ maxLen) :
  Calls Tryz.prog 87 #[.slice a l.length ca, .slice b m.length cb] w fun e w' => e = .returned (.bool (decide (l = m))) ∧ Below w.heap.size w w' := by
 have HA := Lib.hid ha
 have HB := Lib.hid hb
 clear ha hb
 unfold maxLen at hla hlb
 by_cases hll : l.length = m.length
 ·obtain ⟨n, hn⟩ : ∃ n, n = m.length := ⟨_, rfl⟩
  have HL : Hid (l.length = n) := hll.trans hn.symm
  have HM : Hid (m.length = n) := hn.symm
  rw [HL.out, HM.out]
  rw [HM.out] at hlb
  clear hll hn hla
  go_enter Tryz.func87, Tryz.ntmps87
  go_wp2
  go_loopw [13] (fun i wr => ∃ (j : Nat), j ≤ n ∧ i = .int .i64 j ∧ Hid (l.take j = m.take j) ∧ Hid (Drew w wr)) (fun i _ => n - (intOf i).toNat)
  case atStart => exact ⟨0, by omega, rfl, (by unfold Hid; rfl), Drew.refl _⟩
  case round =>
   obtain ⟨j, hj, rfl, HT, HD⟩ := hrel
   by_cases hjn : j < n
   ·have hjl : j < l.length := by have := HL.out; omega
    have hjm : j < m.length := by have := HM.out; omega
    obtain ⟨b1, o1, rfl, hb1, hc0, hc1⟩ := (HA.out.below (HD.out.below _)).get hjl
    obtain ⟨b2, o2, rfl, hb2, hd0, hd1⟩ := (HB.out.below (HD.out.below _)).get hjm
    have HN := Lib.hid (take_same hjl hjm HT.out)
    have HNE : Hid (l[j] ≠ m[j] → l ≠ m) := fun h e => h (by subst e; rfl)
    generalize l[j] = x at *
    generalize m[j] = y at *
    clear hjl hjm
    obtain ⟨t1, f1⟩ := x
    obtain ⟨t2, f2⟩ := y
    dsimp only at *
    by_cases h1 : t1 = t2
    ·subst h1
     have he1 := txt_eq t1
     by_cases h0 : f1 = f2
     ·subst h0
      have he0 : (f1 == f1) = true := beq_self_eq_true _
      have HN2 := Lib.hid (HN.out rfl)
      clear HN HNE
      go_wp2
      go_quiet (fail)
      go_wp2
      go_roundw
      case rel => exact ⟨j + 1, by omega, by go_num, HN2, HD.out.trans ⟨_, rfl⟩⟩
      case measure => simp [intOf]; omega
     ·have HF : Hid (decide (l = m) = false) := decide_eq_false (HNE.out (fun e => h0 (congrArg TbM.a e)))
      have heq : (f1 == f2) = false := beq_eq_false_iff_ne.2 h0
      clear HN HNE
      go_wp2
      go_quiet (fail)
      go_wp2
      go_ret
      exact ⟨by rw [HF.out]; rfl, (HD.out.trans ⟨_, rfl⟩).below _⟩
    ·have HF : Hid (decide (l = m) = false) := decide_eq_false (HNE.out (fun e => h1 (congrArg TbM.u e)))
     have heq := txt_ne h1
     clear HN HNE
     go_wp2
     go_quiet (fail)
     go_wp2
     go_ret
     exact ⟨by rw [HF.out]; rfl, (HD.out.trans ⟨_, rfl⟩).below _⟩
   ·obtain rfl : j = n := by omega
    have HE : Hid (decide (l = m) = true) := decide_eq_true (by
     have := HT.out
     rwa [List.take_of_length_le (Nat.le_of_eq HL.out), List.take_of_length_le (Nat.le_of_eq HM.out)] at this)
    go_wp2
    go_ret
    exact ⟨by rw [HE.out]; rfl, HD.out.below _⟩
 ·have HE : Hid (decide (l = m) = false) := decide_eq_false (fun e => hll (by rw [e]))
  have hne : ((l.length : Int) == (m.length : Int)) = false := beq_eq_false_iff_ne.2 (by omega)
  go_enter Tryz.func87, Tryz.ntmps87
  go_wp2
  go_ret
  exact ⟨by rw [HE.out]; rfl, Below.refl _ _⟩
theorem c_same (x y : UsL) (W : World) (hx : UsAt W x) (hy : UsAt W y) (hl : x.l.length ≤ 1000) (hm : y.l.length ≤ 1000) :
  Calls Tryz.prog 85 #[.agg #[.string x.u, .slice x.a x.l.length x.c], .agg #[.string y.u, .slice y.a y.l.length y.c]] W fun r w' => r = .returned (.bool (decide (x.m = y.m))) ∧ Below W.heap.size W w' := by
 have hb := below_two W (.cells #[.string x.u, .slice x.a x.l.length x.c] 108) (.cells #[.string y.u, .slice y.a y.l.length y.c] 108)
 have HS := Lib.hid (ssame_any x.a y.a x.c y.c x.l y.l _ (hx.st.below hb) (hy.st.below hb) (by unfold maxLen; omega) (by unfold maxLen; omega))
 have HB := Lib.hid hb
 have hd : decide (x.m = y.m) = (decide (x.u = y.u) && decide (x.l = y.l)) := by
  unfold UsL.m
  rw [Bool.eq_iff_iff]
  simp
 rw [hd]
 by_cases h1 : x.u = y.u
 ·have he1 := txt_eq x.u
  have hd2 : decide (x.u = y.u) = true := decide_eq_true h1
  rw [hd2, Bool.true_and]
  rw [← h1] at HS HB ⊢
  clear hd hd2 hx hy hl hm hb h1
  generalize decide (x.l = y.l) = r at *
  go_enter Tryz.func85, Tryz.ntmps85
  go_wp2_with fail
  refine HS.out.mono ?_
  rintro e w1 ⟨rfl, h2⟩
  have HF := Lib.hid (HB.out.trans (h2.mono HB.out.size))
  go_wp2
  go_ret
  exact ⟨rfl, HF.out⟩
 ·have heq := txt_ne h1
  have hd2 : decide (x.u = y.u) = false := decide_eq_false h1
  rw [hd2, Bool.false_and]
  clear hd hd2 hx hy hl hm hb h1 HS
  go_enter Tryz.func85, Tryz.ntmps85
  go_wp2
  go_ret
  exact ⟨rfl, HB.out⟩
set_option maxHeartbeats 4000000 in
theorem ueq_any (a b : Option Addr) (ca cb : Nat) (l m : List UsL) (w : World) (ha : UsSl w a l) (hb : UsSl w b m) (hla : l.length ≤ 1000) (hlb : m.length ≤ 1000) (hsl : ∀ y ∈ l, y.l.length ≤ 1000) (hsm : ∀ y ∈ m, y.l.length ≤ 1000) :
  Calls Tryz.prog 84 #[.slice a l.length ca, .slice b m.length cb, .func (.func 85) #[] #[]] w fun e w' => e = .returned (.bool (decide (umS l = umS m))) ∧ Below w.heap.size w w' := by
 have HA := Lib.hid ha
 have HB := Lib.hid hb
 clear ha hb
 by_cases hll : l.length = m.length
 ·obtain ⟨n, hn⟩ : ∃ n, n = m.length := ⟨_, rfl⟩
  have HL : Hid (l.length = n) := hll.trans hn.symm
  have HM : Hid (m.length = n) := hn.symm
  rw [HL.out, HM.out]
  rw [HM.out] at hlb
  clear hll hn hla
  go_enter Tryz.func84, Tryz.ntmps84
  go_wp2
  go_loopw [17] (fun i wr => ∃ (j : Nat), j ≤ n ∧ i = .int .i64 j ∧ Hid ((umS l).take j = (umS m).take j) ∧ Hid (Below w.heap.size w wr)) (fun i _ => n - (intOf i).toNat)
  case atStart => exact ⟨0, by omega, rfl, (by unfold Hid; rfl), Below.refl _ _⟩
  case round =>
   obtain ⟨j, hj, rfl, HT, HD⟩ := hrel
   by_cases hjn : j < n
   ·have hjl : j < l.length := by have := HL.out; omega
    have hjm : j < m.length := by have := HM.out; omega
    obtain ⟨b1, o1, rfl, hb1, hc0, hc1, hu1⟩ := (HA.out.below HD.out).get hjl
    obtain ⟨b2, o2, rfl, hb2, hd0, hd1, hu2⟩ := (HB.out.below HD.out).get hjm
    have HN : Hid ((l[j]).m = (m[j]).m → (umS l).take (j + 1) = (umS m).take (j + 1)) := fun e => by
     have h1 : j < (umS l).length := by rw [umS_len]; exact hjl
     have h2 : j < (umS m).length := by rw [umS_len]; exact hjm
     exact take_same h1 h2 HT.out (by simpa [umS] using e)
    have HNE : Hid ((l[j]).m ≠ (m[j]).m → umS l ≠ umS m) := fun h e => h (by
     have h1 : j < (umS l).length := by rw [umS_len]; exact hjl
     have h2 : j < (umS m).length := by rw [umS_len]; exact hjm
     have h3 : (umS l)[j] = (umS m)[j] := by simp only [e]
     simpa [umS] using h3)
    have hbb := below_two wr (.cells #[.string (l[j]).u, .slice (l[j]).a (l[j]).l.length (l[j]).c] 108) (.cells #[.string (m[j]).u, .slice (m[j]).a (m[j]).l.length (m[j]).c] 108)
    have HC := Lib.hid (c_same l[j] m[j] _ (hu1.below hbb) (hu2.below hbb) (hsl _ (List.getElem_mem hjl)) (hsm _ (List.getElem_mem hjm)))
    have HD2 := Lib.hid (HD.out.trans (hbb.mono HD.out.size))
    clear hu1 hu2 hbb
    generalize l[j] = x at *
    generalize m[j] = y at *
    clear hjl hjm HD HA HB
    by_cases he : x.m = y.m
    ·rw [decide_eq_true he] at HC
     have HN2 := Lib.hid (HN.out he)
     clear HN HNE he
     go_wp2_with fail
     refine HC.out.mono ?_
     rintro e w1 ⟨rfl, h1⟩
     have HD3 := Lib.hid (HD2.out.trans (h1.mono HD2.out.size))
     clear h1 HD2 HC
     go_wp2
     go_roundw
     case rel => exact ⟨j + 1, by omega, by go_num, HN2, HD3⟩
     case measure => simp [intOf]; omega
    ·rw [decide_eq_false he] at HC
     have HF : Hid (decide (umS l = umS m) = false) := decide_eq_false (HNE.out he)
     clear HN HNE he
     go_wp2_with fail
     refine HC.out.mono ?_
     rintro e w1 ⟨rfl, h1⟩
     have HD3 := Lib.hid (HD2.out.trans (h1.mono HD2.out.size))
     clear h1 HD2 HC
     go_wp2
     go_ret
     exact ⟨by rw [HF.out]; rfl, HD3.out⟩
   ·obtain rfl : j = n := by omega
    have HE : Hid (decide (umS l = umS m) = true) := decide_eq_true (by
     have := HT.out
     rwa [List.take_of_length_le (by rw [umS_len]; exact Nat.le_of_eq HL.out), List.take_of_length_le (by rw [umS_len]; exact Nat.le_of_eq HM.out)] at this)
    go_wp2
    go_ret
    exact ⟨by rw [HE.out]; rfl, HD.out⟩
 ·have HE : Hid (decide (umS l = umS m) = false) := decide_eq_false (fun e => hll (by have := congrArg List.length e; rwa [umS_len, umS_len] at this))
  have hne : ((l.length : Int) == (m.length : Int)) = false := beq_eq_false_iff_ne.2 (by omega)
  go_enter Tryz.func84, Tryz.ntmps84
  go_wp2
  go_ret
  exact ⟨by rw [HE.out]; rfl, Below.refl _ _⟩
structure TK (w : World) (g p : Nat) (x : SaL) (y : TbM) (W : World) : Prop where
 s : SB w g 27 x W
 t : W.heap[p]? = some (.cells #[.string y.u, .int .i64 y.a] 137 (0, 0))
end Go.Proofs.YtapacckmgmdnoaaGreat
