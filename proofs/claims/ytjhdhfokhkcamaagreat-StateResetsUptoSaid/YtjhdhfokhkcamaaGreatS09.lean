/- Texts of mine, one behind the other, of each what is wanted. -/
import Derived.Test.YtjhdhfokhkcamaaGreatS00
import Derived.Test.YtjhdhfokhkcamaaGreatShelf
import Derived.Test.YtjhdhfokhkcamaaGreatS01
import Derived.Test.YtjhdhfokhkcamaaGreatS02
import Derived.Test.YtjhdhfokhkcamaaGreatS03
import Derived.Test.YtjhdhfokhkcamaaGreatS04
import Derived.Test.YtjhdhfokhkcamaaGreatS06
import Derived.Test.YtjhdhfokhkcamaaGreatS07
namespace Go.Proofs.YtjhdhfokhkcamaaGreat
set_option linter.unusedVariables false
set_option maxRecDepth 100000
theorem cmpS_irr (a : ByteArray) : ¬ cmpS a a < 0 := by rw [cmpS_self]; decide
theorem cmpS_asym {a b : ByteArray} (h : cmpS a b < 0) : ¬ cmpS b a < 0 := by rw [cmpS_neg]; omega
theorem cmpS_ne {a b : ByteArray} (h : cmpS a b < 0) : a ≠ b := fun e => by rw [e] at h; exact cmpS_irr _ h
theorem cmpS_tri (a b : ByteArray) : cmpS a b < 0 ∨ a = b ∨ cmpS b a < 0 := by
 rcases Int.lt_trichotomy (cmpS a b) 0 with h | h | h
 ·exact .inl h
 ·exact .inr (.inl (cmpS_eq.1 h))
 ·exact .inr (.inr (by rw [cmpS_neg]; omega))
def RiseK {α : Type} (key : α → ByteArray) (l : List α) : Prop := l.Pairwise (fun a b => cmpS (key a) (key b) < 0)
theorem riseK_ext {α : Type} {key : α → ByteArray} : ∀ {l m : List α}, RiseK key l → RiseK key m → (∀ x, x ∈ l ↔ x ∈ m) → l = m
 | [], [], _, _, _ => rfl
 | [], b :: m, _, _, h => absurd ((h b).2 (List.mem_cons_self ..)) (by simp)
 | a :: l, [], _, _, h => absurd ((h a).1 (List.mem_cons_self ..)) (by simp)
 | a :: l, b :: m, hl, hm, h => by
  obtain ⟨hl1, hl2⟩ := List.pairwise_cons.1 hl
  obtain ⟨hm1, hm2⟩ := List.pairwise_cons.1 hm
  have hab : a = b := by
   rcases List.mem_cons.1 ((h a).1 (List.mem_cons_self ..)) with h1 | h1
   ·exact h1
   ·rcases List.mem_cons.1 ((h b).2 (List.mem_cons_self ..)) with h2 | h2
    ·exact h2.symm
    ·exact absurd (hl1 _ h2) (cmpS_asym (hm1 _ h1))
  subst hab
  have ht : l = m := riseK_ext hl2 hm2 fun x => by
   constructor
   ·intro hx
    rcases List.mem_cons.1 ((h x).1 (List.mem_cons_of_mem _ hx)) with h1 | h1
    ·subst h1; exact absurd (hl1 _ hx) (cmpS_irr _)
    ·exact h1
   ·intro hx
    rcases List.mem_cons.1 ((h x).2 (List.mem_cons_of_mem _ hx)) with h1 | h1
    ·subst h1; exact absurd (hm1 _ hx) (cmpS_irr _)
    ·exact h1
  rw [ht]
theorem riseK_one {α : Type} {key : α → ByteArray} {l : List α} (h : RiseK key l) {x y : α} (hx : x ∈ l) (hy : y ∈ l) (e : key x = key y) : x = y := by
 obtain ⟨i, hi, rfl⟩ := List.getElem_of_mem hx
 obtain ⟨j, hj, rfl⟩ := List.getElem_of_mem hy
 rcases Nat.lt_trichotomy i j with h1 | h1 | h1
 ·exact absurd e (cmpS_ne (List.pairwise_iff_getElem.1 h i j hi hj h1))
 ·subst h1; rfl
 ·exact absurd e.symm (cmpS_ne (List.pairwise_iff_getElem.1 h j i hj hi h1))
theorem riseK_at {α : Type} {key : α → ByteArray} {l : List α} : RiseK key l ↔ ∀ k (h : k < l.length), 0 < k → cmpS (key (l[k - 1]'(by omega))) (key l[k]) < 0 := by
 constructor
 ·intro h k hk h0
  exact List.pairwise_iff_getElem.1 h (k - 1) k (by omega) hk (by omega)
 ·intro h
  unfold RiseK
  rw [List.pairwise_iff_getElem]
  intro i j hi hj hij
  induction j with
  | zero => omega
  | succ j ih =>
   have h1 := h (j + 1) hj (by omega)
   rcases Nat.lt_or_ge i j with h2 | h2
   ·exact cmpS_trans (ih (by omega) h2) h1
   ·obtain rfl : i = j := by omega
    exact h1
def isKy {α : Type} (key : α → ByteArray) (u : ByteArray) (x : α) : Bool := decide (key x = u)
def belK {α : Type} (key : α → ByteArray) (u : ByteArray) (x : α) : Bool := decide (cmpS (key x) u < 0)
def abvK {α : Type} (key : α → ByteArray) (u : ByteArray) (x : α) : Bool := decide (cmpS u (key x) < 0)
def insK {α : Type} (key : α → ByteArray) (u : ByteArray) (m l : List α) : List α := l.filter (belK key u) ++ (m ++ l.filter (abvK key u))
theorem belK_iff {α : Type} {key : α → ByteArray} {u : ByteArray} {x : α} : belK key u x = true ↔ cmpS (key x) u < 0 := decide_eq_true_iff
theorem abvK_iff {α : Type} {key : α → ByteArray} {u : ByteArray} {x : α} : abvK key u x = true ↔ cmpS u (key x) < 0 := decide_eq_true_iff
theorem isKy_iff {α : Type} {key : α → ByteArray} {u : ByteArray} {x : α} : isKy key u x = true ↔ key x = u := decide_eq_true_iff
theorem insK_mem {α : Type} {key : α → ByteArray} {u : ByteArray} {m l : List α} {x : α} : x ∈ insK key u m l ↔ x ∈ m ∨ (x ∈ l ∧ key x ≠ u) := by
 unfold insK
 rw [List.mem_append, List.mem_append, List.mem_filter, List.mem_filter, belK_iff, abvK_iff]
 constructor
 ·rintro (⟨h1, h2⟩ | h1 | ⟨h1, h2⟩)
  ·exact .inr ⟨h1, cmpS_ne h2⟩
  ·exact .inl h1
  ·exact .inr ⟨h1, fun e => cmpS_ne h2 e.symm⟩
 ·rintro (h1 | ⟨h1, h2⟩)
  ·exact .inr (.inl h1)
  ·rcases cmpS_tri (key x) u with h3 | h3 | h3
   ·exact .inl ⟨h1, h3⟩
   ·exact absurd h3 h2
   ·exact .inr (.inr ⟨h1, h3⟩)
theorem insK_rise {α : Type} {key : α → ByteArray} {u : ByteArray} {m l : List α} (h : RiseK key l) (hm : ∀ x ∈ m, key x = u) (h1 : m.length ≤ 1) : RiseK key (insK key u m l) := by
 unfold insK RiseK
 rw [List.pairwise_append, List.pairwise_append]
 refine ⟨List.Pairwise.filter _ h, ⟨?_, List.Pairwise.filter _ h, fun x hx y hy => ?_⟩, fun x hx y hy => ?_⟩
 ·rcases m with _ | ⟨a, _ | ⟨b, m⟩⟩
  ·exact .nil
  ·exact List.pairwise_singleton _ _
  ·simp at h1
 ·rw [hm x hx]; exact abvK_iff.1 (List.mem_filter.1 hy).2
 ·have hx1 := belK_iff.1 (List.mem_filter.1 hx).2
  rcases List.mem_append.1 hy with h2 | h2
  ·rw [hm y h2]; exact hx1
  ·exact cmpS_trans hx1 (abvK_iff.1 (List.mem_filter.1 h2).2)
theorem insK_len {α : Type} {key : α → ByteArray} {u : ByteArray} {m l : List α} : (insK key u m l).length ≤ l.length + m.length := by
 have h : ∀ l : List α, (l.filter (belK key u)).length + (l.filter (abvK key u)).length ≤ l.length := by
  intro l
  induction l with
  | nil => simp
  | cons a l ih =>
   rw [List.filter_cons, List.filter_cons]
   by_cases h1 : belK key u a = true
   ·have h2 : ¬ abvK key u a = true := fun h2 => cmpS_asym (belK_iff.1 h1) (abvK_iff.1 h2)
    rw [if_pos h1, if_neg h2, List.length_cons, List.length_cons]; omega
   ·rw [if_neg h1]
    split <;> (simp only [List.length_cons]; omega)
 have := h l
 unfold insK
 rw [List.length_append, List.length_append]
 omega
theorem find_key {α : Type} {key : α → ByteArray} {l : List α} (h : RiseK key l) {u : ByteArray} {x : α} : l.find? (isKy key u) = some x ↔ x ∈ l ∧ key x = u := by
 constructor
 ·intro h1
  exact ⟨List.mem_of_find?_eq_some h1, isKy_iff.1 (List.find?_some h1)⟩
 ·rintro ⟨h1, h2⟩
  cases hf : l.find? (isKy key u) with
  | none => exact absurd (isKy_iff.2 h2) (List.find?_eq_none.1 hf x h1)
  | some y =>
   have h3 := List.mem_of_find?_eq_some hf
   have h4 := isKy_iff.1 (List.find?_some hf)
   rw [riseK_one h h3 h1 (h4.trans h2.symm)]
structure UsM where
 u : ByteArray
 l : List StM
structure TbM where
 u : ByteArray
 a : Int
structure SaM where
 now : Int
 hor : Int
 op : List OpM
 us : List UsM
 su : List EnM
 tb : List TbM
def saZ : SaM := ⟨0, 0, [], [], [], []⟩
instance : Inhabited UsM := ⟨⟨⟨#[]⟩, []⟩⟩
instance : Inhabited TbM := ⟨⟨⟨#[]⟩, 0⟩⟩
instance : Inhabited SaM := ⟨saZ⟩
def ofU (l : List UsM) (u : ByteArray) : List StM := match l.find? (isKy UsM.u u) with
 | none => []
 | some x => x.l
def rowU (u : ByteArray) (r : List StM) : List UsM := if r.isEmpty then [] else [⟨u, r⟩]
def putU (l : List UsM) (u : ByteArray) (r : List StM) : List UsM := insK UsM.u u (rowU u r) l
def addU (l : List UsM) (u : ByteArray) (x : StM) : List UsM := if x.f < x.t then putU l u (addS (ofU l u) x) else l
def tombU (l : List TbM) (u : ByteArray) (a : Int) : List TbM := insK TbM.u u [⟨u, a⟩] l
theorem rowU_u {u : ByteArray} {r : List StM} : ∀ x ∈ rowU u r, x.u = u := fun x hx => by
 unfold rowU at hx
 split at hx
 ·cases hx
 ·rw [List.mem_singleton.1 hx]
theorem rowU_len {u : ByteArray} {r : List StM} : (rowU u r).length ≤ 1 := by
 unfold rowU
 split <;> simp
theorem rowU_mem {u : ByteArray} {r : List StM} {x : UsM} : x ∈ rowU u r ↔ x = ⟨u, r⟩ ∧ r ≠ [] := by
 unfold rowU
 cases r with
 | nil => simp
 | cons a r => simp
theorem putU_rise {l : List UsM} {u : ByteArray} {r : List StM} (h : RiseK UsM.u l) : RiseK UsM.u (putU l u r) := insK_rise h rowU_u rowU_len
theorem putU_mem {l : List UsM} {u : ByteArray} {r : List StM} {x : UsM} : x ∈ putU l u r ↔ (x = ⟨u, r⟩ ∧ r ≠ []) ∨ (x ∈ l ∧ x.u ≠ u) := by
 unfold putU
 rw [insK_mem, rowU_mem]
theorem ofU_mem {l : List UsM} (h : RiseK UsM.u l) {x : UsM} (hx : x ∈ l) : ofU l x.u = x.l := by
 unfold ofU
 rw [(find_key h).2 ⟨hx, rfl⟩]
theorem ofU_cases (l : List UsM) (u : ByteArray) : ofU l u = [] ∨ ⟨u, ofU l u⟩ ∈ l := by
 unfold ofU
 cases hf : l.find? (isKy UsM.u u) with
 | none => exact .inl rfl
 | some x =>
  have h1 := List.mem_of_find?_eq_some hf
  have h2 := isKy_iff.1 (List.find?_some hf)
  refine .inr ?_
  obtain ⟨xu, xl⟩ := x
  simp only at h2
  subst h2
  exact h1
theorem addU_rise {l : List UsM} {u : ByteArray} {x : StM} (h : RiseK UsM.u l) : RiseK UsM.u (addU l u x) := by
 unfold addU
 split
 ·exact putU_rise h
 ·exact h
theorem tombU_rise {l : List TbM} {u : ByteArray} {a : Int} (h : RiseK TbM.u l) : RiseK TbM.u (tombU l u a) :=
 insK_rise h (fun x hx => by rw [List.mem_singleton.1 hx]) (by simp)
theorem tombU_mem {l : List TbM} {u : ByteArray} {a : Int} {x : TbM} : x ∈ tombU l u a ↔ x = ⟨u, a⟩ ∨ (x ∈ l ∧ x.u ≠ u) := by
 unfold tombU
 rw [insK_mem, List.mem_singleton]
def OkSt (now : Int) (op : List OpM) (x : StM) : Prop := 0 ≤ x.f ∧ x.t ≤ now ∧ 1 ≤ x.n ∧ x.n ≤ 999 ∧ 1 ≤ x.s ∧ x.s ≤ 4 ∧ ∀ o ∈ op, o.n = x.n → x.t ≤ o.f
def OkU (now : Int) (op : List OpM) (x : UsM) : Prop := nameB x.u = true ∧ x.l ≠ [] ∧ RiseS x.l ∧ ∀ s ∈ x.l, OkSt now op s
def OkT (now : Int) (x : TbM) : Prop := nameB x.u = true ∧ 0 ≤ x.a ∧ x.a ≤ now
structure RightS (s : SaM) : Prop where
 now : 0 ≤ s.now ∧ s.now < 1099511627776
 hor : 0 ≤ s.hor ∧ s.hor < 1099511627776
 op : RiseO s.op
 frm : ∀ e ∈ s.op, e.f ≤ s.now
 us : ∀ x ∈ s.us, OkU s.now s.op x
 ur : RiseK UsM.u s.us
 su : GoE s.su s.now
 tb : ∀ x ∈ s.tb, OkT s.now x
 tr : RiseK TbM.u s.tb
theorem RightS.zero : RightS saZ :=
 ⟨⟨Int.le_refl _, by decide⟩, ⟨Int.le_refl _, by decide⟩, ⟨by decide, fun k h => absurd h (by simp [saZ])⟩, fun e h => (by cases h), fun e h => (by cases h), .nil, .nil, fun e h => (by cases h), .nil⟩
theorem addS_mem {l : List StM} {x y : StM} : y ∈ addS l x ↔ (y = x ∧ x.f < x.t) ∨ y ∈ l := by
 unfold addS
 split
 ·exact ⟨fun h => .inr h, fun h => h.elim (fun h => by omega) id⟩
 ·rw [(putS_perm l x).mem_iff, List.mem_cons]
  exact ⟨fun h => h.imp (fun h => ⟨h, by omega⟩) id, fun h => h.imp And.left id⟩
theorem addS_some {l : List StM} {x : StM} (h : x.f < x.t) : addS l x ≠ [] := by
 unfold addS
 rw [if_neg (by omega)]
 intro h1
 have := putS_len l x
 rw [h1] at this
 simp at this
theorem riseS_nil : RiseS [] := fun k h => absurd h (by simp)
theorem ofU_okst {now : Int} {op : List OpM} {us : List UsM} {u : ByteArray} (h : ∀ x ∈ us, OkU now op x) : RiseS (ofU us u) ∧ ∀ y ∈ ofU us u, OkSt now op y := by
 rcases ofU_cases us u with h1 | h1
 ·rw [h1]; exact ⟨riseS_nil, fun y hy => by cases hy⟩
 ·have h2 := h _ h1
  exact ⟨h2.2.2.1, h2.2.2.2⟩
theorem addU_ok {now : Int} {op : List OpM} {us : List UsM} {u : ByteArray} {x : StM} (h : ∀ x ∈ us, OkU now op x) (hu : nameB u = true) (hx : x.f < x.t → OkSt now op x) (hn : x.f < x.t → x ∉ ofU us u) : ∀ y ∈ addU us u x, OkU now op y := by
 unfold addU
 split
 ·rename_i h1
  intro y hy
  rcases putU_mem.1 hy with ⟨rfl, h2⟩ | ⟨h2, _⟩
  ·obtain ⟨h3, h4⟩ := ofU_okst (u := u) h
   refine ⟨hu, h2, (addS_rise h3).2 (hn h1), fun z hz => ?_⟩
   rcases addS_mem.1 hz with ⟨rfl, _⟩ | h5
   ·exact hx h1
   ·exact h4 z h5
  ·exact h y h2
 ·exact h
theorem OkSt.mono {a b : Int} {op op' : List OpM} {x : StM} (h : OkSt a op x) (hab : a ≤ b) (ho : ∀ o ∈ op', o.n = x.n → x.t ≤ o.f) : OkSt b op' x := by
 obtain ⟨h1, h2, h3, h4, h5, h6, h7⟩ := h
 exact ⟨h1, by omega, h3, h4, h5, h6, ho⟩
theorem OkU.mono {a b : Int} {op op' : List OpM} {x : UsM} (h : OkU a op x) (hab : a ≤ b) (ho : ∀ y, OkSt a op y → ∀ o ∈ op', o.n = y.n → y.t ≤ o.f) : OkU b op' x :=
 ⟨h.1, h.2.1, h.2.2.1, fun s hs => (h.2.2.2 s hs).mono hab (ho s (h.2.2.2 s hs))⟩
theorem pw_mid {l : List OpM} (h : l.Pairwise fun a b => a.n < b.n) {k : Nat} (hk : k < l.length) : (∀ y ∈ l.take k, y.n < l[k].n) ∧ (∀ y ∈ l.drop (k + 1), l[k].n < y.n) := by
 rw [List.pairwise_iff_getElem] at h
 constructor
 ·intro y hy
  obtain ⟨j, hj, hjk, rfl⟩ := mem_take_get hy
  exact h j k hj hk hjk
 ·intro y hy
  obtain ⟨j, hj, hjk, rfl⟩ := mem_drop_get hy
  exact h k j hk hj (by omega)
theorem mem_chg {l : List OpM} (h : l.Pairwise fun a b => a.n < b.n) {k : Nat} (hk : k < l.length) {s f : Int} {y : OpM} (hy : y ∈ chgAt l k s f) : y = ⟨l[k].n, l[k].u, s, f⟩ ∨ (y ∈ l ∧ y.n ≠ l[k].n) := by
 obtain ⟨h1, h2⟩ := pw_mid h hk
 rw [chgAt_at hk] at hy
 rcases List.mem_append.1 hy with h3 | h3
 ·have := h1 y h3
  exact .inr ⟨List.mem_of_mem_take h3, by omega⟩
 ·rcases List.mem_cons.1 h3 with h3 | h3
  ·exact .inl h3
  ·have := h2 y h3
   exact .inr ⟨List.mem_of_mem_drop h3, by omega⟩
theorem mem_cut {l : List OpM} (h : l.Pairwise fun a b => a.n < b.n) {k : Nat} (hk : k < l.length) {y : OpM} (hy : y ∈ cutAt l k) : y ∈ l ∧ y.n ≠ l[k].n := by
 obtain ⟨h1, h2⟩ := pw_mid h hk
 unfold cutAt at hy
 rcases List.mem_append.1 hy with h3 | h3
 ·have := h1 y h3
  exact ⟨List.mem_of_mem_take h3, by omega⟩
 ·have := h2 y h3
  exact ⟨List.mem_of_mem_drop h3, by omega⟩
theorem chg_n {l : List OpM} {k : Nat} (hk : k < l.length) (s f : Int) : (chgAt l k s f).map OpM.n = l.map OpM.n := by
 have h : l = l.take k ++ l[k] :: l.drop (k + 1) := by rw [← List.drop_eq_getElem_cons hk, List.take_append_drop]
 rw [chgAt_at hk]
 conv => rhs; rw [h]
 rw [List.map_append, List.map_append, List.map_cons, List.map_cons]
theorem pw_n {l : List OpM} : (l.Pairwise fun a b => a.n < b.n) ↔ (l.map OpM.n).Pairwise (· < ·) := by
 rw [List.pairwise_map]
theorem chg_rise {l : List OpM} (h : RiseO l) {k : Nat} (hk : k < l.length) {s f : Int} (hs : 1 ≤ s ∧ s ≤ 4) (hf : 0 ≤ f ∧ f ≤ 1099511627775) : RiseO (chgAt l k s f) := by
 obtain ⟨h0, h1, h2⟩ := riseO_iff.1 h
 rw [riseO_iff, chgAt_len, pw_n, chg_n hk, ← pw_n]
 refine ⟨h0, fun e he => ?_, h2⟩
 rcases mem_chg h2 hk he with rfl | ⟨h3, _⟩
 ·obtain ⟨k1, k2, k3, _⟩ := h1 _ (List.getElem_mem hk)
  exact ⟨k1, k2, k3, hs.1, hs.2, hf.1, hf.2⟩
 ·exact h1 e h3
theorem cut_rise {l : List OpM} (h : RiseO l) {k : Nat} : RiseO (cutAt l k) := by
 obtain ⟨h0, h1, h2⟩ := riseO_iff.1 h
 have hsub : (cutAt l k).Sublist l := by
  unfold cutAt
  have h3 : (l.take k ++ l.drop (k + 1)).Sublist (l.take k ++ l.drop k) := by
   refine List.Sublist.append_left ?_ _
   rw [← List.drop_drop]
   exact List.drop_sublist _ _
  rwa [List.take_append_drop] at h3
 rw [riseO_iff]
 exact ⟨Nat.le_trans (cutAt_len l k) h0, fun e he => h1 e (hsub.subset he), h2.sublist hsub⟩
theorem rise_filterO {l : List OpM} (h : RiseO l) (p : OpM → Bool) : RiseO (l.filter p) := by
 obtain ⟨h0, h1, h2⟩ := riseO_iff.1 h
 rw [riseO_iff]
 exact ⟨Nat.le_trans (List.length_filter_le _ _) h0, fun e he => h1 e (List.mem_filter.1 he).1, h2.filter _⟩
def RightV (k a n st : Int) (u o : ByteArray) : Prop :=
 0 ≤ a ∧ a < 1099511627776 ∧ (((k = 1 ∨ k = 2) ∧ 1 ≤ n ∧ n ≤ 999 ∧ nameB u = true ∧ o = ⟨#[]⟩ ∧ 1 ≤ st ∧ st ≤ 4)
  ∨ (k = 3 ∧ 1 ≤ n ∧ n ≤ 999 ∧ nameB u = true ∧ o = ⟨#[]⟩ ∧ st = 0)
  ∨ ((k = 4 ∨ k = 5) ∧ nameB u = true ∧ nameB o = true ∧ n = 0 ∧ st = 0)
  ∨ (k = 6 ∧ u = ⟨#[]⟩ ∧ o = ⟨#[]⟩ ∧ st = 0 ∧ 0 ≤ n ∧ n < 1099511627776)
  ∨ (k = 7 ∧ nameB u = true ∧ o = ⟨#[]⟩ ∧ n = 0 ∧ st = 0))
instance rightVDec (k a n st : Int) (u o : ByteArray) : Decidable (RightV k a n st u o) := by unfold RightV; infer_instance
def errK (s : SaM) (k a n st : Int) (u o : ByteArray) : Int :=
 if k = 1 then openC s.op ⟨n, u, st, a⟩ else if k = 2 ∨ k = 3 then findC s.op n u
 else if k = 4 then (if s.su.any (infE u o) = true then 90 else 0) else if k = 5 then (if s.su.any (infE u o) = true then 0 else 91) else 0
def errS (s : SaM) (k a n st : Int) (u o : ByteArray) : Int := if RightV k a n st u o then (if a < s.now then 111 else errK s k a n st u o) else 110
def goS (s : SaM) (k a n st : Int) (u o : ByteArray) : SaM :=
 if k = 1 then { s with now := a, op := openR s.op ⟨n, u, st, a⟩ }
 else if k = 2 then { s with now := a, op := chgR s.op n u st a, us := addU s.us u (fndS s.op n u a) }
 else if k = 3 then { s with now := a, op := cloR s.op n u, us := addU s.us u (fndS s.op n u a) }
 else if k = 4 then { s with now := a, su := grantS s.su (mkE u o a) }
 else if k = 5 then { s with now := a, su := revokeS s.su u o a }
 else if k = 6 then { s with now := a, hor := max s.hor n }
 else { s with now := a, op := s.op.filter (notU u), su := withoutS s.su u, us := putU s.us u [], tb := tombU s.tb u a }
def tellS (s : SaM) (k a n st : Int) (u o : ByteArray) : SaM := if errS s k a n st u o = 0 then goS s k a n st u o else saZ
theorem errS_ok {s : SaM} {k a n st : Int} {u o : ByteArray} (h : errS s k a n st u o = 0) : RightV k a n st u o ∧ s.now ≤ a ∧ errK s k a n st u o = 0 := by
 unfold errS at h
 split at h
 ·rename_i h1
  split at h
  ·exact absurd h (by decide)
  ·exact ⟨h1, by omega, h⟩
 ·exact absurd h (by decide)
theorem GoE.mono {m : List EnM} {a b : Int} (h : GoE m a) (hab : a ≤ b) : GoE m b :=
 ⟨h.rise, fun e he => by obtain ⟨h1, h2, h3⟩ := h.bnd e he; exact ⟨h1, by omega, h3.imp id (by omega)⟩⟩
theorem GoE.filter {m : List EnM} {a : Int} (h : GoE m a) (p : EnM → Bool) : GoE (m.filter p) a :=
 ⟨rise_filter h.rise p, fun e he => h.bnd e (List.mem_filter.1 he).1⟩
theorem OkT.mono {a b : Int} {x : TbM} (h : OkT a x) (hab : a ≤ b) : OkT b x := by
 obtain ⟨h1, h2, h3⟩ := h
 exact ⟨h1, h2, by omega⟩
theorem right_open {s : SaM} (h : RightS s) {a n st : Int} {u : ByteArray} (hn : 1 ≤ n ∧ n ≤ 999) (hs : 1 ≤ st ∧ st ≤ 4) (ha : s.now ≤ a) (hb : a < 1099511627776) (hu : nameB u = true) (hc : openC s.op ⟨n, u, st, a⟩ = 0) :
  RightS { s with now := a, op := openR s.op ⟨n, u, st, a⟩ } := by
 have h0 := h.now
 have hnew : ∀ y ∈ openR s.op ⟨n, u, st, a⟩, y = ⟨n, u, st, a⟩ ∨ y ∈ s.op := fun y hy => by
  unfold openR at hy
  rw [if_pos hc] at hy
  unfold openS at hy
  rcases List.mem_append.1 hy with h1 | h1
  ·exact .inr (List.mem_of_mem_take h1)
  ·rcases List.mem_cons.1 h1 with h1 | h1
   ·exact .inl h1
   ·exact .inr (List.mem_of_mem_drop h1)
 refine ⟨⟨by simp only; omega, hb⟩, h.hor, open_rise hc h.op ?_, fun e he => ?_, fun x hx => (h.us x hx).mono ha fun y hy z hz hzn => ?_, h.ur, h.su.mono ha, fun x hx => (h.tb x hx).mono ha, h.tr⟩
 ·rw [riseO_iff]
  refine ⟨by simp, fun e he => ?_, List.pairwise_singleton _ _⟩
  rw [List.mem_singleton.1 he]
  exact ⟨hu, hn.1, hn.2, hs.1, hs.2, by simp only; omega, by simp only; omega⟩
 ·rcases hnew e he with rfl | h1
  ·exact Int.le_refl _
  ·exact Int.le_trans (h.frm e h1) ha
 ·rcases hnew z hz with rfl | h1
  ·exact Int.le_trans hy.2.1 ha
  ·exact hy.2.2.2.2.2.2 z h1 hzn
theorem right_stay {s : SaM} (h : RightS s) {a st : Int} {k : Nat} (hk : k < s.op.length) (ha : s.now ≤ a) {op' : List OpM} (hop : ∀ y ∈ op', y.n = s.op[k].n → a ≤ y.f) (hb : a < 1099511627776)
  (hkeep : ∀ y ∈ op', y.n ≠ s.op[k].n → y ∈ s.op) (hu : nameB s.op[k].u = true) : ∀ y ∈ addU s.us s.op[k].u (stayO s.op[k] a), OkU a op' y := by
 obtain ⟨h1, h2, h3⟩ := riseO_iff.1 h.op
 obtain ⟨k1, k2, k3, k4, k5, k6, k7⟩ := h2 _ (List.getElem_mem hk)
 have hold : ∀ x ∈ s.us, OkU a op' x := fun x hx => (h.us x hx).mono ha fun y hy z hz hzn => by
  by_cases hzk : z.n = s.op[k].n
  ·exact Int.le_trans (Int.le_trans hy.2.1 ha) (hop z hz hzk)
  ·exact hy.2.2.2.2.2.2 z (hkeep z hz hzk) hzn
 refine addU_ok hold hu (fun hlt => ?_) (fun hlt hm => ?_)
 ·exact ⟨k6, Int.le_refl _, k2, k3, k4, k5, fun o ho hon => hop o ho hon⟩
 ·have h4 := (ofU_okst (u := s.op[k].u) h.us).2 _ hm
  have h5 := h4.2.2.2.2.2.2 _ (List.getElem_mem hk) rfl
  have h6 : s.op[k].f < a := hlt
  have h7 : a ≤ s.op[k].f := h5
  omega
theorem right_change {s : SaM} (h : RightS s) {a n st : Int} {u : ByteArray} (hs : 1 ≤ st ∧ st ≤ 4) (ha : s.now ≤ a) (hb : a < 1099511627776) (hc : findC s.op n u = 0) :
  RightS { s with now := a, op := chgR s.op n u st a, us := addU s.us u (fndS s.op n u a) } := by
 have h0 := h.now
 rcases fc_three s.op n u with ⟨_, k, hk, hf, h1, h2, h3, h4⟩ | ⟨h1 | h1, _⟩
 ·obtain ⟨_, h6, h7⟩ := riseO_iff.1 h.op
  have hcr : chgR s.op n u st a = chgAt s.op k st a := by unfold chgR; rw [if_pos hc, h4]
  have hst : fndS s.op n u a = stayO s.op[k] a := by unfold fndS; rw [if_pos hc, h3]
  have hmem : ∀ y ∈ chgAt s.op k st a, y = ⟨s.op[k].n, s.op[k].u, st, a⟩ ∨ (y ∈ s.op ∧ y.n ≠ s.op[k].n) := fun y hy => mem_chg h7 hk hy
  rw [hcr, hst, ← h2]
  refine ⟨⟨by simp only; omega, hb⟩, h.hor, chg_rise h.op hk hs ⟨by omega, by omega⟩, fun e he => ?_, right_stay (st := st) h hk ha (fun y hy hyn => ?_) hb (fun y hy hyn => ?_) (h6 _ (List.getElem_mem hk)).1, addU_rise h.ur, h.su.mono ha, fun x hx => (h.tb x hx).mono ha, h.tr⟩
  ·rcases hmem e he with rfl | ⟨h8, _⟩
   ·exact Int.le_refl _
   ·exact Int.le_trans (h.frm e h8) ha
  ·rcases hmem y hy with rfl | ⟨_, h8⟩
   ·exact Int.le_refl _
   ·exact absurd hyn h8
  ·rcases hmem y hy with rfl | ⟨h8, _⟩
   ·exact absurd rfl hyn
   ·exact h8
 ·rw [hc] at h1; exact absurd h1 (by decide)
 ·rw [hc] at h1; exact absurd h1 (by decide)
theorem right_close {s : SaM} (h : RightS s) {a n : Int} {u : ByteArray} (ha : s.now ≤ a) (hb : a < 1099511627776) (hc : findC s.op n u = 0) :
  RightS { s with now := a, op := cloR s.op n u, us := addU s.us u (fndS s.op n u a) } := by
 have h0 := h.now
 rcases fc_three s.op n u with ⟨_, k, hk, hf, h1, h2, h3, h4⟩ | ⟨h1 | h1, _⟩
 ·obtain ⟨_, h6, h7⟩ := riseO_iff.1 h.op
  have hcr : cloR s.op n u = cutAt s.op k := by unfold cloR; rw [if_pos hc, h4]
  have hst : fndS s.op n u a = stayO s.op[k] a := by unfold fndS; rw [if_pos hc, h3]
  have hmem : ∀ y ∈ cutAt s.op k, y ∈ s.op ∧ y.n ≠ s.op[k].n := fun y hy => mem_cut h7 hk hy
  rw [hcr, hst, ← h2]
  exact ⟨⟨by simp only; omega, hb⟩, h.hor, cut_rise h.op, fun e he => Int.le_trans (h.frm e (hmem e he).1) ha, right_stay (st := 1) h hk ha (fun y hy hyn => absurd hyn (hmem y hy).2) hb (fun y hy hyn => (hmem y hy).1) (h6 _ (List.getElem_mem hk)).1, addU_rise h.ur, h.su.mono ha, fun x hx => (h.tb x hx).mono ha, h.tr⟩
 ·rw [hc] at h1; exact absurd h1 (by decide)
 ·rw [hc] at h1; exact absurd h1 (by decide)
theorem right_erase {s : SaM} (h : RightS s) {a : Int} {u : ByteArray} (ha : s.now ≤ a) (hb : a < 1099511627776) (hu : nameB u = true) :
  RightS { s with now := a, op := s.op.filter (notU u), su := withoutS s.su u, us := putU s.us u [], tb := tombU s.tb u a } := by
 have h0 := h.now
 refine ⟨⟨by simp only; omega, hb⟩, h.hor, rise_filterO h.op _, fun e he => Int.le_trans (h.frm e (List.mem_filter.1 he).1) ha, fun x hx => ?_, putU_rise h.ur, (h.su.mono ha).filter _, fun x hx => ?_, tombU_rise h.tr⟩
 ·rcases putU_mem.1 hx with ⟨_, h1⟩ | ⟨h1, _⟩
  ·exact absurd rfl h1
  ·exact (h.us x h1).mono ha fun y hy z hz hzn => hy.2.2.2.2.2.2 z (List.mem_filter.1 hz).1 hzn
 ·rcases tombU_mem.1 hx with rfl | ⟨h1, _⟩
  ·exact ⟨hu, by simp only; omega, Int.le_refl _⟩
  ·exact (h.tb x h1).mono ha
theorem right_go {s : SaM} (h : RightS s) {k a n st : Int} {u o : ByteArray} (he : errS s k a n st u o = 0) : RightS (goS s k a n st u o) := by
 obtain ⟨hv, ha, hk⟩ := errS_ok he
 have h0 := h.now
 obtain ⟨ha0, hb, hv⟩ := hv
 have hold : ∀ x ∈ s.us, OkU a s.op x := fun x hx => (h.us x hx).mono ha fun y hy z hz hzn => hy.2.2.2.2.2.2 z hz hzn
 unfold errK at hk
 unfold goS
 rcases hv with ⟨h1 | h1, h2, h3, h4, _, h5, h6⟩ | ⟨h1, h2, h3, h4, _, _⟩ | ⟨h1 | h1, h2, h3, _, _⟩ | ⟨h1, _, _, _, h2, h3⟩ | ⟨h1, h2, _, _, _⟩
 ·subst h1
  exact right_open h ⟨h2, h3⟩ ⟨h5, h6⟩ ha hb h4 hk
 ·subst h1
  exact right_change h ⟨h5, h6⟩ ha hb hk
 ·subst h1
  exact right_close h ha hb hk
 ·subst h1
  have hi : s.su.any (infE u o) = false := by
   rw [if_neg (by decide), if_neg (by decide), if_pos rfl] at hk
   split at hk
   ·exact absurd hk (by decide)
   ·rename_i h4; exact Bool.eq_false_iff.2 h4
  exact ⟨⟨ha0, hb⟩, h.hor, h.op, fun e he => Int.le_trans (h.frm e he) ha, hold, h.ur, (h.su.grant h0.1 ha hb h2 h3 hi).1, fun x hx => (h.tb x hx).mono ha, h.tr⟩
 ·subst h1
  have hi : s.su.any (infE u o) = true := by
   rw [if_neg (by decide), if_neg (by decide), if_neg (by decide), if_pos rfl] at hk
   split at hk
   ·rename_i h4; exact h4
   ·exact absurd hk (by decide)
  exact ⟨⟨ha0, hb⟩, h.hor, h.op, fun e he => Int.le_trans (h.frm e he) ha, hold, h.ur, (h.su.revoke h0.1 ha hb hi).1, fun x hx => (h.tb x hx).mono ha, h.tr⟩
 ·subst h1
  have h4 := h.hor
  exact ⟨⟨ha0, hb⟩, ⟨Int.le_trans h4.1 (Int.le_max_left _ _), Int.max_lt.2 ⟨h4.2, h3⟩⟩, h.op, fun e he => Int.le_trans (h.frm e he) ha, hold, h.ur, h.su.mono ha, fun x hx => (h.tb x hx).mono ha, h.tr⟩
 ·subst h1
  exact right_erase h ha hb h2
end Go.Proofs.YtjhdhfokhkcamaaGreat
namespace Go.Proofs.YtjhdhfokhkcamaaGreat
open Go.RowKit
set_option linter.unusedVariables false
set_option maxRecDepth 100000
def pps (l : List (Value × Value)) : List Value := l.flatMap fun x => [x.1, x.2]
theorem pps_cons (s : Value × Value) (l : List (Value × Value)) : pps (s :: l) = [s.1, s.2] ++ pps l := by simp [pps]
theorem pps_len (l : List (Value × Value)) : (pps l).length = l.length * 2 := by
 induction l with
 | nil => rfl
 | cons e l ih => rw [pps_cons, List.length_append, ih, List.length_cons]; simp only [List.length_cons, List.length_nil]; omega
theorem pps_append (l m : List (Value × Value)) : pps (l ++ m) = pps l ++ pps m := by simp [pps]
theorem pps_snoc (l : List (Value × Value)) (x : Value × Value) : pps (l ++ [x]) = pps l ++ [x.1, x.2] := by simp [pps]
theorem pps_get (l : List (Value × Value)) : ∀ (k : Nat) (h : k < l.length), (pps l)[k * 2]? = some l[k].1 ∧ (pps l)[k * 2 + 1]? = some l[k].2 := by
 induction l with
 | nil => intro k h; exact absurd h (by simp)
 | cons x l ih =>
  intro k h
  rw [pps_cons]
  cases k with
  | zero => exact ⟨rfl, rfl⟩
  | succ k =>
   have := ih k (by simpa using h)
   rw [show (k + 1) * 2 = k * 2 + 1 + 1 by omega]
   simpa using this
def PpSl (w : World) (a : Option Addr) (l : List (Value × Value)) : Prop := ∀ k (h : k < l.length), ∃ b off, a = some ⟨b, off, none⟩ ∧ b < w.heap.size ∧
 w.cell? ⟨b, off + k * 2, none⟩ = some l[k].1 ∧ w.cell? ⟨b, off + k * 2 + 1, none⟩ = some l[k].2
theorem PpSl.nil (w : World) (a : Option Addr) : PpSl w a [] := fun k h => absurd h (by simp)
theorem PpSl.below {w w' : World} {a : Option Addr} {l : List (Value × Value)} (h : PpSl w a l) (hb : Below w.heap.size w w') : PpSl w' a l := fun k hk => by
 obtain ⟨b, off, e, hlt, h0, h1⟩ := h k hk
 exact ⟨b, off, e, Nat.lt_of_lt_of_le hlt hb.size, (hb.cell (p := ⟨b, off + k * 2, none⟩) hlt).trans h0, (hb.cell (p := ⟨b, off + k * 2 + 1, none⟩) hlt).trans h1⟩
theorem PpSl.at_ {w : World} {a : Option Addr} {l : List (Value × Value)} (h : PpSl w a l) {k : Nat} (hk : k < l.length) : ∃ b off, a = some ⟨b, off, none⟩ ∧ b < w.heap.size ∧
  w.cell? ⟨b, off + k * 2, none⟩ = some l[k].1 ∧ w.cell? ⟨b, off + k * 2 + 1, none⟩ = some l[k].2 := h k hk
theorem PpSl.take {w : World} {a : Option Addr} {l : List (Value × Value)} (h : PpSl w a l) (n : Nat) : PpSl w a (l.take n) := fun k hk => by
 have hk2 : k < l.length := by simp at hk; omega
 obtain ⟨b, off, e, hlt, h0, h1⟩ := h k hk2
 rw [List.getElem_take]
 exact ⟨b, off, e, hlt, h0, h1⟩
theorem PpSl.drop {w : World} {b off : Nat} {l : List (Value × Value)} (h : PpSl w (some ⟨b, off, none⟩) l) (n : Nat) : PpSl w (some ⟨b, off + n * 2, none⟩) (l.drop n) := fun k hk => by
 have hk2 : n + k < l.length := by simp at hk; omega
 obtain ⟨b', off', e, hlt, h0, h1⟩ := h (n + k) hk2
 cases e
 rw [List.getElem_drop]
 have e1 : off + n * 2 + k * 2 = off + (n + k) * 2 := by omega
 exact ⟨b, off + n * 2, rfl, hlt, by rw [e1]; exact h0, by rw [e1]; exact h1⟩
theorem PpSl.cells {w : World} {a : Option Addr} {l : List (Value × Value)} (h : PpSl w a l) : ∀ ad, a = some ad → ∀ j u, (pps l)[j]? = some u → w.cell? (ad.add j) = some u := fun ad ha j u hu => by
 have hj : j < l.length * 2 := by rw [← pps_len]; exact (List.getElem?_eq_some_iff.1 hu).1
 have hk : j / 2 < l.length := by omega
 obtain ⟨b, off, e, _, h1, h2⟩ := h (j / 2) hk
 rw [ha] at e
 cases e
 obtain ⟨g1, g2⟩ := pps_get l (j / 2) hk
 have hadd : (⟨b, off, none⟩ : Addr).add j = ⟨b, off + j, none⟩ := by
  unfold Addr.add
  split
  ·rename_i h; subst h; rfl
  ·rfl
 rw [hadd]
 have hd : j = j / 2 * 2 ∨ j = j / 2 * 2 + 1 := by omega
 generalize j / 2 = k at *
 rcases hd with rfl | rfl
 ·rw [g1] at hu
  cases hu
  exact h1
 ·rw [g2] at hu
  cases hu
  exact h2
def OneP (l : List (Value × Value)) : Prop := ∀ x ∈ l, x.1.oneCell' = true ∧ x.2.oneCell' = true
theorem pps_one {l : List (Value × Value)} (h : OneP l) : ∀ u ∈ pps l, u.oneCell' = true := fun u hu => by
 unfold pps at hu
 obtain ⟨y, hy, hu⟩ := List.mem_flatMap.1 hu
 simp only [List.mem_cons, List.mem_nil_iff, or_false] at hu
 rcases hu with rfl | rfl
 ·exact (h y hy).1
 ·exact (h y hy).2
theorem own_pp {w : World} {B e : Nat} {v : Value} {l : List (Value × Value)} (h : w.ownsRow B e 2 v l.length (pps l)) : ∃ a c, v = .slice a l.length c ∧ l.length ≤ c ∧ c ≤ maxLen ∧ PpSl w a l ∧ (a = none → c = 0) := by
 rcases h.2 with ⟨rfl, hn⟩ | ⟨g, cap, cur, rfl, hg, hh, hn, hc, hsz, ht⟩
 ·have : l = [] := List.eq_nil_of_length_eq_zero hn
  subst this
  exact ⟨none, 0, rfl, Nat.le_refl _, by unfold maxLen; omega, PpSl.nil _ _, fun _ => rfl⟩
 ·have hlt : g < w.heap.size := by
   rcases Nat.lt_or_ge g w.heap.size with h1 | h1
   ·exact h1
   ·rw [Array.getElem?_eq_none h1] at hh; cases hh
  refine ⟨_, cap, rfl, hn, hc, fun k hk => ⟨g, 0, rfl, hlt, ?_, ?_⟩, fun e => by cases e⟩
  ·have hg := (pps_get l k hk).1
   rw [← ht, List.getElem?_take, if_pos (by omega), Array.getElem?_toList] at hg
   rw [cell_of_row w g _ cur e (0, 0) hh, Nat.zero_add, hg]
  ·have hg := (pps_get l k hk).2
   rw [← ht, List.getElem?_take, if_pos (by omega), Array.getElem?_toList] at hg
   rw [cell_of_row w g _ cur e (0, 0) hh, Nat.zero_add, hg]
theorem cells_pp (W : World) (l : List (Value × Value)) (xs : Array Value) (t : TypeId) (g : Nat) (hg : g = W.heap.size) (hx : xs.toList = pps l) : PpSl (W.alloc (.cells xs t)) (some ⟨g, 0, none⟩) l := fun k hk => by
 subst hg
 obtain ⟨g1, g2⟩ := pps_get l k hk
 rw [← hx, Array.getElem?_toList] at g1 g2
 refine ⟨W.heap.size, 0, rfl, by rw [size1]; omega, ?_, ?_⟩
 ·rw [cell_of_row _ _ _ xs t (0, 0) (heap_alloc_new W _), Nat.zero_add, g1]
 ·rw [cell_of_row _ _ _ xs t (0, 0) (heap_alloc_new W _), Nat.zero_add, g2]
theorem pcell2 {g : Nat} {a b : Value} {t : TypeId} {W : World} (h : W.heap[g]? = some (.cells #[a, b] t (0, 0))) : W.cell? ⟨g, 0, none⟩ = some a ∧ W.cell? ⟨g, 1, none⟩ = some b :=
 ⟨cell_of_row _ _ _ _ _ _ h, cell_of_row _ _ _ _ _ _ h⟩
theorem wpList_append_pp {P : Program} (w : World) {ops : Array Oper} {rest : List Oper} {o : Oper} {a : Act} {Q : Exit → Act → World → Prop} (hgd : o.guard = none) (s x : Operand) (t : TypeId)
  (ho : o.op = .call { callee := .builtin .append, args := #[s, x], argTypes := #[t, t] })
  (base : Nat) (e : TypeId) (i : TypeInfo) (z : Value) (bb : Nat) (ht : P.underlying t = some (.slice e)) (hi : P.info? e = some i) (hz : i.zero = some z)
  (hsize : i.size = 2) (hby : i.bytes = bb) (hbb : bb ≤ 64) (hzs : z.cells.size = 2)
  (v : Value) (l : List (Value × Value)) (hs : a.eval s = v) (hown : w.ownsRow base e 2 v l.length (pps l))
  (A : Option Addr) (c : Nat) (m : List (Value × Value)) (hx : a.eval x = .slice A m.length c) (hsl : PpSl w A m) (hone : OneP m) (hnil : A = none → c = 0)
  (hlen : l.length + m.length ≤ 1000000) (hbase : base ≤ w.heap.size)
  (h : ∀ v' w', w'.ownsRow base e 2 v' (l ++ m).length (pps (l ++ m)) → Below base w w' → wpList P ops Q rest (a.put o.dst v') w') : wpList P ops Q (o :: rest) a w := by
 rw [List.length_append, pps_append] at h
 cases A with
 | none =>
  have hc := hnil rfl
  subst hc
  have hm0 : m = [] := by
   cases m with
   | nil => rfl
   | cons y m => obtain ⟨_, _, e, _⟩ := hsl 0 (by simp); cases e
  subst hm0
  exact wpList_append_own_none hgd s x t ho base e i 2 ht hi v l.length (pps l) hs hown hx (h v w (by simpa [pps] using hown) (Below.refl _ _))
 | some ad =>
  exact wpList_append_own w hgd s x t ho base e i z 2 bb ht hi hz hsize hby hzs (by decide) v l.length (pps l) hs hown ad m.length c (pps m) hx (pps_len m) (hsl.cells ad rfl) (pps_one hone) (by unfold maxLen; omega)
   (Nat.le_trans (Nat.mul_le_mul hlen hbb) (by decide)) hbase (fun v' w' h2 h3 _ => h v' w' h2 (app_below (Below.refl _ _) hbase hown h3))
structure UsL where
 u : ByteArray
 a : Option Addr
 l : List StM
 c : Nat
def UsL.m (x : UsL) : UsM := ⟨x.u, x.l⟩
def usp (x : UsL) : Value × Value := (.string x.u, .slice x.a x.l.length x.c)
structure UsAt (W : World) (x : UsL) : Prop where
 st : StSl W x.a x.l
 le : x.l.length ≤ x.c
 mx : x.c ≤ maxLen
 nil : x.a = none → x.c = 0
theorem UsAt.below {W W' : World} {x : UsL} (h : UsAt W x) (q : Below W.heap.size W W') : UsAt W' x := ⟨h.st.below q, h.le, h.mx, h.nil⟩
instance : Inhabited UsL := ⟨⟨⟨#[]⟩, none, [], 0⟩⟩
theorem usp_one (l : List UsL) : OneP (l.map usp) := fun x hx => by
 obtain ⟨y, _, rfl⟩ := List.mem_map.1 hx
 exact ⟨rfl, rfl⟩
structure UsSl (W : World) (a : Option Addr) (D : List UsL) : Prop where
 row : PpSl W a (D.map usp)
 at_ : ∀ x ∈ D, UsAt W x
theorem UsSl.below {W W' : World} {a : Option Addr} {D : List UsL} (h : UsSl W a D) (q : Below W.heap.size W W') : UsSl W' a D := ⟨h.row.below q, fun x hx => (h.at_ x hx).below q⟩
theorem UsSl.nil (W : World) (a : Option Addr) : UsSl W a [] := ⟨PpSl.nil _ _, fun x h => by cases h⟩
theorem UsSl.get {W : World} {a : Option Addr} {D : List UsL} (h : UsSl W a D) {k : Nat} (hk : k < D.length) : ∃ b off, a = some ⟨b, off, none⟩ ∧ b < W.heap.size ∧
  W.cell? ⟨b, off + k * 2, none⟩ = some (.string D[k].u) ∧ W.cell? ⟨b, off + k * 2 + 1, none⟩ = some (.slice D[k].a D[k].l.length D[k].c) ∧ UsAt W D[k] := by
 obtain ⟨b, off, e, h1, h2, h3⟩ := h.row.at_ (k := k) (by simpa using hk)
 rw [List.getElem_map] at h2 h3
 exact ⟨b, off, e, h1, h2, h3, h.at_ _ (List.getElem_mem hk)⟩
def usv (D : List UsL) : List Value := pps (D.map usp)
def umS (D : List UsL) : List UsM := D.map UsL.m
theorem umS_len (D : List UsL) : (umS D).length = D.length := List.length_map _
theorem own_us {w : World} {B e : Nat} {v : Value} {D : List UsL} (h : w.ownsRow B e 2 v D.length (usv D)) : ∃ a c, v = .slice a D.length c ∧ D.length ≤ c ∧ c ≤ maxLen ∧ PpSl w a (D.map usp) ∧ (a = none → c = 0) := by
 have h2 := own_pp (l := D.map usp) (by rw [List.length_map]; exact h)
 rw [List.length_map] at h2
 exact h2
def tbp (x : TbM) : Value × Value := (.string x.u, .int .i64 x.a)
theorem tbp_one (l : List TbM) : OneP (l.map tbp) := fun x hx => by
 obtain ⟨y, _, rfl⟩ := List.mem_map.1 hx
 exact ⟨rfl, rfl⟩
def TbSl (W : World) (a : Option Addr) (l : List TbM) : Prop := PpSl W a (l.map tbp)
theorem TbSl.below {W W' : World} {a : Option Addr} {D : List TbM} (h : TbSl W a D) (q : Below W.heap.size W W') : TbSl W' a D := PpSl.below h q
theorem TbSl.nil (W : World) (a : Option Addr) : TbSl W a [] := PpSl.nil _ _
theorem TbSl.get {W : World} {a : Option Addr} {D : List TbM} (h : TbSl W a D) {k : Nat} (hk : k < D.length) : ∃ b off, a = some ⟨b, off, none⟩ ∧ b < W.heap.size ∧
  W.cell? ⟨b, off + k * 2, none⟩ = some (.string D[k].u) ∧ W.cell? ⟨b, off + k * 2 + 1, none⟩ = some (.int .i64 D[k].a) := by
 obtain ⟨b, off, e, h1, h2, h3⟩ := PpSl.at_ h (k := k) (by simpa using hk)
 rw [List.getElem_map] at h2 h3
 exact ⟨b, off, e, h1, h2, h3⟩
def tbv (D : List TbM) : List Value := pps (D.map tbp)
theorem own_tb {w : World} {B e : Nat} {v : Value} {D : List TbM} (h : w.ownsRow B e 2 v D.length (tbv D)) : ∃ a c, v = .slice a D.length c ∧ D.length ≤ c ∧ c ≤ maxLen ∧ TbSl w a D ∧ (a = none → c = 0) := by
 have h2 := own_pp (l := D.map tbp) (by rw [List.length_map]; exact h)
 rw [List.length_map] at h2
 exact h2
structure SaL where
 now : Int
 hor : Int
 oa : Option Addr
 op : List OpM
 oc : Nat
 ua : Option Addr
 us : List UsL
 uc : Nat
 sa : Option Addr
 su : List EnM
 sc : Nat
 ta : Option Addr
 tb : List TbM
 tc : Nat
def SaL.m (x : SaL) : SaM := ⟨x.now, x.hor, x.op, umS x.us, x.su, x.tb⟩
structure Cp (a : Option Addr) (n c : Nat) : Prop where
 le : n ≤ c
 mx : c ≤ maxLen
 nil : a = none → c = 0
theorem Cp.none : Cp none 0 0 := ⟨Nat.le_refl _, by unfold maxLen; omega, fun _ => rfl⟩
structure SaAt (W : World) (x : SaL) : Prop where
 op : OpSl W x.oa x.op
 us : UsSl W x.ua x.us
 su : EnSl W x.sa x.su
 tb : TbSl W x.ta x.tb
 oc : Cp x.oa x.op.length x.oc
 uc : Cp x.ua x.us.length x.uc
 sc : Cp x.sa x.su.length x.sc
 tc : Cp x.ta x.tb.length x.tc
theorem SaAt.below {W W' : World} {x : SaL} (h : SaAt W x) (q : Below W.heap.size W W') : SaAt W' x := ⟨h.op.below q, h.us.below q, h.su.below q, h.tb.below q, h.oc, h.uc, h.sc, h.tc⟩
def saC (x : SaL) : Array Value := #[.int .i64 x.now, .int .i64 x.hor, .slice x.oa x.op.length x.oc, .slice x.ua x.us.length x.uc, .slice x.sa x.su.length x.sc, .slice x.ta x.tb.length x.tc]
def saV (x : SaL) : Value := .agg (saC x)
def saO : SaL := ⟨0, 0, none, [], 0, none, [], 0, none, [], 0, none, [], 0⟩
theorem saO_m : saO.m = saZ := rfl
theorem SaAt.zero (W : World) : SaAt W saO := ⟨OpSl.nil _ _, UsSl.nil _ _, EnSl.nil _ _, TbSl.nil _ _, Cp.none, Cp.none, Cp.none, Cp.none⟩
structure Few (x : SaM) (n : Nat) : Prop where
 op : x.op.length ≤ n
 us : x.us.length ≤ n
 su : x.su.length ≤ n
 tb : x.tb.length ≤ n
 st : ∀ u ∈ x.us, u.l.length ≤ n
structure SzS (x : SaM) : Prop where
 op : ∀ e ∈ x.op, e.u.size ≤ maxLen
 us : ∀ e ∈ x.us, e.u.size ≤ maxLen
 su : ∀ e ∈ x.su, e.w.size ≤ maxLen ∧ e.u.size ≤ maxLen
 tb : ∀ e ∈ x.tb, e.u.size ≤ maxLen
end Go.Proofs.YtjhdhfokhkcamaaGreat
namespace Go.Proofs.YtjhdhfokhkcamaaGreat
open Go.RowKit
set_option linter.unusedVariables false
set_option maxRecDepth 100000
set_option maxRecDepth 100000
set_option maxHeartbeats 1000000 in
theorem stay_any (e : OpM) (t : Int) (w : World) : Calls Tryz.prog 148 #[opV e, .int .i64 t] w fun r w' => r = .returned (stV (stayO e t)) ∧ Below w.heap.size w w' := by
 unfold opV stV stayO
 obtain ⟨n, u, s, f⟩ := e
 dsimp only
 have HL : Hid (∀ o1 : Obj, (loadVar 86 ⟨w.heap.size + 1, 0, none⟩).run Tryz.prog ((w.alloc o1).alloc (.cells #[.int .i64 f, .int .i64 t, .int .i64 n, .int .i64 s] 86)) = .ok (.agg #[.int .i64 f, .int .i64 t, .int .i64 n, .int .i64 s]) ((w.alloc o1).alloc (.cells #[.int .i64 f, .int .i64 t, .int .i64 n, .int .i64 s] 86))) := fun o1 => by
  have := heap_alloc_new (w.alloc o1) (.cells #[.int .i64 f, .int .i64 t, .int .i64 n, .int .i64 s] 86)
  rw [size1] at this
  exact loadSt this
 have HG := Lib.hid (fun o p => below_two w o p)
 go_enter Tryz.func148, Tryz.ntmps148
 go_wp2
 refine bodyPost_ret (v := .agg #[.int .i64 f, .int .i64 t, .int .i64 n, .int .i64 s]) ?_ rfl ?_
 ·rw [results_cell1 rfl]
  simp [asAddr, Result.andThen, HL.out]
 ·exact ⟨rfl, HG.out _ _⟩
end Go.Proofs.YtjhdhfokhkcamaaGreat
namespace Go.Proofs.YtjhdhfokhkcamaaGreat
open Go.RowKit Go.Proofs
set_option linter.unusedVariables false
set_option maxRecDepth 100000
set_option maxRecDepth 100000
theorem egrow_any (n : Nat) (w : World) (hn : n ≤ 1000000) : Calls Tryz.prog 193 #[.slice none 0 0, .int .i64 n] w fun e w' => ∃ v, e = .returned v ∧ w'.ownsRow w.heap.size 123 4 v 0 [] ∧ Below w.heap.size w w' := by
 obtain ⟨i0, hi, hz0, hz1, hz2⟩ := info_parts infoEn
 rcases Nat.eq_zero_or_pos n with h0 | h0
 ·subst h0
  have h := Any8.slices_Grow_room Tryz.laysGrowEn none 0 0 0 w (by omega) (by omega) (by omega) (by omega)
  refine Calls.mono h ?_
  rintro e w' ⟨rfl, rfl⟩
  exact ⟨_, rfl, ⟨rfl, .inl ⟨rfl, rfl⟩⟩, Below.refl _ _⟩
 ·have h := Any8.slices_Grow_grow Tryz.laysGrowEn i0 _ hi hz0 (by rw [hz1]; omega) none 0 0 n [] w (by omega) (by omega) (by rw [hz2]; omega) (by omega) (by simp) (fun _ => rfl) (fun a h => by cases h)
  refine Calls.mono h ?_
  rintro e w' ⟨rfl, rfl⟩
  have hge := grownCap_ge w (0 + n) 0 123
  have hle := grownCap_le_maxLen w (0 + n) 0 123 (by unfold maxLen; omega)
  refine ⟨_, rfl, ⟨rfl, .inr ⟨w.heap.size, _, _, rfl, Nat.le_refl _, heap_alloc_new w.drew _, Nat.zero_le _, hle, ?_, by simp⟩⟩, ?_⟩
  ·simp only [Array.size_append, size_zeroCells]
   show 0 + (0 + n - 0) * 4 + (grownCap w (0 + n) 0 123 - (0 + n)) * 4 = grownCap w (0 + n) 0 123 * 4
   omega
  ·exact (Below.refl w.heap.size w).drew.alloc (Nat.le_refl _) _
structure EnR where
 a : Option Addr
 l : List EnM
 c : Nat
def enrV (r : EnR) : Value := .slice r.a r.l.length r.c
def catE (R : List EnR) : List EnM := R.flatMap (·.l)
theorem catE_take (R : List EnR) (j : Nat) (h : j < R.length) : catE (R.take (j + 1)) = catE (R.take j) ++ R[j].l := by
 unfold catE
 rw [List.take_succ_eq_append_getElem h, List.flatMap_append]
 simp
theorem catE_le (R : List EnR) (j : Nat) : (catE (R.take j)).length ≤ (catE R).length := by
 have : catE R = catE (R.take j) ++ catE (R.drop j) := by
  unfold catE
  rw [← List.flatMap_append, List.take_append_drop]
 rw [this, List.length_append]
 omega
def EnRAt (w : World) (r : EnR) : Prop := EnSl w r.a r.l ∧ (r.a = none → r.c = 0)
theorem erows_at {w : World} {a : Option Addr} {R : List EnR} (h : Sl w a (R.map enrV)) {k : Nat} (hk : k < R.length) : ∃ b off, a = some ⟨b, off, none⟩ ∧ b < w.heap.size ∧ w.cell? ⟨b, off + k, none⟩ = some (enrV R[k]) := by
 obtain ⟨b, off, e, hlt, hc⟩ := h k (by simpa using hk)
 exact ⟨b, off, e, hlt, by rw [hc]; simp⟩
set_option maxHeartbeats 1000000 in
theorem econcat_any (a : Option Addr) (c : Nat) (R : List EnR) (w : World) (hr : Sl w a (R.map enrV)) (hR : ∀ r ∈ R, EnRAt w r) (hl : R.length ≤ 100000) (hs : (catE R).length ≤ 100000) :
  Calls Tryz.prog 167 #[.slice a R.length c] w fun e w' => ∃ v, e = .returned v ∧ w'.ownsRow w.heap.size 123 4 v (catE R).length (ens (catE R)) ∧ Below w.heap.size w w' := by
 obtain ⟨i0, hi, hz0, hz1, hz2⟩ := info_parts infoEn
 have HR := Lib.hid hr
 have HRR := Lib.hid hR
 have HG := Lib.hid (egrow_any (catE R).length w (by omega))
 clear hr hR
 go_enter Tryz.func167, Tryz.ntmps167
 go_wp2
 go_loopw [3, 11] (fun v i wr => ∃ (j s : Nat), j ≤ R.length ∧ i = .int .i64 j ∧ v = .int .i64 s ∧ s ≤ 100000 ∧ Hid (s = (catE (R.take j)).length) ∧ wr = w) (fun _ i _ => R.length - (intOf i).toNat)
 case atStart => exact ⟨0, 0, by omega, rfl, rfl, by omega, rfl, rfl⟩
 case round =>
  obtain ⟨j, s, hj, rfl, rfl, hs1, HS, hw⟩ := hrel
  obtain rfl : w = wr := hw.symm
  clear hw
  by_cases hjl : j < R.length
  ·obtain ⟨b, off, rfl, hbl, hc0⟩ := erows_at HR.out hjl
   have HN := Lib.hid (catE_take R j hjl)
   have hle := catE_le R (j + 1)
   rw [HN.out, List.length_append, ← HS.out] at hle
   generalize R[j] = x at *
   unfold enrV at hc0
   obtain ⟨xa, xl, xc⟩ := x
   simp only at hc0 hle HN
   have hsum : s + xl.length ≤ 100000 := by omega
   clear hle
   go_wp2
   go_roundw
   case rel => exact ⟨j + 1, s + xl.length, by omega, by go_num, by go_num, hsum, (by unfold Hid; rw [HN.out, List.length_append, ← HS.out]), (by first | rfl | trivial)⟩
   case measure => simp [intOf]; omega
  ·obtain rfl : j = R.length := by omega
   rw [List.take_of_length_le (Nat.le_refl _)] at HS
   have HS2 := HS.out
   subst HS2
   go_wp2_with fail
   refine HG.out.mono ?_
   rintro e w1 ⟨v, rfl, ho, hb⟩
   have HO := Lib.hid ho
   have HB := Lib.hid hb
   clear ho hb HG HS
   go_wp2
   go_loopw [6, 27] (fun v i wx => ∃ (j : Nat), j ≤ R.length ∧ i = .int .i64 j ∧ Hid (wx.ownsRow w.heap.size 123 4 v (catE (R.take j)).length (ens (catE (R.take j)))) ∧ Hid (Below w.heap.size w wx)) (fun _ i _ => R.length - (intOf i).toNat)
   case atStart => exact ⟨0, by omega, rfl, HO.out, HB.out⟩
   case round =>
    obtain ⟨j, hj, rfl, HO, HB⟩ := hrel
    by_cases hjl : j < R.length
    ·obtain ⟨b, off, rfl, hbl, hc0⟩ := erows_at (HR.out.below HB.out) hjl
     have HN := Lib.hid (catE_take R j hjl)
     have hle := catE_le R (j + 1)
     have hle2 := catE_le R j
     rw [HN.out, List.length_append] at hle
     have HX := Lib.hid (HRR.out _ (List.getElem_mem hjl))
     generalize R[j] = x at *
     unfold enrV at hc0
     obtain ⟨xa, xl, xc⟩ := x
     simp only at hc0 hle HN
     obtain ⟨hx1, hx2⟩ := HX.out
     simp only at hx1 hx2
     have HX1 := Lib.hid (hx1.below HB.out)
     have HX2 := Lib.hid hx2
     generalize hct : catE (R.take j) = ct at *
     have hsum : ct.length + xl.length ≤ 1000000 := by omega
     clear hle hle2 hx1 hx2 HX hct
     go_wp2_with (at_builtin; refine wpList_append_en _ rfl (.tmp 31) (.tmp 32) 35 rfl w.heap.size 123 i0 _ Tryz.underlying35 hi hz0 hz1 hz2 rfl _ ct rfl HO.out xa xc xl rfl HX1.out HX2.out hsum HB.out.size ?_; intro v2 w2 hown2 hB2)
     have HO2 := Lib.hid hown2
     have HB2 := Lib.hid (HB.out.trans hB2)
     clear hown2 hB2
     go_wp2
     go_roundw
     case rel => exact ⟨j + 1, by omega, by go_num, (by unfold Hid; rw [HN.out]; exact HO2.out), HB2⟩
     case measure => simp [intOf]; omega
    ·obtain rfl : j = R.length := by omega
     rw [List.take_of_length_le (Nat.le_refl _)] at HO
     go_wp2
     go_ret
     exact ⟨_, rfl, HO.out, HB.out⟩
end Go.Proofs.YtjhdhfokhkcamaaGreat
namespace Go.Proofs.YtjhdhfokhkcamaaGreat
open Go.RowKit
set_option linter.unusedVariables false
set_option maxRecDepth 100000
def putStep (s : ByteArray) (p : List ByteArray × Bool) (x : ByteArray) : List ByteArray × Bool :=
 if Lib.compareBytes s.data.toList x.data.toList == 0 then (p.1 ++ [x], true)
 else if decide (Lib.compareBytes s.data.toList x.data.toList < 0) && !p.2 then (p.1 ++ [s] ++ [x], true)
 else (p.1 ++ [x], p.2)
def putTo (l : List ByteArray) (s : ByteArray) (k : Nat) : List ByteArray × Bool := (l.take k).foldl (putStep s) ([], false)
def put (l : List ByteArray) (s : ByteArray) : List ByteArray := if (putTo l s l.length).2 then (putTo l s l.length).1 else (putTo l s l.length).1 ++ [s]
end Go.Proofs.YtjhdhfokhkcamaaGreat
