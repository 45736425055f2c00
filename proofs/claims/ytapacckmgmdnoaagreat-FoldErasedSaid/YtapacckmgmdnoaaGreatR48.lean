/- Texts of mine, one behind the other, of each what is wanted. -/
import Derived.Test.YtapacckmgmdnoaaGreatR00
import Derived.Test.YtapacckmgmdnoaaGreatShelf
import Derived.Test.YtapacckmgmdnoaaGreatRows
import Derived.Test.YtapacckmgmdnoaaGreatR01
import Derived.Test.YtapacckmgmdnoaaGreatR03
import Derived.Test.YtapacckmgmdnoaaGreatR04
import Derived.Test.YtapacckmgmdnoaaGreatR07
import Derived.Test.YtapacckmgmdnoaaGreatR14
import Derived.Test.YtapacckmgmdnoaaGreatR18
import Derived.Test.YtapacckmgmdnoaaGreatR20
import Derived.Test.YtapacckmgmdnoaaGreatR26
import Derived.Test.YtapacckmgmdnoaaGreatR29
import Derived.Test.YtapacckmgmdnoaaGreatR42
namespace Go.Proofs.YtapacckmgmdnoaaGreat
set_option linter.unusedVariables false
set_option maxRecDepth 100000
theorem find_ins_other {α : Type} {key : α → ByteArray} {l m : List α} (h : RiseK key l) {u v : ByteArray} (hm : ∀ x ∈ m, key x = u) (h1 : m.length ≤ 1) (hv : v ≠ u) : (insK key u m l).find? (isKy key v) = l.find? (isKy key v) := by
 have hr := insK_rise h hm h1
 cases hf : l.find? (isKy key v) with
 | none =>
  rw [List.find?_eq_none] at hf ⊢
  intro x hx hk
  rcases insK_mem.1 hx with h2 | h2
  ·exact hv ((isKy_iff.1 hk).symm.trans (hm x h2))
  ·exact hf x h2.1 hk
 | some x =>
  obtain ⟨h2, h3⟩ := (find_key h).1 hf
  exact (find_key hr).2 ⟨insK_mem.2 (.inr ⟨h2, fun e => hv (h3.symm.trans e)⟩), h3⟩
theorem ofU_other {l : List UsM} {u v : ByteArray} {r : List StM} (h : RiseK UsM.u l) (hv : v ≠ u) : ofU (putU l u r) v = ofU l v := by
 unfold ofU putU
 rw [find_ins_other h rowU_u rowU_len hv]
theorem bel_anti {a b : EnM} (ha : a.f < a.t) (hb : b.f < b.t) (h1 : BelE a b) (h2 : BelE b a) : a = b := by
 exfalso
 unfold BelE at h1 h2
 rw [pc_neg a b] at h2
 omega
theorem riseE_only {a b : List EnM} (ha : RiseE a) (hb : RiseE b) (h : a.Perm b) : a = b := by
 obtain ⟨ha1, ha2⟩ := riseE_iff.1 ha
 obtain ⟨hb1, hb2⟩ := riseE_iff.1 hb
 exact h.eq_of_pairwise (fun x y hx hy h1 h2 => bel_anti (ha1 x hx).1 (hb1 y hy).1 h1 h2) ha2 hb2
theorem grant_perm (l : List EnM) (e : EnM) : (grantS l e).Perm (e :: l) := by
 unfold grantS
 refine List.perm_middle.trans ?_
 rw [List.take_append_drop]
theorem revoke_mid {A B : List EnM} {e : EnM} {w u : ByteArray} (hA : ∀ x ∈ A, infE w u x = false) (he : infE w u e = true) (a : Int) : revokeS (A ++ e :: B) w u a = A ++ (endS e a ++ B) := by
 have hF : IsFirst (infE w u) (A ++ e :: B) A.length := by
  refine ⟨by simp, fun i hi hik => ?_, fun hk => ?_⟩
  ·rw [List.getElem_append_left hik]
   exact hA _ (List.getElem_mem hik)
  ·rw [List.getElem_append_right (Nat.le_refl _)]
   simpa using he
 have hk : A.length < (A ++ e :: B).length := by simp
 rw [revoke_at hF, cut_at hk]
 have h1 : (A ++ e :: B)[A.length] = e := by
  rw [List.getElem_append_right (Nat.le_refl _)]
  simp
 rw [h1]
 have h2 : (A ++ e :: B).take A.length = A := List.take_left ..
 have h3 : (A ++ e :: B).drop (A.length + 1) = B := by
  rw [← List.drop_drop, List.drop_left]
  rfl
 rw [h2, h3]
theorem AllT.cons {s : SaM} {e : EvM} {l : List EvM} (h : AllT s (e :: l)) : errE s e = 0 ∧ AllT (goE s e) l := by
 have h1 : errE s e = 0 := h _ (List.mem_cons_self ..)
 refine ⟨h1, fun x hx => h x ?_⟩
 show x ∈ errE s e :: errsE (nxE s e) l
 rw [nxE_ok h1]
 exact List.mem_cons_of_mem _ hx
theorem AllT.mk {s : SaM} {e : EvM} {l : List EvM} (h1 : errE s e = 0) (h : AllT (goE s e) l) : AllT s (e :: l) := fun x hx => by
 have hx' : x ∈ errE s e :: errsE (nxE s e) l := hx
 rw [nxE_ok h1] at hx'
 rcases List.mem_cons.1 hx' with rfl | hx'
 ·exact h1
 ·exact h x hx'
theorem AllT.nil (s : SaM) : AllT s [] := fun x hx => by cases hx
theorem op_ext : ∀ {l m : List OpM}, (l.Pairwise fun a b => a.n < b.n) → (m.Pairwise fun a b => a.n < b.n) → (∀ x, x ∈ l ↔ x ∈ m) → l = m
 | [], [], _, _, _ => rfl
 | [], b :: m, _, _, h => absurd ((h b).2 (List.mem_cons_self ..)) (by simp)
 | a :: l, [], _, _, h => absurd ((h a).1 (List.mem_cons_self ..)) (by simp)
 | a :: l, b :: m, hl, hm, h => by
  obtain ⟨hl1, hl2⟩ := List.pairwise_cons.1 hl
  obtain ⟨hm1, hm2⟩ := List.pairwise_cons.1 hm
  have hab : a = b := by
   rcases List.mem_cons.1 ((h a).1 (List.mem_cons_self ..)) with h1 | h1
   ·exact h1
   ·rcases List.mem_cons.1 ((h b).2 (List.mem_cons_self ..)) with h2 | h2
    ·exact h2.symm
    ·have := hl1 _ h2
     have := hm1 _ h1
     omega
  subst hab
  have ht : l = m := op_ext hl2 hm2 fun x => by
   constructor
   ·intro hx
    rcases List.mem_cons.1 ((h x).1 (List.mem_cons_of_mem _ hx)) with h1 | h1
    ·subst h1; have := hl1 _ hx; omega
    ·exact h1
   ·intro hx
    rcases List.mem_cons.1 ((h x).2 (List.mem_cons_of_mem _ hx)) with h1 | h1
    ·subst h1; have := hm1 _ hx; omega
    ·exact h1
  rw [ht]
theorem op_one {l : List OpM} (h : l.Pairwise fun a b => a.n < b.n) {x y : OpM} (hx : x ∈ l) (hy : y ∈ l) (e : x.n = y.n) : x = y := by
 obtain ⟨i, hi, rfl⟩ := List.getElem_of_mem hx
 obtain ⟨j, hj, rfl⟩ := List.getElem_of_mem hy
 rw [List.pairwise_iff_getElem] at h
 rcases Nat.lt_trichotomy i j with h1 | h1 | h1
 ·have := h i j hi hj h1; omega
 ·subst h1; rfl
 ·have := h j i hj hi h1; omega
theorem open_mem {l : List OpM} {e y : OpM} : y ∈ openS l e ↔ y = e ∨ y ∈ l := by
 unfold openS
 generalize l.findIdx _ = k
 rw [List.mem_append, List.mem_cons]
 constructor
 ·rintro (h | h | h)
  ·exact .inr (List.mem_of_mem_take h)
  ·exact .inl h
  ·exact .inr (List.mem_of_mem_drop h)
 ·rintro (h | h)
  ·exact .inr (.inl h)
  ·rw [← List.take_append_drop k l, List.mem_append] at h
   exact h.elim .inl fun h => .inr (.inr h)
theorem cut_mem {l : List OpM} (h : l.Pairwise fun a b => a.n < b.n) {k : Nat} (hk : k < l.length) {y : OpM} : y ∈ cutAt l k ↔ y ∈ l ∧ y.n ≠ l[k].n := by
 constructor
 ·exact mem_cut h hk
 ·rintro ⟨h1, h2⟩
  unfold cutAt
  obtain ⟨i, hi, rfl⟩ := List.getElem_of_mem h1
  have hik : i ≠ k := fun e => by subst e; exact h2 rfl
  rw [List.mem_append]
  rcases Nat.lt_or_ge i k with h3 | h3
  ·refine .inl ?_
   rw [List.mem_take_iff_getElem]
   exact ⟨i, by omega, rfl⟩
  ·refine .inr ?_
   rw [List.mem_drop_iff_getElem]
   exact ⟨i - (k + 1), by omega, by congr 1; omega⟩
theorem chg_mem {l : List OpM} (h : l.Pairwise fun a b => a.n < b.n) {k : Nat} (hk : k < l.length) {s f : Int} {y : OpM} : y ∈ chgAt l k s f ↔ y = ⟨l[k].n, l[k].u, s, f⟩ ∨ (y ∈ l ∧ y.n ≠ l[k].n) := by
 constructor
 ·exact mem_chg h hk
 ·rw [chgAt_at hk, List.mem_append, List.mem_cons]
  rintro (h1 | h1)
  ·exact .inr (.inl h1)
  ·have h2 := (cut_mem h hk).2 h1
   unfold cutAt at h2
   exact (List.mem_append.1 h2).elim .inl fun h => .inr (.inr h)
theorem found {l : List OpM} (h : l.Pairwise fun a b => a.n < b.n) {n : Int} {u : ByteArray} : findC l n u = 0 ↔ ∃ e ∈ l, e.n = n ∧ e.u = u := by
 constructor
 ·intro hc
  rcases fc_three l n u with ⟨_, k, hk, hf, h1, h2, _, _⟩ | ⟨h1 | h1, _⟩
  ·exact ⟨l[k], List.getElem_mem hk, h1, h2⟩
  ·rw [hc] at h1; exact absurd h1 (by decide)
  ·rw [hc] at h1; exact absurd h1 (by decide)
 ·rintro ⟨e, he, h1, h2⟩
  unfold findC
  cases hf : l.find? (hasN n) with
  | none => exact absurd (hasN_iff.2 h1) (List.find?_eq_none.1 hf e he)
  | some x =>
   have h3 := List.mem_of_find?_eq_some hf
   have h4 := hasN_iff.1 (List.find?_some hf)
   have h5 := op_one h h3 he (h4.trans h1.symm)
   subst h5
   simp [h2]
theorem found_e {l : List OpM} (h : l.Pairwise fun a b => a.n < b.n) {n : Int} {u : ByteArray} {e : OpM} (he : e ∈ l) (h1 : e.n = n) (h2 : e.u = u) : findC l n u = 0 ∧ findE l n u = e ∧ ∀ s f y, (y ∈ chgR l n u s f ↔ y = ⟨n, u, s, f⟩ ∨ (y ∈ l ∧ y.n ≠ n)) ∧ (y ∈ cloR l n u ↔ y ∈ l ∧ y.n ≠ n) := by
 have hc := (found h).2 ⟨e, he, h1, h2⟩
 rcases fc_three l n u with ⟨_, k, hk, hf, g1, g2, g3, g4⟩ | ⟨g1 | g1, _⟩
 ·have hek : l[k] = e := op_one h (List.getElem_mem hk) he (g1.trans h1.symm)
  refine ⟨hc, by rw [g3, hek], fun s f y => ?_⟩
  unfold chgR cloR
  rw [if_pos hc, if_pos hc, g4, chg_mem h hk, cut_mem h hk, g1, g2]
  exact ⟨Iff.rfl, Iff.rfl⟩
 ·rw [hc] at g1; exact absurd g1 (by decide)
 ·rw [hc] at g1; exact absurd g1 (by decide)
theorem pw_of {l : List OpM} (h : RiseO l) : l.Pairwise fun a b => a.n < b.n := (riseO_iff.1 h).2.2
structure Sim (u : ByteArray) (s t : SaM) : Prop where
 now : t.now ≤ s.now
 hor : t.hor = s.hor
 op : t.op = s.op.filter (notU u)
 us : t.us = putU s.us u []
 su : t.su = withoutS s.su u
 tb : t.tb = insK TbM.u u [] s.tb
theorem notU_iff {u : ByteArray} {e : OpM} : notU u e = true ↔ ¬ e.u = u := decide_eq_true_iff
theorem ins_over {α : Type} {key : α → ByteArray} {l : List α} (h : RiseK key l) {u : ByteArray} {m n : List α} (hm : ∀ x ∈ m, key x = u) (h1 : m.length ≤ 1) (hn : ∀ x ∈ n, key x = u) (h2 : n.length ≤ 1) : insK key u n (insK key u m l) = insK key u n l :=
 riseK_ext (insK_rise (insK_rise h hm h1) hn h2) (insK_rise h hn h2) fun x => by
  rw [insK_mem, insK_mem, insK_mem]
  constructor
  ·rintro (h3 | ⟨h3 | h3, h4⟩)
   ·exact .inl h3
   ·exact absurd (hm x h3) h4
   ·exact .inr h3
  ·rintro (h3 | h3)
   ·exact .inl h3
   ·exact .inr ⟨.inr h3, h3.2⟩
theorem ins_swap {α : Type} {key : α → ByteArray} {l : List α} (h : RiseK key l) {u v : ByteArray} (huv : u ≠ v) {m n : List α} (hm : ∀ x ∈ m, key x = u) (h1 : m.length ≤ 1) (hn : ∀ x ∈ n, key x = v) (h2 : n.length ≤ 1) : insK key v n (insK key u m l) = insK key u m (insK key v n l) :=
 riseK_ext (insK_rise (insK_rise h hm h1) hn h2) (insK_rise (insK_rise h hn h2) hm h1) fun x => by
  rw [insK_mem, insK_mem, insK_mem, insK_mem]
  constructor
  ·rintro (h3 | ⟨h3 | h3, h4⟩)
   ·exact .inr ⟨.inl h3, by rw [hn x h3]; exact fun e => huv e.symm⟩
   ·exact .inl h3
   ·exact .inr ⟨.inr ⟨h3.1, h4⟩, h3.2⟩
  ·rintro (h3 | ⟨h3 | h3, h4⟩)
   ·exact .inr ⟨.inl h3, by rw [hm x h3]; exact huv⟩
   ·exact .inl h3
   ·exact .inr ⟨.inr ⟨h3.1, h4⟩, h3.2⟩
theorem put_over {l : List UsM} (h : RiseK UsM.u l) (u : ByteArray) (r q : List StM) : putU (putU l u r) u q = putU l u q := ins_over h rowU_u rowU_len rowU_u rowU_len
theorem put_swap {l : List UsM} (h : RiseK UsM.u l) {u v : ByteArray} (huv : u ≠ v) (r q : List StM) : putU (putU l u r) v q = putU (putU l v q) u r := ins_swap h huv rowU_u rowU_len rowU_u rowU_len
theorem add_gone {l : List UsM} (h : RiseK UsM.u l) (u : ByteArray) (x : StM) : putU (addU l u x) u [] = putU l u [] := by
 unfold addU
 split
 ·exact put_over h u _ _
 ·rfl
theorem add_swap {l : List UsM} (h : RiseK UsM.u l) {u v : ByteArray} (huv : u ≠ v) (x : StM) : putU (addU l v x) u [] = addU (putU l u []) v x := by
 unfold addU
 split
 ·rw [ofU_other h (fun e => huv e.symm), put_swap h (fun e => huv e.symm)]
 ·rfl
theorem without_inf2 {l : List EnM} {s w u : ByteArray} (h1 : w ≠ s) (h2 : u ≠ s) : (withoutS l s).any (infE w u) = l.any (infE w u) := by
 unfold withoutS
 rw [List.any_filter]
 congr 1
 funext e
 by_cases h : infE w u e = true
 ·obtain ⟨g1, g2, _⟩ := infE_iff.1 h
  rw [h, g1, g2]
  simp [h1, h2]
 ·rw [Bool.eq_false_iff.2 h, Bool.and_false]
theorem wo_mem {l : List EnM} {s : ByteArray} {e : EnM} : e ∈ withoutS l s ↔ e ∈ l ∧ e.w ≠ s ∧ e.u ≠ s := by
 unfold withoutS
 rw [List.mem_filter, Bool.and_eq_true, decide_eq_true_iff, decide_eq_true_iff]
theorem wo_none {l : List EnM} {e : EnM} {A B : List EnM} {s : ByteArray} (h : e.w = s ∨ e.u = s) : withoutS (A ++ e :: B) s = withoutS (A ++ B) s := by
 unfold withoutS
 rw [List.filter_append, List.filter_append, List.filter_cons, if_neg]
 rw [Bool.and_eq_true, decide_eq_true_iff, decide_eq_true_iff]
 rintro ⟨h1, h2⟩
 exact h.elim h1 h2
theorem end_wo {e : EnM} {s : ByteArray} (a : Int) (h1 : e.w ≠ s) (h2 : e.u ≠ s) : withoutS (endS e a) s = endS e a := by
 unfold endS
 split
 ·rfl
 ·unfold withoutS
  simp [h1, h2]
theorem end_none {e : EnM} {s : ByteArray} (a : Int) (h : e.w = s ∨ e.u = s) : withoutS (endS e a) s = [] := by
 unfold endS
 split
 ·rfl
 ·unfold withoutS
  rcases h with h | h <;> simp [h]
theorem wo_append (a b : List EnM) (s : ByteArray) : withoutS (a ++ b) s = withoutS a s ++ withoutS b s := by unfold withoutS; rw [List.filter_append]
theorem inf_split {l : List EnM} {w u : ByteArray} (h : l.any (infE w u) = true) : ∃ A e B, l = A ++ e :: B ∧ (∀ x ∈ A, infE w u x = false) ∧ infE w u e = true := by
 have hF := first_idx (infE w u) l
 rw [hF.any] at h
 have hk := of_decide_eq_true h
 exact ⟨_, _, _, split_at hk, fun x hx => by obtain ⟨j, hj, hjk, rfl⟩ := mem_take_get hx; exact hF.low j hj hjk, hF.hit hk⟩
theorem filter_notU (l : List OpM) (u v : ByteArray) : (l.filter (notU v)).filter (notU u) = (l.filter (notU u)).filter (notU v) := by
 rw [List.filter_filter, List.filter_filter]
 congr 1
 funext e
 exact Bool.and_comm _ _
theorem wo_swap (l : List EnM) (u v : ByteArray) : withoutS (withoutS l v) u = withoutS (withoutS l u) v := by
 unfold withoutS
 rw [List.filter_filter, List.filter_filter]
 congr 1
 funext e
 exact Bool.and_comm _ _
theorem wo_twice (l : List EnM) (u : ByteArray) : withoutS (withoutS l u) u = withoutS l u := by
 unfold withoutS
 rw [List.filter_filter]
 congr 1
 funext e
 exact Bool.and_self _
theorem op_twice (l : List OpM) (u : ByteArray) : (l.filter (notU u)).filter (notU u) = l.filter (notU u) := by
 rw [List.filter_filter]
 congr 1
 funext e
 exact Bool.and_self _
theorem Sim.bear {u : ByteArray} {s t : SaM} (h : Sim u s t) (hs : RightS s) (hu : nameB u = true) {e : EvM} (he : errE s e = 0) (hb : bearB u e = true) : Sim u (goE s e) t := by
 obtain ⟨⟨_, _, hr⟩, ha, hc⟩ := errS_ok he
 obtain ⟨k, a, eu, eo, n, st⟩ := e
 dsimp only at hr ha hc
 have hb' : eu = u ∨ eo = u := by
  unfold bearB at hb
  simpa using hb
 have hnil : eo = ⟨#[]⟩ → eu = u := fun h0 => hb'.elim id fun h1 => by rw [← h1, h0] at hu; exact absurd hu (by decide)
 have hp := pw_of hs.op
 have hnow : t.now ≤ a := by have := h.now; omega
 unfold errK at hc
 unfold goE goS
 dsimp only
 have hfc : findC s.op n eu = 0 → eu = u → (chgR s.op n eu st a).filter (notU u) = s.op.filter (notU u) ∧ (cloR s.op n eu).filter (notU u) = s.op.filter (notU u) := fun hc h0 => by
  obtain ⟨x, hx, h1, h2⟩ := (found hp).1 hc
  obtain ⟨_, _, hm⟩ := found_e hp hx h1 h2
  have hpx : ∀ y ∈ s.op, notU u y = true → y.n ≠ n := fun y hy hny e0 => notU_iff.1 hny (by rw [op_one hp hy hx (e0.trans h1.symm), h2, h0])
  obtain ⟨_, hok, _⟩ := riseO_iff.1 hs.op
  have hst : RiseO (chgR s.op n eu 1 0) ∧ RiseO (cloR s.op n eu) := by
   rcases fc_three s.op n eu with ⟨_, k, hk, hf, g1, g2, g3, g4⟩ | ⟨g1 | g1, _⟩
   ·unfold chgR cloR
    rw [if_pos hc, if_pos hc]
    exact ⟨by rw [g4]; exact chg_rise hs.op hk (by decide) (by decide), cut_rise hs.op⟩
   ·rw [hc] at g1; exact absurd g1 (by decide)
   ·rw [hc] at g1; exact absurd g1 (by decide)
  have hpc : (chgR s.op n eu st a).Pairwise fun a b => a.n < b.n := by
   have h3 := pw_of hst.1
   rw [pw_n] at h3 ⊢
   rcases fc_three s.op n eu with ⟨_, k, hk, hf, g1, g2, g3, g4⟩ | ⟨g1 | g1, _⟩
   ·unfold chgR at h3 ⊢
    rw [if_pos hc, g4, chg_n hk] at h3 ⊢
    exact h3
   ·rw [hc] at g1; exact absurd g1 (by decide)
   ·rw [hc] at g1; exact absurd g1 (by decide)
  refine ⟨op_ext (hpc.filter _) (hp.filter _) fun y => ?_, op_ext ((pw_of hst.2).filter _) (hp.filter _) fun y => ?_⟩
  ·rw [List.mem_filter, List.mem_filter, (hm st a y).1]
   constructor
   ·rintro ⟨rfl | ⟨h3, _⟩, h4⟩
    ·exact absurd h0 (notU_iff.1 h4)
    ·exact ⟨h3, h4⟩
   ·rintro ⟨h3, h4⟩
    exact ⟨.inr ⟨h3, hpx y h3 h4⟩, h4⟩
  ·rw [List.mem_filter, List.mem_filter, (hm st a y).2]
   exact ⟨fun h => ⟨h.1.1, h.2⟩, fun h => ⟨⟨h.1, hpx y h.1 h.2⟩, h.2⟩⟩
 rcases hr with ⟨h1 | h1, _, _, _, h2, _⟩ | ⟨h1, _, _, _, h2, _⟩ | ⟨h1 | h1, hn1, hn2, _⟩ | ⟨h1, h2, h3, _⟩ | ⟨h1, _, h2, _⟩
 ·subst h1
  have h0 := hnil h2
  rw [if_pos rfl]
  rw [if_pos rfl] at hc
  refine ⟨hnow, h.hor, ?_, h.us, h.su, h.tb⟩
  rw [h.op]
  show s.op.filter (notU u) = (openR s.op ⟨n, eu, st, a⟩).filter (notU u)
  unfold openR
  rw [if_pos hc]
  unfold openS
  rw [List.filter_append, List.filter_cons, if_neg (by rw [notU_iff]; exact fun g => g h0), ← List.filter_append, List.take_append_drop]
 ·subst h1
  have h0 := hnil h2
  refine ⟨hnow, h.hor, h.op.trans (hfc hc h0).1.symm, ?_, h.su, h.tb⟩
  rw [h.us]
  show _ = putU (addU s.us eu _) u []
  rw [h0, add_gone hs.ur]
 ·subst h1
  have h0 := hnil h2
  refine ⟨hnow, h.hor, h.op.trans (hfc hc h0).2.symm, ?_, h.su, h.tb⟩
  rw [h.us]
  show _ = putU (addU s.us eu _) u []
  rw [h0, add_gone hs.ur]
 ·subst h1
  refine ⟨hnow, h.hor, h.op, h.us, ?_, h.tb⟩
  rw [h.su]
  show _ = withoutS (grantS s.su (mkE eu eo a)) u
  unfold grantS
  generalize s.su.findIdx _ = k
  rw [wo_none (l := s.su) (show (mkE eu eo a).w = u ∨ (mkE eu eo a).u = u from hb'), List.take_append_drop]
 ·subst h1
  refine ⟨hnow, h.hor, h.op, h.us, ?_, h.tb⟩
  rw [h.su]
  show _ = withoutS (revokeS s.su eu eo a) u
  have hany : s.su.any (infE eu eo) = true := by
   by_cases hq : s.su.any (infE eu eo) = true
   ·exact hq
   ·simp [hq] at hc
  obtain ⟨A, x, B, hl, hA, hx⟩ := inf_split hany
  obtain ⟨x1, x2, _⟩ := infE_iff.1 hx
  have hxb : x.w = u ∨ x.u = u := by rw [x1, x2]; exact hb'
  rw [hl, revoke_mid hA hx, wo_none (l := s.su) hxb, wo_append, wo_append, wo_append, end_none a hxb]
  rfl
 ·exact absurd (hnil h3) (fun e => by rw [← e, h2] at hu; exact absurd hu (by decide))
 ·subst h1
  have h0 := hnil h2
  subst h0
  refine ⟨hnow, h.hor, ?_, ?_, ?_, ?_⟩
  ·rw [h.op]
   exact (op_twice _ _).symm
  ·rw [h.us]
   exact (put_over hs.ur _ _ _).symm
  ·rw [h.su]
   exact (wo_twice _ _).symm
  ·rw [h.tb]
   exact (ins_over hs.tr (fun x hx => by rw [List.mem_singleton.1 hx]) (by simp) (fun x hx => by cases hx) (by simp)).symm
theorem grant_of {m : List EnM} {now a : Int} {w u : ByteArray} (h : GoE m now) (h0 : 0 ≤ now) (ha : now ≤ a) (hb : a < 1099511627776) (hw : nameB w = true) (hu : nameB u = true) (hi : m.any (infE w u) = false) : RiseE (grantS m (mkE w u a)) := (h.grant h0 ha hb hw hu hi).1.rise
theorem Sim.other {u : ByteArray} {s t : SaM} (h : Sim u s t) (hs : RightS s) (ht : RightS t) {e : EvM} (he : errE s e = 0) (hb : bearB u e = false) : errE t e = 0 ∧ Sim u (goE s e) (goE t e) := by
 obtain ⟨hv, ha, hc⟩ := errS_ok he
 have hr := hv
 obtain ⟨ha0, hb0, hr⟩ := hr
 obtain ⟨b1, b2⟩ := bear_no.1 hb
 obtain ⟨k, a, eu, eo, n, st⟩ := e
 dsimp only at hv hr ha hc ha0 hb0 b1 b2
 have hp := pw_of hs.op
 have hpt := pw_of ht.op
 have hta : t.now ≤ a := by have := h.now; omega
 have hErr : errK t k a n st eu eo = 0 → errE t ⟨k, a, eu, eo, n, st⟩ = 0 := fun h0 => by
  unfold errE errS
  dsimp only
  rw [if_pos hv, if_neg (by omega), h0]
 unfold errK at hc hErr
 unfold goE goS
 dsimp only
 have hopm : ∀ y, y ∈ t.op ↔ y ∈ s.op ∧ ¬ y.u = u := fun y => by rw [h.op, List.mem_filter, notU_iff]
 have hfc : findC s.op n eu = 0 → findC t.op n eu = 0 ∧ findE t.op n eu = findE s.op n eu ∧ (∀ y, y ∈ chgR t.op n eu st a ↔ y ∈ chgR s.op n eu st a ∧ ¬ y.u = u) ∧ (∀ y, y ∈ cloR t.op n eu ↔ y ∈ cloR s.op n eu ∧ ¬ y.u = u) := fun hc => by
  obtain ⟨x, hx, h1, h2⟩ := (found hp).1 hc
  have hxt : x ∈ t.op := (hopm x).2 ⟨hx, by rw [h2]; exact b1⟩
  obtain ⟨_, g1, hm⟩ := found_e hp hx h1 h2
  obtain ⟨f0, f1, fm⟩ := found_e hpt hxt h1 h2
  refine ⟨f0, f1.trans g1.symm, fun y => ?_, fun y => ?_⟩
  ·rw [(hm st a y).1, (fm st a y).1, hopm]
   constructor
   ·rintro (rfl | ⟨⟨h3, h4⟩, h5⟩)
    ·exact ⟨.inl rfl, b1⟩
    ·exact ⟨.inr ⟨h3, h5⟩, h4⟩
   ·rintro ⟨rfl | ⟨h3, h4⟩, h5⟩
    ·exact .inl rfl
    ·exact .inr ⟨⟨h3, h5⟩, h4⟩
  ·rw [(hm st a y).2, (fm st a y).2, hopm]
   exact ⟨fun h => ⟨⟨h.1.1, h.2⟩, h.1.2⟩, fun h => ⟨⟨h.1.1, h.2⟩, h.1.2⟩⟩
 have hfnd : findC s.op n eu = 0 → fndS t.op n eu a = fndS s.op n eu a := fun hc => by
  obtain ⟨g0, g1, _⟩ := hfc hc
  unfold fndS
  rw [if_pos hc, if_pos g0, g1]
 rcases hr with ⟨h1 | h1, hn1, hn2, hn3, h2, hs1, hs2⟩ | ⟨h1, _, _, _, h2, _⟩ | ⟨h1 | h1, hn1, hn2, _⟩ | ⟨h1, h2, h3, _⟩ | ⟨h1, _, h2, _⟩
 ·subst h1
  rw [if_pos rfl] at hc hErr
  obtain ⟨c1, c2⟩ := openC_ok hc
  have hct : openC t.op ⟨n, eu, st, a⟩ = 0 := by
   have hlen : t.op.length ≤ s.op.length := by rw [h.op]; exact List.length_filter_le _ _
   unfold openC
   rw [if_neg, if_neg (by omega)]
   rw [List.any_eq_true]
   rintro ⟨y, hy, hyn⟩
   exact c2 y ((hopm y).1 hy).1 (hasN_iff.1 hyn)
  refine ⟨hErr hct, ?_⟩
  have hE := hErr hct
  have hRs := (right_go hs he).op
  have hRt := (right_go ht hE).op
  unfold goS at hRs hRt
  dsimp only at hRs hRt
  rw [if_pos rfl] at hRs hRt
  rw [if_pos rfl, if_pos rfl]
  refine ⟨Int.le_refl _, h.hor, ?_, h.us, h.su, h.tb⟩
  refine op_ext (pw_of hRt) ((pw_of hRs).filter _) fun y => ?_
  show y ∈ openR t.op _ ↔ y ∈ (openR s.op _).filter (notU u)
  unfold openR
  rw [if_pos hc, if_pos hct, List.mem_filter, open_mem, open_mem, hopm, notU_iff]
  constructor
  ·rintro (rfl | ⟨h3, h4⟩)
   ·exact ⟨.inl rfl, b1⟩
   ·exact ⟨.inr h3, h4⟩
  ·rintro ⟨rfl | h3, h4⟩
   ·exact .inl rfl
   ·exact .inr ⟨h3, h4⟩
 ·subst h1
  obtain ⟨g0, g1, g2, g3⟩ := hfc hc
  have hE := hErr g0
  refine ⟨hE, ?_⟩
  have hRs := (right_go hs he).op
  have hRt := (right_go ht hE).op
  refine ⟨Int.le_refl _, h.hor, ?_, ?_, h.su, h.tb⟩
  ·refine op_ext (pw_of hRt) ((pw_of hRs).filter _) fun y => ?_
   rw [List.mem_filter, notU_iff]
   exact g2 y
  ·show addU t.us eu (fndS t.op n eu a) = putU (addU s.us eu (fndS s.op n eu a)) u []
   rw [hfnd hc, h.us, add_swap hs.ur (fun e => b1 e.symm)]
 ·subst h1
  obtain ⟨g0, g1, g2, g3⟩ := hfc hc
  have hE := hErr g0
  refine ⟨hE, ?_⟩
  have hRs := (right_go hs he).op
  have hRt := (right_go ht hE).op
  refine ⟨Int.le_refl _, h.hor, ?_, ?_, h.su, h.tb⟩
  ·refine op_ext (pw_of hRt) ((pw_of hRs).filter _) fun y => ?_
   rw [List.mem_filter, notU_iff]
   exact g3 y
  ·show addU t.us eu (fndS t.op n eu a) = putU (addU s.us eu (fndS s.op n eu a)) u []
   rw [hfnd hc, h.us, add_swap hs.ur (fun e => b1 e.symm)]
 ·subst h1
  have hany : s.su.any (infE eu eo) = false := by
   by_cases hq : s.su.any (infE eu eo) = true
   ·simp [hq] at hc
   ·exact Bool.eq_false_iff.2 hq
  have hanyt : t.su.any (infE eu eo) = false := by rw [h.su, without_inf2 b1 b2]; exact hany
  refine ⟨hErr (by simp [hanyt]), Int.le_refl _, h.hor, h.op, h.us, ?_, h.tb⟩
  show grantS t.su (mkE eu eo a) = withoutS (grantS s.su (mkE eu eo a)) u
  have r1 := grant_of ht.su ht.now.1 hta hb0 hn1 hn2 hanyt
  have r2 := rise_filter (grant_of hs.su hs.now.1 ha hb0 hn1 hn2 hany) (fun e => decide (e.w ≠ u) && decide (e.u ≠ u))
  refine riseE_only r1 r2 ?_
  refine (grant_perm _ _).trans ?_
  have h3 := (grant_perm s.su (mkE eu eo a)).filter (fun e => decide (e.w ≠ u) && decide (e.u ≠ u))
  refine List.Perm.trans ?_ h3.symm
  rw [List.filter_cons, if_pos (by simp [mkE, b1, b2]), h.su]
  exact List.Perm.refl _
 ·subst h1
  have hany : s.su.any (infE eu eo) = true := by
   by_cases hq : s.su.any (infE eu eo) = true
   ·exact hq
   ·simp [hq] at hc
  have hanyt : t.su.any (infE eu eo) = true := by rw [h.su, without_inf2 b1 b2]; exact hany
  refine ⟨hErr (by simp [hanyt]), Int.le_refl _, h.hor, h.op, h.us, ?_, h.tb⟩
  show revokeS t.su eu eo a = withoutS (revokeS s.su eu eo a) u
  obtain ⟨A, x, B, hl, hA, hx⟩ := inf_split hany
  obtain ⟨x1, x2, _⟩ := infE_iff.1 hx
  have y1 : x.w ≠ u := by rw [x1]; exact b1
  have y2 : x.u ≠ u := by rw [x2]; exact b2
  have hwx : withoutS (x :: B) u = x :: withoutS B u := by
   unfold withoutS
   rw [List.filter_cons, if_pos (by simp [y1, y2])]
  rw [h.su, hl, wo_append, hwx, revoke_mid hA hx, revoke_mid (fun z hz => hA z (wo_mem.1 hz).1) hx, wo_append, wo_append, end_wo a y1 y2]
 ·subst h1
  refine ⟨hErr (by simp), Int.le_refl _, ?_, h.op, h.us, h.su, h.tb⟩
  show max t.hor n = max s.hor n
  rw [h.hor]
 ·subst h1
  refine ⟨hErr (by simp), Int.le_refl _, h.hor, ?_, ?_, ?_, ?_⟩
  ·show t.op.filter (notU eu) = (s.op.filter (notU eu)).filter (notU u)
   rw [h.op, filter_notU]
  ·show putU t.us eu [] = putU (putU s.us eu []) u []
   rw [h.us, put_swap hs.ur (fun e => b1 e.symm)]
  ·show withoutS t.su eu = withoutS (withoutS s.su eu) u
   rw [h.su, wo_swap]
  ·show tombU t.tb eu a = insK TbM.u u [] (tombU s.tb eu a)
   unfold tombU
   rw [h.tb]
   exact ins_swap hs.tr (fun e => b1 e.symm) (fun x hx => by cases hx) (by simp) (fun x hx => by rw [List.mem_singleton.1 hx]) (by simp)
theorem Sim.zero (u : ByteArray) : Sim u saZ saZ := ⟨Int.le_refl _, rfl, rfl, rfl, rfl, rfl⟩
theorem Sim.fold : ∀ (l : List EvM) {u : ByteArray} {s t : SaM}, nameB u = true → Sim u s t → RightS s → RightS t → AllT s l → AllT t (withoutV u l) ∧ Sim u (foldE s l) (foldE t (withoutV u l))
 | [], _, _, t, _, h, _, _, _ => ⟨AllT.nil _, h⟩
 | e :: l, u, s, t, hu, h, hs, ht, hl => by
  obtain ⟨h1, h2⟩ := hl.cons
  have hs' : RightS (goE s e) := right_go hs h1
  rw [foldE_cons, nxE_ok h1]
  cases hb : bearB u e with
  | true =>
   have e1 : withoutV u (e :: l) = withoutV u l := by unfold withoutV; rw [List.filter_cons, if_neg (by rw [hb]; decide)]
   rw [e1]
   exact Sim.fold l hu (h.bear hs hu h1 hb) hs' ht h2
  | false =>
   have e1 : withoutV u (e :: l) = e :: withoutV u l := by unfold withoutV; rw [List.filter_cons, if_pos (by rw [hb]; decide)]
   obtain ⟨g1, g2⟩ := h.other hs ht h1 hb
   obtain ⟨k1, k2⟩ := Sim.fold l hu g2 hs' (right_go ht g1) h2
   rw [e1, foldE_cons, nxE_ok g1]
   exact ⟨AllT.mk g1 k1, k2⟩
def eraseV (u : ByteArray) (a : Int) : EvM := ⟨7, a, u, ⟨#[]⟩, 0, 0⟩
theorem erase_ok {s : SaM} {u : ByteArray} {a : Int} (hu : nameB u = true) (h0 : 0 ≤ a) (hb : a < 1099511627776) (ha : s.now ≤ a) : errE s (eraseV u a) = 0 := by
 have hv : RightV 7 a 0 0 u ⟨#[]⟩ := ⟨h0, hb, .inr (.inr (.inr (.inr ⟨rfl, hu, rfl, rfl, rfl⟩)))⟩
 show errS s 7 a 0 0 u ⟨#[]⟩ = 0
 unfold errS errK
 rw [if_pos hv, if_neg (by omega)]
 simp
theorem Sim.erase {u : ByteArray} {s t : SaM} (h : Sim u s t) (hs : RightS s) : goE s (eraseV u s.now) = goE t (eraseV u s.now) := by
 have e1 : goE s (eraseV u s.now) = { s with now := s.now, op := s.op.filter (notU u), su := withoutS s.su u, us := putU s.us u [], tb := tombU s.tb u s.now } := rfl
 have e2 : goE t (eraseV u s.now) = { t with now := s.now, op := t.op.filter (notU u), su := withoutS t.su u, us := putU t.us u [], tb := tombU t.tb u s.now } := rfl
 rw [e1, e2, h.op, h.su, h.us, h.tb, op_twice, wo_twice, put_over hs.ur]
 unfold tombU
 rw [ins_over hs.tr (fun x hx => by cases hx) (by simp) (fun x hx => by rw [List.mem_singleton.1 hx]) (by simp)]
 have := h.hor
 rw [this]
theorem fold_erased (l : List EvM) {u : ByteArray} (hu : nameB u = true) (hl : AllT saZ l) :
  AllT saZ (withoutV u l) ∧ errE (foldE saZ l) (eraseV u (foldE saZ l).now) = 0 ∧ errE (foldE saZ (withoutV u l)) (eraseV u (foldE saZ l).now) = 0 ∧ goE (foldE saZ l) (eraseV u (foldE saZ l).now) = goE (foldE saZ (withoutV u l)) (eraseV u (foldE saZ l).now) := by
 obtain ⟨h1, h2⟩ := Sim.fold l hu (Sim.zero u) RightS.zero RightS.zero hl
 have hr := right_fold l RightS.zero
 exact ⟨h1, erase_ok hu hr.now.1 hr.now.2 (Int.le_refl _), erase_ok hu hr.now.1 hr.now.2 h2.now, h2.erase hr⟩
end Go.Proofs.YtapacckmgmdnoaaGreat
namespace Go.Proofs.YtapacckmgmdnoaaGreat
open Go.RowKit
set_option linter.unusedVariables false
set_option maxRecDepth 100000
set_option maxRecDepth 100000
theorem saO_m : saO.m = saZ := rfl
section
variable {W : World} {g : Nat} {x : SaL} {t : TypeId}
end
section
variable {w W W' : World} {g : Nat} {x : SaL} {t : TypeId}
end
section
variable {w W W' : World} {g : Nat} {x : SaL} {t : TypeId}
end
structure RB (w : World) (g : Nat) (cs : Array Value) (t : TypeId) (W : World) : Prop where
 blk : W.heap[g]? = some (.cells cs t (0, 0))
theorem RB.below {w W W' : World} {g : Nat} {cs : Array Value} {t : TypeId} (h : RB w g cs t W) (q : Below W.heap.size W W') : RB w g cs t W' := ⟨(q.block g (heap_lt h.blk)).trans h.blk⟩
end Go.Proofs.YtapacckmgmdnoaaGreat
namespace Go.Proofs.YtapacckmgmdnoaaGreat
open Go.RowKit Go.Proofs
set_option linter.unusedVariables false
set_option maxRecDepth 100000
set_option maxRecDepth 100000
theorem EB.set {w W : World} {g g' : Nat} {t : TypeId} {e : EvM} {y : SaL} (h : EB w g t e W) (hne : g ≠ g') : EB w g t e (setS W g' y) := (((((h.far hne).far hne).far hne).far hne).far hne).far hne
end Go.Proofs.YtapacckmgmdnoaaGreat
namespace Go.Proofs.YtapacckmgmdnoaaGreat
open Go.RowKit
set_option linter.unusedVariables false
set_option maxRecDepth 100000
set_option maxRecDepth 100000
theorem evs_len (l : List EvM) : (evs l).length = l.length * 6 := by
 induction l with
 | nil => rfl
 | cons e l ih => rw [evs_cons, List.length_append, evc_len, ih, List.length_cons]; omega
end Go.Proofs.YtapacckmgmdnoaaGreat
namespace Go.Proofs.YtapacckmgmdnoaaGreat
open Go.RowKit Go.Proofs
set_option linter.unusedVariables false
set_option maxRecDepth 100000
set_option maxRecDepth 100000
theorem EB.cells {w W : World} {g : Nat} {t : TypeId} {e : EvM} (h : EB w g t e W) : W.cell? ⟨g, 0, none⟩ = some (.int .i64 e.kind) ∧ W.cell? ⟨g, 1, none⟩ = some (.int .i64 e.at_) ∧ W.cell? ⟨g, 2, none⟩ = some (.string e.user) ∧ W.cell? ⟨g, 3, none⟩ = some (.string e.other) ∧ W.cell? ⟨g, 4, none⟩ = some (.int .i64 e.n) ∧ W.cell? ⟨g, 5, none⟩ = some (.int .i64 e.status) :=
 ⟨cell_of_row _ _ _ _ _ _ h.blk, cell_of_row _ _ _ _ _ _ h.blk, cell_of_row _ _ _ _ _ _ h.blk, cell_of_row _ _ _ _ _ _ h.blk, cell_of_row _ _ _ _ _ _ h.blk, cell_of_row _ _ _ _ _ _ h.blk⟩
section
variable {M : SaM} (x y : SaL) (V : World) (h : SaAt V x) (k : SaAt V y) (hm : x.m = M) (km : y.m = M)
include h hm
include k km
end
end Go.Proofs.YtapacckmgmdnoaaGreat
namespace Go.Proofs.YtapacckmgmdnoaaGreat
open Go.RowKit Go.Proofs
set_option linter.unusedVariables false
set_option maxRecDepth 100000
def FoldsV (w : World) (M : SaM) (E : List Int) (r : Ending) (w' : World) : Prop := ∃ z b c, r = .returned (.tuple #[.agg #[.int .i64 z.now, .int .i64 z.hor, .slice z.oa z.op.length z.oc, .slice z.ua z.us.length z.uc, .slice z.sa z.su.length z.sc, .slice z.ta z.tb.length z.tc], .slice b E.length c]) ∧ SaAt w' z ∧ z.m = M ∧ ErSl w' b E ∧ E.length ≤ c ∧ c ≤ maxLen ∧ Below w.heap.size w w'
theorem h_fold (x : SaL) {M : SaM} (hm : x.m = M) (a : Option Addr) (c : Nat) (l : List EvM) (V : World) (h : SaAt V x) (hr : RightS M) (hs : EvSl V a l) (hf : FitsV l) (hc : stCnt M + l.length ≤ 200) : Calls Tryz.prog 22 #[saV x, .slice a l.length c] V (FoldsV V (foldE M l) (errsE M l)) := by
 subst hm
 exact pfold_any x a c l V h hr hs hf hc
theorem fits_without {u : ByteArray} {l : List EvM} (h : FitsV l) : FitsV (withoutV u l) := fun e he => h e (List.mem_filter.1 he).1
theorem without_len (u : ByteArray) (l : List EvM) : (withoutV u l).length ≤ l.length := List.length_filter_le _ _
theorem EvSl.cells {w : World} {ad : Addr} {l : List EvM} (h : EvSl w (some ad) l) : ∀ j u, (evs l)[j]? = some u → w.cell? (ad.add j) = some u := fun j u hu => by
 have hj : j < l.length * 6 := by
  rcases Nat.lt_or_ge j (evs l).length with h1 | h1
  ·rw [evs_len] at h1; exact h1
  ·rw [List.getElem?_eq_none h1] at hu; cases hu
 have hk : j / 6 < l.length := by omega
 have hi : j % 6 < 6 := Nat.mod_lt _ (by omega)
 obtain ⟨b, off, e, _, hc⟩ := h (j / 6) hk
 cases e
 have e1 : j / 6 * 6 + j % 6 = j := by omega
 rw [Go.WideShapes.add_plain, ← hu]
 have h1 := hc (j % 6) hi
 rw [show off + j / 6 * 6 + j % 6 = off + j by omega] at h1
 rw [h1, ← evs_get l (j / 6) (j % 6) hk hi, e1]
theorem evs_app (l m : List EvM) : evs (l ++ m) = evs l ++ evs m := by unfold evs; exact List.flatMap_append
theorem EvSl.lit (w : World) (xs : Array Value) (t : TypeId) (l : List EvM) (zs : List Value) (g : Nat) (hg : g = w.heap.size) (hx : xs.toList = evs l ++ zs) : EvSl (w.alloc (.cells xs t)) (some ⟨g, 0, none⟩) l := fun k hk => by
 subst hg
 refine ⟨_, 0, rfl, by rw [size1]; exact Nat.lt_succ_self _, fun i hi => ?_⟩
 have h1 := evs_get l k i hk hi
 rw [cell_of_row _ _ _ _ _ (0, 0) (heap_alloc_new w _), Nat.zero_add, ← Array.getElem?_toList, hx, List.getElem?_append_left (by rw [evs_len]; omega), h1]
theorem ev_join (w : World) (ty : TypeId) (ad : Addr) (b : Option Addr) (E G : List EvM) (c : Nat) (ha : EvSl w (some ad) E) (hb : EvSl w b G) (hl : E.length + G.length ≤ 1000000) :
  ∃ x q w', (Builtin.append_ #[32, 32] ty #[.slice (some ad) E.length E.length, .slice b G.length c]).run Tryz.prog w = .ok (.slice x (E.length + G.length) q) w' ∧ EvSl w' x (E ++ G) ∧ Below w.heap.size w w' := by
 obtain ⟨i0, hi, hz0, hz1, hz2⟩ := info_parts infoEvent
 by_cases hG : G = []
 ·subst hG
  refine ⟨some ad, E.length, w, ?_, by rw [List.append_nil]; exact ha, Below.refl _ _⟩
  cases b <;> simp [Builtin.append_, run_underlying Tryz.underlying32, sizeOf, typeInfo, hi, Builtin.lenOf, Builtin.firstCells, loadCells, loadCellsFrom, storeCells]
 ·have hGp := List.length_pos_iff.2 hG
  cases b with
  | none => obtain ⟨_, _, e, _⟩ := hb 0 hGp; cases e
  | some bd =>
   have hr := run_append_grow (P := Tryz.prog) w 32 ty 64 i0 _ Tryz.underlying32 hi hz0 ad E.length E.length (evs E) (by rw [hz1, evs_len]) (fun j u hu => ha.cells j u hu) bd G.length c (evs G) (by rw [hz1, evs_len]) (fun j u hu => hb.cells j u hu) (by omega) (by omega) (growslice_fits (by omega) (by rw [hz2]; omega))
   refine ⟨_, _, _, hr, ?_, (Below.refl _ _).drew.alloc (Nat.le_refl _) _⟩
   exact EvSl.lit w.drew _ _ (E ++ G) _ _ rfl (by rw [evs_app, Array.toList_append, Array.toList_append])
theorem step_run {P : Program} {w : World} {ops : Array Oper} {o : Oper} {a : Act} {K : Act → World → Prop} {Q : Exit → Act → World → Prop} {B : Prop} (hgd : o.guard = none) (s x : Operand) (t tn : TypeId)
  (ho : o.op = .call { callee := .builtin .append, args := #[s, x], argTypes := #[t, tn] }) (vs vx : Value) (hs : a.eval s = vs) (hx : a.eval x = vx)
  (v' : Value) (w' : World) (hr : (Builtin.append_ #[t, tn] o.type #[vs, vx]).run P w = .ok v' w') (h : K (a.put o.dst v') w') : if Region.wanted o (yielded ops a.tmps) = true then Oper.wp P o a w K Q else B := by
 have hw : Region.wanted o (yielded ops a.tmps) = true := by simp [Region.wanted, hgd]
 rw [if_pos hw]
 exact Lib.wp_append_run w s x t tn ho vs vx hs hx v' w' hr h
end Go.Proofs.YtapacckmgmdnoaaGreat
