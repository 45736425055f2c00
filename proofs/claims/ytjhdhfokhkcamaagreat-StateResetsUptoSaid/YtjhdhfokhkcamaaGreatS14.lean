/- Texts of mine, one behind the other, of each what is wanted. -/
import Derived.Test.YtjhdhfokhkcamaaGreatS00
import Derived.Test.YtjhdhfokhkcamaaGreatShelf
import Derived.Test.YtjhdhfokhkcamaaGreatRows
import Derived.Test.YtjhdhfokhkcamaaGreatS01
import Derived.Test.YtjhdhfokhkcamaaGreatS02
import Derived.Test.YtjhdhfokhkcamaaGreatS03
import Derived.Test.YtjhdhfokhkcamaaGreatS04
import Derived.Test.YtjhdhfokhkcamaaGreatS06
import Derived.Test.YtjhdhfokhkcamaaGreatS07
import Derived.Test.YtjhdhfokhkcamaaGreatS08
import Derived.Test.YtjhdhfokhkcamaaGreatS09
import Derived.Test.YtjhdhfokhkcamaaGreatS11
import Derived.Test.YtjhdhfokhkcamaaGreatS13
namespace Go.Proofs.YtjhdhfokhkcamaaGreat
set_option linter.unusedVariables false
set_option maxRecDepth 100000
def resetU (l : List OpM) (now : Int) (us : List UsM) : List UsM := l.foldl (fun r e => addU r e.u (stayO e now)) us
def resetS (s : SaM) : SaM := { s with op := [], us := resetU s.op s.now s.us }
theorem resetU_rise (now : Int) : ∀ (l : List OpM) {us : List UsM}, RiseK UsM.u us → RiseK UsM.u (resetU l now us)
 | [], _, h => h
 | e :: l, _, h => resetU_rise now l (addU_rise h)
theorem resetU_ok (now : Int) : ∀ (l : List OpM) {us : List UsM}, (∀ e ∈ l, OkO e ∧ e.f ≤ now) → l.Pairwise (fun a b => a.n < b.n) → (∀ x ∈ us, OkU now l x) → ∀ x ∈ resetU l now us, OkU now [] x
 | [], _, _, _, h => h
 | e :: l, us, ho, hp, h => by
  obtain ⟨hp1, hp2⟩ := List.pairwise_cons.1 hp
  obtain ⟨⟨k1, k2, k3, k4, k5, k6, k7⟩, k8⟩ := ho e (List.mem_cons_self ..)
  refine resetU_ok now l (fun x hx => ho x (List.mem_cons_of_mem _ hx)) hp2 (addU_ok ?_ k1 (fun hlt => ?_) fun hlt hm => ?_)
  ·exact fun x hx => (h x hx).mono (Int.le_refl _) fun y hy o hop => hy.2.2.2.2.2.2 o (List.mem_cons_of_mem _ hop)
  ·refine ⟨k6, Int.le_refl _, k2, k3, k4, k5, fun o hop hon => ?_⟩
   have h1 := hp1 o hop
   have h2 : o.n = e.n := hon
   omega
  ·have h4 := (ofU_okst (u := e.u) h).2 _ hm
   have h5 : now ≤ e.f := h4.2.2.2.2.2.2 e (List.mem_cons_self ..) rfl
   have h6 : e.f < now := hlt
   omega
theorem right_reset {s : SaM} (h : RightS s) : RightS (resetS s) := by
 obtain ⟨h1, h2, h3⟩ := riseO_iff.1 h.op
 exact ⟨h.now, h.hor, ⟨Nat.zero_le _, fun k hk => absurd hk (Nat.not_lt_zero _)⟩, fun e he => (by cases he), resetU_ok s.now s.op (fun e he => ⟨h2 e he, h.frm e he⟩) h3 h.us, resetU_rise _ _ h.ur, h.su, h.tb, h.tr⟩
def pruneU (l : List UsM) (t : Int) : List UsM := (l.map fun x => (⟨x.u, aftS x.l t⟩ : UsM)).filter fun x => !x.l.isEmpty
def pruneS (s : SaM) : SaM := { s with us := pruneU s.us s.hor, su := aftE s.su s.hor }
theorem pruneU_mem {l : List UsM} {t : Int} {x : UsM} : x ∈ pruneU l t ↔ (∃ y ∈ l, x = ⟨y.u, aftS y.l t⟩) ∧ x.l ≠ [] := by
 unfold pruneU
 rw [List.mem_filter, List.mem_map]
 have h : (!x.l.isEmpty) = true ↔ x.l ≠ [] := by
  cases x.l <;> simp
 rw [h]
 exact ⟨fun h => ⟨h.1.elim fun y hy => ⟨y, hy.1, hy.2.symm⟩, h.2⟩, fun h => ⟨h.1.elim fun y hy => ⟨y, hy.1, hy.2.symm⟩, h.2⟩⟩
theorem pruneU_rise {l : List UsM} {t : Int} (h : RiseK UsM.u l) : RiseK UsM.u (pruneU l t) := by
 unfold pruneU RiseK
 refine List.Pairwise.filter _ ?_
 rw [List.pairwise_map]
 exact h
theorem aft_rise {l : List StM} {t : Int} (h : RiseS l) : RiseS (aftS l t) := by
 obtain ⟨h1, h2⟩ := rise_iff.1 h
 exact rise_iff.2 ⟨fun s hs => h1 s (List.mem_filter.1 hs).1, h2.filter _⟩
theorem pruneU_ok {now : Int} {op : List OpM} {us : List UsM} {t : Int} (h : ∀ x ∈ us, OkU now op x) : ∀ x ∈ pruneU us t, OkU now op x := fun x hx => by
 obtain ⟨⟨y, hy, rfl⟩, h1⟩ := pruneU_mem.1 hx
 have h2 := h y hy
 exact ⟨h2.1, h1, aft_rise h2.2.2.1, fun s hs => h2.2.2.2 s (List.mem_filter.1 hs).1⟩
theorem right_prune {s : SaM} (h : RightS s) : RightS (pruneS s) :=
 ⟨h.now, h.hor, h.op, h.frm, pruneU_ok h.us, pruneU_rise h.ur, h.su.filter _, h.tb, h.tr⟩
structure InsAt {α : Type} (key : α → ByteArray) (u : ByteArray) (m l : List α) (j : Nat) (done : Bool) (out : List α) : Prop where
 row : out = (l.take j).filter (belK key u) ++ ((if done = true then m else []) ++ (l.take j).filter (abvK key u))
 low : done = false → ∀ i (h : i < l.length), i < j → cmpS (key l[i]) u < 0
 hit : done = true → m = [] ∨ ∃ i, ∃ h : i < l.length, i < j ∧ ¬ cmpS (key l[i]) u < 0
theorem InsAt.start {α : Type} {key : α → ByteArray} {u : ByteArray} {m l : List α} {done : Bool} (h : done = true → m = []) : InsAt key u m l 0 done [] := by
 refine ⟨?_, fun _ i _ hi => absurd hi (by omega), fun hd => .inl (h hd)⟩
 cases done with
 | false => simp
 | true => simp [h rfl]
theorem take_next_filter {α : Type} (p : α → Bool) (l : List α) (j : Nat) (h : j < l.length) : (l.take (j + 1)).filter p = (l.take j).filter p ++ (if p l[j] = true then [l[j]] else []) := by
 rw [List.take_succ_eq_append_getElem h, List.filter_append, List.filter_cons, List.filter_nil]
theorem abv_none {α : Type} {key : α → ByteArray} {u : ByteArray} {l : List α} {j : Nat} (h : ∀ i (h : i < l.length), i < j → cmpS (key l[i]) u < 0) : (l.take j).filter (abvK key u) = [] := by
 rw [List.filter_eq_nil_iff]
 intro x hx hk
 obtain ⟨i, hi, hij, rfl⟩ := mem_take_get hx
 exact cmpS_asym (h i hi hij) (abvK_iff.1 hk)
theorem low_of {α : Type} {key : α → ByteArray} {u : ByteArray} {l : List α} (hr : RiseK key l) {j : Nat} (hj : j < l.length) (hlt : cmpS (key l[j]) u < 0) : ∀ i (h : i < l.length), i < j → cmpS (key l[i]) u < 0 := fun i hi hij =>
 cmpS_trans (List.pairwise_iff_getElem.1 hr i j hi hj hij) hlt
theorem InsAt.below {α : Type} {key : α → ByteArray} {u : ByteArray} {m l : List α} {j : Nat} {done : Bool} {out : List α} (h : InsAt key u m l j done out) (hr : RiseK key l) (hj : j < l.length) (hlt : cmpS (key l[j]) u < 0) : InsAt key u m l (j + 1) done (out ++ [l[j]]) := by
 have h1 := low_of hr hj hlt
 have h2 : (if done = true then m else []) = [] := by
  cases hd : done with
  | false => rfl
  | true =>
   rcases h.hit hd with h3 | ⟨i, hi, hij, h3⟩
   ·simp [h3]
   ·exact absurd (h1 i hi hij) h3
 have hb : belK key u l[j] = true := belK_iff.2 hlt
 have ha : ¬ abvK key u l[j] = true := fun ha => cmpS_asym hlt (abvK_iff.1 ha)
 refine ⟨?_, fun hd i hi hij => ?_, fun hd => ?_⟩
 ·rw [h.row, h2, take_next_filter _ _ _ hj, take_next_filter _ _ _ hj, if_pos hb, if_neg ha, abv_none h1]
  simp
 ·rcases Nat.lt_or_ge i j with h3 | h3
  ·exact h1 i hi h3
  ·obtain rfl : i = j := by omega
   exact hlt
 ·rcases h.hit hd with h3 | ⟨i, hi, hij, h3⟩
  ·exact .inl h3
  ·exact .inr ⟨i, hi, by omega, h3⟩
theorem InsAt.same {α : Type} {key : α → ByteArray} {u : ByteArray} {m l : List α} {j : Nat} {out : List α} (h : InsAt key u m l j true out) (hj : j < l.length) (he : key l[j] = u) : InsAt key u m l (j + 1) true out := by
 have hb : ¬ belK key u l[j] = true := fun hb => cmpS_ne (belK_iff.1 hb) he
 have ha : ¬ abvK key u l[j] = true := fun ha => cmpS_ne (abvK_iff.1 ha) he.symm
 refine ⟨?_, fun hd => (by cases hd), fun hd => ?_⟩
 ·rw [h.row, take_next_filter _ _ _ hj, take_next_filter _ _ _ hj, if_neg hb, if_neg ha, List.append_nil, List.append_nil]
 ·rcases h.hit hd with h3 | ⟨i, hi, hij, h3⟩
  ·exact .inl h3
  ·exact .inr ⟨i, hi, by omega, h3⟩
theorem InsAt.lay {α : Type} {key : α → ByteArray} {u : ByteArray} {m l : List α} {j : Nat} {out : List α} (h : InsAt key u m l j false out) (hr : RiseK key l) (hj : j < l.length) (hge : ¬ cmpS (key l[j]) u < 0) :
  (key l[j] = u → InsAt key u m l (j + 1) true (out ++ m)) ∧ (cmpS u (key l[j]) < 0 → InsAt key u m l (j + 1) true ((out ++ m) ++ [l[j]])) := by
 have h1 := h.low rfl
 have hb : ¬ belK key u l[j] = true := fun hb => hge (belK_iff.1 hb)
 have hro := h.row
 rw [abv_none h1, if_neg Bool.false_ne_true, List.append_nil, List.append_nil] at hro
 constructor
 ·intro he
  have ha : ¬ abvK key u l[j] = true := fun ha => cmpS_ne (abvK_iff.1 ha) he.symm
  refine ⟨?_, fun hd => (by cases hd), fun _ => .inr ⟨j, hj, by omega, hge⟩⟩
  rw [hro, take_next_filter _ _ _ hj, take_next_filter _ _ _ hj, if_neg hb, if_neg ha, abv_none h1, if_pos rfl]
  simp
 ·intro hlt
  have ha : abvK key u l[j] = true := abvK_iff.2 hlt
  refine ⟨?_, fun hd => (by cases hd), fun _ => .inr ⟨j, hj, by omega, hge⟩⟩
  rw [hro, take_next_filter _ _ _ hj, take_next_filter _ _ _ hj, if_neg hb, if_pos ha, abv_none h1, if_pos rfl]
  simp
theorem InsAt.above {α : Type} {key : α → ByteArray} {u : ByteArray} {m l : List α} {j : Nat} {out : List α} (h : InsAt key u m l j true out) (hj : j < l.length) (hlt : cmpS u (key l[j]) < 0) : InsAt key u m l (j + 1) true (out ++ [l[j]]) := by
 have hb : ¬ belK key u l[j] = true := fun hb => cmpS_asym hlt (belK_iff.1 hb)
 have ha : abvK key u l[j] = true := abvK_iff.2 hlt
 refine ⟨?_, fun hd => (by cases hd), fun hd => ?_⟩
 ·rw [h.row, take_next_filter _ _ _ hj, take_next_filter _ _ _ hj, if_neg hb, if_pos ha]
  simp
 ·rcases h.hit hd with h3 | ⟨i, hi, hij, h3⟩
  ·exact .inl h3
  ·exact .inr ⟨i, hi, by omega, h3⟩
theorem InsAt.done {α : Type} {key : α → ByteArray} {u : ByteArray} {m l : List α} {out : List α} (h : InsAt key u m l l.length true out) : out = insK key u m l := by
 rw [h.row, List.take_of_length_le (Nat.le_refl _), if_pos rfl]
 rfl
theorem InsAt.miss {α : Type} {key : α → ByteArray} {u : ByteArray} {m l : List α} {out : List α} (h : InsAt key u m l l.length false out) : out ++ m = insK key u m l := by
 have h1 := abv_none (h.low rfl)
 rw [List.take_of_length_le (Nat.le_refl _)] at h1
 rw [h.row, List.take_of_length_le (Nat.le_refl _), if_neg Bool.false_ne_true, h1]
 unfold insK
 rw [h1]
 simp
theorem InsAt.len {α : Type} {key : α → ByteArray} {u : ByteArray} {m l : List α} {j : Nat} {done : Bool} {out : List α} (h : InsAt key u m l j done out) : out.length ≤ j + m.length := by
 have h1 := insK_len (key := key) (u := u) (m := if done = true then m else []) (l := l.take j)
 have h2 : (if done = true then m else []).length ≤ m.length := by split <;> simp
 have h3 : (l.take j).length ≤ j := by rw [List.length_take]; omega
 unfold insK at h1
 rw [← h.row] at h1
 omega
def notBel {α : Type} (key : α → ByteArray) (u : ByteArray) (x : α) : Bool := !belK key u x
theorem fst_parts {α : Type} {key : α → ByteArray} {u : ByteArray} {l : List α} (hr : RiseK key l) {k : Nat} (h : IsFst (notBel key u) l k) : l.filter (belK key u) = l.take k ∧ (∀ x ∈ l.drop k, ¬ cmpS (key x) u < 0) := by
 have hlo : ∀ x ∈ l.take k, belK key u x = true := fun x hx => by
  have := h.take x hx
  unfold notBel at this
  simpa using this
 have hup : ∀ x ∈ l.drop k, ¬ cmpS (key x) u < 0 := fun x hx hlt => by
  obtain ⟨j, hj, hkj, rfl⟩ := mem_drop_get hx
  have h1 := h.hit (by omega)
  unfold notBel at h1
  have h2 : ¬ cmpS (key (l[k]'(by omega))) u < 0 := fun h2 => by rw [belK_iff.2 h2] at h1; cases h1
  rcases Nat.lt_or_ge k j with h3 | h3
  ·exact h2 (low_of hr hj hlt k (by omega) h3)
  ·obtain rfl : k = j := by omega
   exact h2 hlt
 refine ⟨?_, hup⟩
 have h3 : l.filter (belK key u) = (l.take k).filter (belK key u) ++ (l.drop k).filter (belK key u) := by rw [← List.filter_append, List.take_append_drop]
 rw [h3, List.filter_eq_self.2 hlo, List.filter_eq_nil_iff.2 fun x hx hb => hup x hx (belK_iff.1 hb), List.append_nil]
theorem ins_new {α : Type} {key : α → ByteArray} {u : ByteArray} {m l : List α} (hr : RiseK key l) {k : Nat} (h : IsFst (notBel key u) l k) (hn : ∀ x ∈ l, key x ≠ u) : insK key u m l = l.take k ++ (m ++ l.drop k) := by
 obtain ⟨h1, h2⟩ := fst_parts hr h
 unfold insK
 rw [h1]
 congr 2
 have h3 : l.filter (abvK key u) = (l.take k).filter (abvK key u) ++ (l.drop k).filter (abvK key u) := by rw [← List.filter_append, List.take_append_drop]
 rw [h3, List.filter_eq_nil_iff.2, List.nil_append, List.filter_eq_self.2]
 ·intro x hx
  rcases cmpS_tri (key x) u with h4 | h4 | h4
  ·exact absurd h4 (h2 x hx)
  ·exact absurd h4 (hn x (List.mem_of_mem_drop hx))
  ·exact abvK_iff.2 h4
 ·intro x hx ha
  rw [← h1] at hx
  exact cmpS_asym (belK_iff.1 (List.mem_filter.1 hx).2) (abvK_iff.1 ha)
theorem ins_old {α : Type} {key : α → ByteArray} {u : ByteArray} {m l : List α} (hr : RiseK key l) {k : Nat} (hk : k < l.length) (he : key l[k] = u) : insK key u m l = l.take k ++ (m ++ l.drop (k + 1)) := by
 have hpw := List.pairwise_iff_getElem.1 hr
 have hlo : ∀ x ∈ l.take k, cmpS (key x) u < 0 := fun x hx => by
  obtain ⟨j, hj, hjk, rfl⟩ := mem_take_get hx
  rw [← he]; exact hpw j k hj hk hjk
 have hup : ∀ x ∈ l.drop (k + 1), cmpS u (key x) < 0 := fun x hx => by
  obtain ⟨j, hj, hjk, rfl⟩ := mem_drop_get hx
  rw [← he]; exact hpw k j hk hj (by omega)
 have hl : l = l.take k ++ l[k] :: l.drop (k + 1) := by rw [← List.drop_eq_getElem_cons hk, List.take_append_drop]
 have hb : ¬ belK key u l[k] = true := fun hb => cmpS_ne (belK_iff.1 hb) he
 have ha : ¬ abvK key u l[k] = true := fun ha => cmpS_ne (abvK_iff.1 ha) he.symm
 have f1 : l.filter (belK key u) = l.take k := by
  conv => lhs; rw [hl]
  rw [List.filter_append, List.filter_cons, if_neg hb, List.filter_eq_self.2 fun x hx => belK_iff.2 (hlo x hx), List.filter_eq_nil_iff.2 fun x hx h => cmpS_asym (hup x hx) (belK_iff.1 h), List.append_nil]
 have f2 : l.filter (abvK key u) = l.drop (k + 1) := by
  conv => lhs; rw [hl]
  rw [List.filter_append, List.filter_cons, if_neg ha, List.filter_eq_nil_iff.2 fun x hx h => cmpS_asym (hlo x hx) (abvK_iff.1 h), List.filter_eq_self.2 fun x hx => abvK_iff.2 (hup x hx), List.nil_append]
 unfold insK
 rw [f1, f2]
theorem ins_out {α : Type} {key : α → ByteArray} {u : ByteArray} {l : List α} (hr : RiseK key l) : insK key u [] l = l.filter fun x => !isKy key u x := by
 refine riseK_ext (insK_rise hr (fun x hx => by cases hx) (by simp)) (List.Pairwise.filter _ hr) fun x => ?_
 rw [insK_mem, List.mem_filter]
 constructor
 ·rintro (h | ⟨h1, h2⟩)
  ·cases h
  ·refine ⟨h1, ?_⟩
   have h3 : isKy key u x = false := decide_eq_false h2
   rw [h3]; rfl
 ·rintro ⟨h1, h2⟩
  refine .inr ⟨h1, fun e => ?_⟩
  rw [isKy_iff.2 e] at h2
  cases h2
end Go.Proofs.YtjhdhfokhkcamaaGreat
namespace Go.Proofs.YtjhdhfokhkcamaaGreat
open Go.RowKit
set_option linter.unusedVariables false
set_option maxRecDepth 100000
set_option maxRecDepth 100000
theorem own_low {w : World} {B B' e k n : Nat} {v : Value} {xs : List Value} (h : w.ownsRow B e k v n xs) (hb : B' ≤ B) : w.ownsRow B' e k v n xs := by
 refine ⟨h.1, ?_⟩
 rcases h.2 with h0 | ⟨g, cap, cur, e0, hg, h1⟩
 ·exact .inl h0
 ·exact .inr ⟨g, cap, cur, e0, Nat.le_trans hb hg, h1⟩
theorem results_tmp_cell_tmp {fn : Func} {p u v : Tmp} {ty : TypeId} (h : fn.results = #[.tmp u, .cell p ty, .tmp v]) (tmps : Array Value) (P : Program) (w : World) :
  (results fn tmps).run P w = ((asAddr (tmps.getD p undef)).run P w).andThen fun a w₁ => ((loadVar ty a).run P w₁).andThen fun x w₂ => .ok (.tuple #[tmps.getD u undef, x, tmps.getD v undef]) w₂ := by
 simp only [results, h]
 simp [Sem.run_bind, Result.andThen]
 try (split <;> simp)
 all_goals try (split <;> simp)
def setO (W : World) (g : Nat) (a b c d : Value) : World := (((W.setCell ⟨g, 0, none⟩ a).setCell ⟨g, 1, none⟩ b).setCell ⟨g, 2, none⟩ c).setCell ⟨g, 3, none⟩ d
structure Zb (w : World) (g : Nat) (a b c d : Value) (t : TypeId) (W : World) : Prop where
 blk : W.heap[g]? = some (.cells #[a, b, c, d] t (0, 0))
 ge : w.heap.size ≤ g
 frame : Below w.heap.size w W
section
variable {w W W' : World} {g : Nat} {a b c d : Value} {t : TypeId}
theorem Zb.lt (h : Zb w g a b c d t W) : g < W.heap.size := heap_lt h.blk
theorem Zb.below (h : Zb w g a b c d t W) (q : Below W.heap.size W W') : Zb w g a b c d t W' := ⟨(q.block g h.lt).trans h.blk, h.ge, h.frame.trans (q.mono h.frame.size)⟩
theorem Zb.drew (h : Zb w g a b c d t W) : Zb w g a b c d t W.drew := h.below (Below.refl _ _).drew
theorem Zb.new (w : World) (a b c d : Value) (t : TypeId) : Zb w w.heap.size a b c d t (w.alloc (.cells #[a, b, c, d] t)) := ⟨heap_alloc_new w _, Nat.le_refl _, below_one _ _⟩
theorem Zb.cells (h : Zb w g a b c d t W) : W.cell? ⟨g, 0, none⟩ = some a ∧ W.cell? ⟨g, 1, none⟩ = some b ∧ W.cell? ⟨g, 2, none⟩ = some c ∧ W.cell? ⟨g, 3, none⟩ = some d := cells4 h.blk
theorem Zb.free (h : Zb w g a b c d t W) : W.frozen? ⟨g, 0, none⟩ = false ∧ W.frozen? ⟨g, 1, none⟩ = false ∧ W.frozen? ⟨g, 2, none⟩ = false ∧ W.frozen? ⟨g, 3, none⟩ = false :=
 ⟨frozen_of_row _ _ 0 _ _ h.blk, frozen_of_row _ _ 1 _ _ h.blk, frozen_of_row _ _ 2 _ _ h.blk, frozen_of_row _ _ 3 _ _ h.blk⟩
theorem Zb.set (h : Zb w g a b c d t W) (x y z v : Value) : Below w.heap.size w (setO W g x y z v) :=
 (((h.frame.setCell (p := ⟨g, 0, none⟩) h.ge x).setCell (p := ⟨g, 1, none⟩) h.ge y).setCell (p := ⟨g, 2, none⟩) h.ge z).setCell (p := ⟨g, 3, none⟩) h.ge v
theorem Zb.there (h : Zb w g a b c d t W) : W.there g 0 4 := fun j hj => by
 rw [Nat.zero_add]
 refine ⟨?_, frozen_of_row _ _ _ _ _ h.blk⟩
 rw [cell_of_row _ _ _ _ _ (0, 0) h.blk, Array.getElem?_eq_getElem (by simpa using hj)]
 rfl
theorem setO_cell (W : World) (g : Nat) (x y z v : Value) {p : Addr} (h : p.block ≠ g) : (setO W g x y z v).cell? p = W.cell? p := by
 unfold setO World.cell?
 rw [Below.heap_setCell _ _ _ _ h, Below.heap_setCell _ _ _ _ h, Below.heap_setCell _ _ _ _ h, Below.heap_setCell _ _ _ _ h]
theorem setO_size (W : World) (g : Nat) (x y z v : Value) : (setO W g x y z v).heap.size = W.heap.size := by
 unfold setO
 simp [World.setCell]
theorem OpSl.setO {l : List OpM} {A : Option Addr} (h : OpSl W A l) (g : Nat) (x y z v : Value) (hg : ∀ b o, A = some ⟨b, o, none⟩ → b ≠ g) : OpSl (setO W g x y z v) A l := fun k hk => by
 obtain ⟨b, off, e, hlt, h0, h1, h2, h3⟩ := h k hk
 have hne := hg b off e
 exact ⟨b, off, e, by rw [setO_size]; exact hlt, (setO_cell W g x y z v (p := ⟨b, off + k * 4, none⟩) hne).trans h0, (setO_cell W g x y z v (p := ⟨b, off + k * 4 + 1, none⟩) hne).trans h1, (setO_cell W g x y z v (p := ⟨b, off + k * 4 + 2, none⟩) hne).trans h2, (setO_cell W g x y z v (p := ⟨b, off + k * 4 + 3, none⟩) hne).trans h3⟩
end
section
variable {w W : World} {g : Nat} {a b c d : Value} {t : TypeId}
theorem Zb.loadS (h : Zb w g a b c d t W) (x y z v : Value) : (loadVar 86 ⟨g, 0, none⟩).run Tryz.prog (setO W g x y z v) = .ok (.agg #[x, y, z, v]) (setO W g x y z v) :=
 run_loadVar_mid (P := Tryz.prog) (W.setCells g 0 [x, y, z, v]) g 0 86 [x, y, z, v] _ (World.rangeAt_setCells_same _ _ _ _ h.there) Tryz.underlying86 rfl infoStay4
end
set_option maxHeartbeats 2000000 in
theorem find_any (a : Option Addr) (c : Nat) (l : List OpM) (n : Int) (u : ByteArray) (w : World) (hr : OpSl w a l) (hl : l.length ≤ 1000000) :
  Calls Tryz.prog 163 #[.slice a l.length c, .int .i64 n, .string u] w fun e w' => e = .returned (.tuple #[.int .i64 (findP l n u : Nat), .int .i64 (findC l n u)]) ∧ Below w.heap.size w w' := by
 have HR := Lib.hid hr
 clear hr
 have HM := Lib.hid (fun (h : IsFst (hasN n) l l.length) => fc_miss h u)
 have HU := Lib.hid (fun k (h : IsFst (hasN n) l k) (hk : k < l.length) (hu : ¬ l[k].u = u) => fc_user h hk hu)
 have HH := Lib.hid (fun k (h : IsFst (hasN n) l k) (hk : k < l.length) (hu : l[k].u = u) => fc_hit h hk hu)
 generalize findP l n u = P at *
 generalize findC l n u = C at *
 go_enter Tryz.func163, Tryz.ntmps163
 go_wp2
 go_step3
 go_wp2
 go_step3
 go_wp2
 go_loopw [8, 9, 14] (fun p q i wr => ∃ (j : Nat), j ≤ l.length ∧ p = .int .i64 0 ∧ q = .int .i64 101 ∧ i = .int .i64 j ∧ Hid (LoTo (hasN n) l j) ∧ Hid (Below w.heap.size w wr)) (fun _ _ i _ => l.length - (intOf i).toNat)
 case atStart => exact ⟨0, by omega, rfl, rfl, rfl, LoTo.zero _ _, Below.refl _ _⟩
 case round =>
  obtain ⟨j, hj, rfl, rfl, rfl, HO, HB⟩ := hrel
  by_cases hjl : j < l.length
  ·obtain ⟨b, off, rfl, hbl, hc0, hc1, hc2, hc3⟩ := (HR.out.below HB.out).at_ hjl
   have HNX := Lib.hid (HO.out.next hjl)
   have HHT := Lib.hid (fun h => HH.out j (HO.out.hit hjl h) hjl)
   have HHU := Lib.hid (fun h => HU.out j (HO.out.hit hjl h) hjl)
   have HB2 := Lib.hid (HB.out.trans ((below_one wr (.cells #[.int .i64 l[j].n, .string l[j].u, .int .i64 l[j].s, .int .i64 l[j].f] 112)).mono HB.out.size))
   generalize l[j] = x at *
   clear HM HU HH
   obtain ⟨xn, xu, xs, xf⟩ := x
   dsimp only at *
   by_cases h1 : xn = n
   ·subst h1
    have d1 : (xn != xn) = false := by simp
    have d1' : (xn == xn) = true := beq_self_eq_true _
    by_cases h2 : xu = u
    ·subst h2
     have d2 := txt_ns xu
     have d2' := txt_eq xu
     obtain ⟨e1, _, e3⟩ := HHT.out (decide_eq_true rfl) rfl
     subst e1 e3
     clear HNX HHT HHU HO
     go_wp2
     try rw [Exit.noGoto_ret]
     go_ret2
     exact ⟨by trivial, HB2.out⟩
    ·have d2 := txt_nt h2
     have d2' := txt_ne h2
     obtain ⟨e1, _, e3⟩ := HHU.out (decide_eq_true rfl) h2
     subst e1 e3
     clear HNX HHT HHU HO
     go_wp2
     try rw [Exit.noGoto_ret]
     go_ret2
     exact ⟨by trivial, HB2.out⟩
   ·have d1 : (xn != n) = true := by simp [h1]
    have d1' : (xn == n) = false := beq_eq_false_iff_ne.2 h1
    have HN := Lib.hid (HNX.out (decide_eq_false h1))
    clear HNX HHT HHU HO
    go_wp2
    go_roundw
    case rel => exact ⟨j + 1, by omega, rfl, rfl, by go_num, HN, HB2.out⟩
    case measure => simp [intOf]; omega
  ·obtain rfl : j = l.length := by omega
   obtain ⟨e1, _, e3⟩ := HM.out HO.out.miss
   subst e1 e3
   go_wp2
   try rw [Exit.noGoto_ret]
   go_ret2
   exact ⟨by trivial, HB.out⟩
end Go.Proofs.YtjhdhfokhkcamaaGreat
namespace Go.Proofs.YtjhdhfokhkcamaaGreat
open Go.RowKit
set_option linter.unusedVariables false
set_option maxRecDepth 100000
theorem six_get (x : SaL) (j : Nat) : (saC x)[j]? = some (.int .i64 x.now) ∧ j = 0 ∨ (saC x)[j]? = some (.int .i64 x.hor) ∧ j = 1 ∨ (∃ a n c, (saC x)[j]? = some (.slice a n c)) ∧ 2 ≤ j ∧ j ≤ 5 ∨ (saC x)[j]? = none := by
 match j with
 | 0 => exact .inl ⟨rfl, rfl⟩
 | 1 => exact .inr (.inl ⟨rfl, rfl⟩)
 | 2 => exact .inr (.inr (.inl ⟨⟨_, _, _, rfl⟩, by omega, by omega⟩))
 | 3 => exact .inr (.inr (.inl ⟨⟨_, _, _, rfl⟩, by omega, by omega⟩))
 | 4 => exact .inr (.inr (.inl ⟨⟨_, _, _, rfl⟩, by omega, by omega⟩))
 | 5 => exact .inr (.inr (.inl ⟨⟨_, _, _, rfl⟩, by omega, by omega⟩))
 | j + 6 => exact .inr (.inr (.inr (by simp [saC])))
theorem six_string {W : World} {g : Nat} {x : SaL} {t : TypeId} (h : W.heap[g]? = some (.cells (saC x) t (0, 0))) {j : Nat} {s : ByteArray} : ¬ W.cell? ⟨g, j, none⟩ = some (.string s) := fun e => by
 rw [cell_of_row _ _ _ _ _ (0, 0) h] at e
 rcases six_get x j with ⟨h1, _⟩ | ⟨h1, _⟩ | ⟨⟨a, n, c, h1⟩, _⟩ | h1 <;> (rw [h1] at e; cases e)
theorem six_int {W : World} {g : Nat} {x : SaL} {t : TypeId} (h : W.heap[g]? = some (.cells (saC x) t (0, 0))) {j : Nat} {k : IntKind} {n : Int} (e : W.cell? ⟨g, j, none⟩ = some (.int k n)) : j ≤ 1 := by
 rw [cell_of_row _ _ _ _ _ (0, 0) h] at e
 rcases six_get x j with ⟨_, h1⟩ | ⟨_, h1⟩ | ⟨⟨a, n, c, h1⟩, _⟩ | h1
 ·omega
 ·omega
 ·rw [h1] at e; cases e
 ·rw [h1] at e; cases e
theorem cell_far {W : World} {g i : Nat} {v : Value} {p : Addr} (h : p.block ≠ g) : (W.setCell ⟨g, i, none⟩ v).cell? p = W.cell? p := by
 unfold World.cell?
 rw [Below.heap_setCell _ _ _ _ h]
theorem size_set (W : World) (p : Addr) (v : Value) : (W.setCell p v).heap.size = W.heap.size := by simp [World.setCell]
theorem block_far {W : World} {g i b : Nat} {v : Value} (h : b ≠ g) : (W.setCell ⟨g, i, none⟩ v).heap[b]? = W.heap[b]? := Below.heap_setCell _ _ _ _ h
section
variable {W : World} {g : Nat} {x : SaL} {t : TypeId}
theorem OpSl.setB (h : W.heap[g]? = some (.cells (saC x) t (0, 0))) {a : Option Addr} {l : List OpM} (ho : OpSl W a l) (i : Nat) (v : Value) : OpSl (W.setCell ⟨g, i, none⟩ v) a l := fun k hk => by
 obtain ⟨b, off, e, hlt, h0, h1, h2, h3⟩ := ho k hk
 have hne : b ≠ g := fun e => by subst e; exact six_string h h1
 exact ⟨b, off, e, by rw [size_set]; exact hlt, (cell_far (p := ⟨b, off + k * 4, none⟩) hne).trans h0, (cell_far (p := ⟨b, off + k * 4 + 1, none⟩) hne).trans h1, (cell_far (p := ⟨b, off + k * 4 + 2, none⟩) hne).trans h2, (cell_far (p := ⟨b, off + k * 4 + 3, none⟩) hne).trans h3⟩
theorem EnSl.setB (h : W.heap[g]? = some (.cells (saC x) t (0, 0))) {a : Option Addr} {l : List EnM} (ho : EnSl W a l) (i : Nat) (v : Value) : EnSl (W.setCell ⟨g, i, none⟩ v) a l := fun k hk => by
 obtain ⟨b, off, e, hlt, h0, h1, h2, h3⟩ := ho k hk
 have hne : b ≠ g := fun e => by subst e; exact six_string h h1
 exact ⟨b, off, e, by rw [size_set]; exact hlt, (cell_far (p := ⟨b, off + k * 4, none⟩) hne).trans h0, (cell_far (p := ⟨b, off + k * 4 + 1, none⟩) hne).trans h1, (cell_far (p := ⟨b, off + k * 4 + 2, none⟩) hne).trans h2, (cell_far (p := ⟨b, off + k * 4 + 3, none⟩) hne).trans h3⟩
theorem StSl.setB (h : W.heap[g]? = some (.cells (saC x) t (0, 0))) {a : Option Addr} {l : List StM} (ho : StSl W a l) (i : Nat) (v : Value) : StSl (W.setCell ⟨g, i, none⟩ v) a l := fun k hk => by
 obtain ⟨b, off, e, hlt, h0, h1, h2, h3⟩ := ho k hk
 have hne : b ≠ g := fun e => by
  subst e
  have := six_int h h3
  omega
 exact ⟨b, off, e, by rw [size_set]; exact hlt, (cell_far (p := ⟨b, off + k * 4, none⟩) hne).trans h0, (cell_far (p := ⟨b, off + k * 4 + 1, none⟩) hne).trans h1, (cell_far (p := ⟨b, off + k * 4 + 2, none⟩) hne).trans h2, (cell_far (p := ⟨b, off + k * 4 + 3, none⟩) hne).trans h3⟩
theorem PpSl.setB (h : W.heap[g]? = some (.cells (saC x) t (0, 0))) {a : Option Addr} {l : List (Value × Value)} (hs : ∀ y ∈ l, ∃ s, y.1 = .string s) (ho : PpSl W a l) (i : Nat) (v : Value) : PpSl (W.setCell ⟨g, i, none⟩ v) a l := fun k hk => by
 obtain ⟨b, off, e, hlt, h0, h1⟩ := ho k hk
 have hne : b ≠ g := fun e => by
  subst e
  obtain ⟨s, hs⟩ := hs _ (List.getElem_mem hk)
  rw [hs] at h0
  exact six_string h h0
 exact ⟨b, off, e, by rw [size_set]; exact hlt, (cell_far (p := ⟨b, off + k * 2, none⟩) hne).trans h0, (cell_far (p := ⟨b, off + k * 2 + 1, none⟩) hne).trans h1⟩
theorem TbSl.setB (h : W.heap[g]? = some (.cells (saC x) t (0, 0))) {a : Option Addr} {l : List TbM} (ho : TbSl W a l) (i : Nat) (v : Value) : TbSl (W.setCell ⟨g, i, none⟩ v) a l :=
 PpSl.setB h (fun y hy => by obtain ⟨z, _, rfl⟩ := List.mem_map.1 hy; exact ⟨_, rfl⟩) ho i v
theorem UsAt.setB (h : W.heap[g]? = some (.cells (saC x) t (0, 0))) {y : UsL} (ho : UsAt W y) (i : Nat) (v : Value) : UsAt (W.setCell ⟨g, i, none⟩ v) y := ⟨ho.st.setB h i v, ho.le, ho.mx, ho.nil⟩
theorem UsSl.setB (h : W.heap[g]? = some (.cells (saC x) t (0, 0))) {a : Option Addr} {l : List UsL} (ho : UsSl W a l) (i : Nat) (v : Value) : UsSl (W.setCell ⟨g, i, none⟩ v) a l :=
 ⟨PpSl.setB h (fun y hy => by obtain ⟨z, _, rfl⟩ := List.mem_map.1 hy; exact ⟨_, rfl⟩) ho.row i v, fun y hy => (ho.at_ y hy).setB h i v⟩
theorem SaAt.setB (h : W.heap[g]? = some (.cells (saC x) t (0, 0))) {y : SaL} (ho : SaAt W y) (i : Nat) (v : Value) : SaAt (W.setCell ⟨g, i, none⟩ v) y :=
 ⟨ho.op.setB h i v, ho.us.setB h i v, ho.su.setB h i v, ho.tb.setB h i v, ho.oc, ho.uc, ho.sc, ho.tc⟩
end
structure SB (w : World) (g : Nat) (t : TypeId) (x : SaL) (W : World) : Prop where
 blk : W.heap[g]? = some (.cells (saC x) t (0, 0))
 ge : w.heap.size ≤ g
 frame : Below w.heap.size w W
 at_ : SaAt W x
section
variable {w W W' : World} {g : Nat} {x : SaL} {t : TypeId}
theorem SB.lt (h : SB w g t x W) : g < W.heap.size := heap_lt h.blk
theorem SB.below (h : SB w g t x W) (q : Below W.heap.size W W') : SB w g t x W' := ⟨(q.block g h.lt).trans h.blk, h.ge, h.frame.trans (q.mono h.frame.size), h.at_.below q⟩
theorem SB.alloc (h : SB w g t x W) (o : Obj) : SB w g t x (W.alloc o) := h.below (below_one _ _)
theorem SB.drew (h : SB w g t x W) : SB w g t x W.drew := h.below (Below.refl _ _).drew
theorem SB.new {V : World} (hb : Below w.heap.size w V) (h : SaAt V x) (t : TypeId) : SB w V.heap.size t x (V.alloc (.cells (saC x) t)) := ⟨heap_alloc_new _ _, hb.size, hb.trans ((below_one _ _).mono hb.size), h.below (below_one _ _)⟩
theorem SB.cells (h : SB w g t x W) : W.cell? ⟨g, 0, none⟩ = some (.int .i64 x.now) ∧ W.cell? ⟨g, 1, none⟩ = some (.int .i64 x.hor) ∧ W.cell? ⟨g, 2, none⟩ = some (.slice x.oa x.op.length x.oc) ∧ W.cell? ⟨g, 3, none⟩ = some (.slice x.ua x.us.length x.uc) ∧ W.cell? ⟨g, 4, none⟩ = some (.slice x.sa x.su.length x.sc) ∧ W.cell? ⟨g, 5, none⟩ = some (.slice x.ta x.tb.length x.tc) :=
 ⟨cell_of_row _ _ _ _ _ _ h.blk, cell_of_row _ _ _ _ _ _ h.blk, cell_of_row _ _ _ _ _ _ h.blk, cell_of_row _ _ _ _ _ _ h.blk, cell_of_row _ _ _ _ _ _ h.blk, cell_of_row _ _ _ _ _ _ h.blk⟩
theorem SB.free (h : SB w g t x W) : W.frozen? ⟨g, 0, none⟩ = false ∧ W.frozen? ⟨g, 1, none⟩ = false ∧ W.frozen? ⟨g, 2, none⟩ = false ∧ W.frozen? ⟨g, 3, none⟩ = false ∧ W.frozen? ⟨g, 4, none⟩ = false ∧ W.frozen? ⟨g, 5, none⟩ = false :=
 ⟨frozen_of_row _ _ 0 _ _ h.blk, frozen_of_row _ _ 1 _ _ h.blk, frozen_of_row _ _ 2 _ _ h.blk, frozen_of_row _ _ 3 _ _ h.blk, frozen_of_row _ _ 4 _ _ h.blk, frozen_of_row _ _ 5 _ _ h.blk⟩
theorem SB.setNow (h : SB w g t x W) (n : Int) : SB w g t { x with now := n } (W.setCell ⟨g, 0, none⟩ (.int .i64 n)) :=
 ⟨heap_setCell_at h.blk 0 _, h.ge, h.frame.setCell (p := ⟨g, 0, none⟩) h.ge _, by have := h.at_.setB h.blk 0 (.int .i64 n); exact ⟨this.op, this.us, this.su, this.tb, this.oc, this.uc, this.sc, this.tc⟩⟩
theorem SB.setHor (h : SB w g t x W) (n : Int) : SB w g t { x with hor := n } (W.setCell ⟨g, 1, none⟩ (.int .i64 n)) :=
 ⟨heap_setCell_at h.blk 1 _, h.ge, h.frame.setCell (p := ⟨g, 1, none⟩) h.ge _, by have := h.at_.setB h.blk 1 (.int .i64 n); exact ⟨this.op, this.us, this.su, this.tb, this.oc, this.uc, this.sc, this.tc⟩⟩
theorem SB.setOp (h : SB w g t x W) {a : Option Addr} {l : List OpM} {n c : Nat} (hn : n = l.length) (ho : OpSl W a l) (hc : Cp a l.length c) : SB w g t { x with oa := a, op := l, oc := c } (W.setCell ⟨g, 2, none⟩ (.slice a n c)) := by
 subst hn
 exact ⟨heap_setCell_at h.blk 2 _, h.ge, h.frame.setCell (p := ⟨g, 2, none⟩) h.ge _, by have := h.at_.setB h.blk 2 (.slice a l.length c); exact ⟨ho.setB h.blk 2 _, this.us, this.su, this.tb, hc, this.uc, this.sc, this.tc⟩⟩
theorem SB.setUs (h : SB w g t x W) {a : Option Addr} {l : List UsL} {n c : Nat} (hn : n = l.length) (ho : UsSl W a l) (hc : Cp a l.length c) : SB w g t { x with ua := a, us := l, uc := c } (W.setCell ⟨g, 3, none⟩ (.slice a n c)) := by
 subst hn
 exact ⟨heap_setCell_at h.blk 3 _, h.ge, h.frame.setCell (p := ⟨g, 3, none⟩) h.ge _, by have := h.at_.setB h.blk 3 (.slice a l.length c); exact ⟨this.op, ho.setB h.blk 3 _, this.su, this.tb, this.oc, hc, this.sc, this.tc⟩⟩
theorem SB.setSu (h : SB w g t x W) {a : Option Addr} {l : List EnM} {n c : Nat} (hn : n = l.length) (ho : EnSl W a l) (hc : Cp a l.length c) : SB w g t { x with sa := a, su := l, sc := c } (W.setCell ⟨g, 4, none⟩ (.slice a n c)) := by
 subst hn
 exact ⟨heap_setCell_at h.blk 4 _, h.ge, h.frame.setCell (p := ⟨g, 4, none⟩) h.ge _, by have := h.at_.setB h.blk 4 (.slice a l.length c); exact ⟨this.op, this.us, ho.setB h.blk 4 _, this.tb, this.oc, this.uc, hc, this.tc⟩⟩
theorem SB.setTb (h : SB w g t x W) {a : Option Addr} {l : List TbM} {n c : Nat} (hn : n = l.length) (ho : TbSl W a l) (hc : Cp a l.length c) : SB w g t { x with ta := a, tb := l, tc := c } (W.setCell ⟨g, 5, none⟩ (.slice a n c)) := by
 subst hn
 exact ⟨heap_setCell_at h.blk 5 _, h.ge, h.frame.setCell (p := ⟨g, 5, none⟩) h.ge _, by have := h.at_.setB h.blk 5 (.slice a l.length c); exact ⟨this.op, this.us, this.su, ho.setB h.blk 5 _, this.oc, this.uc, this.sc, hc⟩⟩
end
def setS (W : World) (g : Nat) (y : SaL) : World := (((((W.setCell ⟨g, 0, none⟩ (.int .i64 y.now)).setCell ⟨g, 1, none⟩ (.int .i64 y.hor)).setCell ⟨g, 2, none⟩ (.slice y.oa y.op.length y.oc)).setCell ⟨g, 3, none⟩ (.slice y.ua y.us.length y.uc)).setCell ⟨g, 4, none⟩ (.slice y.sa y.su.length y.sc)).setCell ⟨g, 5, none⟩ (.slice y.ta y.tb.length y.tc)
section
variable {w W W' : World} {g : Nat} {x : SaL} {t : TypeId}
theorem SB.set (h : SB w g t x W) {y : SaL} (hy : SaAt W y) : SB w g t y (setS W g y) := by
 have h0 := h.setNow y.now
 have y0 := hy.setB h.blk 0 (.int .i64 y.now)
 have h1 := h0.setHor y.hor
 have y1 := y0.setB h0.blk 1 (.int .i64 y.hor)
 have h2 := h1.setOp rfl y1.op y1.oc
 have y2 := y1.setB h1.blk 2 (.slice y.oa y.op.length y.oc)
 have h3 := h2.setUs rfl y2.us y2.uc
 have y3 := y2.setB h2.blk 3 (.slice y.ua y.us.length y.uc)
 have h4 := h3.setSu rfl y3.su y3.sc
 have y4 := y3.setB h3.blk 4 (.slice y.sa y.su.length y.sc)
 exact h4.setTb rfl y4.tb y4.tc
theorem SB.far {g' : Nat} {x' : SaL} {t' : TypeId} (h : SB w g t x W) (h' : SB w g' t' x' W) (hne : g ≠ g') (i : Nat) (v : Value) : SB w g t x (W.setCell ⟨g', i, none⟩ v) :=
 ⟨(block_far hne).trans h.blk, h.ge, h.frame.setCell (p := ⟨g', i, none⟩) h'.ge _, h.at_.setB h'.blk i v⟩
end
theorem infoSa6 : (Tryz.prog.info? 38).map (·.size) = some 6 := by kernel_rfl
theorem infoSaR6 : (Tryz.prog.info? 27).map (·.size) = some 6 := by kernel_rfl
theorem loadS6 {W : World} {g : Nat} {x : SaL} {t : TypeId} (h : W.heap[g]? = some (.cells (saC x) t (0, 0))) : (loadVar 38 ⟨g, 0, none⟩).run Tryz.prog W = .ok (saV x) W :=
 run_loadVar_mid (P := Tryz.prog) W g 0 38 (saC x).toList _ (fun j v hv => by
  rw [Nat.zero_add, cell_of_row _ _ _ _ _ (0, 0) h]
  rw [Array.getElem?_toList] at hv
  exact hv) Tryz.underlying38 rfl infoSa6
theorem loadR6 {W : World} {g : Nat} {x : SaL} {t : TypeId} (h : W.heap[g]? = some (.cells (saC x) t (0, 0))) : (loadVar 27 ⟨g, 0, none⟩).run Tryz.prog W = .ok (saV x) W :=
 run_loadVar_mid (P := Tryz.prog) W g 0 27 (saC x).toList _ (fun j v hv => by
  rw [Nat.zero_add, cell_of_row _ _ _ _ _ (0, 0) h]
  rw [Array.getElem?_toList] at hv
  exact hv) Tryz.underlying27 rfl infoSaR6
structure RB (w : World) (g : Nat) (cs : Array Value) (t : TypeId) (W : World) : Prop where
 blk : W.heap[g]? = some (.cells cs t (0, 0))
theorem RB.below {w W W' : World} {g : Nat} {cs : Array Value} {t : TypeId} (h : RB w g cs t W) (q : Below W.heap.size W W') : RB w g cs t W' := ⟨(q.block g (heap_lt h.blk)).trans h.blk⟩
theorem RB.new (w V : World) (cs : Array Value) (t : TypeId) : RB w V.heap.size cs t (V.alloc (.cells cs t)) := ⟨heap_alloc_new _ _⟩
theorem RB.cell {w W : World} {g : Nat} {cs : Array Value} {t : TypeId} (h : RB w g cs t W) (j : Nat) : W.cell? ⟨g, j, none⟩ = cs[j]? := cell_of_row _ _ _ _ _ (0, 0) h.blk
end Go.Proofs.YtjhdhfokhkcamaaGreat
namespace Go.Proofs.YtjhdhfokhkcamaaGreat
open Go.RowKit Go.Proofs
set_option linter.unusedVariables false
set_option maxRecDepth 100000
set_option maxRecDepth 100000
theorem ogrow_any (n : Nat) (w : World) (hn : n ≤ 1000000) : Calls Tryz.prog 189 #[.slice none 0 0, .int .i64 n] w fun e w' => ∃ v, e = .returned v ∧ w'.ownsRow w.heap.size 112 4 v 0 [] ∧ Below w.heap.size w w' := by
 obtain ⟨i0, hi, hz0, hz1, hz2⟩ := info_parts infoOp
 rcases Nat.eq_zero_or_pos n with h0 | h0
 ·subst h0
  have h := Any8.slices_Grow_room Tryz.laysGrowOp none 0 0 0 w (by omega) (by omega) (by omega) (by omega)
  refine Calls.mono h ?_
  rintro e w' ⟨rfl, rfl⟩
  exact ⟨_, rfl, ⟨rfl, .inl ⟨rfl, rfl⟩⟩, Below.refl _ _⟩
 ·have h := Any8.slices_Grow_grow Tryz.laysGrowOp i0 _ hi hz0 (by rw [hz1]; omega) none 0 0 n [] w (by omega) (by omega) (by rw [hz2]; omega) (by omega) (by simp) (fun _ => rfl) (fun a h => by cases h)
  refine Calls.mono h ?_
  rintro e w' ⟨rfl, rfl⟩
  have hge := grownCap_ge w (0 + n) 0 112
  have hle := grownCap_le_maxLen w (0 + n) 0 112 (by unfold maxLen; omega)
  refine ⟨_, rfl, ⟨rfl, .inr ⟨w.heap.size, _, _, rfl, Nat.le_refl _, heap_alloc_new w.drew _, Nat.zero_le _, hle, ?_, by simp⟩⟩, ?_⟩
  ·simp only [Array.size_append, size_zeroCells]
   show 0 + (0 + n - 0) * 4 + (grownCap w (0 + n) 0 112 - (0 + n)) * 4 = grownCap w (0 + n) 0 112 * 4
   omega
  ·exact (Below.refl w.heap.size w).drew.alloc (Nat.le_refl _) _
structure OpR where
 a : Option Addr
 l : List OpM
 c : Nat
def oprV (r : OpR) : Value := .slice r.a r.l.length r.c
def catO (R : List OpR) : List OpM := R.flatMap (·.l)
theorem catO_take (R : List OpR) (j : Nat) (h : j < R.length) : catO (R.take (j + 1)) = catO (R.take j) ++ R[j].l := by
 unfold catO
 rw [List.take_succ_eq_append_getElem h, List.flatMap_append]
 simp
theorem catO_le (R : List OpR) (j : Nat) : (catO (R.take j)).length ≤ (catO R).length := by
 have : catO R = catO (R.take j) ++ catO (R.drop j) := by
  unfold catO
  rw [← List.flatMap_append, List.take_append_drop]
 rw [this, List.length_append]
 omega
def OpRAt (w : World) (r : OpR) : Prop := OpSl w r.a r.l ∧ (r.a = none → r.c = 0)
theorem orows_at {w : World} {a : Option Addr} {R : List OpR} (h : Sl w a (R.map oprV)) {k : Nat} (hk : k < R.length) : ∃ b off, a = some ⟨b, off, none⟩ ∧ b < w.heap.size ∧ w.cell? ⟨b, off + k, none⟩ = some (oprV R[k]) := by
 obtain ⟨b, off, e, hlt, hc⟩ := h k (by simpa using hk)
 exact ⟨b, off, e, hlt, by rw [hc]; simp⟩
set_option maxHeartbeats 1000000 in
theorem oconcat_any (a : Option Addr) (c : Nat) (R : List OpR) (w : World) (hr : Sl w a (R.map oprV)) (hR : ∀ r ∈ R, OpRAt w r) (hl : R.length ≤ 100000) (hs : (catO R).length ≤ 100000) :
  Calls Tryz.prog 162 #[.slice a R.length c] w fun e w' => ∃ v, e = .returned v ∧ w'.ownsRow w.heap.size 112 4 v (catO R).length (oes (catO R)) ∧ Below w.heap.size w w' := by
 obtain ⟨i0, hi, hz0, hz1, hz2⟩ := info_parts infoOp
 have HR := Lib.hid hr
 have HRR := Lib.hid hR
 have HG := Lib.hid (ogrow_any (catO R).length w (by omega))
 clear hr hR
 go_enter Tryz.func162, Tryz.ntmps162
 go_wp2
 go_loopw [3, 11] (fun v i wr => ∃ (j s : Nat), j ≤ R.length ∧ i = .int .i64 j ∧ v = .int .i64 s ∧ s ≤ 100000 ∧ Hid (s = (catO (R.take j)).length) ∧ wr = w) (fun _ i _ => R.length - (intOf i).toNat)
 case atStart => exact ⟨0, 0, by omega, rfl, rfl, by omega, rfl, rfl⟩
 case round =>
  obtain ⟨j, s, hj, rfl, rfl, hs1, HS, hw⟩ := hrel
  obtain rfl : w = wr := hw.symm
  clear hw
  by_cases hjl : j < R.length
  ·obtain ⟨b, off, rfl, hbl, hc0⟩ := orows_at HR.out hjl
   have HN := Lib.hid (catO_take R j hjl)
   have hle := catO_le R (j + 1)
   rw [HN.out, List.length_append, ← HS.out] at hle
   generalize R[j] = x at *
   unfold oprV at hc0
   obtain ⟨xa, xl, xc⟩ := x
   simp only at hc0 hle HN
   have hsum : s + xl.length ≤ 100000 := by omega
   clear hle
   go_wp2
   go_roundw
   case rel => exact ⟨j + 1, s + xl.length, by omega, by go_num, by go_num, hsum, (by unfold Hid; rw [HN.out, List.length_append, ← HS.out]), (by first | rfl | trivial)⟩
   case measure => simp [intOf]; omega
  ·obtain rfl : j = R.length := by omega
   rw [List.take_of_length_le (Nat.le_refl _)] at HS
   have HS2 := HS.out
   subst HS2
   go_wp2_with fail
   refine HG.out.mono ?_
   rintro e w1 ⟨v, rfl, ho, hb⟩
   have HO := Lib.hid ho
   have HB := Lib.hid hb
   clear ho hb HG HS
   go_wp2
   go_loopw [6, 27] (fun v i wx => ∃ (j : Nat), j ≤ R.length ∧ i = .int .i64 j ∧ Hid (wx.ownsRow w.heap.size 112 4 v (catO (R.take j)).length (oes (catO (R.take j)))) ∧ Hid (Below w.heap.size w wx)) (fun _ i _ => R.length - (intOf i).toNat)
   case atStart => exact ⟨0, by omega, rfl, HO.out, HB.out⟩
   case round =>
    obtain ⟨j, hj, rfl, HO, HB⟩ := hrel
    by_cases hjl : j < R.length
    ·obtain ⟨b, off, rfl, hbl, hc0⟩ := orows_at (HR.out.below HB.out) hjl
     have HN := Lib.hid (catO_take R j hjl)
     have hle := catO_le R (j + 1)
     have hle2 := catO_le R j
     rw [HN.out, List.length_append] at hle
     have HX := Lib.hid (HRR.out _ (List.getElem_mem hjl))
     generalize R[j] = x at *
     unfold oprV at hc0
     obtain ⟨xa, xl, xc⟩ := x
     simp only at hc0 hle HN
     obtain ⟨hx1, hx2⟩ := HX.out
     simp only at hx1 hx2
     have HX1 := Lib.hid (hx1.below HB.out)
     have HX2 := Lib.hid hx2
     generalize hct : catO (R.take j) = ct at *
     have hsum : ct.length + xl.length ≤ 1000000 := by omega
     clear hle hle2 hx1 hx2 HX hct
     go_wp2_with (at_builtin; refine wpList_append_op _ rfl (.tmp 31) (.tmp 32) 33 rfl w.heap.size 112 i0 _ Tryz.underlying33 hi hz0 hz1 hz2 rfl _ ct rfl HO.out xa xc xl rfl HX1.out HX2.out hsum HB.out.size ?_; intro v2 w2 hown2 hB2)
     have HO2 := Lib.hid hown2
     have HB2 := Lib.hid (HB.out.trans hB2)
     clear hown2 hB2
     go_wp2
     go_roundw
     case rel => exact ⟨j + 1, by omega, by go_num, (by unfold Hid; rw [HN.out]; exact HO2.out), HB2⟩
     case measure => simp [intOf]; omega
    ·obtain rfl : j = R.length := by omega
     rw [List.take_of_length_le (Nat.le_refl _)] at HO
     go_wp2
     go_ret
     exact ⟨_, rfl, HO.out, HB.out⟩
theorem own_emptyO (w : World) (e : TypeId) (k B : Nat) (hB : B ≤ w.heap.size) : (w.alloc (.cells #[] e)).ownsRow B e k (.slice (some ⟨w.heap.size, 0, none⟩) 0 0) 0 [] :=
 ⟨by simp, .inr ⟨w.heap.size, 0, #[], rfl, hB, heap_alloc_new w _, Nat.le_refl _, by unfold maxLen; omega, by simp, by simp⟩⟩
end Go.Proofs.YtjhdhfokhkcamaaGreat
namespace Go.Proofs.YtjhdhfokhkcamaaGreat
open Go.RowKit
set_option linter.unusedVariables false
set_option maxRecDepth 100000
set_option maxRecDepth 100000
theorem aft_take (l : List StM) (t : Int) (j : Nat) (h : j < l.length) : aftS (l.take (j + 1)) t = aftS (l.take j) t ++ (if t < l[j].t then [l[j]] else []) := by
 unfold aftS
 rw [List.take_succ_eq_append_getElem h, List.filter_append, List.filter_cons, List.filter_nil]
 by_cases h1 : t < l[j].t <;> simp [h1]
theorem aft_len (l : List StM) (t : Int) (j : Nat) : (aftS (l.take j) t).length ≤ j := by
 unfold aftS
 exact Nat.le_trans (List.length_filter_le _ _) (by simp; omega)
set_option maxHeartbeats 2000000 in
theorem after_any (a : Option Addr) (c : Nat) (l : List StM) (t : Int) (w : World) (hr : StSl w a l) (hl : l.length ≤ 1000000) :
  Calls Tryz.prog 76 #[.slice a l.length c, .int .i64 t] w fun e w' => ∃ (v : Value), e = .returned v ∧ w'.ownsRow w.heap.size 86 4 v (aftS l t).length (sts (aftS l t)) ∧ Below w.heap.size w w' := by
 obtain ⟨i0, hi, hz0, hz1, hz2⟩ := info_parts infoStay
 have HR := Lib.hid hr
 clear hr
 go_enter Tryz.func76, Tryz.ntmps76
 go_wp2
 go_loopw [5, 10] (fun v i wr => ∃ (j : Nat), j ≤ l.length ∧ i = .int .i64 j ∧ Hid (wr.ownsRow w.heap.size 86 4 v (aftS (l.take j) t).length (sts (aftS (l.take j) t))) ∧ Hid (Below w.heap.size w wr)) (fun _ i _ => l.length - (intOf i).toNat)
 case atStart => exact ⟨0, by omega, rfl, ⟨rfl, .inl ⟨rfl, rfl⟩⟩, Below.refl _ _⟩
 case round =>
  obtain ⟨j, hj, rfl, HO, HB⟩ := hrel
  by_cases hjl : j < l.length
  ·obtain ⟨b, off, rfl, hbl, hc0, hc1, hc2, hc3⟩ := (HR.out.below HB.out).at_ hjl
   have HC := Lib.hid (aft_take l t j hjl)
   have HLN : Hid ((aftS (l.take j) t).length ≤ j) := aft_len l t j
   generalize l[j] = x at *
   generalize aftS (l.take j) t = m at *
   by_cases h : t < x.t
   ·have hd := decide_eq_true h
    have HC2 : Hid (aftS (l.take (j + 1)) t = m ++ [x]) := by have := HC.out; rwa [if_pos h] at this
    have HO2 := Lib.hid (own_below HO.out (below_two wr (.cells #[.int .i64 x.f, .int .i64 x.t, .int .i64 x.n, .int .i64 x.s] 86) (.cells #[.int .i64 x.f, .int .i64 x.t, .int .i64 x.n, .int .i64 x.s] 86)))
    have HB2 : Hid (Below w.heap.size w ((wr.alloc (.cells #[.int .i64 x.f, .int .i64 x.t, .int .i64 x.n, .int .i64 x.s] 86)).alloc (.cells #[.int .i64 x.f, .int .i64 x.t, .int .i64 x.n, .int .i64 x.s] 86))) := HB.out.trans ((below_two wr (.cells #[.int .i64 x.f, .int .i64 x.t, .int .i64 x.n, .int .i64 x.s] 86) (.cells #[.int .i64 x.f, .int .i64 x.t, .int .i64 x.n, .int .i64 x.s] 86)).mono HB.out.size)
    have HS2 := Lib.hid HB2.out.size
    have hlm := HLN.out
    go_wp2_with (at_builtin; refine wpList_append_own _ rfl (.tmp 19) (.tmp 21) 60 rfl w.heap.size 86 i0 _ 4 32 Tryz.underlying60 hi hz0 hz1 hz2 rfl (by decide) _ _ _ rfl HO2.out ⟨wr.heap.size + 1, 0, none⟩ 1 1 [.int .i64 x.f, .int .i64 x.t, .int .i64 x.n, .int .i64 x.s] rfl rfl (news_at _ _ _ _ (size1 _ _).symm) (four_one _ _ _ _) (by unfold maxLen; omega) (by omega) HS2.out ?_; intro v' w3 hown' hgrow hiff)
    have HB3 := Lib.hid (app_below HB2.out HS2.out HO2.out hgrow)
    have HO3 := Lib.hid hown'
    clear hown' hgrow hiff HB2 HS2 HO2
    go_wp2
    go_roundw
    case rel => exact ⟨j + 1, by omega, by go_num, (by unfold Hid; rw [HC2.out, List.length_append, sts_snoc]; exact HO3.out), HB3⟩
    case measure => simp [intOf]; omega
   ·have hd := decide_eq_false h
    have HC2 : Hid (aftS (l.take (j + 1)) t = m) := by have := HC.out; rwa [if_neg h, List.append_nil] at this
    go_wp2
    go_roundw
    case rel => exact ⟨j + 1, by omega, by go_num, (by unfold Hid; rw [HC2.out]; exact (own_below HO.out (below_one wr (.cells #[.int .i64 x.f, .int .i64 x.t, .int .i64 x.n, .int .i64 x.s] 86)))), (HB.out.trans ((below_one wr (.cells #[.int .i64 x.f, .int .i64 x.t, .int .i64 x.n, .int .i64 x.s] 86)).mono HB.out.size))⟩
    case measure => simp [intOf]; omega
  ·obtain rfl : j = l.length := by omega
   rw [List.take_of_length_le (Nat.le_refl _)] at HO
   go_wp2
   go_ret
   exact ⟨_, rfl, HO.out, HB.out⟩
end Go.Proofs.YtjhdhfokhkcamaaGreat
namespace Go.Proofs.YtjhdhfokhkcamaaGreat
open Go.RowKit
set_option linter.unusedVariables false
set_option maxRecDepth 100000
theorem refRightN_any (s : ByteArray) (w : World) (hs : s.size ≤ maxLen) : Calls Tryz.prog 37 #[.string s] w fun e w' => e = .returned (.bool (isN s)) ∧ w' = w := (refRight_any s w hs).mono fun e w' ⟨h1, h2⟩ => ⟨h1, h2.symm⟩
end Go.Proofs.YtjhdhfokhkcamaaGreat
namespace Go.Proofs.YtjhdhfokhkcamaaGreat
open Go.RowKit Go.Proofs
set_option linter.unusedVariables false
set_option maxRecDepth 100000
def OwnStR (W : World) (B : Nat) (y : UsL) : Prop := W.ownsRow B 135 4 (.slice y.a y.l.length y.c) y.l.length (sts y.l)
theorem OwnStR.at_ {W : World} {B : Nat} {y : UsL} (h : OwnStR W B y) : UsAt W y := by
 obtain ⟨x, q, h1, h2, h3, h4, h5⟩ := own_st h
 injection h1 with k1 k2 k3
 subst k1 k3
 exact ⟨h4, h2, h3, h5⟩
def TellsB (w : World) (P : Prop) (r : Ending) (w' : World) : Prop := ∃ b, r = .returned (.bool b) ∧ (b = true ↔ P) ∧ Below w.heap.size w w'
structure TK (w : World) (g p : Nat) (x : SaL) (y : TbM) (W : World) : Prop where
 s : SB w g 27 x W
 t : W.heap[p]? = some (.cells #[.string y.u, .int .i64 y.a] 69 (0, 0))
theorem TellsB.yes {w : World} {P : Prop} {r : Ending} {w' : World} (h : TellsB w P r w') (hp : P) : r = .returned (.bool true) ∧ Below w.heap.size w w' := by
 obtain ⟨b, rfl, h1, h2⟩ := h
 rw [h1.2 hp]
 exact ⟨rfl, h2⟩
end Go.Proofs.YtjhdhfokhkcamaaGreat
