/- Texts of mine, one behind the other, of each what is wanted. -/
import Derived.Test.YtjhdhfokhkcamaaGreatS00
import Derived.Test.YtjhdhfokhkcamaaGreatS02
import Derived.Test.YtjhdhfokhkcamaaGreatS03
namespace Go.Proofs.YtjhdhfokhkcamaaGreat
open Go.RowKit
set_option linter.unusedVariables false
set_option maxRecDepth 100000
set_option maxRecDepth 100000
def encT (s : StM) : List Value := [.int .i64 s.f, .int .i64 s.t, .int .i64 s.n, .int .i64 s.s]
def sts (l : List StM) : List Value := l.flatMap encT
theorem sts_cons (s : StM) (l : List StM) : sts (s :: l) = encT s ++ sts l := by simp [sts]
theorem sts_len (l : List StM) : (sts l).length = l.length * 4 := by
 induction l with
 | nil => rfl
 | cons e l ih => rw [sts_cons, List.length_append, ih, List.length_cons]; simp only [encT, List.length_cons, List.length_nil]; omega
theorem sts_append (l m : List StM) : sts (l ++ m) = sts l ++ sts m := by simp [sts]
theorem sts_snoc (l : List StM) (x : StM) : sts (l ++ [x]) = sts l ++ [.int .i64 x.f, .int .i64 x.t, .int .i64 x.n, .int .i64 x.s] := by simp [sts, encT]
theorem sts_take (l : List StM) (j : Nat) (h : j < l.length) : sts (l.take (j + 1)) = sts (l.take j) ++ [.int .i64 l[j].f, .int .i64 l[j].t, .int .i64 l[j].n, .int .i64 l[j].s] := by
 rw [List.take_succ_eq_append_getElem h]; exact sts_snoc _ _
theorem sts_get (l : List StM) : ∀ (k : Nat) (h : k < l.length), (sts l)[k * 4]? = some (.int .i64 l[k].f) ∧ (sts l)[k * 4 + 1]? = some (.int .i64 l[k].t) ∧ (sts l)[k * 4 + 2]? = some (.int .i64 l[k].n) ∧ (sts l)[k * 4 + 3]? = some (.int .i64 l[k].s) := by
 induction l with
 | nil => intro k h; exact absurd h (by simp)
 | cons x l ih =>
  intro k h
  rw [sts_cons]
  cases k with
  | zero => exact ⟨rfl, rfl, rfl, rfl⟩
  | succ k =>
   have := ih k (by simpa using h)
   rw [show (k + 1) * 4 = k * 4 + 1 + 1 + 1 + 1 by omega]
   simpa [encT] using this
def StSl (w : World) (a : Option Addr) (l : List StM) : Prop := ∀ k (h : k < l.length), ∃ b off, a = some ⟨b, off, none⟩ ∧ b < w.heap.size ∧
 w.cell? ⟨b, off + k * 4, none⟩ = some (.int .i64 l[k].f) ∧ w.cell? ⟨b, off + k * 4 + 1, none⟩ = some (.int .i64 l[k].t) ∧ w.cell? ⟨b, off + k * 4 + 2, none⟩ = some (.int .i64 l[k].n) ∧ w.cell? ⟨b, off + k * 4 + 3, none⟩ = some (.int .i64 l[k].s)
theorem StSl.nil (w : World) (a : Option Addr) : StSl w a [] := fun k h => absurd h (by simp)
theorem StSl.below {w w' : World} {a : Option Addr} {l : List StM} (h : StSl w a l) (hb : Below w.heap.size w w') : StSl w' a l := fun k hk => by
 obtain ⟨b, off, e, hlt, h0, h1, h2, h3⟩ := h k hk
 exact ⟨b, off, e, Nat.lt_of_lt_of_le hlt hb.size, (hb.cell (p := ⟨b, off + k * 4, none⟩) hlt).trans h0, (hb.cell (p := ⟨b, off + k * 4 + 1, none⟩) hlt).trans h1, (hb.cell (p := ⟨b, off + k * 4 + 2, none⟩) hlt).trans h2, (hb.cell (p := ⟨b, off + k * 4 + 3, none⟩) hlt).trans h3⟩
theorem StSl.at_ {w : World} {a : Option Addr} {l : List StM} (h : StSl w a l) {k : Nat} (hk : k < l.length) : ∃ b off, a = some ⟨b, off, none⟩ ∧ b < w.heap.size ∧
  w.cell? ⟨b, off + k * 4, none⟩ = some (.int .i64 l[k].f) ∧ w.cell? ⟨b, off + k * 4 + 1, none⟩ = some (.int .i64 l[k].t) ∧ w.cell? ⟨b, off + k * 4 + 2, none⟩ = some (.int .i64 l[k].n) ∧ w.cell? ⟨b, off + k * 4 + 3, none⟩ = some (.int .i64 l[k].s) := h k hk
theorem StSl.take {w : World} {a : Option Addr} {l : List StM} (h : StSl w a l) (n : Nat) : StSl w a (l.take n) := fun k hk => by
 have hk2 : k < l.length := by simp at hk; omega
 obtain ⟨b, off, e, hlt, h0, h1, h2, h3⟩ := h k hk2
 rw [List.getElem_take]
 exact ⟨b, off, e, hlt, h0, h1, h2, h3⟩
theorem StSl.drop {w : World} {b off : Nat} {l : List StM} (h : StSl w (some ⟨b, off, none⟩) l) (n : Nat) : StSl w (some ⟨b, off + n * 4, none⟩) (l.drop n) := fun k hk => by
 have hk2 : n + k < l.length := by simp at hk; omega
 obtain ⟨b', off', e, hlt, h0, h1, h2, h3⟩ := h (n + k) hk2
 cases e
 rw [List.getElem_drop]
 have e1 : off + n * 4 + k * 4 = off + (n + k) * 4 := by omega
 exact ⟨b, off + n * 4, rfl, hlt, by rw [e1]; exact h0, by rw [e1]; exact h1, by rw [e1]; exact h2, by rw [e1]; exact h3⟩
theorem StSl.cells {w : World} {a : Option Addr} {l : List StM} (h : StSl w a l) : ∀ ad, a = some ad → ∀ j u, (sts l)[j]? = some u → w.cell? (ad.add j) = some u := fun ad ha j u hu => by
 have hj : j < l.length * 4 := by rw [← sts_len]; exact (List.getElem?_eq_some_iff.1 hu).1
 have hk : j / 4 < l.length := by omega
 obtain ⟨b, off, e, _, h1, h2, h3, h4⟩ := h (j / 4) hk
 rw [ha] at e
 cases e
 obtain ⟨g1, g2, g3, g4⟩ := sts_get l (j / 4) hk
 have hadd : (⟨b, off, none⟩ : Addr).add j = ⟨b, off + j, none⟩ := by
  unfold Addr.add
  split
  ·rename_i h; subst h; rfl
  ·rfl
 rw [hadd]
 have hd : j = j / 4 * 4 ∨ j = j / 4 * 4 + 1 ∨ j = j / 4 * 4 + 2 ∨ j = j / 4 * 4 + 3 := by omega
 generalize j / 4 = k at *
 rcases hd with rfl | rfl | rfl | rfl
 ·rw [g1] at hu
  cases hu
  exact h1
 ·rw [g2] at hu
  cases hu
  exact h2
 ·rw [g3] at hu
  cases hu
  exact h3
 ·rw [g4] at hu
  cases hu
  exact h4
theorem four_one (a b c d : Int) : ∀ u ∈ [Value.int .i64 a, .int .i64 b, .int .i64 c, .int .i64 d], u.oneCell' = true := by
 intro u hu
 simp only [List.mem_cons, List.mem_nil_iff, or_false] at hu
 rcases hu with rfl | rfl | rfl | rfl <;> rfl
theorem sts_one (l : List StM) : ∀ u ∈ sts l, u.oneCell' = true := fun u hu => by
 unfold sts at hu
 obtain ⟨y, _, hy⟩ := List.mem_flatMap.1 hu
 exact four_one _ _ _ _ u hy
theorem own_st {w : World} {B e : Nat} {v : Value} {l : List StM} (h : w.ownsRow B e 4 v l.length (sts l)) : ∃ a c, v = .slice a l.length c ∧ l.length ≤ c ∧ c ≤ maxLen ∧ StSl w a l ∧ (a = none → c = 0) := by
 rcases h.2 with ⟨rfl, hn⟩ | ⟨g, cap, cur, rfl, hg, hh, hn, hc, hsz, ht⟩
 ·have : l = [] := List.eq_nil_of_length_eq_zero hn
  subst this
  exact ⟨none, 0, rfl, Nat.le_refl _, by unfold maxLen; omega, StSl.nil _ _, fun _ => rfl⟩
 ·have hlt : g < w.heap.size := by
   rcases Nat.lt_or_ge g w.heap.size with h1 | h1
   ·exact h1
   ·rw [Array.getElem?_eq_none h1] at hh; cases hh
  refine ⟨_, cap, rfl, hn, hc, fun k hk => ⟨g, 0, rfl, hlt, ?_, ?_, ?_, ?_⟩, fun e => by cases e⟩
  ·have hg := (sts_get l k hk).1
   rw [← ht, List.getElem?_take, if_pos (by omega), Array.getElem?_toList] at hg
   rw [cell_of_row w g _ cur e (0, 0) hh, Nat.zero_add, hg]
  ·have hg := (sts_get l k hk).2.1
   rw [← ht, List.getElem?_take, if_pos (by omega), Array.getElem?_toList] at hg
   rw [cell_of_row w g _ cur e (0, 0) hh, Nat.zero_add, hg]
  ·have hg := (sts_get l k hk).2.2.1
   rw [← ht, List.getElem?_take, if_pos (by omega), Array.getElem?_toList] at hg
   rw [cell_of_row w g _ cur e (0, 0) hh, Nat.zero_add, hg]
  ·have hg := (sts_get l k hk).2.2.2
   rw [← ht, List.getElem?_take, if_pos (by omega), Array.getElem?_toList] at hg
   rw [cell_of_row w g _ cur e (0, 0) hh, Nat.zero_add, hg]
theorem cells_st (W : World) (l : List StM) (xs : Array Value) (t : TypeId) (g : Nat) (hg : g = W.heap.size) (hx : xs.toList = sts l) : StSl (W.alloc (.cells xs t)) (some ⟨g, 0, none⟩) l := fun k hk => by
 subst hg
 obtain ⟨g1, g2, g3, g4⟩ := sts_get l k hk
 rw [← hx, Array.getElem?_toList] at g1 g2 g3 g4
 refine ⟨W.heap.size, 0, rfl, by rw [size1]; omega, ?_, ?_, ?_, ?_⟩
 ·rw [cell_of_row _ _ _ xs t (0, 0) (heap_alloc_new W _), Nat.zero_add, g1]
 ·rw [cell_of_row _ _ _ xs t (0, 0) (heap_alloc_new W _), Nat.zero_add, g2]
 ·rw [cell_of_row _ _ _ xs t (0, 0) (heap_alloc_new W _), Nat.zero_add, g3]
 ·rw [cell_of_row _ _ _ xs t (0, 0) (heap_alloc_new W _), Nat.zero_add, g4]
def stV (s : StM) : Value := .agg #[.int .i64 s.f, .int .i64 s.t, .int .i64 s.n, .int .i64 s.s]
theorem infoStay : (Tryz.prog.info? 86).map (fun i => (i.zero, i.size, i.bytes)) = some (some (.agg #[.int .i64 0, .int .i64 0, .int .i64 0, .int .i64 0]), 4, 32) := by kernel_rfl
theorem infoStayR : (Tryz.prog.info? 135).map (fun i => (i.zero, i.size, i.bytes)) = some (some (.agg #[.int .i64 0, .int .i64 0, .int .i64 0, .int .i64 0]), 4, 32) := by kernel_rfl
theorem cells4 {g : Nat} {a b c d : Value} {t : TypeId} {W : World} (h : W.heap[g]? = some (.cells #[a, b, c, d] t (0, 0))) : W.cell? ⟨g, 0, none⟩ = some a ∧ W.cell? ⟨g, 1, none⟩ = some b ∧ W.cell? ⟨g, 2, none⟩ = some c ∧ W.cell? ⟨g, 3, none⟩ = some d :=
 ⟨cell_of_row _ _ _ _ _ _ h, cell_of_row _ _ _ _ _ _ h, cell_of_row _ _ _ _ _ _ h, cell_of_row _ _ _ _ _ _ h⟩
theorem wpList_append_st {P : Program} (w : World) {ops : Array Oper} {rest : List Oper} {o : Oper} {a : Act} {Q : Exit → Act → World → Prop} (hgd : o.guard = none) (s x : Operand) (t : TypeId)
  (ho : o.op = .call { callee := .builtin .append, args := #[s, x], argTypes := #[t, t] })
  (base : Nat) (e : TypeId) (i : TypeInfo) (z : Value) (ht : P.underlying t = some (.slice e)) (hi : P.info? e = some i) (hz : i.zero = some z)
  (hsize : i.size = 4) (hby : i.bytes = 32) (hzs : z.cells.size = 4)
  (v : Value) (l : List StM) (hs : a.eval s = v) (hown : w.ownsRow base e 4 v l.length (sts l))
  (A : Option Addr) (c : Nat) (m : List StM) (hx : a.eval x = .slice A m.length c) (hsl : StSl w A m) (hnil : A = none → c = 0)
  (hlen : l.length + m.length ≤ 1000000) (hbase : base ≤ w.heap.size)
  (h : ∀ v' w', w'.ownsRow base e 4 v' (l ++ m).length (sts (l ++ m)) → Below base w w' → wpList P ops Q rest (a.put o.dst v') w') : wpList P ops Q (o :: rest) a w := by
 rw [List.length_append, sts_append] at h
 cases A with
 | none =>
  have hc := hnil rfl
  subst hc
  have hm0 : m = [] := by
   cases m with
   | nil => rfl
   | cons y m => obtain ⟨_, _, e, _⟩ := hsl 0 (by simp); cases e
  subst hm0
  exact wpList_append_own_none hgd s x t ho base e i 4 ht hi v l.length (sts l) hs hown hx (h v w (by simpa [sts] using hown) (Below.refl _ _))
 | some ad =>
  exact wpList_append_own w hgd s x t ho base e i z 4 32 ht hi hz hsize hby hzs (by decide) v l.length (sts l) hs hown ad m.length c (sts m) hx (sts_len m) (hsl.cells ad rfl) (sts_one m) (by unfold maxLen; omega) (by omega) hbase (fun v' w' h2 h3 _ => h v' w' h2 (app_below (Below.refl _ _) hbase hown h3))
end Go.Proofs.YtjhdhfokhkcamaaGreat
