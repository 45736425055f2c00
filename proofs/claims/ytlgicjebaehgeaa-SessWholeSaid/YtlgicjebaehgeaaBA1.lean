/- Layer 10: rows of open sessions in memory. -/
import Derived.Test.YtlgicjebaehgeaaBA0
import Derived.Test.YtlgicjebaehgeaaZ1
namespace Go.Proofs.Ytlgicjebaehgeaa
open Go.RowKit
set_option linter.unusedVariables false
set_option maxRecDepth 100000

def encO (s : OpM) : List Value := [.int .i64 s.n, .string s.u, .int .i64 s.s, .int .i64 s.f]
def oes (l : List OpM) : List Value := l.flatMap encO
theorem oes_cons (s : OpM) (l : List OpM) : oes (s :: l) = encO s ++ oes l := by simp [oes]
theorem oes_len (l : List OpM) : (oes l).length = l.length * 4 := by
  induction l with
  | nil => rfl
  | cons e l ih => rw [oes_cons, List.length_append, ih, List.length_cons]; simp only [encO, List.length_cons, List.length_nil]; omega
theorem oes_append (l m : List OpM) : oes (l ++ m) = oes l ++ oes m := by simp [oes]
theorem oes_snoc (l : List OpM) (x : OpM) : oes (l ++ [x]) = oes l ++ [.int .i64 x.n, .string x.u, .int .i64 x.s, .int .i64 x.f] := by simp [oes, encO]
theorem oes_take (l : List OpM) (j : Nat) (h : j < l.length) : oes (l.take (j + 1)) = oes (l.take j) ++ [.int .i64 l[j].n, .string l[j].u, .int .i64 l[j].s, .int .i64 l[j].f] := by
  rw [List.take_succ_eq_append_getElem h]; exact oes_snoc _ _
theorem oes_get (l : List OpM) : ∀ (k : Nat) (h : k < l.length), (oes l)[k * 4]? = some (.int .i64 l[k].n) ∧ (oes l)[k * 4 + 1]? = some (.string l[k].u) ∧ (oes l)[k * 4 + 2]? = some (.int .i64 l[k].s) ∧ (oes l)[k * 4 + 3]? = some (.int .i64 l[k].f) := by
  induction l with
  | nil => intro k h; exact absurd h (by simp)
  | cons x l ih =>
    intro k h
    rw [oes_cons]
    cases k with
    | zero => exact ⟨rfl, rfl, rfl, rfl⟩
    | succ k =>
      have := ih k (by simpa using h)
      rw [show (k + 1) * 4 = k * 4 + 1 + 1 + 1 + 1 by omega]
      simpa [encO] using this
/-- the row that begins at a holds these entries -/
def OpSl (w : World) (a : Option Addr) (l : List OpM) : Prop := ∀ k (h : k < l.length), ∃ b off, a = some ⟨b, off, none⟩ ∧ b < w.heap.size ∧
  w.cell? ⟨b, off + k * 4, none⟩ = some (.int .i64 l[k].n) ∧ w.cell? ⟨b, off + k * 4 + 1, none⟩ = some (.string l[k].u) ∧ w.cell? ⟨b, off + k * 4 + 2, none⟩ = some (.int .i64 l[k].s) ∧ w.cell? ⟨b, off + k * 4 + 3, none⟩ = some (.int .i64 l[k].f)
theorem OpSl.nil (w : World) (a : Option Addr) : OpSl w a [] := fun k h => absurd h (by simp)
theorem OpSl.below {w w' : World} {a : Option Addr} {l : List OpM} (h : OpSl w a l) (hb : Below w.heap.size w w') : OpSl w' a l := fun k hk => by
  obtain ⟨b, off, e, hlt, h0, h1, h2, h3⟩ := h k hk
  exact ⟨b, off, e, Nat.lt_of_lt_of_le hlt hb.size, (hb.cell (p := ⟨b, off + k * 4, none⟩) hlt).trans h0, (hb.cell (p := ⟨b, off + k * 4 + 1, none⟩) hlt).trans h1, (hb.cell (p := ⟨b, off + k * 4 + 2, none⟩) hlt).trans h2, (hb.cell (p := ⟨b, off + k * 4 + 3, none⟩) hlt).trans h3⟩
theorem OpSl.at_ {w : World} {a : Option Addr} {l : List OpM} (h : OpSl w a l) {k : Nat} (hk : k < l.length) : ∃ b off, a = some ⟨b, off, none⟩ ∧ b < w.heap.size ∧
    w.cell? ⟨b, off + k * 4, none⟩ = some (.int .i64 l[k].n) ∧ w.cell? ⟨b, off + k * 4 + 1, none⟩ = some (.string l[k].u) ∧ w.cell? ⟨b, off + k * 4 + 2, none⟩ = some (.int .i64 l[k].s) ∧ w.cell? ⟨b, off + k * 4 + 3, none⟩ = some (.int .i64 l[k].f) := h k hk
theorem OpSl.take {w : World} {a : Option Addr} {l : List OpM} (h : OpSl w a l) (n : Nat) : OpSl w a (l.take n) := fun k hk => by
  have hk2 : k < l.length := by simp at hk; omega
  obtain ⟨b, off, e, hlt, h0, h1, h2, h3⟩ := h k hk2
  rw [List.getElem_take]
  exact ⟨b, off, e, hlt, h0, h1, h2, h3⟩
theorem OpSl.drop {w : World} {b off : Nat} {l : List OpM} (h : OpSl w (some ⟨b, off, none⟩) l) (n : Nat) : OpSl w (some ⟨b, off + n * 4, none⟩) (l.drop n) := fun k hk => by
  have hk2 : n + k < l.length := by simp at hk; omega
  obtain ⟨b', off', e, hlt, h0, h1, h2, h3⟩ := h (n + k) hk2
  cases e
  rw [List.getElem_drop]
  have e1 : off + n * 4 + k * 4 = off + (n + k) * 4 := by omega
  exact ⟨b, off + n * 4, rfl, hlt, by rw [e1]; exact h0, by rw [e1]; exact h1, by rw [e1]; exact h2, by rw [e1]; exact h3⟩
theorem OpSl.cells {w : World} {a : Option Addr} {l : List OpM} (h : OpSl w a l) : ∀ ad, a = some ad → ∀ j u, (oes l)[j]? = some u → w.cell? (ad.add j) = some u := fun ad ha j u hu => by
  have hj : j < l.length * 4 := by rw [← oes_len]; exact (List.getElem?_eq_some_iff.1 hu).1
  have hk : j / 4 < l.length := by omega
  obtain ⟨b, off, e, _, h1, h2, h3, h4⟩ := h (j / 4) hk
  rw [ha] at e
  cases e
  obtain ⟨g1, g2, g3, g4⟩ := oes_get l (j / 4) hk
  have hadd : (⟨b, off, none⟩ : Addr).add j = ⟨b, off + j, none⟩ := by
    unfold Addr.add
    split
    · rename_i h; subst h; rfl
    · rfl
  rw [hadd]
  have hd : j = j / 4 * 4 ∨ j = j / 4 * 4 + 1 ∨ j = j / 4 * 4 + 2 ∨ j = j / 4 * 4 + 3 := by omega
  generalize j / 4 = k at *
  rcases hd with rfl | rfl | rfl | rfl
  · rw [g1] at hu
    cases hu
    exact h1
  · rw [g2] at hu
    cases hu
    exact h2
  · rw [g3] at hu
    cases hu
    exact h3
  · rw [g4] at hu
    cases hu
    exact h4
theorem four_o (a : Int) (b : ByteArray) (c d : Int) : ∀ u ∈ [Value.int .i64 a, .string b, .int .i64 c, .int .i64 d], u.oneCell' = true := by
  intro u hu
  simp only [List.mem_cons, List.mem_nil_iff, or_false] at hu
  rcases hu with rfl | rfl | rfl | rfl <;> rfl
theorem oes_one (l : List OpM) : ∀ u ∈ oes l, u.oneCell' = true := fun u hu => by
  unfold oes at hu
  obtain ⟨y, _, hy⟩ := List.mem_flatMap.1 hu
  exact four_o _ _ _ _ u hy
theorem own_op {w : World} {B e : Nat} {v : Value} {l : List OpM} (h : w.ownsRow B e 4 v l.length (oes l)) : ∃ a c, v = .slice a l.length c ∧ l.length ≤ c ∧ c ≤ maxLen ∧ OpSl w a l ∧ (a = none → c = 0) := by
  rcases h.2 with ⟨rfl, hn⟩ | ⟨g, cap, cur, rfl, hg, hh, hn, hc, hsz, ht⟩
  · have : l = [] := List.eq_nil_of_length_eq_zero hn
    subst this
    exact ⟨none, 0, rfl, Nat.le_refl _, by unfold maxLen; omega, OpSl.nil _ _, fun _ => rfl⟩
  · have hlt : g < w.heap.size := by
      rcases Nat.lt_or_ge g w.heap.size with h1 | h1
      · exact h1
      · rw [Array.getElem?_eq_none h1] at hh; cases hh
    refine ⟨_, cap, rfl, hn, hc, fun k hk => ⟨g, 0, rfl, hlt, ?_, ?_, ?_, ?_⟩, fun e => by cases e⟩
    · have hg := (oes_get l k hk).1
      rw [← ht, List.getElem?_take, if_pos (by omega), Array.getElem?_toList] at hg
      rw [cell_of_row w g _ cur e (0, 0) hh, Nat.zero_add, hg]
    · have hg := (oes_get l k hk).2.1
      rw [← ht, List.getElem?_take, if_pos (by omega), Array.getElem?_toList] at hg
      rw [cell_of_row w g _ cur e (0, 0) hh, Nat.zero_add, hg]
    · have hg := (oes_get l k hk).2.2.1
      rw [← ht, List.getElem?_take, if_pos (by omega), Array.getElem?_toList] at hg
      rw [cell_of_row w g _ cur e (0, 0) hh, Nat.zero_add, hg]
    · have hg := (oes_get l k hk).2.2.2
      rw [← ht, List.getElem?_take, if_pos (by omega), Array.getElem?_toList] at hg
      rw [cell_of_row w g _ cur e (0, 0) hh, Nat.zero_add, hg]
theorem cells_op (W : World) (l : List OpM) (xs : Array Value) (t : TypeId) (g : Nat) (hg : g = W.heap.size) (hx : xs.toList = oes l) : OpSl (W.alloc (.cells xs t)) (some ⟨g, 0, none⟩) l := fun k hk => by
  subst hg
  obtain ⟨g1, g2, g3, g4⟩ := oes_get l k hk
  rw [← hx, Array.getElem?_toList] at g1 g2 g3 g4
  refine ⟨W.heap.size, 0, rfl, by rw [size1]; omega, ?_, ?_, ?_, ?_⟩
  · rw [cell_of_row _ _ _ xs t (0, 0) (heap_alloc_new W _), Nat.zero_add, g1]
  · rw [cell_of_row _ _ _ xs t (0, 0) (heap_alloc_new W _), Nat.zero_add, g2]
  · rw [cell_of_row _ _ _ xs t (0, 0) (heap_alloc_new W _), Nat.zero_add, g3]
  · rw [cell_of_row _ _ _ xs t (0, 0) (heap_alloc_new W _), Nat.zero_add, g4]
/-- an entry as the program, and as the document, has it -/
def opV (s : OpM) : Value := .agg #[.int .i64 s.n, .string s.u, .int .i64 s.s, .int .i64 s.f]
theorem infoOp : (Try.prog.info? 31).map (fun i => (i.zero, i.size, i.bytes)) = some (some (.agg #[.int .i64 0, .string ⟨#[]⟩, .int .i64 0, .int .i64 0]), 4, 40) := by kernel_rfl
theorem infoOpR : (Try.prog.info? 24).map (fun i => (i.zero, i.size, i.bytes)) = some (some (.agg #[.int .i64 0, .string ⟨#[]⟩, .int .i64 0, .int .i64 0]), 4, 40) := by kernel_rfl
theorem wpList_append_op {P : Program} (w : World) {ops : Array Oper} {rest : List Oper} {o : Oper} {a : Act} {Q : Exit → Act → World → Prop} (hgd : o.guard = none) (s x : Operand) (t : TypeId)
    (ho : o.op = .call { callee := .builtin .append, args := #[s, x], argTypes := #[t, t] })
    (base : Nat) (e : TypeId) (i : TypeInfo) (z : Value) (ht : P.underlying t = some (.slice e)) (hi : P.info? e = some i) (hz : i.zero = some z)
    (hsize : i.size = 4) (hby : i.bytes = 40) (hzs : z.cells.size = 4)
    (v : Value) (l : List OpM) (hs : a.eval s = v) (hown : w.ownsRow base e 4 v l.length (oes l))
    (A : Option Addr) (c : Nat) (m : List OpM) (hx : a.eval x = .slice A m.length c) (hsl : OpSl w A m) (hnil : A = none → c = 0)
    (hlen : l.length + m.length ≤ 1000000) (hbase : base ≤ w.heap.size)
    (h : ∀ v' w', w'.ownsRow base e 4 v' (l ++ m).length (oes (l ++ m)) → Below base w w' → wpList P ops Q rest (a.put o.dst v') w') : wpList P ops Q (o :: rest) a w := by
  rw [List.length_append, oes_append] at h
  cases A with
  | none =>
    have hc := hnil rfl
    subst hc
    have hm0 : m = [] := by
      cases m with
      | nil => rfl
      | cons y m => obtain ⟨_, _, e, _⟩ := hsl 0 (by simp); cases e
    subst hm0
    exact wpList_append_own_none hgd s x t ho base e i 4 ht hi v l.length (oes l) hs hown hx (h v w (by simpa [oes] using hown) (Below.refl _ _))
  | some ad =>
    exact wpList_append_own w hgd s x t ho base e i z 4 40 ht hi hz hsize hby hzs (by decide) v l.length (oes l) hs hown ad m.length c (oes m) hx (oes_len m) (hsl.cells ad rfl) (oes_one m) (by unfold maxLen; omega) (by omega) hbase (fun v' w' h2 h3 _ => h v' w' h2 (app_below (Below.refl _ _) hbase hown h3))
end Go.Proofs.Ytlgicjebaehgeaa
