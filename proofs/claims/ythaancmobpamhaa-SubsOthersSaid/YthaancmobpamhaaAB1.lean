/- Layer 9: rows of entries in memory. -/
import Derived.Test.YthaancmobpamhaaAB0
import Derived.Test.YthaancmobpamhaaW2
namespace Go.Proofs.Ythaancmobpamhaa
open Go.RowKit
set_option linter.unusedVariables false
set_option maxRecDepth 100000

def encE (s : EnM) : List Value := [.string s.w, .string s.u, .int .i64 s.f, .int .i64 s.t]
def ens (l : List EnM) : List Value := l.flatMap encE
theorem ens_cons (s : EnM) (l : List EnM) : ens (s :: l) = encE s ++ ens l := by simp [ens]
theorem ens_len (l : List EnM) : (ens l).length = l.length * 4 := by
  induction l with
  | nil => rfl
  | cons e l ih => rw [ens_cons, List.length_append, ih, List.length_cons]; simp only [encE, List.length_cons, List.length_nil]; omega
theorem ens_append (l m : List EnM) : ens (l ++ m) = ens l ++ ens m := by simp [ens]
theorem ens_snoc (l : List EnM) (x : EnM) : ens (l ++ [x]) = ens l ++ [.string x.w, .string x.u, .int .i64 x.f, .int .i64 x.t] := by simp [ens, encE]
theorem ens_take (l : List EnM) (j : Nat) (h : j < l.length) : ens (l.take (j + 1)) = ens (l.take j) ++ [.string l[j].w, .string l[j].u, .int .i64 l[j].f, .int .i64 l[j].t] := by
  rw [List.take_succ_eq_append_getElem h]; exact ens_snoc _ _
theorem ens_get (l : List EnM) : ∀ (k : Nat) (h : k < l.length), (ens l)[k * 4]? = some (.string l[k].w) ∧ (ens l)[k * 4 + 1]? = some (.string l[k].u) ∧ (ens l)[k * 4 + 2]? = some (.int .i64 l[k].f) ∧ (ens l)[k * 4 + 3]? = some (.int .i64 l[k].t) := by
  induction l with
  | nil => intro k h; exact absurd h (by simp)
  | cons x l ih =>
    intro k h
    rw [ens_cons]
    cases k with
    | zero => exact ⟨rfl, rfl, rfl, rfl⟩
    | succ k =>
      have := ih k (by simpa using h)
      rw [show (k + 1) * 4 = k * 4 + 1 + 1 + 1 + 1 by omega]
      simpa [encE] using this
/-- the row that begins at a holds these entries -/
def EnSl (w : World) (a : Option Addr) (l : List EnM) : Prop := ∀ k (h : k < l.length), ∃ b off, a = some ⟨b, off, none⟩ ∧ b < w.heap.size ∧
  w.cell? ⟨b, off + k * 4, none⟩ = some (.string l[k].w) ∧ w.cell? ⟨b, off + k * 4 + 1, none⟩ = some (.string l[k].u) ∧ w.cell? ⟨b, off + k * 4 + 2, none⟩ = some (.int .i64 l[k].f) ∧ w.cell? ⟨b, off + k * 4 + 3, none⟩ = some (.int .i64 l[k].t)
theorem EnSl.nil (w : World) (a : Option Addr) : EnSl w a [] := fun k h => absurd h (by simp)
theorem EnSl.below {w w' : World} {a : Option Addr} {l : List EnM} (h : EnSl w a l) (hb : Below w.heap.size w w') : EnSl w' a l := fun k hk => by
  obtain ⟨b, off, e, hlt, h0, h1, h2, h3⟩ := h k hk
  exact ⟨b, off, e, Nat.lt_of_lt_of_le hlt hb.size, (hb.cell (p := ⟨b, off + k * 4, none⟩) hlt).trans h0, (hb.cell (p := ⟨b, off + k * 4 + 1, none⟩) hlt).trans h1, (hb.cell (p := ⟨b, off + k * 4 + 2, none⟩) hlt).trans h2, (hb.cell (p := ⟨b, off + k * 4 + 3, none⟩) hlt).trans h3⟩
theorem EnSl.at_ {w : World} {a : Option Addr} {l : List EnM} (h : EnSl w a l) {k : Nat} (hk : k < l.length) : ∃ b off, a = some ⟨b, off, none⟩ ∧ b < w.heap.size ∧
    w.cell? ⟨b, off + k * 4, none⟩ = some (.string l[k].w) ∧ w.cell? ⟨b, off + k * 4 + 1, none⟩ = some (.string l[k].u) ∧ w.cell? ⟨b, off + k * 4 + 2, none⟩ = some (.int .i64 l[k].f) ∧ w.cell? ⟨b, off + k * 4 + 3, none⟩ = some (.int .i64 l[k].t) := h k hk
theorem EnSl.take {w : World} {a : Option Addr} {l : List EnM} (h : EnSl w a l) (n : Nat) : EnSl w a (l.take n) := fun k hk => by
  have hk2 : k < l.length := by simp at hk; omega
  obtain ⟨b, off, e, hlt, h0, h1, h2, h3⟩ := h k hk2
  rw [List.getElem_take]
  exact ⟨b, off, e, hlt, h0, h1, h2, h3⟩
theorem EnSl.drop {w : World} {b off : Nat} {l : List EnM} (h : EnSl w (some ⟨b, off, none⟩) l) (n : Nat) : EnSl w (some ⟨b, off + n * 4, none⟩) (l.drop n) := fun k hk => by
  have hk2 : n + k < l.length := by simp at hk; omega
  obtain ⟨b', off', e, hlt, h0, h1, h2, h3⟩ := h (n + k) hk2
  cases e
  rw [List.getElem_drop]
  have e1 : off + n * 4 + k * 4 = off + (n + k) * 4 := by omega
  exact ⟨b, off + n * 4, rfl, hlt, by rw [e1]; exact h0, by rw [e1]; exact h1, by rw [e1]; exact h2, by rw [e1]; exact h3⟩
theorem EnSl.cells {w : World} {a : Option Addr} {l : List EnM} (h : EnSl w a l) : ∀ ad, a = some ad → ∀ j u, (ens l)[j]? = some u → w.cell? (ad.add j) = some u := fun ad ha j u hu => by
  have hj : j < l.length * 4 := by rw [← ens_len]; exact (List.getElem?_eq_some_iff.1 hu).1
  have hk : j / 4 < l.length := by omega
  obtain ⟨b, off, e, _, h1, h2, h3, h4⟩ := h (j / 4) hk
  rw [ha] at e
  cases e
  obtain ⟨g1, g2, g3, g4⟩ := ens_get l (j / 4) hk
  have hadd : (⟨b, off, none⟩ : Addr).add j = ⟨b, off + j, none⟩ := by
    unfold Addr.add
    split
    · rename_i h; subst h; rfl
    · rfl
  rw [hadd]
  have hd : j = j / 4 * 4 ∨ j = j / 4 * 4 + 1 ∨ j = j / 4 * 4 + 2 ∨ j = j / 4 * 4 + 3 := by omega
  generalize j / 4 = k at *
  rcases hd with rfl | rfl | rfl | rfl
  · rw [g1] at hu
    cases hu
    exact h1
  · rw [g2] at hu
    cases hu
    exact h2
  · rw [g3] at hu
    cases hu
    exact h3
  · rw [g4] at hu
    cases hu
    exact h4
theorem four_e (a b : ByteArray) (c d : Int) : ∀ u ∈ [Value.string a, .string b, .int .i64 c, .int .i64 d], u.oneCell' = true := by
  intro u hu
  simp only [List.mem_cons, List.mem_nil_iff, or_false] at hu
  rcases hu with rfl | rfl | rfl | rfl <;> rfl
theorem ens_one (l : List EnM) : ∀ u ∈ ens l, u.oneCell' = true := fun u hu => by
  unfold ens at hu
  obtain ⟨y, _, hy⟩ := List.mem_flatMap.1 hu
  exact four_e _ _ _ _ u hy
theorem own_en {w : World} {B e : Nat} {v : Value} {l : List EnM} (h : w.ownsRow B e 4 v l.length (ens l)) : ∃ a c, v = .slice a l.length c ∧ l.length ≤ c ∧ c ≤ maxLen ∧ EnSl w a l ∧ (a = none → c = 0) := by
  rcases h.2 with ⟨rfl, hn⟩ | ⟨g, cap, cur, rfl, hg, hh, hn, hc, hsz, ht⟩
  · have : l = [] := List.eq_nil_of_length_eq_zero hn
    subst this
    exact ⟨none, 0, rfl, Nat.le_refl _, by unfold maxLen; omega, EnSl.nil _ _, fun _ => rfl⟩
  · have hlt : g < w.heap.size := by
      rcases Nat.lt_or_ge g w.heap.size with h1 | h1
      · exact h1
      · rw [Array.getElem?_eq_none h1] at hh; cases hh
    refine ⟨_, cap, rfl, hn, hc, fun k hk => ⟨g, 0, rfl, hlt, ?_, ?_, ?_, ?_⟩, fun e => by cases e⟩
    · have hg := (ens_get l k hk).1
      rw [← ht, List.getElem?_take, if_pos (by omega), Array.getElem?_toList] at hg
      rw [cell_of_row w g _ cur e (0, 0) hh, Nat.zero_add, hg]
    · have hg := (ens_get l k hk).2.1
      rw [← ht, List.getElem?_take, if_pos (by omega), Array.getElem?_toList] at hg
      rw [cell_of_row w g _ cur e (0, 0) hh, Nat.zero_add, hg]
    · have hg := (ens_get l k hk).2.2.1
      rw [← ht, List.getElem?_take, if_pos (by omega), Array.getElem?_toList] at hg
      rw [cell_of_row w g _ cur e (0, 0) hh, Nat.zero_add, hg]
    · have hg := (ens_get l k hk).2.2.2
      rw [← ht, List.getElem?_take, if_pos (by omega), Array.getElem?_toList] at hg
      rw [cell_of_row w g _ cur e (0, 0) hh, Nat.zero_add, hg]
theorem cells_en (W : World) (l : List EnM) (xs : Array Value) (t : TypeId) (g : Nat) (hg : g = W.heap.size) (hx : xs.toList = ens l) : EnSl (W.alloc (.cells xs t)) (some ⟨g, 0, none⟩) l := fun k hk => by
  subst hg
  obtain ⟨g1, g2, g3, g4⟩ := ens_get l k hk
  rw [← hx, Array.getElem?_toList] at g1 g2 g3 g4
  refine ⟨W.heap.size, 0, rfl, by rw [size1]; omega, ?_, ?_, ?_, ?_⟩
  · rw [cell_of_row _ _ _ xs t (0, 0) (heap_alloc_new W _), Nat.zero_add, g1]
  · rw [cell_of_row _ _ _ xs t (0, 0) (heap_alloc_new W _), Nat.zero_add, g2]
  · rw [cell_of_row _ _ _ xs t (0, 0) (heap_alloc_new W _), Nat.zero_add, g3]
  · rw [cell_of_row _ _ _ xs t (0, 0) (heap_alloc_new W _), Nat.zero_add, g4]
/-- an entry as the program, and as the document, has it -/
def enV (s : EnM) : Value := .agg #[.string s.w, .string s.u, .int .i64 s.f, .int .i64 s.t]
theorem infoEn : (Try.prog.info? 63).map (fun i => (i.zero, i.size, i.bytes)) = some (some (.agg #[.string ⟨#[]⟩, .string ⟨#[]⟩, .int .i64 0, .int .i64 0]), 4, 48) := by kernel_rfl
theorem infoEnR : (Try.prog.info? 53).map (fun i => (i.zero, i.size, i.bytes)) = some (some (.agg #[.string ⟨#[]⟩, .string ⟨#[]⟩, .int .i64 0, .int .i64 0]), 4, 48) := by kernel_rfl
theorem cells4 {g : Nat} {a b c d : Value} {t : TypeId} {W : World} (h : W.heap[g]? = some (.cells #[a, b, c, d] t (0, 0))) : W.cell? ⟨g, 0, none⟩ = some a ∧ W.cell? ⟨g, 1, none⟩ = some b ∧ W.cell? ⟨g, 2, none⟩ = some c ∧ W.cell? ⟨g, 3, none⟩ = some d :=
  ⟨cell_of_row _ _ _ _ _ _ h, cell_of_row _ _ _ _ _ _ h, cell_of_row _ _ _ _ _ _ h, cell_of_row _ _ _ _ _ _ h⟩
theorem wpList_append_en {P : Program} (w : World) {ops : Array Oper} {rest : List Oper} {o : Oper} {a : Act} {Q : Exit → Act → World → Prop} (hgd : o.guard = none) (s x : Operand) (t : TypeId)
    (ho : o.op = .call { callee := .builtin .append, args := #[s, x], argTypes := #[t, t] })
    (base : Nat) (e : TypeId) (i : TypeInfo) (z : Value) (ht : P.underlying t = some (.slice e)) (hi : P.info? e = some i) (hz : i.zero = some z)
    (hsize : i.size = 4) (hby : i.bytes = 48) (hzs : z.cells.size = 4)
    (v : Value) (l : List EnM) (hs : a.eval s = v) (hown : w.ownsRow base e 4 v l.length (ens l))
    (A : Option Addr) (c : Nat) (m : List EnM) (hx : a.eval x = .slice A m.length c) (hsl : EnSl w A m) (hnil : A = none → c = 0)
    (hlen : l.length + m.length ≤ 1000000) (hbase : base ≤ w.heap.size)
    (h : ∀ v' w', w'.ownsRow base e 4 v' (l ++ m).length (ens (l ++ m)) → Below base w w' → wpList P ops Q rest (a.put o.dst v') w') : wpList P ops Q (o :: rest) a w := by
  rw [List.length_append, ens_append] at h
  cases A with
  | none =>
    have hc := hnil rfl
    subst hc
    have hm0 : m = [] := by
      cases m with
      | nil => rfl
      | cons y m => obtain ⟨_, _, e, _⟩ := hsl 0 (by simp); cases e
    subst hm0
    exact wpList_append_own_none hgd s x t ho base e i 4 ht hi v l.length (ens l) hs hown hx (h v w (by simpa [ens] using hown) (Below.refl _ _))
  | some ad =>
    exact wpList_append_own w hgd s x t ho base e i z 4 48 ht hi hz hsize hby hzs (by decide) v l.length (ens l) hs hown ad m.length c (ens m) hx (ens_len m) (hsl.cells ad rfl) (ens_one m) (by unfold maxLen; omega) (by omega) hbase (fun v' w' h2 h3 _ => h v' w' h2 (app_below (Below.refl _ _) hbase hown h3))
end Go.Proofs.Ythaancmobpamhaa
