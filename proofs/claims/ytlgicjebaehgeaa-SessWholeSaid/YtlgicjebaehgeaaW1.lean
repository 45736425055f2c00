/- Layer 7: rows of spans in memory; contracts of the small functions, and of those that only read. -/
import Derived.Test.YtlgicjebaehgeaaW0
import Derived.BigRegion
import Derived.Maps.AppendAt
import Derived.Deep.MidRow
import Derived.Deep.RegionHeld3
namespace Go.Proofs.Ytlgicjebaehgeaa
open Go.RowKit
set_option linter.unusedVariables false
set_option maxRecDepth 100000
set_option maxRecDepth 100000

theorem size1 (w : World) (o : Obj) : (w.alloc o).heap.size = w.heap.size + 1 := by simp
/-! ### rows of spans -/
def sps (l : List SpM) : List Value := l.flatMap fun s => [.int .i64 s.f, .int .i64 s.t]
theorem sps_cons (s : SpM) (l : List SpM) : sps (s :: l) = [.int .i64 s.f, .int .i64 s.t] ++ sps l := by simp [sps]
theorem sps_len (l : List SpM) : (sps l).length = l.length * 2 := by
  induction l with
  | nil => rfl
  | cons e l ih => rw [sps_cons, List.length_append, ih, List.length_cons]; simp only [List.length_cons, List.length_nil]; omega
theorem sps_append (l m : List SpM) : sps (l ++ m) = sps l ++ sps m := by simp [sps]
theorem sps_snoc (l : List SpM) (x : SpM) : sps (l ++ [x]) = sps l ++ [.int .i64 x.f, .int .i64 x.t] := by simp [sps]
theorem sps_take (l : List SpM) (j : Nat) (h : j < l.length) : sps (l.take (j + 1)) = sps (l.take j) ++ [.int .i64 l[j].f, .int .i64 l[j].t] := by
  rw [List.take_succ_eq_append_getElem h]; exact sps_snoc _ _
theorem sps_get (l : List SpM) : ∀ (k : Nat) (h : k < l.length), (sps l)[k * 2]? = some (.int .i64 l[k].f) ∧ (sps l)[k * 2 + 1]? = some (.int .i64 l[k].t) := by
  induction l with
  | nil => intro k h; exact absurd h (by simp)
  | cons x l ih =>
    intro k h
    rw [sps_cons]
    cases k with
    | zero => exact ⟨rfl, rfl⟩
    | succ k =>
      have := ih k (by simpa using h)
      rw [show (k + 1) * 2 = k * 2 + 1 + 1 by omega]
      simpa using this
/-- the row that begins at a holds these spans -/
def SpSl (w : World) (a : Option Addr) (l : List SpM) : Prop := ∀ k (h : k < l.length), ∃ b off, a = some ⟨b, off, none⟩ ∧ b < w.heap.size ∧
  w.cell? ⟨b, off + k * 2, none⟩ = some (.int .i64 l[k].f) ∧ w.cell? ⟨b, off + k * 2 + 1, none⟩ = some (.int .i64 l[k].t)
theorem SpSl.nil (w : World) (a : Option Addr) : SpSl w a [] := fun k h => absurd h (by simp)
theorem SpSl.below {w w' : World} {a : Option Addr} {l : List SpM} (h : SpSl w a l) (hb : Below w.heap.size w w') : SpSl w' a l := fun k hk => by
  obtain ⟨b, off, e, hlt, h0, h1⟩ := h k hk
  exact ⟨b, off, e, Nat.lt_of_lt_of_le hlt hb.size, (hb.cell (p := ⟨b, off + k * 2, none⟩) hlt).trans h0, (hb.cell (p := ⟨b, off + k * 2 + 1, none⟩) hlt).trans h1⟩
theorem SpSl.at_ {w : World} {a : Option Addr} {l : List SpM} (h : SpSl w a l) {k : Nat} (hk : k < l.length) : ∃ b off, a = some ⟨b, off, none⟩ ∧ b < w.heap.size ∧
    w.cell? ⟨b, off + k * 2, none⟩ = some (.int .i64 l[k].f) ∧ w.cell? ⟨b, off + k * 2 + 1, none⟩ = some (.int .i64 l[k].t) := h k hk
theorem SpSl.tail {w : World} {b off : Nat} {s : SpM} {l : List SpM} (h : SpSl w (some ⟨b, off, none⟩) (s :: l)) : SpSl w (some ⟨b, off + 2, none⟩) l := fun k hk => by
  obtain ⟨b', off', e, hlt, h0, h1⟩ := h (k + 1) (by simpa using hk)
  cases e
  exact ⟨b, off + 2, rfl, hlt, by rw [show off + 2 + k * 2 = off + (k + 1) * 2 by omega]; simpa using h0, by rw [show off + 2 + k * 2 + 1 = off + (k + 1) * 2 + 1 by omega]; simpa using h1⟩
theorem own_sp {w : World} {B e : Nat} {v : Value} {l : List SpM} (h : w.ownsRow B e 2 v l.length (sps l)) : ∃ a c, v = .slice a l.length c ∧ l.length ≤ c ∧ SpSl w a l := by
  rcases h.2 with ⟨rfl, hn⟩ | ⟨g, cap, cur, rfl, hg, hh, hn, hc, hsz, ht⟩
  · have : l = [] := List.eq_nil_of_length_eq_zero hn
    subst this
    exact ⟨none, 0, rfl, Nat.le_refl _, SpSl.nil _ _⟩
  · refine ⟨_, cap, rfl, hn, fun k hk => ⟨g, 0, rfl, ?_, ?_, ?_⟩⟩
    · rcases Nat.lt_or_ge g w.heap.size with h1 | h1
      · exact h1
      · rw [Array.getElem?_eq_none h1] at hh; cases hh
    · have hg := (sps_get l k hk).1
      rw [← ht, List.getElem?_take, if_pos (by omega), Array.getElem?_toList] at hg
      rw [cell_of_row w g _ cur e (0, 0) hh, Nat.zero_add, hg]
    · have hg := (sps_get l k hk).2
      rw [← ht, List.getElem?_take, if_pos (by omega), Array.getElem?_toList] at hg
      rw [cell_of_row w g _ cur e (0, 0) hh, Nat.zero_add, hg]
theorem two_one (a b : Int) : ∀ u ∈ [Value.int .i64 a, .int .i64 b], u.oneCell' = true := by
  intro u hu
  simp only [List.mem_cons, List.mem_nil_iff, or_false] at hu
  rcases hu with rfl | rfl <;> rfl
theorem own_below {w w' : World} {B e k n : Nat} {v : Value} {xs : List Value} (h : w.ownsRow B e k v n xs) (hb : Below w.heap.size w w') : w'.ownsRow B e k v n xs := by
  refine ⟨h.1, ?_⟩
  rcases h.2 with h | ⟨g, cap, cur, r1, r2, r3, r4⟩
  · exact .inl h
  · refine .inr ⟨g, cap, cur, r1, r2, ?_, r4⟩
    rw [hb.block g ?_]
    · exact r3
    · rcases Nat.lt_or_ge g w.heap.size with h1 | h1
      · exact h1
      · rw [Array.getElem?_eq_none h1] at r3; cases r3
theorem app_below {B : Nat} {w W w' : World} {e k n : Nat} {v : Value} {xs : List Value} (hB : Below B w W) (hs : B ≤ W.heap.size) (ho : W.ownsRow B e k v n xs) (hg : W.grownBy w' v.ownBlock) : Below B w w' :=
  hB.grown hg hs (fun j hj => (ho.lt j hj).1)
theorem news_at (W : World) (xs : Array Value) (t : TypeId) (g : Nat) (hg : g = W.heap.size) : ∀ j u, xs.toList[j]? = some u → (W.alloc (.cells xs t)).cell? ((⟨g, 0, none⟩ : Addr).add j) = some u := by
  subst hg; exact Sl.cells (sl_lit W xs t)
theorem below_two (w : World) (o p : Obj) : Below w.heap.size w ((w.alloc o).alloc p) := ((Below.refl _ _).alloc (Nat.le_refl _) _).alloc (by rw [size1]; omega) _
theorem heap_lt {W : World} {G : Nat} {o : Obj} (h : W.heap[G]? = some o) : G < W.heap.size := (Array.getElem?_eq_some_iff.1 h).1
theorem infoSpan : (Try.prog.info? 42).map (fun i => (i.zero, i.size, i.bytes)) = some (some (.agg #[.int .i64 0, .int .i64 0]), 2, 16) := by kernel_rfl
theorem infoSpan2 : (Try.prog.info? 42).map (·.size) = some 2 := by kernel_rfl
theorem loadSp {W : World} {g : Nat} {a b : Value} {t : TypeId} (h : W.heap[g]? = some (.cells #[a, b] t (0, 0))) :
    (loadVar 42 ⟨g, 0, none⟩).run Try.prog W = .ok (.agg #[a, b]) W :=
  run_loadVar_mid (P := Try.prog) W g 0 42 [a, b] _ (fun j v hv => by
    rw [Nat.zero_add, cell_of_row _ _ _ _ _ (0, 0) h]
    simpa using hv) Try.underlying42 rfl infoSpan2
theorem heap_setCell_at {w : World} {p : Nat} {cur : Array Value} {t : TypeId} (h : w.heap[p]? = some (.cells cur t (0, 0))) (i : Nat) (v : Value) :
    (w.setCell ⟨p, i, none⟩ v).heap[p]? = some (.cells (cur.setIfInBounds i v) t (0, 0)) := by
  obtain ⟨hlt, hk⟩ := Array.getElem?_eq_some_iff.1 h
  show (w.heap.modify p _)[p]? = _
  rw [Array.getElem?_eq_getElem (by rw [Array.size_modify]; exact hlt), Array.getElem_modify_self, hk]
  rfl
theorem results_cell1 {fn : Func} {p : Tmp} {ty : TypeId} (h : fn.results = #[.cell p ty]) (tmps : Array Value) (P : Program) (w : World) :
    (results fn tmps).run P w = ((asAddr (tmps.getD p undef)).run P w).andThen fun a w₁ => (loadVar ty a).run P w₁ := by
  simp only [results, h]
  simp [Sem.run_bind, Result.andThen]
def spV (s : SpM) : Value := .agg #[.int .i64 s.f, .int .i64 s.t]
def I64 (n : Int) : Prop := -9223372036854775808 ≤ n ∧ n ≤ 9223372036854775807
def FitsS (l : List SpM) : Prop := ∀ s ∈ l, I64 s.f ∧ I64 s.t

/-! ### the methods -/
theorem none_any (f t : Int) (w : World) : Calls Try.prog 36 #[.agg #[.int .i64 f, .int .i64 t]] w fun e w' => e = .returned (.bool (decide (t ≤ f))) ∧ Below w.heap.size w w' := by
  have HBB := Lib.hid (fun o => (Below.refl w.heap.size w).alloc (Nat.le_refl _) o)
  go_enter Try.func36, Try.ntmps36
  go_wp2
  go_ret
  exact ⟨retB (by simp), HBB.out _⟩
set_option maxHeartbeats 1000000 in
theorem smeet_any (s o : SpM) (w : World) : Calls Try.prog 35 #[spV s, spV o] w fun e w' => e = .returned (spV (meetS s o)) ∧ Below w.heap.size w w' := by
  unfold spV meetS
  have HB3 : Hid (∀ o1 o2 o3, Below w.heap.size w (((w.alloc o1).alloc o2).alloc o3)) := fun o1 o2 o3 => (below_two w o1 o2).alloc (by rw [size1, size1]; omega) _
  have HL : Hid (∀ (o1 o2 : Obj) (a b : Value), (loadVar 42 ⟨w.heap.size + 1 + 1, 0, none⟩).run Try.prog (((w.alloc o1).alloc o2).alloc (.cells #[a, b] 42)) = .ok (.agg #[a, b]) (((w.alloc o1).alloc o2).alloc (.cells #[a, b] 42))) := fun o1 o2 a b => by
    have := heap_alloc_new ((w.alloc o1).alloc o2) (.cells #[a, b] 42)
    rw [size1, size1] at this
    exact loadSp this
  rcases Int.lt_or_le s.f o.f with h1 | h1 <;> rcases Int.lt_or_le o.t s.t with h2 | h2
  · have e1 : max s.f o.f = o.f := by omega
    have e2 : min s.t o.t = o.t := by omega
    rw [e1, e2]
    go_enter Try.func35, Try.ntmps35
    go_wp2
    refine bodyPost_ret (v := .agg #[.int .i64 o.f, .int .i64 o.t]) ?_ rfl ?_
    · rw [results_cell1 rfl]
      simp [asAddr, Result.andThen, HL.out]
    · exact ⟨rfl, HB3.out _ _ _⟩
  · have e1 : max s.f o.f = o.f := by omega
    have e2 : min s.t o.t = s.t := by omega
    rw [e1, e2]
    go_enter Try.func35, Try.ntmps35
    go_wp2
    refine bodyPost_ret (v := .agg #[.int .i64 o.f, .int .i64 s.t]) ?_ rfl ?_
    · rw [results_cell1 rfl]
      simp [asAddr, Result.andThen, HL.out]
    · exact ⟨rfl, HB3.out _ _ _⟩
  · have e1 : max s.f o.f = s.f := by omega
    have e2 : min s.t o.t = o.t := by omega
    rw [e1, e2]
    go_enter Try.func35, Try.ntmps35
    go_wp2
    refine bodyPost_ret (v := .agg #[.int .i64 s.f, .int .i64 o.t]) ?_ rfl ?_
    · rw [results_cell1 rfl]
      simp [asAddr, Result.andThen, HL.out]
    · exact ⟨rfl, HB3.out _ _ _⟩
  · have e1 : max s.f o.f = s.f := by omega
    have e2 : min s.t o.t = s.t := by omega
    rw [e1, e2]
    go_enter Try.func35, Try.ntmps35
    go_wp2
    refine bodyPost_ret (v := .agg #[.int .i64 s.f, .int .i64 s.t]) ?_ rfl ?_
    · rw [results_cell1 rfl]
      simp [asAddr, Result.andThen, HL.out]
    · exact ⟨rfl, HB3.out _ _ _⟩
end Go.Proofs.Ytlgicjebaehgeaa
