/- Texts of mine, one behind the other, of each what is wanted. -/
import Derived.Test.YtjhdhfokhkcamaaGreatQ00
import Derived.Test.YtjhdhfokhkcamaaGreatShelf
import Derived.Test.YtjhdhfokhkcamaaGreatRows
import Derived.Test.YtjhdhfokhkcamaaGreatQ01
import Derived.Test.YtjhdhfokhkcamaaGreatQ02
import Derived.Test.YtjhdhfokhkcamaaGreatQ03
import Derived.Test.YtjhdhfokhkcamaaGreatQ05
import Derived.Test.YtjhdhfokhkcamaaGreatQ09
import Derived.Test.YtjhdhfokhkcamaaGreatQ11
import Derived.Test.YtjhdhfokhkcamaaGreatQ13
import Derived.Test.YtjhdhfokhkcamaaGreatTQ
namespace Go.Proofs.YtjhdhfokhkcamaaGreat
open Go.RowKit
set_option linter.unusedVariables false
set_option maxRecDepth 100000
theorem six_get (x : SaL) (j : Nat) : (saC x)[j]? = some (.int .i64 x.now) ∧ j = 0 ∨ (saC x)[j]? = some (.int .i64 x.hor) ∧ j = 1 ∨ (∃ a n c, (saC x)[j]? = some (.slice a n c)) ∧ 2 ≤ j ∧ j ≤ 5 ∨ (saC x)[j]? = none := by
 match j with
 | 0 => exact .inl ⟨rfl, rfl⟩
 | 1 => exact .inr (.inl ⟨rfl, rfl⟩)
 | 2 => exact .inr (.inr (.inl ⟨⟨_, _, _, rfl⟩, by omega, by omega⟩))
 | 3 => exact .inr (.inr (.inl ⟨⟨_, _, _, rfl⟩, by omega, by omega⟩))
 | 4 => exact .inr (.inr (.inl ⟨⟨_, _, _, rfl⟩, by omega, by omega⟩))
 | 5 => exact .inr (.inr (.inl ⟨⟨_, _, _, rfl⟩, by omega, by omega⟩))
 | j + 6 => exact .inr (.inr (.inr (by simp [saC])))
theorem six_string {W : World} {g : Nat} {x : SaL} {t : TypeId} (h : W.heap[g]? = some (.cells (saC x) t (0, 0))) {j : Nat} {s : ByteArray} : ¬ W.cell? ⟨g, j, none⟩ = some (.string s) := fun e => by
 rw [cell_of_row _ _ _ _ _ (0, 0) h] at e
 rcases six_get x j with ⟨h1, _⟩ | ⟨h1, _⟩ | ⟨⟨a, n, c, h1⟩, _⟩ | h1 <;> (rw [h1] at e; cases e)
theorem six_int {W : World} {g : Nat} {x : SaL} {t : TypeId} (h : W.heap[g]? = some (.cells (saC x) t (0, 0))) {j : Nat} {k : IntKind} {n : Int} (e : W.cell? ⟨g, j, none⟩ = some (.int k n)) : j ≤ 1 := by
 rw [cell_of_row _ _ _ _ _ (0, 0) h] at e
 rcases six_get x j with ⟨_, h1⟩ | ⟨_, h1⟩ | ⟨⟨a, n, c, h1⟩, _⟩ | h1
 ·omega
 ·omega
 ·rw [h1] at e; cases e
 ·rw [h1] at e; cases e
theorem cell_far {W : World} {g i : Nat} {v : Value} {p : Addr} (h : p.block ≠ g) : (W.setCell ⟨g, i, none⟩ v).cell? p = W.cell? p := by
 unfold World.cell?
 rw [Below.heap_setCell _ _ _ _ h]
theorem size_set (W : World) (p : Addr) (v : Value) : (W.setCell p v).heap.size = W.heap.size := by simp [World.setCell]
theorem block_far {W : World} {g i b : Nat} {v : Value} (h : b ≠ g) : (W.setCell ⟨g, i, none⟩ v).heap[b]? = W.heap[b]? := Below.heap_setCell _ _ _ _ h
section
variable {W : World} {g : Nat} {x : SaL} {t : TypeId}
theorem OpSl.setB (h : W.heap[g]? = some (.cells (saC x) t (0, 0))) {a : Option Addr} {l : List OpM} (ho : OpSl W a l) (i : Nat) (v : Value) : OpSl (W.setCell ⟨g, i, none⟩ v) a l := fun k hk => by
 obtain ⟨b, off, e, hlt, h0, h1, h2, h3⟩ := ho k hk
 have hne : b ≠ g := fun e => by subst e; exact six_string h h1
 exact ⟨b, off, e, by rw [size_set]; exact hlt, (cell_far (p := ⟨b, off + k * 4, none⟩) hne).trans h0, (cell_far (p := ⟨b, off + k * 4 + 1, none⟩) hne).trans h1, (cell_far (p := ⟨b, off + k * 4 + 2, none⟩) hne).trans h2, (cell_far (p := ⟨b, off + k * 4 + 3, none⟩) hne).trans h3⟩
theorem EnSl.setB (h : W.heap[g]? = some (.cells (saC x) t (0, 0))) {a : Option Addr} {l : List EnM} (ho : EnSl W a l) (i : Nat) (v : Value) : EnSl (W.setCell ⟨g, i, none⟩ v) a l := fun k hk => by
 obtain ⟨b, off, e, hlt, h0, h1, h2, h3⟩ := ho k hk
 have hne : b ≠ g := fun e => by subst e; exact six_string h h1
 exact ⟨b, off, e, by rw [size_set]; exact hlt, (cell_far (p := ⟨b, off + k * 4, none⟩) hne).trans h0, (cell_far (p := ⟨b, off + k * 4 + 1, none⟩) hne).trans h1, (cell_far (p := ⟨b, off + k * 4 + 2, none⟩) hne).trans h2, (cell_far (p := ⟨b, off + k * 4 + 3, none⟩) hne).trans h3⟩
theorem StSl.setB (h : W.heap[g]? = some (.cells (saC x) t (0, 0))) {a : Option Addr} {l : List StM} (ho : StSl W a l) (i : Nat) (v : Value) : StSl (W.setCell ⟨g, i, none⟩ v) a l := fun k hk => by
 obtain ⟨b, off, e, hlt, h0, h1, h2, h3⟩ := ho k hk
 have hne : b ≠ g := fun e => by
  subst e
  have := six_int h h3
  omega
 exact ⟨b, off, e, by rw [size_set]; exact hlt, (cell_far (p := ⟨b, off + k * 4, none⟩) hne).trans h0, (cell_far (p := ⟨b, off + k * 4 + 1, none⟩) hne).trans h1, (cell_far (p := ⟨b, off + k * 4 + 2, none⟩) hne).trans h2, (cell_far (p := ⟨b, off + k * 4 + 3, none⟩) hne).trans h3⟩
theorem PpSl.setB (h : W.heap[g]? = some (.cells (saC x) t (0, 0))) {a : Option Addr} {l : List (Value × Value)} (hs : ∀ y ∈ l, ∃ s, y.1 = .string s) (ho : PpSl W a l) (i : Nat) (v : Value) : PpSl (W.setCell ⟨g, i, none⟩ v) a l := fun k hk => by
 obtain ⟨b, off, e, hlt, h0, h1⟩ := ho k hk
 have hne : b ≠ g := fun e => by
  subst e
  obtain ⟨s, hs⟩ := hs _ (List.getElem_mem hk)
  rw [hs] at h0
  exact six_string h h0
 exact ⟨b, off, e, by rw [size_set]; exact hlt, (cell_far (p := ⟨b, off + k * 2, none⟩) hne).trans h0, (cell_far (p := ⟨b, off + k * 2 + 1, none⟩) hne).trans h1⟩
theorem TbSl.setB (h : W.heap[g]? = some (.cells (saC x) t (0, 0))) {a : Option Addr} {l : List TbM} (ho : TbSl W a l) (i : Nat) (v : Value) : TbSl (W.setCell ⟨g, i, none⟩ v) a l :=
 PpSl.setB h (fun y hy => by obtain ⟨z, _, rfl⟩ := List.mem_map.1 hy; exact ⟨_, rfl⟩) ho i v
theorem UsAt.setB (h : W.heap[g]? = some (.cells (saC x) t (0, 0))) {y : UsL} (ho : UsAt W y) (i : Nat) (v : Value) : UsAt (W.setCell ⟨g, i, none⟩ v) y := ⟨ho.st.setB h i v, ho.le, ho.mx, ho.nil⟩
theorem UsSl.setB (h : W.heap[g]? = some (.cells (saC x) t (0, 0))) {a : Option Addr} {l : List UsL} (ho : UsSl W a l) (i : Nat) (v : Value) : UsSl (W.setCell ⟨g, i, none⟩ v) a l :=
 ⟨PpSl.setB h (fun y hy => by obtain ⟨z, _, rfl⟩ := List.mem_map.1 hy; exact ⟨_, rfl⟩) ho.row i v, fun y hy => (ho.at_ y hy).setB h i v⟩
theorem SaAt.setB (h : W.heap[g]? = some (.cells (saC x) t (0, 0))) {y : SaL} (ho : SaAt W y) (i : Nat) (v : Value) : SaAt (W.setCell ⟨g, i, none⟩ v) y :=
 ⟨ho.op.setB h i v, ho.us.setB h i v, ho.su.setB h i v, ho.tb.setB h i v, ho.oc, ho.uc, ho.sc, ho.tc⟩
end
structure SB (w : World) (g : Nat) (t : TypeId) (x : SaL) (W : World) : Prop where
 blk : W.heap[g]? = some (.cells (saC x) t (0, 0))
 ge : w.heap.size ≤ g
 frame : Below w.heap.size w W
 at_ : SaAt W x
section
variable {w W W' : World} {g : Nat} {x : SaL} {t : TypeId}
theorem SB.lt (h : SB w g t x W) : g < W.heap.size := heap_lt h.blk
theorem SB.below (h : SB w g t x W) (q : Below W.heap.size W W') : SB w g t x W' := ⟨(q.block g h.lt).trans h.blk, h.ge, h.frame.trans (q.mono h.frame.size), h.at_.below q⟩
theorem SB.alloc (h : SB w g t x W) (o : Obj) : SB w g t x (W.alloc o) := h.below (below_one _ _)
theorem SB.drew (h : SB w g t x W) : SB w g t x W.drew := h.below (Below.refl _ _).drew
theorem SB.new {V : World} (hb : Below w.heap.size w V) (h : SaAt V x) (t : TypeId) : SB w V.heap.size t x (V.alloc (.cells (saC x) t)) := ⟨heap_alloc_new _ _, hb.size, hb.trans ((below_one _ _).mono hb.size), h.below (below_one _ _)⟩
theorem SB.cells (h : SB w g t x W) : W.cell? ⟨g, 0, none⟩ = some (.int .i64 x.now) ∧ W.cell? ⟨g, 1, none⟩ = some (.int .i64 x.hor) ∧ W.cell? ⟨g, 2, none⟩ = some (.slice x.oa x.op.length x.oc) ∧ W.cell? ⟨g, 3, none⟩ = some (.slice x.ua x.us.length x.uc) ∧ W.cell? ⟨g, 4, none⟩ = some (.slice x.sa x.su.length x.sc) ∧ W.cell? ⟨g, 5, none⟩ = some (.slice x.ta x.tb.length x.tc) :=
 ⟨cell_of_row _ _ _ _ _ _ h.blk, cell_of_row _ _ _ _ _ _ h.blk, cell_of_row _ _ _ _ _ _ h.blk, cell_of_row _ _ _ _ _ _ h.blk, cell_of_row _ _ _ _ _ _ h.blk, cell_of_row _ _ _ _ _ _ h.blk⟩
theorem SB.free (h : SB w g t x W) : W.frozen? ⟨g, 0, none⟩ = false ∧ W.frozen? ⟨g, 1, none⟩ = false ∧ W.frozen? ⟨g, 2, none⟩ = false ∧ W.frozen? ⟨g, 3, none⟩ = false ∧ W.frozen? ⟨g, 4, none⟩ = false ∧ W.frozen? ⟨g, 5, none⟩ = false :=
 ⟨frozen_of_row _ _ 0 _ _ h.blk, frozen_of_row _ _ 1 _ _ h.blk, frozen_of_row _ _ 2 _ _ h.blk, frozen_of_row _ _ 3 _ _ h.blk, frozen_of_row _ _ 4 _ _ h.blk, frozen_of_row _ _ 5 _ _ h.blk⟩
theorem SB.setNow (h : SB w g t x W) (n : Int) : SB w g t { x with now := n } (W.setCell ⟨g, 0, none⟩ (.int .i64 n)) :=
 ⟨heap_setCell_at h.blk 0 _, h.ge, h.frame.setCell (p := ⟨g, 0, none⟩) h.ge _, by have := h.at_.setB h.blk 0 (.int .i64 n); exact ⟨this.op, this.us, this.su, this.tb, this.oc, this.uc, this.sc, this.tc⟩⟩
theorem SB.setHor (h : SB w g t x W) (n : Int) : SB w g t { x with hor := n } (W.setCell ⟨g, 1, none⟩ (.int .i64 n)) :=
 ⟨heap_setCell_at h.blk 1 _, h.ge, h.frame.setCell (p := ⟨g, 1, none⟩) h.ge _, by have := h.at_.setB h.blk 1 (.int .i64 n); exact ⟨this.op, this.us, this.su, this.tb, this.oc, this.uc, this.sc, this.tc⟩⟩
theorem SB.setOp (h : SB w g t x W) {a : Option Addr} {l : List OpM} {n c : Nat} (hn : n = l.length) (ho : OpSl W a l) (hc : Cp a l.length c) : SB w g t { x with oa := a, op := l, oc := c } (W.setCell ⟨g, 2, none⟩ (.slice a n c)) := by
 subst hn
 exact ⟨heap_setCell_at h.blk 2 _, h.ge, h.frame.setCell (p := ⟨g, 2, none⟩) h.ge _, by have := h.at_.setB h.blk 2 (.slice a l.length c); exact ⟨ho.setB h.blk 2 _, this.us, this.su, this.tb, hc, this.uc, this.sc, this.tc⟩⟩
theorem SB.setUs (h : SB w g t x W) {a : Option Addr} {l : List UsL} {n c : Nat} (hn : n = l.length) (ho : UsSl W a l) (hc : Cp a l.length c) : SB w g t { x with ua := a, us := l, uc := c } (W.setCell ⟨g, 3, none⟩ (.slice a n c)) := by
 subst hn
 exact ⟨heap_setCell_at h.blk 3 _, h.ge, h.frame.setCell (p := ⟨g, 3, none⟩) h.ge _, by have := h.at_.setB h.blk 3 (.slice a l.length c); exact ⟨this.op, ho.setB h.blk 3 _, this.su, this.tb, this.oc, hc, this.sc, this.tc⟩⟩
theorem SB.setSu (h : SB w g t x W) {a : Option Addr} {l : List EnM} {n c : Nat} (hn : n = l.length) (ho : EnSl W a l) (hc : Cp a l.length c) : SB w g t { x with sa := a, su := l, sc := c } (W.setCell ⟨g, 4, none⟩ (.slice a n c)) := by
 subst hn
 exact ⟨heap_setCell_at h.blk 4 _, h.ge, h.frame.setCell (p := ⟨g, 4, none⟩) h.ge _, by have := h.at_.setB h.blk 4 (.slice a l.length c); exact ⟨this.op, this.us, ho.setB h.blk 4 _, this.tb, this.oc, this.uc, hc, this.tc⟩⟩
theorem SB.setTb (h : SB w g t x W) {a : Option Addr} {l : List TbM} {n c : Nat} (hn : n = l.length) (ho : TbSl W a l) (hc : Cp a l.length c) : SB w g t { x with ta := a, tb := l, tc := c } (W.setCell ⟨g, 5, none⟩ (.slice a n c)) := by
 subst hn
 exact ⟨heap_setCell_at h.blk 5 _, h.ge, h.frame.setCell (p := ⟨g, 5, none⟩) h.ge _, by have := h.at_.setB h.blk 5 (.slice a l.length c); exact ⟨this.op, this.us, this.su, ho.setB h.blk 5 _, this.oc, this.uc, this.sc, hc⟩⟩
end
def setS (W : World) (g : Nat) (y : SaL) : World := (((((W.setCell ⟨g, 0, none⟩ (.int .i64 y.now)).setCell ⟨g, 1, none⟩ (.int .i64 y.hor)).setCell ⟨g, 2, none⟩ (.slice y.oa y.op.length y.oc)).setCell ⟨g, 3, none⟩ (.slice y.ua y.us.length y.uc)).setCell ⟨g, 4, none⟩ (.slice y.sa y.su.length y.sc)).setCell ⟨g, 5, none⟩ (.slice y.ta y.tb.length y.tc)
section
variable {w W W' : World} {g : Nat} {x : SaL} {t : TypeId}
theorem SB.set (h : SB w g t x W) {y : SaL} (hy : SaAt W y) : SB w g t y (setS W g y) := by
 have h0 := h.setNow y.now
 have y0 := hy.setB h.blk 0 (.int .i64 y.now)
 have h1 := h0.setHor y.hor
 have y1 := y0.setB h0.blk 1 (.int .i64 y.hor)
 have h2 := h1.setOp rfl y1.op y1.oc
 have y2 := y1.setB h1.blk 2 (.slice y.oa y.op.length y.oc)
 have h3 := h2.setUs rfl y2.us y2.uc
 have y3 := y2.setB h2.blk 3 (.slice y.ua y.us.length y.uc)
 have h4 := h3.setSu rfl y3.su y3.sc
 have y4 := y3.setB h3.blk 4 (.slice y.sa y.su.length y.sc)
 exact h4.setTb rfl y4.tb y4.tc
theorem SB.far {g' : Nat} {x' : SaL} {t' : TypeId} (h : SB w g t x W) (h' : SB w g' t' x' W) (hne : g ≠ g') (i : Nat) (v : Value) : SB w g t x (W.setCell ⟨g', i, none⟩ v) :=
 ⟨(block_far hne).trans h.blk, h.ge, h.frame.setCell (p := ⟨g', i, none⟩) h'.ge _, h.at_.setB h'.blk i v⟩
end
theorem infoSa6 : (Tryz.prog.info? 38).map (·.size) = some 6 := by kernel_rfl
theorem infoSaR6 : (Tryz.prog.info? 27).map (·.size) = some 6 := by kernel_rfl
theorem loadS6 {W : World} {g : Nat} {x : SaL} {t : TypeId} (h : W.heap[g]? = some (.cells (saC x) t (0, 0))) : (loadVar 38 ⟨g, 0, none⟩).run Tryz.prog W = .ok (saV x) W :=
 run_loadVar_mid (P := Tryz.prog) W g 0 38 (saC x).toList _ (fun j v hv => by
  rw [Nat.zero_add, cell_of_row _ _ _ _ _ (0, 0) h]
  rw [Array.getElem?_toList] at hv
  exact hv) Tryz.underlying38 rfl infoSa6
theorem loadR6 {W : World} {g : Nat} {x : SaL} {t : TypeId} (h : W.heap[g]? = some (.cells (saC x) t (0, 0))) : (loadVar 27 ⟨g, 0, none⟩).run Tryz.prog W = .ok (saV x) W :=
 run_loadVar_mid (P := Tryz.prog) W g 0 27 (saC x).toList _ (fun j v hv => by
  rw [Nat.zero_add, cell_of_row _ _ _ _ _ (0, 0) h]
  rw [Array.getElem?_toList] at hv
  exact hv) Tryz.underlying27 rfl infoSaR6
structure RB (w : World) (g : Nat) (cs : Array Value) (t : TypeId) (W : World) : Prop where
 blk : W.heap[g]? = some (.cells cs t (0, 0))
theorem RB.below {w W W' : World} {g : Nat} {cs : Array Value} {t : TypeId} (h : RB w g cs t W) (q : Below W.heap.size W W') : RB w g cs t W' := ⟨(q.block g (heap_lt h.blk)).trans h.blk⟩
theorem RB.new (w V : World) (cs : Array Value) (t : TypeId) : RB w V.heap.size cs t (V.alloc (.cells cs t)) := ⟨heap_alloc_new _ _⟩
theorem RB.cell {w W : World} {g : Nat} {cs : Array Value} {t : TypeId} (h : RB w g cs t W) (j : Nat) : W.cell? ⟨g, j, none⟩ = cs[j]? := cell_of_row _ _ _ _ _ (0, 0) h.blk
end Go.Proofs.YtjhdhfokhkcamaaGreat
namespace Go.Proofs.YtjhdhfokhkcamaaGreat
open Go.RowKit Go.Proofs
set_option linter.unusedVariables false
set_option maxRecDepth 100000
set_option maxRecDepth 100000
theorem ogrow_any (n : Nat) (w : World) (hn : n ≤ 1000000) : Calls Tryz.prog 189 #[.slice none 0 0, .int .i64 n] w fun e w' => ∃ v, e = .returned v ∧ w'.ownsRow w.heap.size 112 4 v 0 [] ∧ Below w.heap.size w w' := by
 obtain ⟨i0, hi, hz0, hz1, hz2⟩ := info_parts infoOp
 rcases Nat.eq_zero_or_pos n with h0 | h0
 ·subst h0
  have h := Any8.slices_Grow_room Tryz.laysGrowOp none 0 0 0 w (by omega) (by omega) (by omega) (by omega)
  refine Calls.mono h ?_
  rintro e w' ⟨rfl, rfl⟩
  exact ⟨_, rfl, ⟨rfl, .inl ⟨rfl, rfl⟩⟩, Below.refl _ _⟩
 ·have h := Any8.slices_Grow_grow Tryz.laysGrowOp i0 _ hi hz0 (by rw [hz1]; omega) none 0 0 n [] w (by omega) (by omega) (by rw [hz2]; omega) (by omega) (by simp) (fun _ => rfl) (fun a h => by cases h)
  refine Calls.mono h ?_
  rintro e w' ⟨rfl, rfl⟩
  have hge := grownCap_ge w (0 + n) 0 112
  have hle := grownCap_le_maxLen w (0 + n) 0 112 (by unfold maxLen; omega)
  refine ⟨_, rfl, ⟨rfl, .inr ⟨w.heap.size, _, _, rfl, Nat.le_refl _, heap_alloc_new w.drew _, Nat.zero_le _, hle, ?_, by simp⟩⟩, ?_⟩
  ·simp only [Array.size_append, size_zeroCells]
   show 0 + (0 + n - 0) * 4 + (grownCap w (0 + n) 0 112 - (0 + n)) * 4 = grownCap w (0 + n) 0 112 * 4
   omega
  ·exact (Below.refl w.heap.size w).drew.alloc (Nat.le_refl _) _
structure OpR where
 a : Option Addr
 l : List OpM
 c : Nat
def oprV (r : OpR) : Value := .slice r.a r.l.length r.c
def catO (R : List OpR) : List OpM := R.flatMap (·.l)
theorem catO_take (R : List OpR) (j : Nat) (h : j < R.length) : catO (R.take (j + 1)) = catO (R.take j) ++ R[j].l := by
 unfold catO
 rw [List.take_succ_eq_append_getElem h, List.flatMap_append]
 simp
theorem catO_le (R : List OpR) (j : Nat) : (catO (R.take j)).length ≤ (catO R).length := by
 have : catO R = catO (R.take j) ++ catO (R.drop j) := by
  unfold catO
  rw [← List.flatMap_append, List.take_append_drop]
 rw [this, List.length_append]
 omega
def OpRAt (w : World) (r : OpR) : Prop := OpSl w r.a r.l ∧ (r.a = none → r.c = 0)
theorem orows_at {w : World} {a : Option Addr} {R : List OpR} (h : Sl w a (R.map oprV)) {k : Nat} (hk : k < R.length) : ∃ b off, a = some ⟨b, off, none⟩ ∧ b < w.heap.size ∧ w.cell? ⟨b, off + k, none⟩ = some (oprV R[k]) := by
 obtain ⟨b, off, e, hlt, hc⟩ := h k (by simpa using hk)
 exact ⟨b, off, e, hlt, by rw [hc]; simp⟩
set_option maxHeartbeats 1000000 in
theorem oconcat_any (a : Option Addr) (c : Nat) (R : List OpR) (w : World) (hr : Sl w a (R.map oprV)) (hR : ∀ r ∈ R, OpRAt w r) (hl : R.length ≤ 100000) (hs : (catO R).length ≤ 100000) :
  Calls Tryz.prog 162 #[.slice a R.length c] w fun e w' => ∃ v, e = .returned v ∧ w'.ownsRow w.heap.size 112 4 v (catO R).length (oes (catO R)) ∧ Below w.heap.size w w' := by
 obtain ⟨i0, hi, hz0, hz1, hz2⟩ := info_parts infoOp
 have HR := Lib.hid hr
 have HRR := Lib.hid hR
 have HG := Lib.hid (ogrow_any (catO R).length w (by omega))
 clear hr hR
 go_enter Tryz.func162, Tryz.ntmps162
 go_wp2
 go_loopw [3, 11] (fun v i wr => ∃ (j s : Nat), j ≤ R.length ∧ i = .int .i64 j ∧ v = .int .i64 s ∧ s ≤ 100000 ∧ Hid (s = (catO (R.take j)).length) ∧ wr = w) (fun _ i _ => R.length - (intOf i).toNat)
 case atStart => exact ⟨0, 0, by omega, rfl, rfl, by omega, rfl, rfl⟩
 case round =>
  obtain ⟨j, s, hj, rfl, rfl, hs1, HS, hw⟩ := hrel
  obtain rfl : w = wr := hw.symm
  clear hw
  by_cases hjl : j < R.length
  ·obtain ⟨b, off, rfl, hbl, hc0⟩ := orows_at HR.out hjl
   have HN := Lib.hid (catO_take R j hjl)
   have hle := catO_le R (j + 1)
   rw [HN.out, List.length_append, ← HS.out] at hle
   generalize R[j] = x at *
   unfold oprV at hc0
   obtain ⟨xa, xl, xc⟩ := x
   simp only at hc0 hle HN
   have hsum : s + xl.length ≤ 100000 := by omega
   clear hle
   go_wp2
   go_roundw
   case rel => exact ⟨j + 1, s + xl.length, by omega, by go_num, by go_num, hsum, (by unfold Hid; rw [HN.out, List.length_append, ← HS.out]), (by first | rfl | trivial)⟩
   case measure => simp [intOf]; omega
  ·obtain rfl : j = R.length := by omega
   rw [List.take_of_length_le (Nat.le_refl _)] at HS
   have HS2 := HS.out
   subst HS2
   go_wp2_with fail
   refine HG.out.mono ?_
   rintro e w1 ⟨v, rfl, ho, hb⟩
   have HO := Lib.hid ho
   have HB := Lib.hid hb
   clear ho hb HG HS
   go_wp2
   go_loopw [6, 27] (fun v i wx => ∃ (j : Nat), j ≤ R.length ∧ i = .int .i64 j ∧ Hid (wx.ownsRow w.heap.size 112 4 v (catO (R.take j)).length (oes (catO (R.take j)))) ∧ Hid (Below w.heap.size w wx)) (fun _ i _ => R.length - (intOf i).toNat)
   case atStart => exact ⟨0, by omega, rfl, HO.out, HB.out⟩
   case round =>
    obtain ⟨j, hj, rfl, HO, HB⟩ := hrel
    by_cases hjl : j < R.length
    ·obtain ⟨b, off, rfl, hbl, hc0⟩ := orows_at (HR.out.below HB.out) hjl
     have HN := Lib.hid (catO_take R j hjl)
     have hle := catO_le R (j + 1)
     have hle2 := catO_le R j
     rw [HN.out, List.length_append] at hle
     have HX := Lib.hid (HRR.out _ (List.getElem_mem hjl))
     generalize R[j] = x at *
     unfold oprV at hc0
     obtain ⟨xa, xl, xc⟩ := x
     simp only at hc0 hle HN
     obtain ⟨hx1, hx2⟩ := HX.out
     simp only at hx1 hx2
     have HX1 := Lib.hid (hx1.below HB.out)
     have HX2 := Lib.hid hx2
     generalize hct : catO (R.take j) = ct at *
     have hsum : ct.length + xl.length ≤ 1000000 := by omega
     clear hle hle2 hx1 hx2 HX hct
     go_wp2_with (at_builtin; refine wpList_append_op _ rfl (.tmp 31) (.tmp 32) 33 rfl w.heap.size 112 i0 _ Tryz.underlying33 hi hz0 hz1 hz2 rfl _ ct rfl HO.out xa xc xl rfl HX1.out HX2.out hsum HB.out.size ?_; intro v2 w2 hown2 hB2)
     have HO2 := Lib.hid hown2
     have HB2 := Lib.hid (HB.out.trans hB2)
     clear hown2 hB2
     go_wp2
     go_roundw
     case rel => exact ⟨j + 1, by omega, by go_num, (by unfold Hid; rw [HN.out]; exact HO2.out), HB2⟩
     case measure => simp [intOf]; omega
    ·obtain rfl : j = R.length := by omega
     rw [List.take_of_length_le (Nat.le_refl _)] at HO
     go_wp2
     go_ret
     exact ⟨_, rfl, HO.out, HB.out⟩
theorem own_emptyO (w : World) (e : TypeId) (k B : Nat) (hB : B ≤ w.heap.size) : (w.alloc (.cells #[] e)).ownsRow B e k (.slice (some ⟨w.heap.size, 0, none⟩) 0 0) 0 [] :=
 ⟨by simp, .inr ⟨w.heap.size, 0, #[], rfl, hB, heap_alloc_new w _, Nat.le_refl _, by unfold maxLen; omega, by simp, by simp⟩⟩
end Go.Proofs.YtjhdhfokhkcamaaGreat
namespace Go.Proofs.YtjhdhfokhkcamaaGreat
open Go.RowKit Go.Sort Go.Proofs
set_option linter.unusedVariables false
set_option maxRecDepth 100000
set_option maxRecDepth 100000
theorem sgrow_any (n : Nat) (w : World) (hn : n ≤ 1000000) : Calls Tryz.prog 188 #[.slice none 0 0, .int .i64 n] w fun e w' => ∃ v, e = .returned v ∧ w'.ownsRow w.heap.size 86 4 v 0 [] ∧ Below w.heap.size w w' := by
 obtain ⟨i0, hi, hz0, hz1, hz2⟩ := info_parts infoStay
 rcases Nat.eq_zero_or_pos n with h0 | h0
 ·subst h0
  have h := Any8.slices_Grow_room Tryz.laysGrowSt none 0 0 0 w (by omega) (by omega) (by omega) (by omega)
  refine Calls.mono h ?_
  rintro e w' ⟨rfl, rfl⟩
  exact ⟨_, rfl, ⟨rfl, .inl ⟨rfl, rfl⟩⟩, Below.refl _ _⟩
 ·have h := Any8.slices_Grow_grow Tryz.laysGrowSt i0 _ hi hz0 (by rw [hz1]; omega) none 0 0 n [] w (by omega) (by omega) (by rw [hz2]; omega) (by omega) (by simp) (fun _ => rfl) (fun a h => by cases h)
  refine Calls.mono h ?_
  rintro e w' ⟨rfl, rfl⟩
  have hge := grownCap_ge w (0 + n) 0 86
  have hle := grownCap_le_maxLen w (0 + n) 0 86 (by unfold maxLen; omega)
  refine ⟨_, rfl, ⟨rfl, .inr ⟨w.heap.size, _, _, rfl, Nat.le_refl _, heap_alloc_new w.drew _, Nat.zero_le _, hle, ?_, by simp⟩⟩, ?_⟩
  ·simp only [Array.size_append, size_zeroCells]
   show 0 + (0 + n - 0) * 4 + (grownCap w (0 + n) 0 86 - (0 + n)) * 4 = grownCap w (0 + n) 0 86 * 4
   omega
  ·exact (Below.refl w.heap.size w).drew.alloc (Nat.le_refl _) _
structure StR where
 a : Option Addr
 l : List StM
 c : Nat
def strV (r : StR) : Value := .slice r.a r.l.length r.c
def catS (R : List StR) : List StM := R.flatMap (·.l)
theorem catS_take (R : List StR) (j : Nat) (h : j < R.length) : catS (R.take (j + 1)) = catS (R.take j) ++ R[j].l := by
 unfold catS
 rw [List.take_succ_eq_append_getElem h, List.flatMap_append]
 simp
theorem catS_le (R : List StR) (j : Nat) : (catS (R.take j)).length ≤ (catS R).length := by
 have : catS R = catS (R.take j) ++ catS (R.drop j) := by
  unfold catS
  rw [← List.flatMap_append, List.take_append_drop]
 rw [this, List.length_append]
 omega
def StRAt (w : World) (r : StR) : Prop := StSl w r.a r.l ∧ (r.a = none → r.c = 0)
theorem srows_at {w : World} {a : Option Addr} {R : List StR} (h : Sl w a (R.map strV)) {k : Nat} (hk : k < R.length) : ∃ b off, a = some ⟨b, off, none⟩ ∧ b < w.heap.size ∧ w.cell? ⟨b, off + k, none⟩ = some (strV R[k]) := by
 obtain ⟨b, off, e, hlt, hc⟩ := h k (by simpa using hk)
 exact ⟨b, off, e, hlt, by rw [hc]; simp⟩
set_option maxHeartbeats 1000000 in
theorem sconcat_any (a : Option Addr) (c : Nat) (R : List StR) (w : World) (hr : Sl w a (R.map strV)) (hR : ∀ r ∈ R, StRAt w r) (hl : R.length ≤ 100000) (hs : (catS R).length ≤ 100000) :
  Calls Tryz.prog 151 #[.slice a R.length c] w fun e w' => ∃ v, e = .returned v ∧ w'.ownsRow w.heap.size 86 4 v (catS R).length (sts (catS R)) ∧ Below w.heap.size w w' := by
 obtain ⟨i0, hi, hz0, hz1, hz2⟩ := info_parts infoStay
 have HR := Lib.hid hr
 have HRR := Lib.hid hR
 have HG := Lib.hid (sgrow_any (catS R).length w (by omega))
 clear hr hR
 go_enter Tryz.func151, Tryz.ntmps151
 go_wp2
 go_loopw [3, 11] (fun v i wr => ∃ (j s : Nat), j ≤ R.length ∧ i = .int .i64 j ∧ v = .int .i64 s ∧ s ≤ 100000 ∧ Hid (s = (catS (R.take j)).length) ∧ wr = w) (fun _ i _ => R.length - (intOf i).toNat)
 case atStart => exact ⟨0, 0, by omega, rfl, rfl, by omega, rfl, rfl⟩
 case round =>
  obtain ⟨j, s, hj, rfl, rfl, hs1, HS, hw⟩ := hrel
  obtain rfl : w = wr := hw.symm
  clear hw
  by_cases hjl : j < R.length
  ·obtain ⟨b, off, rfl, hbl, hc0⟩ := srows_at HR.out hjl
   have HN := Lib.hid (catS_take R j hjl)
   have hle := catS_le R (j + 1)
   rw [HN.out, List.length_append, ← HS.out] at hle
   generalize R[j] = x at *
   unfold strV at hc0
   obtain ⟨xa, xl, xc⟩ := x
   simp only at hc0 hle HN
   have hsum : s + xl.length ≤ 100000 := by omega
   clear hle
   go_wp2
   go_roundw
   case rel => exact ⟨j + 1, s + xl.length, by omega, by go_num, by go_num, hsum, (by unfold Hid; rw [HN.out, List.length_append, ← HS.out]), (by first | rfl | trivial)⟩
   case measure => simp [intOf]; omega
  ·obtain rfl : j = R.length := by omega
   rw [List.take_of_length_le (Nat.le_refl _)] at HS
   have HS2 := HS.out
   subst HS2
   go_wp2_with fail
   refine HG.out.mono ?_
   rintro e w1 ⟨v, rfl, ho, hb⟩
   have HO := Lib.hid ho
   have HB := Lib.hid hb
   clear ho hb HG HS
   go_wp2
   go_loopw [6, 27] (fun v i wx => ∃ (j : Nat), j ≤ R.length ∧ i = .int .i64 j ∧ Hid (wx.ownsRow w.heap.size 86 4 v (catS (R.take j)).length (sts (catS (R.take j)))) ∧ Hid (Below w.heap.size w wx)) (fun _ i _ => R.length - (intOf i).toNat)
   case atStart => exact ⟨0, by omega, rfl, HO.out, HB.out⟩
   case round =>
    obtain ⟨j, hj, rfl, HO, HB⟩ := hrel
    by_cases hjl : j < R.length
    ·obtain ⟨b, off, rfl, hbl, hc0⟩ := srows_at (HR.out.below HB.out) hjl
     have HN := Lib.hid (catS_take R j hjl)
     have hle := catS_le R (j + 1)
     have hle2 := catS_le R j
     rw [HN.out, List.length_append] at hle
     have HX := Lib.hid (HRR.out _ (List.getElem_mem hjl))
     generalize R[j] = x at *
     unfold strV at hc0
     obtain ⟨xa, xl, xc⟩ := x
     simp only at hc0 hle HN
     obtain ⟨hx1, hx2⟩ := HX.out
     simp only at hx1 hx2
     have HX1 := Lib.hid (hx1.below HB.out)
     have HX2 := Lib.hid hx2
     generalize hct : catS (R.take j) = ct at *
     have hsum : ct.length + xl.length ≤ 1000000 := by omega
     clear hle hle2 hx1 hx2 HX hct
     go_wp2_with (at_builtin; refine wpList_append_st _ rfl (.tmp 31) (.tmp 32) 60 rfl w.heap.size 86 i0 _ Tryz.underlying60 hi hz0 hz1 hz2 rfl _ ct rfl HO.out xa xc xl rfl HX1.out HX2.out hsum HB.out.size ?_; intro v2 w2 hown2 hB2)
     have HO2 := Lib.hid hown2
     have HB2 := Lib.hid (HB.out.trans hB2)
     clear hown2 hB2
     go_wp2
     go_roundw
     case rel => exact ⟨j + 1, by omega, by go_num, (by unfold Hid; rw [HN.out]; exact HO2.out), HB2⟩
     case measure => simp [intOf]; omega
    ·obtain rfl : j = R.length := by omega
     rw [List.take_of_length_le (Nat.le_refl _)] at HO
     go_wp2
     go_ret
     exact ⟨_, rfl, HO.out, HB.out⟩
theorem own_empty8 (w : World) (e : TypeId) (k B : Nat) (hB : B ≤ w.heap.size) : (w.alloc (.cells #[] e)).ownsRow B e k (.slice (some ⟨w.heap.size, 0, none⟩) 0 0) 0 [] :=
 ⟨by simp, .inr ⟨w.heap.size, 0, #[], rfl, hB, heap_alloc_new w _, Nat.le_refl _, by unfold maxLen; omega, by simp, by simp⟩⟩
set_option maxHeartbeats 1000000 in
theorem clone8_any (a : Option Addr) (c : Nat) (l : List StM) (w : World) (hr : StSl w a l) (hn : a = none → c = 0) (hl : l.length ≤ 100000) :
  Calls Tryz.prog 88 #[.slice a l.length c] w fun e w' => ∃ v, e = .returned v ∧ w'.ownsRow w.heap.size 86 4 v l.length (sts l) ∧ Below w.heap.size w w' := by
 obtain ⟨i0, hi, hz0, hz1, hz2⟩ := info_parts infoStay
 have HN := Lib.hid hn
 have q22 : ∀ (W : World) (a : Option Addr) (n c n' c' : Nat), (binOp .eql 60 (.slice a n c) (.slice none n' c')).run Tryz.prog W = .ok (.bool a.isNone) W := fun W a n c n' c' => Lib.run_eql_slice_nil W _ _ a n c n' c' Tryz.underlying60
 clear hn
 cases a with
 | none =>
  have hc := HN.out rfl
  subst hc
  have : l = [] := by
   cases l with
   | nil => rfl
   | cons y m => obtain ⟨_, _, e, _⟩ := hr 0 (by simp); cases e
  subst this
  clear hr
  go_enter Tryz.func88, Tryz.ntmps88
  go_wp2
  go_ret
  exact ⟨_, rfl, ⟨rfl, .inl ⟨rfl, rfl⟩⟩, Below.refl _ _⟩
 | some ad =>
  have HO := Lib.hid (own_empty8 w 86 4 w.heap.size (Nat.le_refl _))
  have HB := Lib.hid (below_one w (.cells #[] 86))
  have HX1 := Lib.hid (hr.below HB.out)
  clear hr
  go_enter Tryz.func88, Tryz.ntmps88
  go_wp2_with (at_builtin; refine wpList_append_st _ rfl (.tmp 5) (.tmp 6) 60 rfl w.heap.size 86 i0 _ Tryz.underlying60 hi hz0 hz1 hz2 rfl _ [] rfl HO.out (some ad) c l rfl HX1.out HN.out (by simpa using (show l.length ≤ 1000000 by omega)) HB.out.size ?_; intro v2 w2 hown2 hB2)
  have HO2 := Lib.hid hown2
  have HB2 := Lib.hid (HB.out.trans hB2)
  clear hown2 hB2
  go_wp2
  go_ret
  exact ⟨_, rfl, HO2.out, HB2.out⟩
end Go.Proofs.YtjhdhfokhkcamaaGreat
namespace Go.Proofs.YtjhdhfokhkcamaaGreat
open Go.RowKit
set_option linter.unusedVariables false
set_option maxRecDepth 100000
def EFits (e : EvM) : Prop := e.user.size ≤ maxLen ∧ e.other.size ≤ maxLen
set_option maxHeartbeats 8000000 in
theorem evright_any (e : EvM) (he : EFits e) (w : World) : Calls Tryz.prog 43 #[evV e] w fun r w' => r = .returned (.bool (rightE e)) ∧ Below w.heap.size w w' := by
 have HSH := Lib.hid (fun W => shapeOf_any e.kind W)
 have HU := Lib.hid (fun b W => rightText_any e.user b W he.1)
 have HO := Lib.hid (fun b W => rightText_any e.other b W he.2)
 have HR : Hid (rightE e = (isK e.kind && (inB 0 1099511627775 e.at_ && (rText e.user (shK e.kind).user && (rText e.other (shK e.kind).other && (inB (shK e.kind).n0 (shK e.kind).n1 e.n && inB (shK e.kind).s0 (shK e.kind).s1 e.status)))))) := rfl
 have HE : Hid (∀ W, Below (w.alloc (.cells #[.int .i64 e.kind, .int .i64 e.at_, .string e.user, .string e.other, .int .i64 e.n, .int .i64 e.status] 43)).heap.size (w.alloc (.cells #[.int .i64 e.kind, .int .i64 e.at_, .string e.user, .string e.other, .int .i64 e.n, .int .i64 e.status] 43)) W → W.heap[w.heap.size]? = some (.cells #[.int .i64 e.kind, .int .i64 e.at_, .string e.user, .string e.other, .int .i64 e.n, .int .i64 e.status] 43 (0, 0)) ∧ Below w.heap.size w W) := fun W hb => ⟨(hb.block _ (by rw [size1]; omega)).trans (heap_alloc_new w _), ((Below.refl _ _).alloc (Nat.le_refl _) _).trans (hb.mono (by rw [size1]; omega))⟩
 unfold evV shV at *
 generalize rightE e = R at *
 generalize shK e.kind = s at *
 generalize isK e.kind = ik at *
 clear he
 go_enter Tryz.func43, Tryz.ntmps43
 go_wp2_with fail
 refine (HSH.out _).mono ?_
 rintro r w1 ⟨rfl, h1⟩
 have HE1 := Lib.hid (HE.out _ h1)
 have hsz : w.heap.size < w1.heap.size := (Array.getElem?_eq_some_iff.1 HE1.out.1).1
 have HXB := Lib.hid (fun o => heap_alloc_new w1 o)
 have HEB := Lib.hid (fun o => (Below.heap_alloc w1 o _ hsz).trans HE1.out.1)
 have HBW := Lib.hid (fun o => HE1.out.2.alloc HE1.out.2.size o)
 clear h1
 go_wp2_with fail
 have hx0 := HXB.out (.cells #[.bool s.user, .bool s.other, .int .i64 s.n0, .int .i64 s.n1, .int .i64 s.s0, .int .i64 s.s1] 159)
 have he0 := HEB.out (.cells #[.bool s.user, .bool s.other, .int .i64 s.n0, .int .i64 s.n1, .int .i64 s.s0, .int .i64 s.s1] 159)
 have hb0 := HBW.out (.cells #[.bool s.user, .bool s.other, .int .i64 s.n0, .int .i64 s.n1, .int .i64 s.s0, .int .i64 s.s1] 159)
 have hX : w1.heap.size < (w1.alloc (.cells #[.bool s.user, .bool s.other, .int .i64 s.n0, .int .i64 s.n1, .int .i64 s.s0, .int .i64 s.s1] 159)).heap.size := by rw [size1]; omega
 clear HXB HEB HBW HE1 HE HSH
 generalize w1.heap.size = X at *
 generalize (w1.alloc (.cells #[.bool s.user, .bool s.other, .int .i64 s.n0, .int .i64 s.n1, .int .i64 s.s0, .int .i64 s.s1] 159)) = W0 at *
 have HSS : Hid (∀ W, Below W0.heap.size W0 W → W.cell? ⟨w.heap.size, 0, none⟩ = some (.int .i64 e.kind) ∧ W.cell? ⟨w.heap.size, 1, none⟩ = some (.int .i64 e.at_) ∧ W.cell? ⟨w.heap.size, 2, none⟩ = some (.string e.user) ∧ W.cell? ⟨w.heap.size, 3, none⟩ = some (.string e.other) ∧ W.cell? ⟨w.heap.size, 4, none⟩ = some (.int .i64 e.n) ∧ W.cell? ⟨w.heap.size, 5, none⟩ = some (.int .i64 e.status) ∧ W.cell? ⟨X, 0, none⟩ = some (.bool s.user) ∧ W.cell? ⟨X, 1, none⟩ = some (.bool s.other) ∧ W.cell? ⟨X, 2, none⟩ = some (.int .i64 s.n0) ∧ W.cell? ⟨X, 3, none⟩ = some (.int .i64 s.n1) ∧ W.cell? ⟨X, 4, none⟩ = some (.int .i64 s.s0) ∧ W.cell? ⟨X, 5, none⟩ = some (.int .i64 s.s1)) := fun W hb => by
  obtain ⟨q0, q1, q2, q3, q4, q5⟩ := (cells6 ((hb.block w.heap.size (by omega)).trans he0)).1
  exact ⟨q0, q1, q2, q3, q4, q5, (cells6 ((hb.block X hX).trans hx0)).1⟩
 have HBB : Hid (∀ W, Below W0.heap.size W0 W → Below w.heap.size w W) := fun W hb => hb0.trans (hb.mono hb0.size)
 have HB0 : Hid (Below W0.heap.size W0 W0.drew) := (Below.refl _ _).drew
 clear hx0 he0 hb0 hX hsz
 by_cases hik : ik = false
 ·rw [hik] at HR
  subst hik
  refine wp_region_held_drew (S := (fun W => W.cell? ⟨w.heap.size, 0, none⟩ = some (.int .i64 e.kind) ∧ W.cell? ⟨w.heap.size, 1, none⟩ = some (.int .i64 e.at_) ∧ W.cell? ⟨w.heap.size, 2, none⟩ = some (.string e.user) ∧ W.cell? ⟨w.heap.size, 3, none⟩ = some (.string e.other) ∧ W.cell? ⟨w.heap.size, 4, none⟩ = some (.int .i64 e.n) ∧ W.cell? ⟨w.heap.size, 5, none⟩ = some (.int .i64 e.status) ∧ W.cell? ⟨X, 0, none⟩ = some (.bool s.user) ∧ W.cell? ⟨X, 1, none⟩ = some (.bool s.other) ∧ W.cell? ⟨X, 2, none⟩ = some (.int .i64 s.n0) ∧ W.cell? ⟨X, 3, none⟩ = some (.int .i64 s.n1) ∧ W.cell? ⟨X, 4, none⟩ = some (.int .i64 s.s0) ∧ W.cell? ⟨X, 5, none⟩ = some (.int .i64 s.s1))) (by kernel_rfl) ?_ (fun hHeld => ?_)
  ·exact HSS.out _ HB0.out
  refine tV 0 11 ?_
  refine tV 1 12 ?_
  refine tU 2 13 ?_
  refine tU 3 14 ?_
  refine tU 4 15 ?_
  refine tU 5 16 ?_
  refine tV 6 17 ?_
  refine tV 7 18 ?_
  refine tU 8 19 ?_
  refine tU 9 20 ?_
  refine tU 10 21 ?_
  refine tU 11 22 ?_
  refine tU 12 23 ?_
  refine tV 13 24 ?_
  refine tV 14 25 ?_
  refine tU 15 26 ?_
  refine tU 16 27 ?_
  refine tU 17 28 ?_
  refine tU 18 29 ?_
  refine tU 19 30 ?_
  refine tV 20 31 ?_
  refine tV 21 32 ?_
  refine tU 22 33 ?_
  refine tU 23 34 ?_
  refine tU 24 35 ?_
  refine tU 25 36 ?_
  refine tU 26 37 ?_
  refine tV 27 38 ?_
  refine tV 28 39 ?_
  refine tU 29 40 ?_
  refine tU 30 41 ?_
  refine tU 31 42 ?_
  refine tU 32 43 ?_
  refine tU 33 44 ?_
  refine tV 34 45 ?_
  refine tV 35 2 ?_
  refine wpAnyH_done (by kernel_rfl) ?_ _
  all_goals
   go_wp2
   go_ret
   exact ⟨retB (by rw [HR.out]; simp), HBB.out _ HB0.out⟩
 have hik' : ik = true := by simpa using hik
 clear hik
 rw [hik'] at HR
 subst hik'
 by_cases hat : inB 0 1099511627775 e.at_ = false
 ·rw [hat] at HR
  refine wp_region_held_drew (S := (fun W => W.cell? ⟨w.heap.size, 0, none⟩ = some (.int .i64 e.kind) ∧ W.cell? ⟨w.heap.size, 1, none⟩ = some (.int .i64 e.at_) ∧ W.cell? ⟨w.heap.size, 2, none⟩ = some (.string e.user) ∧ W.cell? ⟨w.heap.size, 3, none⟩ = some (.string e.other) ∧ W.cell? ⟨w.heap.size, 4, none⟩ = some (.int .i64 e.n) ∧ W.cell? ⟨w.heap.size, 5, none⟩ = some (.int .i64 e.status) ∧ W.cell? ⟨X, 0, none⟩ = some (.bool s.user) ∧ W.cell? ⟨X, 1, none⟩ = some (.bool s.other) ∧ W.cell? ⟨X, 2, none⟩ = some (.int .i64 s.n0) ∧ W.cell? ⟨X, 3, none⟩ = some (.int .i64 s.n1) ∧ W.cell? ⟨X, 4, none⟩ = some (.int .i64 s.s0) ∧ W.cell? ⟨X, 5, none⟩ = some (.int .i64 s.s1))) (by kernel_rfl) ?_ (fun hHeld => ?_)
  ·exact HSS.out _ HB0.out
  refine tV 0 11 ?_
  refine tV 1 12 ?_
  refine tV 3 14 ?_
  refine tV 4 15 ?_
  refine wpAnyH_ready (rs := [2]) (by kernel_rfl) (by simp) ?_
  refine AllReadyH.cons (o := ⟨some 13, _, _, _, _, _⟩) rfl (fun K hK => ?_) AllReadyH.nil
  go_simp
  refine (times_any _).mono ?_
  rintro r v1 ⟨rfl, k1⟩
  have HB1 : Hid (Below W0.heap.size W0 v1) := HB0.out.trans (k1.mono HB0.out.size)
  clear k1
  go_wp2_with fail
  refine hK.out _ _ ?_ (fun hH2 => ?_)
  ·exact HSS.out _ HB1.out
  clear hK K
  (try simp only [Act.put, List.setIfInBounds_toArray, List.set_cons_zero, List.set_cons_succ])
  refine wpAnyH_ready (rs := [5]) (by kernel_rfl) (by simp) ?_
  refine AllReadyH.cons (o := ⟨some 16, _, _, _, _, _⟩) rfl (fun K hK => ?_) AllReadyH.nil
  go_simp
  refine (has_any _ _ _ _).mono ?_
  rintro r v2 ⟨rfl, k2⟩
  have HB2 : Hid (Below W0.heap.size W0 v2) := HB1.out.trans (k2.mono HB1.out.size)
  clear k2
  go_wp2_with fail
  refine hK.out _ _ ?_ (fun hH5 => ?_)
  ·exact HSS.out _ HB2.out
  clear hK K
  (try simp only [Act.put, List.setIfInBounds_toArray, List.set_cons_zero, List.set_cons_succ])
  refine tV 6 17 ?_
  refine tV 7 18 ?_
  refine tU 8 19 ?_
  refine tU 9 20 ?_
  refine tU 10 21 ?_
  refine tU 11 22 ?_
  refine tU 12 23 ?_
  refine tV 13 24 ?_
  refine tV 14 25 ?_
  refine tU 15 26 ?_
  refine tU 16 27 ?_
  refine tU 17 28 ?_
  refine tU 18 29 ?_
  refine tU 19 30 ?_
  refine tV 20 31 ?_
  refine tV 21 32 ?_
  refine tU 22 33 ?_
  refine tU 23 34 ?_
  refine tU 24 35 ?_
  refine tU 25 36 ?_
  refine tU 26 37 ?_
  refine tV 27 38 ?_
  refine tV 28 39 ?_
  refine tU 29 40 ?_
  refine tU 30 41 ?_
  refine tU 31 42 ?_
  refine tU 32 43 ?_
  refine tU 33 44 ?_
  refine tV 34 45 ?_
  refine tV 35 2 ?_
  refine wpAnyH_done (by kernel_rfl) ?_ _
  all_goals
   go_wp2
   go_ret
   exact ⟨retB (by rw [HR.out]; simp), HBB.out _ HB2.out⟩
 have hat' : inB 0 1099511627775 e.at_ = true := by simpa using hat
 clear hat
 rw [hat'] at HR
 by_cases hus : rText e.user s.user = false
 ·rw [hus] at HR
  refine wp_region_held_drew (S := (fun W => W.cell? ⟨w.heap.size, 0, none⟩ = some (.int .i64 e.kind) ∧ W.cell? ⟨w.heap.size, 1, none⟩ = some (.int .i64 e.at_) ∧ W.cell? ⟨w.heap.size, 2, none⟩ = some (.string e.user) ∧ W.cell? ⟨w.heap.size, 3, none⟩ = some (.string e.other) ∧ W.cell? ⟨w.heap.size, 4, none⟩ = some (.int .i64 e.n) ∧ W.cell? ⟨w.heap.size, 5, none⟩ = some (.int .i64 e.status) ∧ W.cell? ⟨X, 0, none⟩ = some (.bool s.user) ∧ W.cell? ⟨X, 1, none⟩ = some (.bool s.other) ∧ W.cell? ⟨X, 2, none⟩ = some (.int .i64 s.n0) ∧ W.cell? ⟨X, 3, none⟩ = some (.int .i64 s.n1) ∧ W.cell? ⟨X, 4, none⟩ = some (.int .i64 s.s0) ∧ W.cell? ⟨X, 5, none⟩ = some (.int .i64 s.s1))) (by kernel_rfl) ?_ (fun hHeld => ?_)
  ·exact HSS.out _ HB0.out
  refine tV 0 11 ?_
  refine tV 1 12 ?_
  refine tV 3 14 ?_
  refine tV 4 15 ?_
  refine wpAnyH_ready (rs := [2]) (by kernel_rfl) (by simp) ?_
  refine AllReadyH.cons (o := ⟨some 13, _, _, _, _, _⟩) rfl (fun K hK => ?_) AllReadyH.nil
  go_simp
  refine (times_any _).mono ?_
  rintro r v1 ⟨rfl, k1⟩
  have HB1 : Hid (Below W0.heap.size W0 v1) := HB0.out.trans (k1.mono HB0.out.size)
  clear k1
  go_wp2_with fail
  refine hK.out _ _ ?_ (fun hH2 => ?_)
  ·exact HSS.out _ HB1.out
  clear hK K
  (try simp only [Act.put, List.setIfInBounds_toArray, List.set_cons_zero, List.set_cons_succ])
  refine wpAnyH_ready (rs := [5]) (by kernel_rfl) (by simp) ?_
  refine AllReadyH.cons (o := ⟨some 16, _, _, _, _, _⟩) rfl (fun K hK => ?_) AllReadyH.nil
  go_simp
  refine (has_any _ _ _ _).mono ?_
  rintro r v2 ⟨rfl, k2⟩
  have HB2 : Hid (Below W0.heap.size W0 v2) := HB1.out.trans (k2.mono HB1.out.size)
  clear k2
  go_wp2_with fail
  refine hK.out _ _ ?_ (fun hH5 => ?_)
  ·exact HSS.out _ HB2.out
  clear hK K
  (try simp only [Act.put, List.setIfInBounds_toArray, List.set_cons_zero, List.set_cons_succ])
  refine tV 6 17 ?_
  refine tV 7 18 ?_
  refine tV 8 19 ?_
  refine tV 9 20 ?_
  refine tV 10 21 ?_
  refine tV 11 22 ?_
  refine wpAnyH_ready (rs := [12]) (by kernel_rfl) (by simp) ?_
  refine AllReadyH.cons (o := ⟨some 23, _, _, _, _, _⟩) rfl (fun K hK => ?_) AllReadyH.nil
  go_simp
  refine (HU.out _ _).mono ?_
  rintro r v3 ⟨rfl, rfl⟩
  go_wp2_with fail
  refine hK.out _ _ ?_ (fun hH12 => ?_)
  ·exact HSS.out _ HB2.out
  clear hK K
  (try simp only [Act.put, List.setIfInBounds_toArray, List.set_cons_zero, List.set_cons_succ])
  refine tV 13 24 ?_
  refine tV 14 25 ?_
  refine tU 15 26 ?_
  refine tU 16 27 ?_
  refine tU 17 28 ?_
  refine tU 18 29 ?_
  refine tU 19 30 ?_
  refine tV 20 31 ?_
  refine tV 21 32 ?_
  refine tU 22 33 ?_
  refine tU 23 34 ?_
  refine tU 24 35 ?_
  refine tU 25 36 ?_
  refine tU 26 37 ?_
  refine tV 27 38 ?_
  refine tV 28 39 ?_
  refine tU 29 40 ?_
  refine tU 30 41 ?_
  refine tU 31 42 ?_
  refine tU 32 43 ?_
  refine tU 33 44 ?_
  refine tV 34 45 ?_
  refine tV 35 2 ?_
  refine wpAnyH_done (by kernel_rfl) ?_ _
  all_goals
   go_wp2
   go_ret
   exact ⟨retB (by rw [HR.out]; simp), HBB.out _ HB2.out⟩
 have hus' : rText e.user s.user = true := by simpa using hus
 clear hus
 rw [hus'] at HR
 by_cases hot : rText e.other s.other = false
 ·rw [hot] at HR
  refine wp_region_held_drew (S := (fun W => W.cell? ⟨w.heap.size, 0, none⟩ = some (.int .i64 e.kind) ∧ W.cell? ⟨w.heap.size, 1, none⟩ = some (.int .i64 e.at_) ∧ W.cell? ⟨w.heap.size, 2, none⟩ = some (.string e.user) ∧ W.cell? ⟨w.heap.size, 3, none⟩ = some (.string e.other) ∧ W.cell? ⟨w.heap.size, 4, none⟩ = some (.int .i64 e.n) ∧ W.cell? ⟨w.heap.size, 5, none⟩ = some (.int .i64 e.status) ∧ W.cell? ⟨X, 0, none⟩ = some (.bool s.user) ∧ W.cell? ⟨X, 1, none⟩ = some (.bool s.other) ∧ W.cell? ⟨X, 2, none⟩ = some (.int .i64 s.n0) ∧ W.cell? ⟨X, 3, none⟩ = some (.int .i64 s.n1) ∧ W.cell? ⟨X, 4, none⟩ = some (.int .i64 s.s0) ∧ W.cell? ⟨X, 5, none⟩ = some (.int .i64 s.s1))) (by kernel_rfl) ?_ (fun hHeld => ?_)
  ·exact HSS.out _ HB0.out
  refine tV 0 11 ?_
  refine tV 1 12 ?_
  refine tV 3 14 ?_
  refine tV 4 15 ?_
  refine wpAnyH_ready (rs := [2]) (by kernel_rfl) (by simp) ?_
  refine AllReadyH.cons (o := ⟨some 13, _, _, _, _, _⟩) rfl (fun K hK => ?_) AllReadyH.nil
  go_simp
  refine (times_any _).mono ?_
  rintro r v1 ⟨rfl, k1⟩
  have HB1 : Hid (Below W0.heap.size W0 v1) := HB0.out.trans (k1.mono HB0.out.size)
  clear k1
  go_wp2_with fail
  refine hK.out _ _ ?_ (fun hH2 => ?_)
  ·exact HSS.out _ HB1.out
  clear hK K
  (try simp only [Act.put, List.setIfInBounds_toArray, List.set_cons_zero, List.set_cons_succ])
  refine wpAnyH_ready (rs := [5]) (by kernel_rfl) (by simp) ?_
  refine AllReadyH.cons (o := ⟨some 16, _, _, _, _, _⟩) rfl (fun K hK => ?_) AllReadyH.nil
  go_simp
  refine (has_any _ _ _ _).mono ?_
  rintro r v2 ⟨rfl, k2⟩
  have HB2 : Hid (Below W0.heap.size W0 v2) := HB1.out.trans (k2.mono HB1.out.size)
  clear k2
  go_wp2_with fail
  refine hK.out _ _ ?_ (fun hH5 => ?_)
  ·exact HSS.out _ HB2.out
  clear hK K
  (try simp only [Act.put, List.setIfInBounds_toArray, List.set_cons_zero, List.set_cons_succ])
  refine tV 6 17 ?_
  refine tV 7 18 ?_
  refine tV 8 19 ?_
  refine tV 9 20 ?_
  refine tV 10 21 ?_
  refine tV 11 22 ?_
  refine wpAnyH_ready (rs := [12]) (by kernel_rfl) (by simp) ?_
  refine AllReadyH.cons (o := ⟨some 23, _, _, _, _, _⟩) rfl (fun K hK => ?_) AllReadyH.nil
  go_simp
  refine (HU.out _ _).mono ?_
  rintro r v3 ⟨rfl, rfl⟩
  go_wp2_with fail
  refine hK.out _ _ ?_ (fun hH12 => ?_)
  ·exact HSS.out _ HB2.out
  clear hK K
  (try simp only [Act.put, List.setIfInBounds_toArray, List.set_cons_zero, List.set_cons_succ])
  refine tV 13 24 ?_
  refine tV 14 25 ?_
  refine tV 15 26 ?_
  refine tV 16 27 ?_
  refine tV 17 28 ?_
  refine tV 18 29 ?_
  refine wpAnyH_ready (rs := [19]) (by kernel_rfl) (by simp) ?_
  refine AllReadyH.cons (o := ⟨some 30, _, _, _, _, _⟩) rfl (fun K hK => ?_) AllReadyH.nil
  go_simp
  refine (HO.out _ _).mono ?_
  rintro r v4 ⟨rfl, rfl⟩
  go_wp2_with fail
  refine hK.out _ _ ?_ (fun hH19 => ?_)
  ·exact HSS.out _ HB2.out
  clear hK K
  (try simp only [Act.put, List.setIfInBounds_toArray, List.set_cons_zero, List.set_cons_succ])
  refine tV 20 31 ?_
  refine tV 21 32 ?_
  refine tU 22 33 ?_
  refine tU 23 34 ?_
  refine tU 24 35 ?_
  refine tU 25 36 ?_
  refine tU 26 37 ?_
  refine tV 27 38 ?_
  refine tV 28 39 ?_
  refine tU 29 40 ?_
  refine tU 30 41 ?_
  refine tU 31 42 ?_
  refine tU 32 43 ?_
  refine tU 33 44 ?_
  refine tV 34 45 ?_
  refine tV 35 2 ?_
  refine wpAnyH_done (by kernel_rfl) ?_ _
  all_goals
   go_wp2
   go_ret
   exact ⟨retB (by rw [HR.out]; simp), HBB.out _ HB2.out⟩
 have hot' : rText e.other s.other = true := by simpa using hot
 clear hot
 rw [hot'] at HR
 by_cases hnn : inB s.n0 s.n1 e.n = false
 ·rw [hnn] at HR
  refine wp_region_held_drew (S := (fun W => W.cell? ⟨w.heap.size, 0, none⟩ = some (.int .i64 e.kind) ∧ W.cell? ⟨w.heap.size, 1, none⟩ = some (.int .i64 e.at_) ∧ W.cell? ⟨w.heap.size, 2, none⟩ = some (.string e.user) ∧ W.cell? ⟨w.heap.size, 3, none⟩ = some (.string e.other) ∧ W.cell? ⟨w.heap.size, 4, none⟩ = some (.int .i64 e.n) ∧ W.cell? ⟨w.heap.size, 5, none⟩ = some (.int .i64 e.status) ∧ W.cell? ⟨X, 0, none⟩ = some (.bool s.user) ∧ W.cell? ⟨X, 1, none⟩ = some (.bool s.other) ∧ W.cell? ⟨X, 2, none⟩ = some (.int .i64 s.n0) ∧ W.cell? ⟨X, 3, none⟩ = some (.int .i64 s.n1) ∧ W.cell? ⟨X, 4, none⟩ = some (.int .i64 s.s0) ∧ W.cell? ⟨X, 5, none⟩ = some (.int .i64 s.s1))) (by kernel_rfl) ?_ (fun hHeld => ?_)
  ·exact HSS.out _ HB0.out
  refine tV 0 11 ?_
  refine tV 1 12 ?_
  refine tV 3 14 ?_
  refine tV 4 15 ?_
  refine wpAnyH_ready (rs := [2]) (by kernel_rfl) (by simp) ?_
  refine AllReadyH.cons (o := ⟨some 13, _, _, _, _, _⟩) rfl (fun K hK => ?_) AllReadyH.nil
  go_simp
  refine (times_any _).mono ?_
  rintro r v1 ⟨rfl, k1⟩
  have HB1 : Hid (Below W0.heap.size W0 v1) := HB0.out.trans (k1.mono HB0.out.size)
  clear k1
  go_wp2_with fail
  refine hK.out _ _ ?_ (fun hH2 => ?_)
  ·exact HSS.out _ HB1.out
  clear hK K
  (try simp only [Act.put, List.setIfInBounds_toArray, List.set_cons_zero, List.set_cons_succ])
  refine wpAnyH_ready (rs := [5]) (by kernel_rfl) (by simp) ?_
  refine AllReadyH.cons (o := ⟨some 16, _, _, _, _, _⟩) rfl (fun K hK => ?_) AllReadyH.nil
  go_simp
  refine (has_any _ _ _ _).mono ?_
  rintro r v2 ⟨rfl, k2⟩
  have HB2 : Hid (Below W0.heap.size W0 v2) := HB1.out.trans (k2.mono HB1.out.size)
  clear k2
  go_wp2_with fail
  refine hK.out _ _ ?_ (fun hH5 => ?_)
  ·exact HSS.out _ HB2.out
  clear hK K
  (try simp only [Act.put, List.setIfInBounds_toArray, List.set_cons_zero, List.set_cons_succ])
  refine tV 6 17 ?_
  refine tV 7 18 ?_
  refine tV 8 19 ?_
  refine tV 9 20 ?_
  refine tV 10 21 ?_
  refine tV 11 22 ?_
  refine wpAnyH_ready (rs := [12]) (by kernel_rfl) (by simp) ?_
  refine AllReadyH.cons (o := ⟨some 23, _, _, _, _, _⟩) rfl (fun K hK => ?_) AllReadyH.nil
  go_simp
  refine (HU.out _ _).mono ?_
  rintro r v3 ⟨rfl, rfl⟩
  go_wp2_with fail
  refine hK.out _ _ ?_ (fun hH12 => ?_)
  ·exact HSS.out _ HB2.out
  clear hK K
  (try simp only [Act.put, List.setIfInBounds_toArray, List.set_cons_zero, List.set_cons_succ])
  refine tV 13 24 ?_
  refine tV 14 25 ?_
  refine tV 15 26 ?_
  refine tV 16 27 ?_
  refine tV 17 28 ?_
  refine tV 18 29 ?_
  refine wpAnyH_ready (rs := [19]) (by kernel_rfl) (by simp) ?_
  refine AllReadyH.cons (o := ⟨some 30, _, _, _, _, _⟩) rfl (fun K hK => ?_) AllReadyH.nil
  go_simp
  refine (HO.out _ _).mono ?_
  rintro r v4 ⟨rfl, rfl⟩
  go_wp2_with fail
  refine hK.out _ _ ?_ (fun hH19 => ?_)
  ·exact HSS.out _ HB2.out
  clear hK K
  (try simp only [Act.put, List.setIfInBounds_toArray, List.set_cons_zero, List.set_cons_succ])
  refine tV 20 31 ?_
  refine tV 21 32 ?_
  refine tV 22 33 ?_
  refine tV 23 34 ?_
  refine tV 24 35 ?_
  refine tV 25 36 ?_
  refine wpAnyH_ready (rs := [26]) (by kernel_rfl) (by simp) ?_
  refine AllReadyH.cons (o := ⟨some 37, _, _, _, _, _⟩) rfl (fun K hK => ?_) AllReadyH.nil
  go_simp
  refine (has_any _ _ _ _).mono ?_
  rintro r v5 ⟨rfl, k5⟩
  have HB5 : Hid (Below W0.heap.size W0 v5) := HB2.out.trans (k5.mono HB2.out.size)
  clear k5
  go_wp2_with fail
  refine hK.out _ _ ?_ (fun hH26 => ?_)
  ·exact HSS.out _ HB5.out
  clear hK K
  (try simp only [Act.put, List.setIfInBounds_toArray, List.set_cons_zero, List.set_cons_succ])
  refine tV 27 38 ?_
  refine tV 28 39 ?_
  refine tU 29 40 ?_
  refine tU 30 41 ?_
  refine tU 31 42 ?_
  refine tU 32 43 ?_
  refine tU 33 44 ?_
  refine tV 34 45 ?_
  refine tV 35 2 ?_
  refine wpAnyH_done (by kernel_rfl) ?_ _
  all_goals
   go_wp2
   go_ret
   exact ⟨retB (by rw [HR.out]; simp), HBB.out _ HB5.out⟩
 have hnn' : inB s.n0 s.n1 e.n = true := by simpa using hnn
 clear hnn
 rw [hnn'] at HR
 refine wp_region_held_drew (S := (fun W => W.cell? ⟨w.heap.size, 0, none⟩ = some (.int .i64 e.kind) ∧ W.cell? ⟨w.heap.size, 1, none⟩ = some (.int .i64 e.at_) ∧ W.cell? ⟨w.heap.size, 2, none⟩ = some (.string e.user) ∧ W.cell? ⟨w.heap.size, 3, none⟩ = some (.string e.other) ∧ W.cell? ⟨w.heap.size, 4, none⟩ = some (.int .i64 e.n) ∧ W.cell? ⟨w.heap.size, 5, none⟩ = some (.int .i64 e.status) ∧ W.cell? ⟨X, 0, none⟩ = some (.bool s.user) ∧ W.cell? ⟨X, 1, none⟩ = some (.bool s.other) ∧ W.cell? ⟨X, 2, none⟩ = some (.int .i64 s.n0) ∧ W.cell? ⟨X, 3, none⟩ = some (.int .i64 s.n1) ∧ W.cell? ⟨X, 4, none⟩ = some (.int .i64 s.s0) ∧ W.cell? ⟨X, 5, none⟩ = some (.int .i64 s.s1))) (by kernel_rfl) ?_ (fun hHeld => ?_)
 ·exact HSS.out _ HB0.out
 refine tV 0 11 ?_
 refine tV 1 12 ?_
 refine tV 3 14 ?_
 refine tV 4 15 ?_
 refine wpAnyH_ready (rs := [2]) (by kernel_rfl) (by simp) ?_
 refine AllReadyH.cons (o := ⟨some 13, _, _, _, _, _⟩) rfl (fun K hK => ?_) AllReadyH.nil
 go_simp
 refine (times_any _).mono ?_
 rintro r v1 ⟨rfl, k1⟩
 have HB1 : Hid (Below W0.heap.size W0 v1) := HB0.out.trans (k1.mono HB0.out.size)
 clear k1
 go_wp2_with fail
 refine hK.out _ _ ?_ (fun hH2 => ?_)
 ·exact HSS.out _ HB1.out
 clear hK K
 (try simp only [Act.put, List.setIfInBounds_toArray, List.set_cons_zero, List.set_cons_succ])
 refine wpAnyH_ready (rs := [5]) (by kernel_rfl) (by simp) ?_
 refine AllReadyH.cons (o := ⟨some 16, _, _, _, _, _⟩) rfl (fun K hK => ?_) AllReadyH.nil
 go_simp
 refine (has_any _ _ _ _).mono ?_
 rintro r v2 ⟨rfl, k2⟩
 have HB2 : Hid (Below W0.heap.size W0 v2) := HB1.out.trans (k2.mono HB1.out.size)
 clear k2
 go_wp2_with fail
 refine hK.out _ _ ?_ (fun hH5 => ?_)
 ·exact HSS.out _ HB2.out
 clear hK K
 (try simp only [Act.put, List.setIfInBounds_toArray, List.set_cons_zero, List.set_cons_succ])
 refine tV 6 17 ?_
 refine tV 7 18 ?_
 refine tV 8 19 ?_
 refine tV 9 20 ?_
 refine tV 10 21 ?_
 refine tV 11 22 ?_
 refine wpAnyH_ready (rs := [12]) (by kernel_rfl) (by simp) ?_
 refine AllReadyH.cons (o := ⟨some 23, _, _, _, _, _⟩) rfl (fun K hK => ?_) AllReadyH.nil
 go_simp
 refine (HU.out _ _).mono ?_
 rintro r v3 ⟨rfl, rfl⟩
 go_wp2_with fail
 refine hK.out _ _ ?_ (fun hH12 => ?_)
 ·exact HSS.out _ HB2.out
 clear hK K
 (try simp only [Act.put, List.setIfInBounds_toArray, List.set_cons_zero, List.set_cons_succ])
 refine tV 13 24 ?_
 refine tV 14 25 ?_
 refine tV 15 26 ?_
 refine tV 16 27 ?_
 refine tV 17 28 ?_
 refine tV 18 29 ?_
 refine wpAnyH_ready (rs := [19]) (by kernel_rfl) (by simp) ?_
 refine AllReadyH.cons (o := ⟨some 30, _, _, _, _, _⟩) rfl (fun K hK => ?_) AllReadyH.nil
 go_simp
 refine (HO.out _ _).mono ?_
 rintro r v4 ⟨rfl, rfl⟩
 go_wp2_with fail
 refine hK.out _ _ ?_ (fun hH19 => ?_)
 ·exact HSS.out _ HB2.out
 clear hK K
 (try simp only [Act.put, List.setIfInBounds_toArray, List.set_cons_zero, List.set_cons_succ])
 refine tV 20 31 ?_
 refine tV 21 32 ?_
 refine tV 22 33 ?_
 refine tV 23 34 ?_
 refine tV 24 35 ?_
 refine tV 25 36 ?_
 refine wpAnyH_ready (rs := [26]) (by kernel_rfl) (by simp) ?_
 refine AllReadyH.cons (o := ⟨some 37, _, _, _, _, _⟩) rfl (fun K hK => ?_) AllReadyH.nil
 go_simp
 refine (has_any _ _ _ _).mono ?_
 rintro r v5 ⟨rfl, k5⟩
 have HB5 : Hid (Below W0.heap.size W0 v5) := HB2.out.trans (k5.mono HB2.out.size)
 clear k5
 go_wp2_with fail
 refine hK.out _ _ ?_ (fun hH26 => ?_)
 ·exact HSS.out _ HB5.out
 clear hK K
 (try simp only [Act.put, List.setIfInBounds_toArray, List.set_cons_zero, List.set_cons_succ])
 refine tV 27 38 ?_
 refine tV 28 39 ?_
 refine tV 29 40 ?_
 refine tV 30 41 ?_
 refine tV 31 42 ?_
 refine tV 32 43 ?_
 refine wpAnyH_ready (rs := [33]) (by kernel_rfl) (by simp) ?_
 refine AllReadyH.cons (o := ⟨some 44, _, _, _, _, _⟩) rfl (fun K hK => ?_) AllReadyH.nil
 go_simp
 refine (has_any _ _ _ _).mono ?_
 rintro r v6 ⟨rfl, k6⟩
 have HB6 : Hid (Below W0.heap.size W0 v6) := HB5.out.trans (k6.mono HB5.out.size)
 clear k6
 go_wp2_with fail
 refine hK.out _ _ ?_ (fun hH33 => ?_)
 ·exact HSS.out _ HB6.out
 clear hK K
 (try simp only [Act.put, List.setIfInBounds_toArray, List.set_cons_zero, List.set_cons_succ])
 refine tV 34 45 ?_
 refine tV 35 2 ?_
 refine wpAnyH_done (by kernel_rfl) ?_ _
 all_goals
  go_wp2
  go_ret
  exact ⟨retB (by rw [HR.out]; simp), HBB.out _ HB6.out⟩
end Go.Proofs.YtjhdhfokhkcamaaGreat
namespace Go.Proofs.YtjhdhfokhkcamaaGreat
open Go.ChangeShapes Go.WideShapes Go.ChangeAt Go.RowKit
set_option linter.unusedVariables false
set_option maxRecDepth 100000
theorem array6 {α : Type} {cs : Array α} (h : cs.size = 6) : ∃ c0 c1 c2 c3 c4 c5, cs = #[c0, c1, c2, c3, c4, c5] := by
 obtain ⟨l⟩ := cs
 match l, h with
 | [c0, c1, c2, c3, c4, c5], _ => exact ⟨c0, c1, c2, c3, c4, c5, rfl⟩
section
variable {H : Type} {enc : TypeId × Value → H} {P : Program} {w : World} {base : Nat} {spare : Nat → Bool} {held : Bool}
theorem trod_six {e : TypeId} {f0 f1 f2 f3 f4 f5 : Field} {fuel : Nat} {v0 v1 v2 v3 v4 v5 : Value} {x : DataW H × List MemPlace} (he : P.underlying e = some (.struct #[f0, f1, f2, f3, f4, f5]))
  (o0 : f0.offset = 0) (o1 : f1.offset = 1) (o2 : f2.offset = 2) (o3 : f3.offset = 3) (o4 : f4.offset = 4) (o5 : f5.offset = 5) (c0 : P.cellsOf f0.type = 1) (c1 : P.cellsOf f1.type = 1) (c2 : P.cellsOf f2.type = 1) (c3 : P.cellsOf f3.type = 1) (c4 : P.cellsOf f4.type = 1) (c5 : P.cellsOf f5.type = 1)
  (h : DataW.trod enc P w base spare held fuel e [v0, v1, v2, v3, v4, v5] = some x) :
  ∃ (y0 y1 y2 y3 y4 y5 : DataW H × List MemPlace) (n : Nat), x.1 = .agg [y0.1, y1.1, y2.1, y3.1, y4.1, y5.1] ∧ DataW.trod enc P w base spare held n f0.type [v0] = some y0 ∧ DataW.trod enc P w base spare held n f1.type [v1] = some y1 ∧ DataW.trod enc P w base spare held n f2.type [v2] = some y2 ∧ DataW.trod enc P w base spare held n f3.type [v3] = some y3 ∧ DataW.trod enc P w base spare held n f4.type [v4] = some y4 ∧ DataW.trod enc P w base spare held n f5.type [v5] = some y5 := by
 obtain ⟨xs, k, _, rfl, _, hxl, hf⟩ := DataW.trod_struct he h
 match xs, hxl with
 | [y0, y1, y2, y3, y4, y5], _ =>
  have g0 := hf 0 f0 rfl
  have g1 := hf 1 f1 rfl
  have g2 := hf 2 f2 rfl
  have g3 := hf 3 f3 rfl
  have g4 := hf 4 f4 rfl
  have g5 := hf 5 f5 rfl
  simp [o0, c0, o1, c1, o2, c2, o3, c3, o4, c4, o5, c5] at g0 g1 g2 g3 g4 g5
  exact ⟨y0, y1, y2, y3, y4, y5, k, rfl, g0, g1, g2, g3, g4, g5⟩
end
theorem evFields : ∃ f0 f1 f2 f3 f4 f5 : Field, Tryz.prog.underlying 29 = some (.struct #[f0, f1, f2, f3, f4, f5]) ∧ f0.offset = 0 ∧ f1.offset = 1 ∧ f2.offset = 2 ∧ f3.offset = 3 ∧ f4.offset = 4 ∧ f5.offset = 5 ∧ f0.type = 3 ∧ f1.type = 3 ∧ f2.type = 9 ∧ f3.type = 9 ∧ f4.type = 3 ∧ f5.type = 3 := ⟨_, _, _, _, _, _, Tryz.underlying29, rfl, rfl, rfl, rfl, rfl, rfl, rfl, rfl, rfl, rfl, rfl, rfl⟩
theorem six_event {H : Type} {enc : TypeId × Value → H} {W : World} {base : Nat} {spare : Nat → Bool} {held : Bool} {fuel : Nat} {v0 v1 v2 v3 v4 v5 : Value} {x : DataW H × List MemPlace}
  (h : DataW.trod enc Tryz.prog W base spare held fuel 29 [v0, v1, v2, v3, v4, v5] = some x) :
  ∃ e : EvM, [v0, v1, v2, v3, v4, v5] = evc e ∧ EFits e := by
 obtain ⟨f0, f1, f2, f3, f4, f5, he, o0, o1, o2, o3, o4, o5, t0, t1, t2, t3, t4, t5⟩ := evFields
 have ci : Tryz.prog.cellsOf 3 = 1 := by kernel_rfl
 have cs : Tryz.prog.cellsOf 9 = 1 := by kernel_rfl
 obtain ⟨y0, y1, y2, y3, y4, y5, n, hx, g0, g1, g2, g3, g4, g5⟩ := trod_six he o0 o1 o2 o3 o4 o5 (by rw [t0]; exact ci) (by rw [t1]; exact ci) (by rw [t2]; exact cs) (by rw [t3]; exact cs) (by rw [t4]; exact ci) (by rw [t5]; exact ci) h
 rw [t0] at g0
 rw [t1] at g1
 rw [t2] at g2
 rw [t3] at g3
 rw [t4] at g4
 rw [t5] at g5
 obtain ⟨z0, e0, _, w0⟩ := DataW.trod_int Tryz.underlying3 g0
 obtain ⟨z1, e1, _, w1⟩ := DataW.trod_int Tryz.underlying3 g1
 obtain ⟨z2, e2, _, w2⟩ := DataW.trod_string Tryz.underlying9 g2
 obtain ⟨z3, e3, _, w3⟩ := DataW.trod_string Tryz.underlying9 g3
 obtain ⟨z4, e4, _, w4⟩ := DataW.trod_int Tryz.underlying3 g4
 obtain ⟨z5, e5, _, w5⟩ := DataW.trod_int Tryz.underlying3 g5
 simp at e0 e1 e2 e3 e4 e5
 subst e0 e1 e2 e3 e4 e5
 exact ⟨⟨z0, z1, z2, z3, z4, z5⟩, rfl, ⟨w2, w3⟩⟩
theorem open_event {H : Type} {enc : TypeId × Value → H} {W : World} {base : Nat} {v : Value} {d : DataW H} {p : List MemPlace}
  (hok : Value.okWide Tryz.prog W .any base 29 v) (h : DataW.Trod enc Tryz.prog W 0 (fun _ => true) true 29 v d p) :
  ∃ e : EvM, v = evV e ∧ EFits e := by
 obtain ⟨f0, f1, f2, f3, f4, f5, he, _⟩ := evFields
 obtain ⟨cs, rfl, hsz⟩ := okWide_struct he hok
 obtain ⟨c0, c1, c2, c3, c4, c5, rfl⟩ := array6 (hsz.trans (by kernel_rfl))
 obtain ⟨fuel, hf⟩ := h
 obtain ⟨e, hc, h1⟩ := six_event (x := (d, p)) (by simpa [Value.cells] using hf)
 refine ⟨e, ?_, h1⟩
 unfold evc at hc
 simp only [List.cons.injEq] at hc
 obtain ⟨rfl, rfl, rfl, rfl, rfl, rfl, _⟩ := hc
 rfl
end Go.Proofs.YtjhdhfokhkcamaaGreat
