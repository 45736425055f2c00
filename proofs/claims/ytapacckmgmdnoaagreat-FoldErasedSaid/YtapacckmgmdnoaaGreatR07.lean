/- Texts of mine, one behind the other, of each what is wanted. -/
import Derived.Test.YtapacckmgmdnoaaGreatR00
import Derived.Test.YtapacckmgmdnoaaGreatShelf
import Derived.Test.YtapacckmgmdnoaaGreatR01
import Derived.Test.YtapacckmgmdnoaaGreatR03
import Derived.Test.YtapacckmgmdnoaaGreatR04
namespace Go.Proofs.YtapacckmgmdnoaaGreat
open Go.RowKit
set_option linter.unusedVariables false
set_option maxRecDepth 100000
set_option maxRecDepth 100000
theorem six_get (x : SaL) (j : Nat) : (saC x)[j]? = some (.int .i64 x.now) ∧ j = 0 ∨ (saC x)[j]? = some (.int .i64 x.hor) ∧ j = 1 ∨ (∃ a n c, (saC x)[j]? = some (.slice a n c)) ∧ 2 ≤ j ∧ j ≤ 5 ∨ (saC x)[j]? = none := by
 match j with
 | 0 => exact .inl ⟨rfl, rfl⟩
 | 1 => exact .inr (.inl ⟨rfl, rfl⟩)
 | 2 => exact .inr (.inr (.inl ⟨⟨_, _, _, rfl⟩, by omega, by omega⟩))
 | 3 => exact .inr (.inr (.inl ⟨⟨_, _, _, rfl⟩, by omega, by omega⟩))
 | 4 => exact .inr (.inr (.inl ⟨⟨_, _, _, rfl⟩, by omega, by omega⟩))
 | 5 => exact .inr (.inr (.inl ⟨⟨_, _, _, rfl⟩, by omega, by omega⟩))
 | j + 6 => exact .inr (.inr (.inr (by simp [saC])))
theorem six_string {W : World} {g : Nat} {x : SaL} {t : TypeId} (h : W.heap[g]? = some (.cells (saC x) t (0, 0))) {j : Nat} {s : ByteArray} : ¬ W.cell? ⟨g, j, none⟩ = some (.string s) := fun e => by
 rw [cell_of_row _ _ _ _ _ (0, 0) h] at e
 rcases six_get x j with ⟨h1, _⟩ | ⟨h1, _⟩ | ⟨⟨a, n, c, h1⟩, _⟩ | h1 <;> (rw [h1] at e; cases e)
theorem six_int {W : World} {g : Nat} {x : SaL} {t : TypeId} (h : W.heap[g]? = some (.cells (saC x) t (0, 0))) {j : Nat} {k : IntKind} {n : Int} (e : W.cell? ⟨g, j, none⟩ = some (.int k n)) : j ≤ 1 := by
 rw [cell_of_row _ _ _ _ _ (0, 0) h] at e
 rcases six_get x j with ⟨_, h1⟩ | ⟨_, h1⟩ | ⟨⟨a, n, c, h1⟩, _⟩ | h1
 ·omega
 ·omega
 ·rw [h1] at e; cases e
 ·rw [h1] at e; cases e
theorem cell_far {W : World} {g i : Nat} {v : Value} {p : Addr} (h : p.block ≠ g) : (W.setCell ⟨g, i, none⟩ v).cell? p = W.cell? p := by
 unfold World.cell?
 rw [Below.heap_setCell _ _ _ _ h]
theorem size_set (W : World) (p : Addr) (v : Value) : (W.setCell p v).heap.size = W.heap.size := by simp [World.setCell]
theorem block_far {W : World} {g i b : Nat} {v : Value} (h : b ≠ g) : (W.setCell ⟨g, i, none⟩ v).heap[b]? = W.heap[b]? := Below.heap_setCell _ _ _ _ h
section
variable {W : World} {g : Nat} {x : SaL} {t : TypeId}
theorem OpSl.setB (h : W.heap[g]? = some (.cells (saC x) t (0, 0))) {a : Option Addr} {l : List OpM} (ho : OpSl W a l) (i : Nat) (v : Value) : OpSl (W.setCell ⟨g, i, none⟩ v) a l := fun k hk => by
 obtain ⟨b, off, e, hlt, h0, h1, h2, h3⟩ := ho k hk
 have hne : b ≠ g := fun e => by subst e; exact six_string h h1
 exact ⟨b, off, e, by rw [size_set]; exact hlt, (cell_far (p := ⟨b, off + k * 4, none⟩) hne).trans h0, (cell_far (p := ⟨b, off + k * 4 + 1, none⟩) hne).trans h1, (cell_far (p := ⟨b, off + k * 4 + 2, none⟩) hne).trans h2, (cell_far (p := ⟨b, off + k * 4 + 3, none⟩) hne).trans h3⟩
theorem EnSl.setB (h : W.heap[g]? = some (.cells (saC x) t (0, 0))) {a : Option Addr} {l : List EnM} (ho : EnSl W a l) (i : Nat) (v : Value) : EnSl (W.setCell ⟨g, i, none⟩ v) a l := fun k hk => by
 obtain ⟨b, off, e, hlt, h0, h1, h2, h3⟩ := ho k hk
 have hne : b ≠ g := fun e => by subst e; exact six_string h h1
 exact ⟨b, off, e, by rw [size_set]; exact hlt, (cell_far (p := ⟨b, off + k * 4, none⟩) hne).trans h0, (cell_far (p := ⟨b, off + k * 4 + 1, none⟩) hne).trans h1, (cell_far (p := ⟨b, off + k * 4 + 2, none⟩) hne).trans h2, (cell_far (p := ⟨b, off + k * 4 + 3, none⟩) hne).trans h3⟩
theorem StSl.setB (h : W.heap[g]? = some (.cells (saC x) t (0, 0))) {a : Option Addr} {l : List StM} (ho : StSl W a l) (i : Nat) (v : Value) : StSl (W.setCell ⟨g, i, none⟩ v) a l := fun k hk => by
 obtain ⟨b, off, e, hlt, h0, h1, h2, h3⟩ := ho k hk
 have hne : b ≠ g := fun e => by
  subst e
  have := six_int h h3
  omega
 exact ⟨b, off, e, by rw [size_set]; exact hlt, (cell_far (p := ⟨b, off + k * 4, none⟩) hne).trans h0, (cell_far (p := ⟨b, off + k * 4 + 1, none⟩) hne).trans h1, (cell_far (p := ⟨b, off + k * 4 + 2, none⟩) hne).trans h2, (cell_far (p := ⟨b, off + k * 4 + 3, none⟩) hne).trans h3⟩
theorem PpSl.setB (h : W.heap[g]? = some (.cells (saC x) t (0, 0))) {a : Option Addr} {l : List (Value × Value)} (hs : ∀ y ∈ l, ∃ s, y.1 = .string s) (ho : PpSl W a l) (i : Nat) (v : Value) : PpSl (W.setCell ⟨g, i, none⟩ v) a l := fun k hk => by
 obtain ⟨b, off, e, hlt, h0, h1⟩ := ho k hk
 have hne : b ≠ g := fun e => by
  subst e
  obtain ⟨s, hs⟩ := hs _ (List.getElem_mem hk)
  rw [hs] at h0
  exact six_string h h0
 exact ⟨b, off, e, by rw [size_set]; exact hlt, (cell_far (p := ⟨b, off + k * 2, none⟩) hne).trans h0, (cell_far (p := ⟨b, off + k * 2 + 1, none⟩) hne).trans h1⟩
theorem TbSl.setB (h : W.heap[g]? = some (.cells (saC x) t (0, 0))) {a : Option Addr} {l : List TbM} (ho : TbSl W a l) (i : Nat) (v : Value) : TbSl (W.setCell ⟨g, i, none⟩ v) a l :=
 PpSl.setB h (fun y hy => by obtain ⟨z, _, rfl⟩ := List.mem_map.1 hy; exact ⟨_, rfl⟩) ho i v
theorem UsAt.setB (h : W.heap[g]? = some (.cells (saC x) t (0, 0))) {y : UsL} (ho : UsAt W y) (i : Nat) (v : Value) : UsAt (W.setCell ⟨g, i, none⟩ v) y := ⟨ho.st.setB h i v, ho.le, ho.mx, ho.nil⟩
theorem UsSl.setB (h : W.heap[g]? = some (.cells (saC x) t (0, 0))) {a : Option Addr} {l : List UsL} (ho : UsSl W a l) (i : Nat) (v : Value) : UsSl (W.setCell ⟨g, i, none⟩ v) a l :=
 ⟨PpSl.setB h (fun y hy => by obtain ⟨z, _, rfl⟩ := List.mem_map.1 hy; exact ⟨_, rfl⟩) ho.row i v, fun y hy => (ho.at_ y hy).setB h i v⟩
theorem SaAt.setB (h : W.heap[g]? = some (.cells (saC x) t (0, 0))) {y : SaL} (ho : SaAt W y) (i : Nat) (v : Value) : SaAt (W.setCell ⟨g, i, none⟩ v) y :=
 ⟨ho.op.setB h i v, ho.us.setB h i v, ho.su.setB h i v, ho.tb.setB h i v, ho.oc, ho.uc, ho.sc, ho.tc⟩
end
structure SB (w : World) (g : Nat) (t : TypeId) (x : SaL) (W : World) : Prop where
 blk : W.heap[g]? = some (.cells (saC x) t (0, 0))
 ge : w.heap.size ≤ g
 frame : Below w.heap.size w W
 at_ : SaAt W x
section
variable {w W W' : World} {g : Nat} {x : SaL} {t : TypeId}
theorem SB.lt (h : SB w g t x W) : g < W.heap.size := heap_lt h.blk
theorem SB.below (h : SB w g t x W) (q : Below W.heap.size W W') : SB w g t x W' := ⟨(q.block g h.lt).trans h.blk, h.ge, h.frame.trans (q.mono h.frame.size), h.at_.below q⟩
theorem SB.alloc (h : SB w g t x W) (o : Obj) : SB w g t x (W.alloc o) := h.below (below_one _ _)
theorem SB.drew (h : SB w g t x W) : SB w g t x W.drew := h.below (Below.refl _ _).drew
theorem SB.new {V : World} (hb : Below w.heap.size w V) (h : SaAt V x) (t : TypeId) : SB w V.heap.size t x (V.alloc (.cells (saC x) t)) := ⟨heap_alloc_new _ _, hb.size, hb.trans ((below_one _ _).mono hb.size), h.below (below_one _ _)⟩
theorem SB.cells (h : SB w g t x W) : W.cell? ⟨g, 0, none⟩ = some (.int .i64 x.now) ∧ W.cell? ⟨g, 1, none⟩ = some (.int .i64 x.hor) ∧ W.cell? ⟨g, 2, none⟩ = some (.slice x.oa x.op.length x.oc) ∧ W.cell? ⟨g, 3, none⟩ = some (.slice x.ua x.us.length x.uc) ∧ W.cell? ⟨g, 4, none⟩ = some (.slice x.sa x.su.length x.sc) ∧ W.cell? ⟨g, 5, none⟩ = some (.slice x.ta x.tb.length x.tc) :=
 ⟨cell_of_row _ _ _ _ _ _ h.blk, cell_of_row _ _ _ _ _ _ h.blk, cell_of_row _ _ _ _ _ _ h.blk, cell_of_row _ _ _ _ _ _ h.blk, cell_of_row _ _ _ _ _ _ h.blk, cell_of_row _ _ _ _ _ _ h.blk⟩
theorem SB.free (h : SB w g t x W) : W.frozen? ⟨g, 0, none⟩ = false ∧ W.frozen? ⟨g, 1, none⟩ = false ∧ W.frozen? ⟨g, 2, none⟩ = false ∧ W.frozen? ⟨g, 3, none⟩ = false ∧ W.frozen? ⟨g, 4, none⟩ = false ∧ W.frozen? ⟨g, 5, none⟩ = false :=
 ⟨frozen_of_row _ _ 0 _ _ h.blk, frozen_of_row _ _ 1 _ _ h.blk, frozen_of_row _ _ 2 _ _ h.blk, frozen_of_row _ _ 3 _ _ h.blk, frozen_of_row _ _ 4 _ _ h.blk, frozen_of_row _ _ 5 _ _ h.blk⟩
theorem SB.setNow (h : SB w g t x W) (n : Int) : SB w g t { x with now := n } (W.setCell ⟨g, 0, none⟩ (.int .i64 n)) :=
 ⟨heap_setCell_at h.blk 0 _, h.ge, h.frame.setCell (p := ⟨g, 0, none⟩) h.ge _, by have := h.at_.setB h.blk 0 (.int .i64 n); exact ⟨this.op, this.us, this.su, this.tb, this.oc, this.uc, this.sc, this.tc⟩⟩
theorem SB.setHor (h : SB w g t x W) (n : Int) : SB w g t { x with hor := n } (W.setCell ⟨g, 1, none⟩ (.int .i64 n)) :=
 ⟨heap_setCell_at h.blk 1 _, h.ge, h.frame.setCell (p := ⟨g, 1, none⟩) h.ge _, by have := h.at_.setB h.blk 1 (.int .i64 n); exact ⟨this.op, this.us, this.su, this.tb, this.oc, this.uc, this.sc, this.tc⟩⟩
theorem SB.setOp (h : SB w g t x W) {a : Option Addr} {l : List OpM} {n c : Nat} (hn : n = l.length) (ho : OpSl W a l) (hc : Cp a l.length c) : SB w g t { x with oa := a, op := l, oc := c } (W.setCell ⟨g, 2, none⟩ (.slice a n c)) := by
 subst hn
 exact ⟨heap_setCell_at h.blk 2 _, h.ge, h.frame.setCell (p := ⟨g, 2, none⟩) h.ge _, by have := h.at_.setB h.blk 2 (.slice a l.length c); exact ⟨ho.setB h.blk 2 _, this.us, this.su, this.tb, hc, this.uc, this.sc, this.tc⟩⟩
theorem SB.setUs (h : SB w g t x W) {a : Option Addr} {l : List UsL} {n c : Nat} (hn : n = l.length) (ho : UsSl W a l) (hc : Cp a l.length c) : SB w g t { x with ua := a, us := l, uc := c } (W.setCell ⟨g, 3, none⟩ (.slice a n c)) := by
 subst hn
 exact ⟨heap_setCell_at h.blk 3 _, h.ge, h.frame.setCell (p := ⟨g, 3, none⟩) h.ge _, by have := h.at_.setB h.blk 3 (.slice a l.length c); exact ⟨this.op, ho.setB h.blk 3 _, this.su, this.tb, this.oc, hc, this.sc, this.tc⟩⟩
theorem SB.setSu (h : SB w g t x W) {a : Option Addr} {l : List EnM} {n c : Nat} (hn : n = l.length) (ho : EnSl W a l) (hc : Cp a l.length c) : SB w g t { x with sa := a, su := l, sc := c } (W.setCell ⟨g, 4, none⟩ (.slice a n c)) := by
 subst hn
 exact ⟨heap_setCell_at h.blk 4 _, h.ge, h.frame.setCell (p := ⟨g, 4, none⟩) h.ge _, by have := h.at_.setB h.blk 4 (.slice a l.length c); exact ⟨this.op, this.us, ho.setB h.blk 4 _, this.tb, this.oc, this.uc, hc, this.tc⟩⟩
theorem SB.setTb (h : SB w g t x W) {a : Option Addr} {l : List TbM} {n c : Nat} (hn : n = l.length) (ho : TbSl W a l) (hc : Cp a l.length c) : SB w g t { x with ta := a, tb := l, tc := c } (W.setCell ⟨g, 5, none⟩ (.slice a n c)) := by
 subst hn
 exact ⟨heap_setCell_at h.blk 5 _, h.ge, h.frame.setCell (p := ⟨g, 5, none⟩) h.ge _, by have := h.at_.setB h.blk 5 (.slice a l.length c); exact ⟨this.op, this.us, this.su, ho.setB h.blk 5 _, this.oc, this.uc, this.sc, hc⟩⟩
end
def setS (W : World) (g : Nat) (y : SaL) : World := (((((W.setCell ⟨g, 0, none⟩ (.int .i64 y.now)).setCell ⟨g, 1, none⟩ (.int .i64 y.hor)).setCell ⟨g, 2, none⟩ (.slice y.oa y.op.length y.oc)).setCell ⟨g, 3, none⟩ (.slice y.ua y.us.length y.uc)).setCell ⟨g, 4, none⟩ (.slice y.sa y.su.length y.sc)).setCell ⟨g, 5, none⟩ (.slice y.ta y.tb.length y.tc)
section
variable {w W W' : World} {g : Nat} {x : SaL} {t : TypeId}
theorem SB.set (h : SB w g t x W) {y : SaL} (hy : SaAt W y) : SB w g t y (setS W g y) := by
 have h0 := h.setNow y.now
 have y0 := hy.setB h.blk 0 (.int .i64 y.now)
 have h1 := h0.setHor y.hor
 have y1 := y0.setB h0.blk 1 (.int .i64 y.hor)
 have h2 := h1.setOp rfl y1.op y1.oc
 have y2 := y1.setB h1.blk 2 (.slice y.oa y.op.length y.oc)
 have h3 := h2.setUs rfl y2.us y2.uc
 have y3 := y2.setB h2.blk 3 (.slice y.ua y.us.length y.uc)
 have h4 := h3.setSu rfl y3.su y3.sc
 have y4 := y3.setB h3.blk 4 (.slice y.sa y.su.length y.sc)
 exact h4.setTb rfl y4.tb y4.tc
theorem SB.far {g' : Nat} {x' : SaL} {t' : TypeId} (h : SB w g t x W) (h' : SB w g' t' x' W) (hne : g ≠ g') (i : Nat) (v : Value) : SB w g t x (W.setCell ⟨g', i, none⟩ v) :=
 ⟨(block_far hne).trans h.blk, h.ge, h.frame.setCell (p := ⟨g', i, none⟩) h'.ge _, h.at_.setB h'.blk i v⟩
end
theorem infoSa6 : (Tryz.prog.info? 39).map (·.size) = some 6 := by kernel_rfl
theorem loadS6 {W : World} {g : Nat} {x : SaL} {t : TypeId} (h : W.heap[g]? = some (.cells (saC x) t (0, 0))) : (loadVar 39 ⟨g, 0, none⟩).run Tryz.prog W = .ok (saV x) W :=
 run_loadVar_mid (P := Tryz.prog) W g 0 39 (saC x).toList _ (fun j v hv => by
  rw [Nat.zero_add, cell_of_row _ _ _ _ _ (0, 0) h]
  rw [Array.getElem?_toList] at hv
  exact hv) Tryz.underlying39 rfl infoSa6
end Go.Proofs.YtapacckmgmdnoaaGreat
namespace Go.Proofs.YtapacckmgmdnoaaGreat
open Go.RowKit Go.Proofs
set_option linter.unusedVariables false
set_option maxRecDepth 100000
set_option maxRecDepth 100000
theorem ogrow_any (n : Nat) (w : World) (hn : n ≤ 1000000) : Calls Tryz.prog 256 #[.slice none 0 0, .int .i64 n] w fun e w' => ∃ v, e = .returned v ∧ w'.ownsRow w.heap.size 184 4 v 0 [] ∧ Below w.heap.size w w' := by
 obtain ⟨i0, hi, hz0, hz1, hz2⟩ := info_parts infoOp
 rcases Nat.eq_zero_or_pos n with h0 | h0
 ·subst h0
  have h := Any8.slices_Grow_room Tryz.laysGrowOp none 0 0 0 w (by omega) (by omega) (by omega) (by omega)
  refine Calls.mono h ?_
  rintro e w' ⟨rfl, rfl⟩
  exact ⟨_, rfl, ⟨rfl, .inl ⟨rfl, rfl⟩⟩, Below.refl _ _⟩
 ·have h := Any8.slices_Grow_grow Tryz.laysGrowOp i0 _ hi hz0 (by rw [hz1]; omega) none 0 0 n [] w (by omega) (by omega) (by rw [hz2]; omega) (by omega) (by simp) (fun _ => rfl) (fun a h => by cases h)
  refine Calls.mono h ?_
  rintro e w' ⟨rfl, rfl⟩
  have hge := grownCap_ge w (0 + n) 0 184
  have hle := grownCap_le_maxLen w (0 + n) 0 184 (by unfold maxLen; omega)
  refine ⟨_, rfl, ⟨rfl, .inr ⟨w.heap.size, _, _, rfl, Nat.le_refl _, heap_alloc_new w.drew _, Nat.zero_le _, hle, ?_, by simp⟩⟩, ?_⟩
  ·simp only [Array.size_append, size_zeroCells]
   show 0 + (0 + n - 0) * 4 + (grownCap w (0 + n) 0 184 - (0 + n)) * 4 = grownCap w (0 + n) 0 184 * 4
   omega
  ·exact (Below.refl w.heap.size w).drew.alloc (Nat.le_refl _) _
structure OpR where
 a : Option Addr
 l : List OpM
 c : Nat
def oprV (r : OpR) : Value := .slice r.a r.l.length r.c
def catO (R : List OpR) : List OpM := R.flatMap (·.l)
theorem catO_take (R : List OpR) (j : Nat) (h : j < R.length) : catO (R.take (j + 1)) = catO (R.take j) ++ R[j].l := by
 unfold catO
 rw [List.take_succ_eq_append_getElem h, List.flatMap_append]
 simp
theorem catO_le (R : List OpR) (j : Nat) : (catO (R.take j)).length ≤ (catO R).length := by
 have : catO R = catO (R.take j) ++ catO (R.drop j) := by
  unfold catO
  rw [← List.flatMap_append, List.take_append_drop]
 rw [this, List.length_append]
 omega
def OpRAt (w : World) (r : OpR) : Prop := OpSl w r.a r.l ∧ (r.a = none → r.c = 0)
theorem orows_at {w : World} {a : Option Addr} {R : List OpR} (h : Sl w a (R.map oprV)) {k : Nat} (hk : k < R.length) : ∃ b off, a = some ⟨b, off, none⟩ ∧ b < w.heap.size ∧ w.cell? ⟨b, off + k, none⟩ = some (oprV R[k]) := by
 obtain ⟨b, off, e, hlt, hc⟩ := h k (by simpa using hk)
 exact ⟨b, off, e, hlt, by rw [hc]; simp⟩
set_option maxHeartbeats 1000000 in
theorem oconcat_any (a : Option Addr) (c : Nat) (R : List OpR) (w : World) (hr : Sl w a (R.map oprV)) (hR : ∀ r ∈ R, OpRAt w r) (hl : R.length ≤ 100000) (hs : (catO R).length ≤ 100000) :
  Calls Tryz.prog 228 #[.slice a R.length c] w fun e w' => ∃ v, e = .returned v ∧ w'.ownsRow w.heap.size 184 4 v (catO R).length (oes (catO R)) ∧ Below w.heap.size w w' := by
 obtain ⟨i0, hi, hz0, hz1, hz2⟩ := info_parts infoOp
 have HR := Lib.hid hr
 have HRR := Lib.hid hR
 have HG := Lib.hid (ogrow_any (catO R).length w (by omega))
 clear hr hR
 go_enter Tryz.func228, Tryz.ntmps228
 go_wp2
 go_loopw [3, 11] (fun v i wr => ∃ (j s : Nat), j ≤ R.length ∧ i = .int .i64 j ∧ v = .int .i64 s ∧ s ≤ 100000 ∧ Hid (s = (catO (R.take j)).length) ∧ wr = w) (fun _ i _ => R.length - (intOf i).toNat)
 case atStart => exact ⟨0, 0, by omega, rfl, rfl, by omega, rfl, rfl⟩
 case round =>
  obtain ⟨j, s, hj, rfl, rfl, hs1, HS, hw⟩ := hrel
  obtain rfl : w = wr := hw.symm
  clear hw
  by_cases hjl : j < R.length
  ·obtain ⟨b, off, rfl, hbl, hc0⟩ := orows_at HR.out hjl
   have HN := Lib.hid (catO_take R j hjl)
   have hle := catO_le R (j + 1)
   rw [HN.out, List.length_append, ← HS.out] at hle
   generalize R[j] = x at *
   unfold oprV at hc0
   obtain ⟨xa, xl, xc⟩ := x
   simp only at hc0 hle HN
   have hsum : s + xl.length ≤ 100000 := by omega
   clear hle
   go_wp2
   go_roundw
   case rel => exact ⟨j + 1, s + xl.length, by omega, by go_num, by go_num, hsum, (by unfold Hid; rw [HN.out, List.length_append, ← HS.out]), (by first | rfl | trivial)⟩
   case measure => simp [intOf]; omega
  ·obtain rfl : j = R.length := by omega
   rw [List.take_of_length_le (Nat.le_refl _)] at HS
   have HS2 := HS.out
   subst HS2
   go_wp2_with fail
   refine HG.out.mono ?_
   rintro e w1 ⟨v, rfl, ho, hb⟩
   have HO := Lib.hid ho
   have HB := Lib.hid hb
   clear ho hb HG HS
   go_wp2
   go_loopw [6, 27] (fun v i wx => ∃ (j : Nat), j ≤ R.length ∧ i = .int .i64 j ∧ Hid (wx.ownsRow w.heap.size 184 4 v (catO (R.take j)).length (oes (catO (R.take j)))) ∧ Hid (Below w.heap.size w wx)) (fun _ i _ => R.length - (intOf i).toNat)
   case atStart => exact ⟨0, by omega, rfl, HO.out, HB.out⟩
   case round =>
    obtain ⟨j, hj, rfl, HO, HB⟩ := hrel
    by_cases hjl : j < R.length
    ·obtain ⟨b, off, rfl, hbl, hc0⟩ := orows_at (HR.out.below HB.out) hjl
     have HN := Lib.hid (catO_take R j hjl)
     have hle := catO_le R (j + 1)
     have hle2 := catO_le R j
     rw [HN.out, List.length_append] at hle
     have HX := Lib.hid (HRR.out _ (List.getElem_mem hjl))
     generalize R[j] = x at *
     unfold oprV at hc0
     obtain ⟨xa, xl, xc⟩ := x
     simp only at hc0 hle HN
     obtain ⟨hx1, hx2⟩ := HX.out
     simp only at hx1 hx2
     have HX1 := Lib.hid (hx1.below HB.out)
     have HX2 := Lib.hid hx2
     generalize hct : catO (R.take j) = ct at *
     have hsum : ct.length + xl.length ≤ 1000000 := by omega
     clear hle hle2 hx1 hx2 HX hct
     go_wp2_with (at_builtin; refine wpList_append_op _ rfl (.tmp 31) (.tmp 32) 34 rfl w.heap.size 184 i0 _ Tryz.underlying34 hi hz0 hz1 hz2 rfl _ ct rfl HO.out xa xc xl rfl HX1.out HX2.out hsum HB.out.size ?_; intro v2 w2 hown2 hB2)
     have HO2 := Lib.hid hown2
     have HB2 := Lib.hid (HB.out.trans hB2)
     clear hown2 hB2
     go_wp2
     go_roundw
     case rel => exact ⟨j + 1, by omega, by go_num, (by unfold Hid; rw [HN.out]; exact HO2.out), HB2⟩
     case measure => simp [intOf]; omega
    ·obtain rfl : j = R.length := by omega
     rw [List.take_of_length_le (Nat.le_refl _)] at HO
     go_wp2
     go_ret
     exact ⟨_, rfl, HO.out, HB.out⟩
theorem own_emptyO (w : World) (e : TypeId) (k B : Nat) (hB : B ≤ w.heap.size) : (w.alloc (.cells #[] e)).ownsRow B e k (.slice (some ⟨w.heap.size, 0, none⟩) 0 0) 0 [] :=
 ⟨by simp, .inr ⟨w.heap.size, 0, #[], rfl, hB, heap_alloc_new w _, Nat.le_refl _, by unfold maxLen; omega, by simp, by simp⟩⟩
theorem eqNs (a b c d e f g h : Int) (w : World) : (Op.equalIn 10000 151 (.agg #[.int .i64 a, .int .i64 b, .int .i64 c, .int .i64 d]) (.agg #[.int .i64 e, .int .i64 f, .int .i64 g, .int .i64 h])).run Tryz.prog w = .ok ((a == e) && ((b == f) && ((c == g) && (d == h)))) w := by
 have u3 := Tryz.underlying3
 have a3 := Tryz.isAgg3
 have z3 := Tryz.sizeOf3
 rw [show (10000 : Nat) = 9999 + 1 from rfl, Op.equalIn]
 simp only [Sem.run_bind, run_underlying Tryz.underlying151, Result.andThen_ok]
 simp only [Std.Legacy.Range.forIn_eq_forIn_range', Std.Legacy.Range.size, Nat.sub_zero, Nat.add_sub_cancel, Nat.div_one, List.range'_succ, List.range'_zero, List.forIn_cons, List.forIn_nil]
 go_simp
 by_cases h1 : a = e <;> by_cases h2 : b = f <;> by_cases h3 : c = g <;> by_cases h4 : d = h <;> simp [h1, h2, h3, h4]
end Go.Proofs.YtapacckmgmdnoaaGreat
