/- Texts of mine, one behind the other, of each what is wanted. -/
import Derived.Test.YtapacckmgmdnoaaGreatU00
import Derived.Test.YtapacckmgmdnoaaGreatShelf
import Derived.Test.YtapacckmgmdnoaaGreatU01
import Derived.Test.YtapacckmgmdnoaaGreatU02
import Derived.Test.YtapacckmgmdnoaaGreatU04
namespace Go.Proofs.YtapacckmgmdnoaaGreat
open Go.RowKit
set_option linter.unusedVariables false
set_option maxRecDepth 100000
set_option maxRecDepth 100000
def hasB (l : List SpM) (x : Int) : Bool := l.any fun s => decide (s.f ≤ x) && decide (x < s.t)
theorem hasB_iff (l : List SpM) (x : Int) : hasB l x = true ↔ HasL l x := by
 unfold hasB HasL
 rw [List.any_eq_true]
 exact ⟨fun ⟨s, hs, h⟩ => ⟨s, hs, by simpa using h⟩, fun ⟨s, hs, h⟩ => ⟨s, hs, by simpa using h⟩⟩
theorem hasB_yes {l : List SpM} {x : Int} {j : Nat} (hj : j < l.length) (h1 : l[j].f ≤ x) (h2 : x < l[j].t) : hasB l x = true := (hasB_iff l x).2 ⟨l[j], List.getElem_mem hj, h1, h2⟩
theorem hasB_next {l : List SpM} {x : Int} {j : Nat} (hj : j < l.length) (h : hasB (l.take j) x = false) (h1 : ¬ (l[j].f ≤ x ∧ x < l[j].t)) : hasB (l.take (j + 1)) x = false := by
 unfold hasB at *
 rw [List.take_succ_eq_append_getElem hj, List.any_append, h]
 simpa using h1
theorem take_same {α : Type} {l m : List α} {j : Nat} (hl : j < l.length) (hm : j < m.length) (h : l.take j = m.take j) (e : l[j] = m[j]) : l.take (j + 1) = m.take (j + 1) := by
 rw [List.take_add_one, List.take_add_one, List.getElem?_eq_getElem hl, List.getElem?_eq_getElem hm, h, e]
set_option maxHeartbeats 2000000 in
theorem lhas_any (a : Option Addr) (c : Nat) (l : List SpM) (x : Int) (w : World) (hr : SpSl w a l) (hl : l.length ≤ maxLen) :
  Calls Tryz.prog 104 #[.slice a l.length c, .int .i64 x] w fun e w' => e = .returned (.bool (hasB l x)) ∧ Below w.heap.size w w' := by
 have HR := Lib.hid hr
 have HC := Lib.hid shas_any
 unfold maxLen at hl
 clear hr
 go_enter Tryz.func104, Tryz.ntmps104
 go_wp2
 go_loopw [9] (fun i wr => ∃ (j : Nat), j ≤ l.length ∧ i = .int .i64 j ∧ Hid (hasB (l.take j) x = false) ∧ Hid (Below w.heap.size w wr)) (fun i _ => l.length - (intOf i).toNat)
 case atStart => exact ⟨0, by omega, rfl, rfl, Below.refl _ _⟩
 case round =>
  obtain ⟨j, hj, rfl, HF, HB⟩ := hrel
  by_cases hjl : j < l.length
  ·obtain ⟨b, off, rfl, hbl, hc0, hc1⟩ := (HR.out.below HB.out).at_ hjl
   have HY := Lib.hid (fun h1 h2 => hasB_yes (x := x) hjl h1 h2)
   have HN := Lib.hid (fun h => hasB_next hjl HF.out h)
   have HB2 := Lib.hid (HB.out.alloc HB.out.size (.cells #[.int .i64 l[j].f, .int .i64 l[j].t] 90))
   generalize l[j] = s at *
   have HC1 := Lib.hid (fun W => HC.out s.f s.t x W)
   by_cases h : s.f ≤ x ∧ x < s.t
   ·have hd : (decide (s.f ≤ x) && decide (x < s.t)) = true := by simp [h]
    rw [hd] at HC1
    have HE := Lib.hid (HY.out h.1 h.2)
    clear HY HN HC hd h HF HB
    go_wp2_with fail
    refine (HC1.out _).mono ?_
    rintro e w2 ⟨rfl, h2⟩
    go_wp2
    go_ret
    exact ⟨by rw [HE.out]; rfl, HB2.out.trans (h2.mono HB2.out.size)⟩
   ·have hd : (decide (s.f ≤ x) && decide (x < s.t)) = false := by
     rw [Bool.and_eq_false_iff]
     by_cases h1 : s.f ≤ x
     ·exact .inr (decide_eq_false (fun h2 => h ⟨h1, h2⟩))
     ·exact .inl (decide_eq_false h1)
    rw [hd] at HC1
    have HE := Lib.hid (HN.out h)
    clear HY HN hd h HF HB
    go_wp2_with fail
    refine (HC1.out _).mono ?_
    rintro e w2 ⟨rfl, h2⟩
    have HB3 := Lib.hid (HB2.out.trans (h2.mono HB2.out.size))
    clear h2 HB2 HC1
    go_wp2
    go_roundw
    case rel => exact ⟨j + 1, by omega, by go_num, HE, HB3⟩
    case measure => simp [intOf]; omega
  ·obtain rfl : j = l.length := by omega
   rw [List.take_of_length_le (Nat.le_refl _)] at HF
   go_wp2
   go_ret
   exact ⟨by rw [HF.out]; rfl, HB.out⟩
theorem six_get (x : SaL) (j : Nat) : (saC x)[j]? = some (.int .i64 x.now) ∧ j = 0 ∨ (saC x)[j]? = some (.int .i64 x.hor) ∧ j = 1 ∨ (∃ a n c, (saC x)[j]? = some (.slice a n c)) ∧ 2 ≤ j ∧ j ≤ 5 ∨ (saC x)[j]? = none := by
 match j with
 | 0 => exact .inl ⟨rfl, rfl⟩
 | 1 => exact .inr (.inl ⟨rfl, rfl⟩)
 | 2 => exact .inr (.inr (.inl ⟨⟨_, _, _, rfl⟩, by omega, by omega⟩))
 | 3 => exact .inr (.inr (.inl ⟨⟨_, _, _, rfl⟩, by omega, by omega⟩))
 | 4 => exact .inr (.inr (.inl ⟨⟨_, _, _, rfl⟩, by omega, by omega⟩))
 | 5 => exact .inr (.inr (.inl ⟨⟨_, _, _, rfl⟩, by omega, by omega⟩))
 | j + 6 => exact .inr (.inr (.inr (by simp [saC])))
theorem six_string {W : World} {g : Nat} {x : SaL} {t : TypeId} (h : W.heap[g]? = some (.cells (saC x) t (0, 0))) {j : Nat} {s : ByteArray} : ¬ W.cell? ⟨g, j, none⟩ = some (.string s) := fun e => by
 rw [cell_of_row _ _ _ _ _ (0, 0) h] at e
 rcases six_get x j with ⟨h1, _⟩ | ⟨h1, _⟩ | ⟨⟨a, n, c, h1⟩, _⟩ | h1 <;> (rw [h1] at e; cases e)
theorem six_int {W : World} {g : Nat} {x : SaL} {t : TypeId} (h : W.heap[g]? = some (.cells (saC x) t (0, 0))) {j : Nat} {k : IntKind} {n : Int} (e : W.cell? ⟨g, j, none⟩ = some (.int k n)) : j ≤ 1 := by
 rw [cell_of_row _ _ _ _ _ (0, 0) h] at e
 rcases six_get x j with ⟨_, h1⟩ | ⟨_, h1⟩ | ⟨⟨a, n, c, h1⟩, _⟩ | h1
 ·omega
 ·omega
 ·rw [h1] at e; cases e
 ·rw [h1] at e; cases e
theorem cell_far {W : World} {g i : Nat} {v : Value} {p : Addr} (h : p.block ≠ g) : (W.setCell ⟨g, i, none⟩ v).cell? p = W.cell? p := by
 unfold World.cell?
 rw [Below.heap_setCell _ _ _ _ h]
theorem size_set (W : World) (p : Addr) (v : Value) : (W.setCell p v).heap.size = W.heap.size := by simp [World.setCell]
theorem block_far {W : World} {g i b : Nat} {v : Value} (h : b ≠ g) : (W.setCell ⟨g, i, none⟩ v).heap[b]? = W.heap[b]? := Below.heap_setCell _ _ _ _ h
section
variable {W : World} {g : Nat} {x : SaL} {t : TypeId}
theorem OpSl.setB (h : W.heap[g]? = some (.cells (saC x) t (0, 0))) {a : Option Addr} {l : List OpM} (ho : OpSl W a l) (i : Nat) (v : Value) : OpSl (W.setCell ⟨g, i, none⟩ v) a l := fun k hk => by
 obtain ⟨b, off, e, hlt, h0, h1, h2, h3⟩ := ho k hk
 have hne : b ≠ g := fun e => by subst e; exact six_string h h1
 exact ⟨b, off, e, by rw [size_set]; exact hlt, (cell_far (p := ⟨b, off + k * 4, none⟩) hne).trans h0, (cell_far (p := ⟨b, off + k * 4 + 1, none⟩) hne).trans h1, (cell_far (p := ⟨b, off + k * 4 + 2, none⟩) hne).trans h2, (cell_far (p := ⟨b, off + k * 4 + 3, none⟩) hne).trans h3⟩
theorem EnSl.setB (h : W.heap[g]? = some (.cells (saC x) t (0, 0))) {a : Option Addr} {l : List EnM} (ho : EnSl W a l) (i : Nat) (v : Value) : EnSl (W.setCell ⟨g, i, none⟩ v) a l := fun k hk => by
 obtain ⟨b, off, e, hlt, h0, h1, h2, h3⟩ := ho k hk
 have hne : b ≠ g := fun e => by subst e; exact six_string h h1
 exact ⟨b, off, e, by rw [size_set]; exact hlt, (cell_far (p := ⟨b, off + k * 4, none⟩) hne).trans h0, (cell_far (p := ⟨b, off + k * 4 + 1, none⟩) hne).trans h1, (cell_far (p := ⟨b, off + k * 4 + 2, none⟩) hne).trans h2, (cell_far (p := ⟨b, off + k * 4 + 3, none⟩) hne).trans h3⟩
theorem StSl.setB (h : W.heap[g]? = some (.cells (saC x) t (0, 0))) {a : Option Addr} {l : List StM} (ho : StSl W a l) (i : Nat) (v : Value) : StSl (W.setCell ⟨g, i, none⟩ v) a l := fun k hk => by
 obtain ⟨b, off, e, hlt, h0, h1, h2, h3⟩ := ho k hk
 have hne : b ≠ g := fun e => by
  subst e
  have := six_int h h3
  omega
 exact ⟨b, off, e, by rw [size_set]; exact hlt, (cell_far (p := ⟨b, off + k * 4, none⟩) hne).trans h0, (cell_far (p := ⟨b, off + k * 4 + 1, none⟩) hne).trans h1, (cell_far (p := ⟨b, off + k * 4 + 2, none⟩) hne).trans h2, (cell_far (p := ⟨b, off + k * 4 + 3, none⟩) hne).trans h3⟩
theorem PpSl.setB (h : W.heap[g]? = some (.cells (saC x) t (0, 0))) {a : Option Addr} {l : List (Value × Value)} (hs : ∀ y ∈ l, ∃ s, y.1 = .string s) (ho : PpSl W a l) (i : Nat) (v : Value) : PpSl (W.setCell ⟨g, i, none⟩ v) a l := fun k hk => by
 obtain ⟨b, off, e, hlt, h0, h1⟩ := ho k hk
 have hne : b ≠ g := fun e => by
  subst e
  obtain ⟨s, hs⟩ := hs _ (List.getElem_mem hk)
  rw [hs] at h0
  exact six_string h h0
 exact ⟨b, off, e, by rw [size_set]; exact hlt, (cell_far (p := ⟨b, off + k * 2, none⟩) hne).trans h0, (cell_far (p := ⟨b, off + k * 2 + 1, none⟩) hne).trans h1⟩
theorem TbSl.setB (h : W.heap[g]? = some (.cells (saC x) t (0, 0))) {a : Option Addr} {l : List TbM} (ho : TbSl W a l) (i : Nat) (v : Value) : TbSl (W.setCell ⟨g, i, none⟩ v) a l :=
 PpSl.setB h (fun y hy => by obtain ⟨z, _, rfl⟩ := List.mem_map.1 hy; exact ⟨_, rfl⟩) ho i v
theorem UsAt.setB (h : W.heap[g]? = some (.cells (saC x) t (0, 0))) {y : UsL} (ho : UsAt W y) (i : Nat) (v : Value) : UsAt (W.setCell ⟨g, i, none⟩ v) y := ⟨ho.st.setB h i v, ho.le, ho.mx, ho.nil⟩
theorem UsSl.setB (h : W.heap[g]? = some (.cells (saC x) t (0, 0))) {a : Option Addr} {l : List UsL} (ho : UsSl W a l) (i : Nat) (v : Value) : UsSl (W.setCell ⟨g, i, none⟩ v) a l :=
 ⟨PpSl.setB h (fun y hy => by obtain ⟨z, _, rfl⟩ := List.mem_map.1 hy; exact ⟨_, rfl⟩) ho.row i v, fun y hy => (ho.at_ y hy).setB h i v⟩
theorem SaAt.setB (h : W.heap[g]? = some (.cells (saC x) t (0, 0))) {y : SaL} (ho : SaAt W y) (i : Nat) (v : Value) : SaAt (W.setCell ⟨g, i, none⟩ v) y :=
 ⟨ho.op.setB h i v, ho.us.setB h i v, ho.su.setB h i v, ho.tb.setB h i v, ho.oc, ho.uc, ho.sc, ho.tc⟩
end
structure SB (w : World) (g : Nat) (t : TypeId) (x : SaL) (W : World) : Prop where
 blk : W.heap[g]? = some (.cells (saC x) t (0, 0))
 ge : w.heap.size ≤ g
 frame : Below w.heap.size w W
 at_ : SaAt W x
section
variable {w W W' : World} {g : Nat} {x : SaL} {t : TypeId}
theorem SB.lt (h : SB w g t x W) : g < W.heap.size := heap_lt h.blk
theorem SB.below (h : SB w g t x W) (q : Below W.heap.size W W') : SB w g t x W' := ⟨(q.block g h.lt).trans h.blk, h.ge, h.frame.trans (q.mono h.frame.size), h.at_.below q⟩
theorem SB.alloc (h : SB w g t x W) (o : Obj) : SB w g t x (W.alloc o) := h.below (below_one _ _)
theorem SB.drew (h : SB w g t x W) : SB w g t x W.drew := h.below (Below.refl _ _).drew
theorem SB.new {V : World} (hb : Below w.heap.size w V) (h : SaAt V x) (t : TypeId) : SB w V.heap.size t x (V.alloc (.cells (saC x) t)) := ⟨heap_alloc_new _ _, hb.size, hb.trans ((below_one _ _).mono hb.size), h.below (below_one _ _)⟩
theorem SB.cells (h : SB w g t x W) : W.cell? ⟨g, 0, none⟩ = some (.int .i64 x.now) ∧ W.cell? ⟨g, 1, none⟩ = some (.int .i64 x.hor) ∧ W.cell? ⟨g, 2, none⟩ = some (.slice x.oa x.op.length x.oc) ∧ W.cell? ⟨g, 3, none⟩ = some (.slice x.ua x.us.length x.uc) ∧ W.cell? ⟨g, 4, none⟩ = some (.slice x.sa x.su.length x.sc) ∧ W.cell? ⟨g, 5, none⟩ = some (.slice x.ta x.tb.length x.tc) :=
 ⟨cell_of_row _ _ _ _ _ _ h.blk, cell_of_row _ _ _ _ _ _ h.blk, cell_of_row _ _ _ _ _ _ h.blk, cell_of_row _ _ _ _ _ _ h.blk, cell_of_row _ _ _ _ _ _ h.blk, cell_of_row _ _ _ _ _ _ h.blk⟩
theorem SB.free (h : SB w g t x W) : W.frozen? ⟨g, 0, none⟩ = false ∧ W.frozen? ⟨g, 1, none⟩ = false ∧ W.frozen? ⟨g, 2, none⟩ = false ∧ W.frozen? ⟨g, 3, none⟩ = false ∧ W.frozen? ⟨g, 4, none⟩ = false ∧ W.frozen? ⟨g, 5, none⟩ = false :=
 ⟨frozen_of_row _ _ 0 _ _ h.blk, frozen_of_row _ _ 1 _ _ h.blk, frozen_of_row _ _ 2 _ _ h.blk, frozen_of_row _ _ 3 _ _ h.blk, frozen_of_row _ _ 4 _ _ h.blk, frozen_of_row _ _ 5 _ _ h.blk⟩
theorem SB.setNow (h : SB w g t x W) (n : Int) : SB w g t { x with now := n } (W.setCell ⟨g, 0, none⟩ (.int .i64 n)) :=
 ⟨heap_setCell_at h.blk 0 _, h.ge, h.frame.setCell (p := ⟨g, 0, none⟩) h.ge _, by have := h.at_.setB h.blk 0 (.int .i64 n); exact ⟨this.op, this.us, this.su, this.tb, this.oc, this.uc, this.sc, this.tc⟩⟩
theorem SB.setHor (h : SB w g t x W) (n : Int) : SB w g t { x with hor := n } (W.setCell ⟨g, 1, none⟩ (.int .i64 n)) :=
 ⟨heap_setCell_at h.blk 1 _, h.ge, h.frame.setCell (p := ⟨g, 1, none⟩) h.ge _, by have := h.at_.setB h.blk 1 (.int .i64 n); exact ⟨this.op, this.us, this.su, this.tb, this.oc, this.uc, this.sc, this.tc⟩⟩
theorem SB.setOp (h : SB w g t x W) {a : Option Addr} {l : List OpM} {n c : Nat} (hn : n = l.length) (ho : OpSl W a l) (hc : Cp a l.length c) : SB w g t { x with oa := a, op := l, oc := c } (W.setCell ⟨g, 2, none⟩ (.slice a n c)) := by
 subst hn
 exact ⟨heap_setCell_at h.blk 2 _, h.ge, h.frame.setCell (p := ⟨g, 2, none⟩) h.ge _, by have := h.at_.setB h.blk 2 (.slice a l.length c); exact ⟨ho.setB h.blk 2 _, this.us, this.su, this.tb, hc, this.uc, this.sc, this.tc⟩⟩
theorem SB.setUs (h : SB w g t x W) {a : Option Addr} {l : List UsL} {n c : Nat} (hn : n = l.length) (ho : UsSl W a l) (hc : Cp a l.length c) : SB w g t { x with ua := a, us := l, uc := c } (W.setCell ⟨g, 3, none⟩ (.slice a n c)) := by
 subst hn
 exact ⟨heap_setCell_at h.blk 3 _, h.ge, h.frame.setCell (p := ⟨g, 3, none⟩) h.ge _, by have := h.at_.setB h.blk 3 (.slice a l.length c); exact ⟨this.op, ho.setB h.blk 3 _, this.su, this.tb, this.oc, hc, this.sc, this.tc⟩⟩
theorem SB.setSu (h : SB w g t x W) {a : Option Addr} {l : List EnM} {n c : Nat} (hn : n = l.length) (ho : EnSl W a l) (hc : Cp a l.length c) : SB w g t { x with sa := a, su := l, sc := c } (W.setCell ⟨g, 4, none⟩ (.slice a n c)) := by
 subst hn
 exact ⟨heap_setCell_at h.blk 4 _, h.ge, h.frame.setCell (p := ⟨g, 4, none⟩) h.ge _, by have := h.at_.setB h.blk 4 (.slice a l.length c); exact ⟨this.op, this.us, ho.setB h.blk 4 _, this.tb, this.oc, this.uc, hc, this.tc⟩⟩
theorem SB.setTb (h : SB w g t x W) {a : Option Addr} {l : List TbM} {n c : Nat} (hn : n = l.length) (ho : TbSl W a l) (hc : Cp a l.length c) : SB w g t { x with ta := a, tb := l, tc := c } (W.setCell ⟨g, 5, none⟩ (.slice a n c)) := by
 subst hn
 exact ⟨heap_setCell_at h.blk 5 _, h.ge, h.frame.setCell (p := ⟨g, 5, none⟩) h.ge _, by have := h.at_.setB h.blk 5 (.slice a l.length c); exact ⟨this.op, this.us, this.su, ho.setB h.blk 5 _, this.oc, this.uc, this.sc, hc⟩⟩
end
def setS (W : World) (g : Nat) (y : SaL) : World := (((((W.setCell ⟨g, 0, none⟩ (.int .i64 y.now)).setCell ⟨g, 1, none⟩ (.int .i64 y.hor)).setCell ⟨g, 2, none⟩ (.slice y.oa y.op.length y.oc)).setCell ⟨g, 3, none⟩ (.slice y.ua y.us.length y.uc)).setCell ⟨g, 4, none⟩ (.slice y.sa y.su.length y.sc)).setCell ⟨g, 5, none⟩ (.slice y.ta y.tb.length y.tc)
section
variable {w W W' : World} {g : Nat} {x : SaL} {t : TypeId}
theorem SB.set (h : SB w g t x W) {y : SaL} (hy : SaAt W y) : SB w g t y (setS W g y) := by
 have h0 := h.setNow y.now
 have y0 := hy.setB h.blk 0 (.int .i64 y.now)
 have h1 := h0.setHor y.hor
 have y1 := y0.setB h0.blk 1 (.int .i64 y.hor)
 have h2 := h1.setOp rfl y1.op y1.oc
 have y2 := y1.setB h1.blk 2 (.slice y.oa y.op.length y.oc)
 have h3 := h2.setUs rfl y2.us y2.uc
 have y3 := y2.setB h2.blk 3 (.slice y.ua y.us.length y.uc)
 have h4 := h3.setSu rfl y3.su y3.sc
 have y4 := y3.setB h3.blk 4 (.slice y.sa y.su.length y.sc)
 exact h4.setTb rfl y4.tb y4.tc
theorem SB.far {g' : Nat} {x' : SaL} {t' : TypeId} (h : SB w g t x W) (h' : SB w g' t' x' W) (hne : g ≠ g') (i : Nat) (v : Value) : SB w g t x (W.setCell ⟨g', i, none⟩ v) :=
 ⟨(block_far hne).trans h.blk, h.ge, h.frame.setCell (p := ⟨g', i, none⟩) h'.ge _, h.at_.setB h'.blk i v⟩
end
theorem infoSa6 : (Tryz.prog.info? 39).map (·.size) = some 6 := by kernel_rfl
theorem loadS6 {W : World} {g : Nat} {x : SaL} {t : TypeId} (h : W.heap[g]? = some (.cells (saC x) t (0, 0))) : (loadVar 39 ⟨g, 0, none⟩).run Tryz.prog W = .ok (saV x) W :=
 run_loadVar_mid (P := Tryz.prog) W g 0 39 (saC x).toList _ (fun j v hv => by
  rw [Nat.zero_add, cell_of_row _ _ _ _ _ (0, 0) h]
  rw [Array.getElem?_toList] at hv
  exact hv) Tryz.underlying39 rfl infoSa6
end Go.Proofs.YtapacckmgmdnoaaGreat
namespace Go.Proofs.YtapacckmgmdnoaaGreat
open Go.RowKit Go.Proofs
set_option linter.unusedVariables false
set_option maxRecDepth 100000
set_option maxRecDepth 100000
theorem ogrow_any (n : Nat) (w : World) (hn : n ≤ 1000000) : Calls Tryz.prog 256 #[.slice none 0 0, .int .i64 n] w fun e w' => ∃ v, e = .returned v ∧ w'.ownsRow w.heap.size 184 4 v 0 [] ∧ Below w.heap.size w w' := by
 obtain ⟨i0, hi, hz0, hz1, hz2⟩ := info_parts infoOp
 rcases Nat.eq_zero_or_pos n with h0 | h0
 ·subst h0
  have h := Any8.slices_Grow_room Tryz.laysGrowOp none 0 0 0 w (by omega) (by omega) (by omega) (by omega)
  refine Calls.mono h ?_
  rintro e w' ⟨rfl, rfl⟩
  exact ⟨_, rfl, ⟨rfl, .inl ⟨rfl, rfl⟩⟩, Below.refl _ _⟩
 ·have h := Any8.slices_Grow_grow Tryz.laysGrowOp i0 _ hi hz0 (by rw [hz1]; omega) none 0 0 n [] w (by omega) (by omega) (by rw [hz2]; omega) (by omega) (by simp) (fun _ => rfl) (fun a h => by cases h)
  refine Calls.mono h ?_
  rintro e w' ⟨rfl, rfl⟩
  have hge := grownCap_ge w (0 + n) 0 184
  have hle := grownCap_le_maxLen w (0 + n) 0 184 (by unfold maxLen; omega)
  refine ⟨_, rfl, ⟨rfl, .inr ⟨w.heap.size, _, _, rfl, Nat.le_refl _, heap_alloc_new w.drew _, Nat.zero_le _, hle, ?_, by simp⟩⟩, ?_⟩
  ·simp only [Array.size_append, size_zeroCells]
   show 0 + (0 + n - 0) * 4 + (grownCap w (0 + n) 0 184 - (0 + n)) * 4 = grownCap w (0 + n) 0 184 * 4
   omega
  ·exact (Below.refl w.heap.size w).drew.alloc (Nat.le_refl _) _
structure OpR where
 a : Option Addr
 l : List OpM
 c : Nat
def oprV (r : OpR) : Value := .slice r.a r.l.length r.c
def catO (R : List OpR) : List OpM := R.flatMap (·.l)
theorem catO_take (R : List OpR) (j : Nat) (h : j < R.length) : catO (R.take (j + 1)) = catO (R.take j) ++ R[j].l := by
 unfold catO
 rw [List.take_succ_eq_append_getElem h, List.flatMap_append]
 simp
theorem catO_le (R : List OpR) (j : Nat) : (catO (R.take j)).length ≤ (catO R).length := by
 have : catO R = catO (R.take j) ++ catO (R.drop j) := by
  unfold catO
  rw [← List.flatMap_append, List.take_append_drop]
 rw [this, List.length_append]
 omega
def OpRAt (w : World) (r : OpR) : Prop := OpSl w r.a r.l ∧ (r.a = none → r.c = 0)
theorem orows_at {w : World} {a : Option Addr} {R : List OpR} (h : Sl w a (R.map oprV)) {k : Nat} (hk : k < R.length) : ∃ b off, a = some ⟨b, off, none⟩ ∧ b < w.heap.size ∧ w.cell? ⟨b, off + k, none⟩ = some (oprV R[k]) := by
 obtain ⟨b, off, e, hlt, hc⟩ := h k (by simpa using hk)
 exact ⟨b, off, e, hlt, by rw [hc]; simp⟩
set_option maxHeartbeats 1000000 in
theorem oconcat_any (a : Option Addr) (c : Nat) (R : List OpR) (w : World) (hr : Sl w a (R.map oprV)) (hR : ∀ r ∈ R, OpRAt w r) (hl : R.length ≤ 100000) (hs : (catO R).length ≤ 100000) :
  Calls Tryz.prog 228 #[.slice a R.length c] w fun e w' => ∃ v, e = .returned v ∧ w'.ownsRow w.heap.size 184 4 v (catO R).length (oes (catO R)) ∧ Below w.heap.size w w' := by
 obtain ⟨i0, hi, hz0, hz1, hz2⟩ := info_parts infoOp
 have HR := Lib.hid hr
 have HRR := Lib.hid hR
 have HG := Lib.hid (ogrow_any (catO R).length w (by omega))
 clear hr hR
 go_enter Tryz.func228, Tryz.ntmps228
 go_wp2
 go_loopw [3, 11] (fun v i wr => ∃ (j s : Nat), j ≤ R.length ∧ i = .int .i64 j ∧ v = .int .i64 s ∧ s ≤ 100000 ∧ Hid (s = (catO (R.take j)).length) ∧ wr = w) (fun _ i _ => R.length - (intOf i).toNat)
 case atStart => exact ⟨0, 0, by omega, rfl, rfl, by omega, rfl, rfl⟩
 case round =>
  obtain ⟨j, s, hj, rfl, rfl, hs1, HS, hw⟩ := hrel
  obtain rfl : w = wr := hw.symm
  clear hw
  by_cases hjl : j < R.length
  ·obtain ⟨b, off, rfl, hbl, hc0⟩ := orows_at HR.out hjl
   have HN := Lib.hid (catO_take R j hjl)
   have hle := catO_le R (j + 1)
   rw [HN.out, List.length_append, ← HS.out] at hle
   generalize R[j] = x at *
   unfold oprV at hc0
   obtain ⟨xa, xl, xc⟩ := x
   simp only at hc0 hle HN
   have hsum : s + xl.length ≤ 100000 := by omega
   clear hle
   go_wp2
   go_roundw
   case rel => exact ⟨j + 1, s + xl.length, by omega, by go_num, by go_num, hsum, (by unfold Hid; rw [HN.out, List.length_append, ← HS.out]), (by first | rfl | trivial)⟩
   case measure => simp [intOf]; omega
  ·obtain rfl : j = R.length := by omega
   rw [List.take_of_length_le (Nat.le_refl _)] at HS
   have HS2 := HS.out
   subst HS2
   go_wp2_with fail
   refine HG.out.mono ?_
   rintro e w1 ⟨v, rfl, ho, hb⟩
   have HO := Lib.hid ho
   have HB := Lib.hid hb
   clear ho hb HG HS
   go_wp2
   go_loopw [6, 27] (fun v i wx => ∃ (j : Nat), j ≤ R.length ∧ i = .int .i64 j ∧ Hid (wx.ownsRow w.heap.size 184 4 v (catO (R.take j)).length (oes (catO (R.take j)))) ∧ Hid (Below w.heap.size w wx)) (fun _ i _ => R.length - (intOf i).toNat)
   case atStart => exact ⟨0, by omega, rfl, HO.out, HB.out⟩
   case round =>
    obtain ⟨j, hj, rfl, HO, HB⟩ := hrel
    by_cases hjl : j < R.length
    ·obtain ⟨b, off, rfl, hbl, hc0⟩ := orows_at (HR.out.below HB.out) hjl
     have HN := Lib.hid (catO_take R j hjl)
     have hle := catO_le R (j + 1)
     have hle2 := catO_le R j
     rw [HN.out, List.length_append] at hle
     have HX := Lib.hid (HRR.out _ (List.getElem_mem hjl))
     generalize R[j] = x at *
     unfold oprV at hc0
     obtain ⟨xa, xl, xc⟩ := x
     simp only at hc0 hle HN
     obtain ⟨hx1, hx2⟩ := HX.out
     simp only at hx1 hx2
     have HX1 := Lib.hid (hx1.below HB.out)
     have HX2 := Lib.hid hx2
     generalize hct : catO (R.take j) = ct at *
     have hsum : ct.length + xl.length ≤ 1000000 := by omega
     clear hle hle2 hx1 hx2 HX hct
     go_wp2_with (at_builtin; refine wpList_append_op _ rfl (.tmp 31) (.tmp 32) 34 rfl w.heap.size 184 i0 _ Tryz.underlying34 hi hz0 hz1 hz2 rfl _ ct rfl HO.out xa xc xl rfl HX1.out HX2.out hsum HB.out.size ?_; intro v2 w2 hown2 hB2)
     have HO2 := Lib.hid hown2
     have HB2 := Lib.hid (HB.out.trans hB2)
     clear hown2 hB2
     go_wp2
     go_roundw
     case rel => exact ⟨j + 1, by omega, by go_num, (by unfold Hid; rw [HN.out]; exact HO2.out), HB2⟩
     case measure => simp [intOf]; omega
    ·obtain rfl : j = R.length := by omega
     rw [List.take_of_length_le (Nat.le_refl _)] at HO
     go_wp2
     go_ret
     exact ⟨_, rfl, HO.out, HB.out⟩
theorem own_emptyO (w : World) (e : TypeId) (k B : Nat) (hB : B ≤ w.heap.size) : (w.alloc (.cells #[] e)).ownsRow B e k (.slice (some ⟨w.heap.size, 0, none⟩) 0 0) 0 [] :=
 ⟨by simp, .inr ⟨w.heap.size, 0, #[], rfl, hB, heap_alloc_new w _, Nat.le_refl _, by unfold maxLen; omega, by simp, by simp⟩⟩
end Go.Proofs.YtapacckmgmdnoaaGreat
namespace Go.Proofs.YtapacckmgmdnoaaGreat
open Go.RowKit
set_option linter.unusedVariables false
set_option maxRecDepth 100000
set_option maxRecDepth 100000
set_option maxHeartbeats 1000000 in
theorem stay_any (e : OpM) (t : Int) (w : World) : Calls Tryz.prog 156 #[opV e, .int .i64 t] w fun r w' => r = .returned (stV (stayO e t)) ∧ Below w.heap.size w w' := by
 unfold opV stV stayO
 obtain ⟨n, u, s, f⟩ := e
 dsimp only
 have HL : Hid (∀ o1 : Obj, (loadVar 111 ⟨w.heap.size + 1, 0, none⟩).run Tryz.prog ((w.alloc o1).alloc (.cells #[.int .i64 f, .int .i64 t, .int .i64 n, .int .i64 s] 111)) = .ok (.agg #[.int .i64 f, .int .i64 t, .int .i64 n, .int .i64 s]) ((w.alloc o1).alloc (.cells #[.int .i64 f, .int .i64 t, .int .i64 n, .int .i64 s] 111))) := fun o1 => by
  have := heap_alloc_new (w.alloc o1) (.cells #[.int .i64 f, .int .i64 t, .int .i64 n, .int .i64 s] 111)
  rw [size1] at this
  exact loadSt this
 have HG := Lib.hid (fun o p => below_two w o p)
 go_enter Tryz.func156, Tryz.ntmps156
 go_wp2
 refine bodyPost_ret (v := .agg #[.int .i64 f, .int .i64 t, .int .i64 n, .int .i64 s]) ?_ rfl ?_
 ·rw [results_cell1 rfl]
  simp [asAddr, Result.andThen, HL.out]
 ·exact ⟨rfl, HG.out _ _⟩
end Go.Proofs.YtapacckmgmdnoaaGreat
namespace Go.Proofs.YtapacckmgmdnoaaGreat
open Go.RowKit Go.Proofs
set_option linter.unusedVariables false
set_option maxRecDepth 100000
set_option maxRecDepth 100000
theorem infoUs : (Tryz.prog.info? 108).map (fun i => (i.zero, i.size, i.bytes)) = some (some (.agg #[.string ⟨#[]⟩, .slice none 0 0]), 2, 40) := by kernel_rfl
theorem infoTb : (Tryz.prog.info? 141).map (fun i => (i.zero, i.size, i.bytes)) = some (some (.agg #[.string ⟨#[]⟩, .int .i64 0]), 2, 24) := by kernel_rfl
set_option maxHeartbeats 1000000 in
theorem clone_op (a : Option Addr) (c : Nat) (l : List OpM) (w : World) (hr : OpSl w a l) (hc : Cp a l.length c) (hl : l.length ≤ 100000) :
  Calls Tryz.prog 140 #[.slice a l.length c] w fun e w' => ∃ v, e = .returned v ∧ w'.ownsRow w.heap.size 184 4 v l.length (oes l) ∧ Below w.heap.size w w' := by
 obtain ⟨i0, hi, hz0, hz1, hz2⟩ := info_parts infoOp
 have q22 : ∀ (W : World) (a : Option Addr) (n c n' c' : Nat), (binOp .eql 34 (.slice a n c) (.slice none n' c')).run Tryz.prog W = .ok (.bool a.isNone) W := fun W a n c n' c' => Lib.run_eql_slice_nil W _ _ a n c n' c' Tryz.underlying34
 cases a with
 | none =>
  have hc0 := hc.nil rfl
  subst hc0
  have hl0 : l = [] := List.eq_nil_of_length_eq_zero (by have := hc.le; omega)
  subst hl0
  clear hr hc
  go_enter Tryz.func140, Tryz.ntmps140
  go_wp2
  go_ret
  exact ⟨_, rfl, ⟨rfl, .inl ⟨rfl, rfl⟩⟩, Below.refl _ _⟩
 | some ad =>
  have HO := Lib.hid (own_emptyO w 184 4 w.heap.size (Nat.le_refl _))
  have HB := Lib.hid (below_one w (.cells #[] 184))
  have HX1 := Lib.hid (hr.below HB.out)
  clear hr hc
  go_enter Tryz.func140, Tryz.ntmps140
  go_wp2_with (at_builtin; refine wpList_append_op _ rfl (.tmp 5) (.tmp 6) 34 rfl w.heap.size 184 i0 _ Tryz.underlying34 hi hz0 hz1 hz2 rfl _ [] rfl HO.out (some ad) c l rfl HX1.out (fun h => by cases h) (by simpa using (show l.length ≤ 1000000 by omega)) HB.out.size ?_; intro v2 w2 hown2 hB2)
  have HO2 := Lib.hid hown2
  have HB2 := Lib.hid (HB.out.trans hB2)
  clear hown2 hB2
  go_wp2
  go_ret
  exact ⟨_, rfl, (by have ho := HO2.out; rw [List.nil_append] at ho; exact ho), HB2.out⟩
set_option maxHeartbeats 1000000 in
theorem clone_en (a : Option Addr) (c : Nat) (l : List EnM) (w : World) (hr : EnSl w a l) (hc : Cp a l.length c) (hl : l.length ≤ 100000) :
  Calls Tryz.prog 141 #[.slice a l.length c] w fun e w' => ∃ v, e = .returned v ∧ w'.ownsRow w.heap.size 165 4 v l.length (ens l) ∧ Below w.heap.size w w' := by
 obtain ⟨i0, hi, hz0, hz1, hz2⟩ := info_parts infoEn
 have q22 : ∀ (W : World) (a : Option Addr) (n c n' c' : Nat), (binOp .eql 36 (.slice a n c) (.slice none n' c')).run Tryz.prog W = .ok (.bool a.isNone) W := fun W a n c n' c' => Lib.run_eql_slice_nil W _ _ a n c n' c' Tryz.underlying36
 cases a with
 | none =>
  have hc0 := hc.nil rfl
  subst hc0
  have hl0 : l = [] := List.eq_nil_of_length_eq_zero (by have := hc.le; omega)
  subst hl0
  clear hr hc
  go_enter Tryz.func141, Tryz.ntmps141
  go_wp2
  go_ret
  exact ⟨_, rfl, ⟨rfl, .inl ⟨rfl, rfl⟩⟩, Below.refl _ _⟩
 | some ad =>
  have HO := Lib.hid (own_emptyO w 165 4 w.heap.size (Nat.le_refl _))
  have HB := Lib.hid (below_one w (.cells #[] 165))
  have HX1 := Lib.hid (hr.below HB.out)
  clear hr hc
  go_enter Tryz.func141, Tryz.ntmps141
  go_wp2_with (at_builtin; refine wpList_append_en _ rfl (.tmp 5) (.tmp 6) 36 rfl w.heap.size 165 i0 _ Tryz.underlying36 hi hz0 hz1 hz2 rfl _ [] rfl HO.out (some ad) c l rfl HX1.out (fun h => by cases h) (by simpa using (show l.length ≤ 1000000 by omega)) HB.out.size ?_; intro v2 w2 hown2 hB2)
  have HO2 := Lib.hid hown2
  have HB2 := Lib.hid (HB.out.trans hB2)
  clear hown2 hB2
  go_wp2
  go_ret
  exact ⟨_, rfl, (by have ho := HO2.out; rw [List.nil_append] at ho; exact ho), HB2.out⟩
set_option maxHeartbeats 1000000 in
theorem clone_st (a : Option Addr) (c : Nat) (l : List StM) (w : World) (hr : StSl w a l) (hc : Cp a l.length c) (hl : l.length ≤ 100000) :
  Calls Tryz.prog 89 #[.slice a l.length c] w fun e w' => ∃ v, e = .returned v ∧ w'.ownsRow w.heap.size 111 4 v l.length (sts l) ∧ Below w.heap.size w w' := by
 obtain ⟨i0, hi, hz0, hz1, hz2⟩ := info_parts infoStay
 have q22 : ∀ (W : World) (a : Option Addr) (n c n' c' : Nat), (binOp .eql 69 (.slice a n c) (.slice none n' c')).run Tryz.prog W = .ok (.bool a.isNone) W := fun W a n c n' c' => Lib.run_eql_slice_nil W _ _ a n c n' c' Tryz.underlying69
 cases a with
 | none =>
  have hc0 := hc.nil rfl
  subst hc0
  have hl0 : l = [] := List.eq_nil_of_length_eq_zero (by have := hc.le; omega)
  subst hl0
  clear hr hc
  go_enter Tryz.func89, Tryz.ntmps89
  go_wp2
  go_ret
  exact ⟨_, rfl, ⟨rfl, .inl ⟨rfl, rfl⟩⟩, Below.refl _ _⟩
 | some ad =>
  have HO := Lib.hid (own_emptyO w 111 4 w.heap.size (Nat.le_refl _))
  have HB := Lib.hid (below_one w (.cells #[] 111))
  have HX1 := Lib.hid (hr.below HB.out)
  clear hr hc
  go_enter Tryz.func89, Tryz.ntmps89
  go_wp2_with (at_builtin; refine wpList_append_st _ rfl (.tmp 5) (.tmp 6) 69 rfl w.heap.size 111 i0 _ Tryz.underlying69 hi hz0 hz1 hz2 rfl _ [] rfl HO.out (some ad) c l rfl HX1.out (fun h => by cases h) (by simpa using (show l.length ≤ 1000000 by omega)) HB.out.size ?_; intro v2 w2 hown2 hB2)
  have HO2 := Lib.hid hown2
  have HB2 := Lib.hid (HB.out.trans hB2)
  clear hown2 hB2
  go_wp2
  go_ret
  exact ⟨_, rfl, (by have ho := HO2.out; rw [List.nil_append] at ho; exact ho), HB2.out⟩
set_option maxHeartbeats 1000000 in
theorem pclone_us (a : Option Addr) (c : Nat) (l : List (Value × Value)) (h1 : OneP l) (w : World) (hr : PpSl w a l) (hc : Cp a l.length c) (hl : l.length ≤ 100000) :
  Calls Tryz.prog 139 #[.slice a l.length c] w fun e w' => ∃ v, e = .returned v ∧ w'.ownsRow w.heap.size 108 2 v l.length (pps l) ∧ Below w.heap.size w w' := by
 obtain ⟨i0, hi, hz0, hz1, hz2⟩ := info_parts infoUs
 have q22 : ∀ (W : World) (a : Option Addr) (n c n' c' : Nat), (binOp .eql 35 (.slice a n c) (.slice none n' c')).run Tryz.prog W = .ok (.bool a.isNone) W := fun W a n c n' c' => Lib.run_eql_slice_nil W _ _ a n c n' c' Tryz.underlying35
 cases a with
 | none =>
  have hc0 := hc.nil rfl
  subst hc0
  have hl0 : l = [] := List.eq_nil_of_length_eq_zero (by have := hc.le; omega)
  subst hl0
  clear hr hc
  go_enter Tryz.func139, Tryz.ntmps139
  go_wp2
  go_ret
  exact ⟨_, rfl, ⟨rfl, .inl ⟨rfl, rfl⟩⟩, Below.refl _ _⟩
 | some ad =>
  have HO := Lib.hid (own_emptyO w 108 2 w.heap.size (Nat.le_refl _))
  have HB := Lib.hid (below_one w (.cells #[] 108))
  have HX1 := Lib.hid (hr.below HB.out)
  clear hr hc
  go_enter Tryz.func139, Tryz.ntmps139
  go_wp2_with (at_builtin; refine wpList_append_pp _ rfl (.tmp 5) (.tmp 6) 35 rfl w.heap.size 108 i0 _ 40 Tryz.underlying35 hi hz0 hz1 hz2 (by decide) rfl _ [] rfl HO.out (some ad) c l rfl HX1.out h1 (fun h => by cases h) (by simpa using (show l.length ≤ 1000000 by omega)) HB.out.size ?_; intro v2 w2 hown2 hB2)
  have HO2 := Lib.hid hown2
  have HB2 := Lib.hid (HB.out.trans hB2)
  clear hown2 hB2
  go_wp2
  go_ret
  exact ⟨_, rfl, (by have ho := HO2.out; rw [List.nil_append] at ho; exact ho), HB2.out⟩
set_option maxHeartbeats 1000000 in
theorem pclone_tb (a : Option Addr) (c : Nat) (l : List (Value × Value)) (h1 : OneP l) (w : World) (hr : PpSl w a l) (hc : Cp a l.length c) (hl : l.length ≤ 100000) :
  Calls Tryz.prog 142 #[.slice a l.length c] w fun e w' => ∃ v, e = .returned v ∧ w'.ownsRow w.heap.size 141 2 v l.length (pps l) ∧ Below w.heap.size w w' := by
 obtain ⟨i0, hi, hz0, hz1, hz2⟩ := info_parts infoTb
 have q22 : ∀ (W : World) (a : Option Addr) (n c n' c' : Nat), (binOp .eql 37 (.slice a n c) (.slice none n' c')).run Tryz.prog W = .ok (.bool a.isNone) W := fun W a n c n' c' => Lib.run_eql_slice_nil W _ _ a n c n' c' Tryz.underlying37
 cases a with
 | none =>
  have hc0 := hc.nil rfl
  subst hc0
  have hl0 : l = [] := List.eq_nil_of_length_eq_zero (by have := hc.le; omega)
  subst hl0
  clear hr hc
  go_enter Tryz.func142, Tryz.ntmps142
  go_wp2
  go_ret
  exact ⟨_, rfl, ⟨rfl, .inl ⟨rfl, rfl⟩⟩, Below.refl _ _⟩
 | some ad =>
  have HO := Lib.hid (own_emptyO w 141 2 w.heap.size (Nat.le_refl _))
  have HB := Lib.hid (below_one w (.cells #[] 141))
  have HX1 := Lib.hid (hr.below HB.out)
  clear hr hc
  go_enter Tryz.func142, Tryz.ntmps142
  go_wp2_with (at_builtin; refine wpList_append_pp _ rfl (.tmp 5) (.tmp 6) 37 rfl w.heap.size 141 i0 _ 24 Tryz.underlying37 hi hz0 hz1 hz2 (by decide) rfl _ [] rfl HO.out (some ad) c l rfl HX1.out h1 (fun h => by cases h) (by simpa using (show l.length ≤ 1000000 by omega)) HB.out.size ?_; intro v2 w2 hown2 hB2)
  have HO2 := Lib.hid hown2
  have HB2 := Lib.hid (HB.out.trans hB2)
  clear hown2 hB2
  go_wp2
  go_ret
  exact ⟨_, rfl, (by have ho := HO2.out; rw [List.nil_append] at ho; exact ho), HB2.out⟩
structure PpR where
 a : Option Addr
 l : List (Value × Value)
 c : Nat
def pprV (r : PpR) : Value := .slice r.a r.l.length r.c
def catP (R : List PpR) : List (Value × Value) := R.flatMap (·.l)
theorem catP_take (R : List PpR) (j : Nat) (h : j < R.length) : catP (R.take (j + 1)) = catP (R.take j) ++ R[j].l := by
 unfold catP
 rw [List.take_succ_eq_append_getElem h, List.flatMap_append]
 simp
theorem catP_le (R : List PpR) (j : Nat) : (catP (R.take j)).length ≤ (catP R).length := by
 have : catP R = catP (R.take j) ++ catP (R.drop j) := by
  unfold catP
  rw [← List.flatMap_append, List.take_append_drop]
 rw [this, List.length_append]
 omega
def PpRAt (w : World) (r : PpR) : Prop := PpSl w r.a r.l ∧ OneP r.l ∧ (r.a = none → r.c = 0)
theorem prows_at {w : World} {a : Option Addr} {R : List PpR} (h : Sl w a (R.map pprV)) {k : Nat} (hk : k < R.length) : ∃ b off, a = some ⟨b, off, none⟩ ∧ b < w.heap.size ∧ w.cell? ⟨b, off + k, none⟩ = some (pprV R[k]) := by
 obtain ⟨b, off, e, hlt, hc⟩ := h k (by simpa using hk)
 exact ⟨b, off, e, hlt, by rw [hc]; simp⟩
theorem pgrow_us (n : Nat) (w : World) (hn : n ≤ 1000000) : Calls Tryz.prog 282 #[.slice none 0 0, .int .i64 n] w fun e w' => ∃ v, e = .returned v ∧ w'.ownsRow w.heap.size 108 2 v 0 [] ∧ Below w.heap.size w w' := by
 obtain ⟨i0, hi, hz0, hz1, hz2⟩ := info_parts infoUs
 rcases Nat.eq_zero_or_pos n with h0 | h0
 ·subst h0
  have h := Any8.slices_Grow_room Tryz.laysGrowUs none 0 0 0 w (by omega) (by omega) (by omega) (by omega)
  refine Calls.mono h ?_
  rintro e w' ⟨rfl, rfl⟩
  exact ⟨_, rfl, ⟨rfl, .inl ⟨rfl, rfl⟩⟩, Below.refl _ _⟩
 ·have h := Any8.slices_Grow_grow Tryz.laysGrowUs i0 _ hi hz0 (by rw [hz1]; omega) none 0 0 n [] w (by omega) (by omega) (by rw [hz2]; omega) (by omega) (by simp) (fun _ => rfl) (fun a h => by cases h)
  refine Calls.mono h ?_
  rintro e w' ⟨rfl, rfl⟩
  have hge := grownCap_ge w (0 + n) 0 108
  have hle := grownCap_le_maxLen w (0 + n) 0 108 (by unfold maxLen; omega)
  refine ⟨_, rfl, ⟨rfl, .inr ⟨w.heap.size, _, _, rfl, Nat.le_refl _, heap_alloc_new w.drew _, Nat.zero_le _, hle, ?_, by simp⟩⟩, ?_⟩
  ·simp only [Array.size_append, size_zeroCells]
   show 0 + (0 + n - 0) * 2 + (grownCap w (0 + n) 0 108 - (0 + n)) * 2 = grownCap w (0 + n) 0 108 * 2
   omega
  ·exact (Below.refl w.heap.size w).drew.alloc (Nat.le_refl _) _
set_option maxHeartbeats 1000000 in
theorem pconcat_us (a : Option Addr) (c : Nat) (R : List PpR) (w : World) (hr : Sl w a (R.map pprV)) (hR : ∀ r ∈ R, PpRAt w r) (hl : R.length ≤ 100000) (hs : (catP R).length ≤ 100000) :
  Calls Tryz.prog 258 #[.slice a R.length c] w fun e w' => ∃ v, e = .returned v ∧ w'.ownsRow w.heap.size 108 2 v (catP R).length (pps (catP R)) ∧ Below w.heap.size w w' := by
 obtain ⟨i0, hi, hz0, hz1, hz2⟩ := info_parts infoUs
 have HR := Lib.hid hr
 have HRR := Lib.hid hR
 have HG := Lib.hid (pgrow_us (catP R).length w (by omega))
 clear hr hR
 go_enter Tryz.func258, Tryz.ntmps258
 go_wp2
 go_loopw [3, 11] (fun v i wr => ∃ (j s : Nat), j ≤ R.length ∧ i = .int .i64 j ∧ v = .int .i64 s ∧ s ≤ 100000 ∧ Hid (s = (catP (R.take j)).length) ∧ wr = w) (fun _ i _ => R.length - (intOf i).toNat)
 case atStart => exact ⟨0, 0, by omega, rfl, rfl, by omega, rfl, rfl⟩
 case round =>
  obtain ⟨j, s, hj, rfl, rfl, hs1, HS, hw⟩ := hrel
  obtain rfl : w = wr := hw.symm
  clear hw
  by_cases hjl : j < R.length
  ·obtain ⟨b, off, rfl, hbl, hc0⟩ := prows_at HR.out hjl
   have HN := Lib.hid (catP_take R j hjl)
   have hle := catP_le R (j + 1)
   rw [HN.out, List.length_append, ← HS.out] at hle
   generalize R[j] = x at *
   unfold pprV at hc0
   obtain ⟨xa, xl, xc⟩ := x
   simp only at hc0 hle HN
   have hsum : s + xl.length ≤ 100000 := by omega
   clear hle
   go_wp2
   go_roundw
   case rel => exact ⟨j + 1, s + xl.length, by omega, by go_num, by go_num, hsum, (by unfold Hid; rw [HN.out, List.length_append, ← HS.out]), (by first | rfl | trivial)⟩
   case measure => simp [intOf]; omega
  ·obtain rfl : j = R.length := by omega
   rw [List.take_of_length_le (Nat.le_refl _)] at HS
   have HS2 := HS.out
   subst HS2
   go_wp2_with fail
   refine HG.out.mono ?_
   rintro e w1 ⟨v, rfl, ho, hb⟩
   have HO := Lib.hid ho
   have HB := Lib.hid hb
   clear ho hb HG HS
   go_wp2
   go_loopw [6, 27] (fun v i wx => ∃ (j : Nat), j ≤ R.length ∧ i = .int .i64 j ∧ Hid (wx.ownsRow w.heap.size 108 2 v (catP (R.take j)).length (pps (catP (R.take j)))) ∧ Hid (Below w.heap.size w wx)) (fun _ i _ => R.length - (intOf i).toNat)
   case atStart => exact ⟨0, by omega, rfl, HO.out, HB.out⟩
   case round =>
    obtain ⟨j, hj, rfl, HO, HB⟩ := hrel
    by_cases hjl : j < R.length
    ·obtain ⟨b, off, rfl, hbl, hc0⟩ := prows_at (HR.out.below HB.out) hjl
     have HN := Lib.hid (catP_take R j hjl)
     have hle := catP_le R (j + 1)
     have hle2 := catP_le R j
     rw [HN.out, List.length_append] at hle
     have HX := Lib.hid (HRR.out _ (List.getElem_mem hjl))
     generalize R[j] = x at *
     unfold pprV at hc0
     obtain ⟨xa, xl, xc⟩ := x
     simp only at hc0 hle HN
     obtain ⟨hx1, hx3, hx2⟩ := HX.out
     simp only at hx1 hx2 hx3
     have HX1 := Lib.hid (hx1.below HB.out)
     have HX2 := Lib.hid hx2
     have HX3 := Lib.hid hx3
     generalize hct : catP (R.take j) = ct at *
     have hsum : ct.length + xl.length ≤ 1000000 := by omega
     clear hle hle2 hx1 hx2 hx3 HX hct
     go_wp2_with (at_builtin; refine wpList_append_pp _ rfl (.tmp 31) (.tmp 32) 35 rfl w.heap.size 108 i0 _ 40 Tryz.underlying35 hi hz0 hz1 hz2 (by decide) rfl _ ct rfl HO.out xa xc xl rfl HX1.out HX3.out HX2.out hsum HB.out.size ?_; intro v2 w2 hown2 hB2)
     have HO2 := Lib.hid hown2
     have HB2 := Lib.hid (HB.out.trans hB2)
     clear hown2 hB2
     go_wp2
     go_roundw
     case rel => exact ⟨j + 1, by omega, by go_num, (by unfold Hid; rw [HN.out]; exact HO2.out), HB2⟩
     case measure => simp [intOf]; omega
    ·obtain rfl : j = R.length := by omega
     rw [List.take_of_length_le (Nat.le_refl _)] at HO
     go_wp2
     go_ret
     exact ⟨_, rfl, HO.out, HB.out⟩
theorem pgrow_tb (n : Nat) (w : World) (hn : n ≤ 1000000) : Calls Tryz.prog 284 #[.slice none 0 0, .int .i64 n] w fun e w' => ∃ v, e = .returned v ∧ w'.ownsRow w.heap.size 141 2 v 0 [] ∧ Below w.heap.size w w' := by
 obtain ⟨i0, hi, hz0, hz1, hz2⟩ := info_parts infoTb
 rcases Nat.eq_zero_or_pos n with h0 | h0
 ·subst h0
  have h := Any8.slices_Grow_room Tryz.laysGrowTb none 0 0 0 w (by omega) (by omega) (by omega) (by omega)
  refine Calls.mono h ?_
  rintro e w' ⟨rfl, rfl⟩
  exact ⟨_, rfl, ⟨rfl, .inl ⟨rfl, rfl⟩⟩, Below.refl _ _⟩
 ·have h := Any8.slices_Grow_grow Tryz.laysGrowTb i0 _ hi hz0 (by rw [hz1]; omega) none 0 0 n [] w (by omega) (by omega) (by rw [hz2]; omega) (by omega) (by simp) (fun _ => rfl) (fun a h => by cases h)
  refine Calls.mono h ?_
  rintro e w' ⟨rfl, rfl⟩
  have hge := grownCap_ge w (0 + n) 0 141
  have hle := grownCap_le_maxLen w (0 + n) 0 141 (by unfold maxLen; omega)
  refine ⟨_, rfl, ⟨rfl, .inr ⟨w.heap.size, _, _, rfl, Nat.le_refl _, heap_alloc_new w.drew _, Nat.zero_le _, hle, ?_, by simp⟩⟩, ?_⟩
  ·simp only [Array.size_append, size_zeroCells]
   show 0 + (0 + n - 0) * 2 + (grownCap w (0 + n) 0 141 - (0 + n)) * 2 = grownCap w (0 + n) 0 141 * 2
   omega
  ·exact (Below.refl w.heap.size w).drew.alloc (Nat.le_refl _) _
set_option maxHeartbeats 1000000 in
theorem pconcat_tb (a : Option Addr) (c : Nat) (R : List PpR) (w : World) (hr : Sl w a (R.map pprV)) (hR : ∀ r ∈ R, PpRAt w r) (hl : R.length ≤ 100000) (hs : (catP R).length ≤ 100000) :
  Calls Tryz.prog 267 #[.slice a R.length c] w fun e w' => ∃ v, e = .returned v ∧ w'.ownsRow w.heap.size 141 2 v (catP R).length (pps (catP R)) ∧ Below w.heap.size w w' := by
 obtain ⟨i0, hi, hz0, hz1, hz2⟩ := info_parts infoTb
 have HR := Lib.hid hr
 have HRR := Lib.hid hR
 have HG := Lib.hid (pgrow_tb (catP R).length w (by omega))
 clear hr hR
 go_enter Tryz.func267, Tryz.ntmps267
 go_wp2
 go_loopw [3, 11] (fun v i wr => ∃ (j s : Nat), j ≤ R.length ∧ i = .int .i64 j ∧ v = .int .i64 s ∧ s ≤ 100000 ∧ Hid (s = (catP (R.take j)).length) ∧ wr = w) (fun _ i _ => R.length - (intOf i).toNat)
 case atStart => exact ⟨0, 0, by omega, rfl, rfl, by omega, rfl, rfl⟩
 case round =>
  obtain ⟨j, s, hj, rfl, rfl, hs1, HS, hw⟩ := hrel
  obtain rfl : w = wr := hw.symm
  clear hw
  by_cases hjl : j < R.length
  ·obtain ⟨b, off, rfl, hbl, hc0⟩ := prows_at HR.out hjl
   have HN := Lib.hid (catP_take R j hjl)
   have hle := catP_le R (j + 1)
   rw [HN.out, List.length_append, ← HS.out] at hle
   generalize R[j] = x at *
   unfold pprV at hc0
   obtain ⟨xa, xl, xc⟩ := x
   simp only at hc0 hle HN
   have hsum : s + xl.length ≤ 100000 := by omega
   clear hle
   go_wp2
   go_roundw
   case rel => exact ⟨j + 1, s + xl.length, by omega, by go_num, by go_num, hsum, (by unfold Hid; rw [HN.out, List.length_append, ← HS.out]), (by first | rfl | trivial)⟩
   case measure => simp [intOf]; omega
  ·obtain rfl : j = R.length := by omega
   rw [List.take_of_length_le (Nat.le_refl _)] at HS
   have HS2 := HS.out
   subst HS2
   go_wp2_with fail
   refine HG.out.mono ?_
   rintro e w1 ⟨v, rfl, ho, hb⟩
   have HO := Lib.hid ho
   have HB := Lib.hid hb
   clear ho hb HG HS
   go_wp2
   go_loopw [6, 27] (fun v i wx => ∃ (j : Nat), j ≤ R.length ∧ i = .int .i64 j ∧ Hid (wx.ownsRow w.heap.size 141 2 v (catP (R.take j)).length (pps (catP (R.take j)))) ∧ Hid (Below w.heap.size w wx)) (fun _ i _ => R.length - (intOf i).toNat)
   case atStart => exact ⟨0, by omega, rfl, HO.out, HB.out⟩
   case round =>
    obtain ⟨j, hj, rfl, HO, HB⟩ := hrel
    by_cases hjl : j < R.length
    ·obtain ⟨b, off, rfl, hbl, hc0⟩ := prows_at (HR.out.below HB.out) hjl
     have HN := Lib.hid (catP_take R j hjl)
     have hle := catP_le R (j + 1)
     have hle2 := catP_le R j
     rw [HN.out, List.length_append] at hle
     have HX := Lib.hid (HRR.out _ (List.getElem_mem hjl))
     generalize R[j] = x at *
     unfold pprV at hc0
     obtain ⟨xa, xl, xc⟩ := x
     simp only at hc0 hle HN
     obtain ⟨hx1, hx3, hx2⟩ := HX.out
     simp only at hx1 hx2 hx3
     have HX1 := Lib.hid (hx1.below HB.out)
     have HX2 := Lib.hid hx2
     have HX3 := Lib.hid hx3
     generalize hct : catP (R.take j) = ct at *
     have hsum : ct.length + xl.length ≤ 1000000 := by omega
     clear hle hle2 hx1 hx2 hx3 HX hct
     go_wp2_with (at_builtin; refine wpList_append_pp _ rfl (.tmp 31) (.tmp 32) 37 rfl w.heap.size 141 i0 _ 24 Tryz.underlying37 hi hz0 hz1 hz2 (by decide) rfl _ ct rfl HO.out xa xc xl rfl HX1.out HX3.out HX2.out hsum HB.out.size ?_; intro v2 w2 hown2 hB2)
     have HO2 := Lib.hid hown2
     have HB2 := Lib.hid (HB.out.trans hB2)
     clear hown2 hB2
     go_wp2
     go_roundw
     case rel => exact ⟨j + 1, by omega, by go_num, (by unfold Hid; rw [HN.out]; exact HO2.out), HB2⟩
     case measure => simp [intOf]; omega
    ·obtain rfl : j = R.length := by omega
     rw [List.take_of_length_le (Nat.le_refl _)] at HO
     go_wp2
     go_ret
     exact ⟨_, rfl, HO.out, HB.out⟩
end Go.Proofs.YtapacckmgmdnoaaGreat
