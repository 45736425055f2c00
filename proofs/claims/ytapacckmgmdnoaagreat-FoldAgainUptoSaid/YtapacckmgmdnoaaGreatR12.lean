/- Texts of mine, one behind the other, of each what is wanted. -/
import Derived.Test.YtapacckmgmdnoaaGreatR00
import Derived.Test.YtapacckmgmdnoaaGreatR01
import Derived.Test.YtapacckmgmdnoaaGreatR03
import Derived.Test.YtapacckmgmdnoaaGreatR04
import Derived.Test.YtapacckmgmdnoaaGreatR05
import Derived.Test.YtapacckmgmdnoaaGreatR09
namespace Go.Proofs.YtapacckmgmdnoaaGreat
open Go.RowKit
set_option linter.unusedVariables false
set_option maxRecDepth 100000
set_option maxRecDepth 100000
theorem results_tmp_cell_tmp {fn : Func} {p u v : Tmp} {ty : TypeId} (h : fn.results = #[.tmp u, .cell p ty, .tmp v]) (tmps : Array Value) (P : Program) (w : World) :
  (results fn tmps).run P w = ((asAddr (tmps.getD p undef)).run P w).andThen fun a w₁ => ((loadVar ty a).run P w₁).andThen fun x w₂ => .ok (.tuple #[tmps.getD u undef, x, tmps.getD v undef]) w₂ := by
 simp only [results, h]
 simp [Sem.run_bind, Result.andThen]
 try (split <;> simp)
 all_goals try (split <;> simp)
def setO (W : World) (g : Nat) (a b c d : Value) : World := (((W.setCell ⟨g, 0, none⟩ a).setCell ⟨g, 1, none⟩ b).setCell ⟨g, 2, none⟩ c).setCell ⟨g, 3, none⟩ d
structure Zb (w : World) (g : Nat) (a b c d : Value) (t : TypeId) (W : World) : Prop where
 blk : W.heap[g]? = some (.cells #[a, b, c, d] t (0, 0))
 ge : w.heap.size ≤ g
 frame : Below w.heap.size w W
section
variable {w W W' : World} {g : Nat} {a b c d : Value} {t : TypeId}
theorem Zb.lt (h : Zb w g a b c d t W) : g < W.heap.size := heap_lt h.blk
theorem Zb.below (h : Zb w g a b c d t W) (q : Below W.heap.size W W') : Zb w g a b c d t W' := ⟨(q.block g h.lt).trans h.blk, h.ge, h.frame.trans (q.mono h.frame.size)⟩
theorem Zb.new (w : World) (a b c d : Value) (t : TypeId) : Zb w w.heap.size a b c d t (w.alloc (.cells #[a, b, c, d] t)) := ⟨heap_alloc_new w _, Nat.le_refl _, below_one _ _⟩
theorem Zb.cells (h : Zb w g a b c d t W) : W.cell? ⟨g, 0, none⟩ = some a ∧ W.cell? ⟨g, 1, none⟩ = some b ∧ W.cell? ⟨g, 2, none⟩ = some c ∧ W.cell? ⟨g, 3, none⟩ = some d := cells4 h.blk
theorem Zb.free (h : Zb w g a b c d t W) : W.frozen? ⟨g, 0, none⟩ = false ∧ W.frozen? ⟨g, 1, none⟩ = false ∧ W.frozen? ⟨g, 2, none⟩ = false ∧ W.frozen? ⟨g, 3, none⟩ = false :=
 ⟨frozen_of_row _ _ 0 _ _ h.blk, frozen_of_row _ _ 1 _ _ h.blk, frozen_of_row _ _ 2 _ _ h.blk, frozen_of_row _ _ 3 _ _ h.blk⟩
theorem Zb.set (h : Zb w g a b c d t W) (x y z v : Value) : Below w.heap.size w (setO W g x y z v) :=
 (((h.frame.setCell (p := ⟨g, 0, none⟩) h.ge x).setCell (p := ⟨g, 1, none⟩) h.ge y).setCell (p := ⟨g, 2, none⟩) h.ge z).setCell (p := ⟨g, 3, none⟩) h.ge v
theorem Zb.there (h : Zb w g a b c d t W) : W.there g 0 4 := fun j hj => by
 rw [Nat.zero_add]
 refine ⟨?_, frozen_of_row _ _ _ _ _ h.blk⟩
 rw [cell_of_row _ _ _ _ _ (0, 0) h.blk, Array.getElem?_eq_getElem (by simpa using hj)]
 rfl
theorem setO_cell (W : World) (g : Nat) (x y z v : Value) {p : Addr} (h : p.block ≠ g) : (setO W g x y z v).cell? p = W.cell? p := by
 unfold setO World.cell?
 rw [Below.heap_setCell _ _ _ _ h, Below.heap_setCell _ _ _ _ h, Below.heap_setCell _ _ _ _ h, Below.heap_setCell _ _ _ _ h]
theorem setO_size (W : World) (g : Nat) (x y z v : Value) : (setO W g x y z v).heap.size = W.heap.size := by
 unfold setO
 simp [World.setCell]
theorem OpSl.setO {l : List OpM} {A : Option Addr} (h : OpSl W A l) (g : Nat) (x y z v : Value) (hg : ∀ b o, A = some ⟨b, o, none⟩ → b ≠ g) : OpSl (setO W g x y z v) A l := fun k hk => by
 obtain ⟨b, off, e, hlt, h0, h1, h2, h3⟩ := h k hk
 have hne := hg b off e
 exact ⟨b, off, e, by rw [setO_size]; exact hlt, (setO_cell W g x y z v (p := ⟨b, off + k * 4, none⟩) hne).trans h0, (setO_cell W g x y z v (p := ⟨b, off + k * 4 + 1, none⟩) hne).trans h1, (setO_cell W g x y z v (p := ⟨b, off + k * 4 + 2, none⟩) hne).trans h2, (setO_cell W g x y z v (p := ⟨b, off + k * 4 + 3, none⟩) hne).trans h3⟩
end
section
variable {w W : World} {g : Nat} {a b c d : Value} {t : TypeId}
theorem Zb.loadS (h : Zb w g a b c d t W) (x y z v : Value) : (loadVar 111 ⟨g, 0, none⟩).run Tryz.prog (setO W g x y z v) = .ok (.agg #[x, y, z, v]) (setO W g x y z v) :=
 run_loadVar_mid (P := Tryz.prog) (W.setCells g 0 [x, y, z, v]) g 0 111 [x, y, z, v] _ (World.rangeAt_setCells_same _ _ _ _ h.there) Tryz.underlying111 rfl infoStay4
end
set_option maxHeartbeats 2000000 in
theorem find_any (a : Option Addr) (c : Nat) (l : List OpM) (n : Int) (u : ByteArray) (w : World) (hr : OpSl w a l) (hl : l.length ≤ 1000000) :
  Calls Tryz.prog 229 #[.slice a l.length c, .int .i64 n, .string u] w fun e w' => e = .returned (.tuple #[.int .i64 (findP l n u : Nat), .int .i64 (findC l n u)]) ∧ Below w.heap.size w w' := by
 have HR := Lib.hid hr
 clear hr
 have HM := Lib.hid (fun (h : IsFst (hasN n) l l.length) => fc_miss h u)
 have HU := Lib.hid (fun k (h : IsFst (hasN n) l k) (hk : k < l.length) (hu : ¬ l[k].u = u) => fc_user h hk hu)
 have HH := Lib.hid (fun k (h : IsFst (hasN n) l k) (hk : k < l.length) (hu : l[k].u = u) => fc_hit h hk hu)
 generalize findP l n u = P at *
 generalize findC l n u = C at *
 go_enter Tryz.func229, Tryz.ntmps229
 go_wp2
 go_step3
 go_wp2
 go_step3
 go_wp2
 go_loopw [8, 9, 14] (fun p q i wr => ∃ (j : Nat), j ≤ l.length ∧ p = .int .i64 0 ∧ q = .int .i64 101 ∧ i = .int .i64 j ∧ Hid (LoTo (hasN n) l j) ∧ Hid (Below w.heap.size w wr)) (fun _ _ i _ => l.length - (intOf i).toNat)
 case atStart => exact ⟨0, by omega, rfl, rfl, rfl, LoTo.zero _ _, Below.refl _ _⟩
 case round =>
  obtain ⟨j, hj, rfl, rfl, rfl, HO, HB⟩ := hrel
  by_cases hjl : j < l.length
  ·obtain ⟨b, off, rfl, hbl, hc0, hc1, hc2, hc3⟩ := (HR.out.below HB.out).at_ hjl
   have HNX := Lib.hid (HO.out.next hjl)
   have HHT := Lib.hid (fun h => HH.out j (HO.out.hit hjl h) hjl)
   have HHU := Lib.hid (fun h => HU.out j (HO.out.hit hjl h) hjl)
   have HB2 := Lib.hid (HB.out.trans ((below_one wr (.cells #[.int .i64 l[j].n, .string l[j].u, .int .i64 l[j].s, .int .i64 l[j].f] 184)).mono HB.out.size))
   generalize l[j] = x at *
   clear HM HU HH
   obtain ⟨xn, xu, xs, xf⟩ := x
   dsimp only at *
   by_cases h1 : xn = n
   ·subst h1
    have d1 : (xn != xn) = false := by simp
    have d1' : (xn == xn) = true := beq_self_eq_true _
    by_cases h2 : xu = u
    ·subst h2
     have d2 := txt_ns xu
     have d2' := txt_eq xu
     obtain ⟨e1, _, e3⟩ := HHT.out (decide_eq_true rfl) rfl
     subst e1 e3
     clear HNX HHT HHU HO
     go_wp2
     try rw [Exit.noGoto_ret]
     go_ret2
     exact ⟨by trivial, HB2.out⟩
    ·have d2 := txt_nt h2
     have d2' := txt_ne h2
     obtain ⟨e1, _, e3⟩ := HHU.out (decide_eq_true rfl) h2
     subst e1 e3
     clear HNX HHT HHU HO
     go_wp2
     try rw [Exit.noGoto_ret]
     go_ret2
     exact ⟨by trivial, HB2.out⟩
   ·have d1 : (xn != n) = true := by simp [h1]
    have d1' : (xn == n) = false := beq_eq_false_iff_ne.2 h1
    have HN := Lib.hid (HNX.out (decide_eq_false h1))
    clear HNX HHT HHU HO
    go_wp2
    go_roundw
    case rel => exact ⟨j + 1, by omega, rfl, rfl, by go_num, HN, HB2.out⟩
    case measure => simp [intOf]; omega
  ·obtain rfl : j = l.length := by omega
   obtain ⟨e1, _, e3⟩ := HM.out HO.out.miss
   subst e1 e3
   go_wp2
   try rw [Exit.noGoto_ret]
   go_ret2
   exact ⟨by trivial, HB.out⟩
theorem ebelow_one (w : World) (o : Obj) : Below w.heap.size w (w.alloc o) := (Below.refl _ _).alloc (Nat.le_refl _) _
def PcAt (W : World) (g : Nat) (w u : ByteArray) : Prop := W.cell? ⟨g, 0, none⟩ = some (.string w) ∧ W.cell? ⟨g, 1, none⟩ = some (.string u) ∧ g < W.heap.size
theorem PcAt.below {W W' : World} {g : Nat} {w u : ByteArray} (h : PcAt W g w u) (q : Below W.heap.size W W') : PcAt W' g w u :=
 ⟨(q.cell (p := ⟨g, 0, none⟩) h.2.2).trans h.1, (q.cell (p := ⟨g, 1, none⟩) h.2.2).trans h.2.1, Nat.lt_of_lt_of_le h.2.2 q.size⟩
theorem PcAt.new (W : World) (w u : ByteArray) (t : TypeId) : PcAt (W.alloc (.cells #[.string w, .string u] t)) W.heap.size w u :=
 ⟨cell_of_row _ _ _ _ _ _ (heap_alloc_new W _), cell_of_row _ _ _ _ _ _ (heap_alloc_new W _), by rw [size1]; omega⟩
theorem str_ne {a b : ByteArray} (h : ¬ a = b) : (a.toList == b.toList) = false := by
 have h1 := eqS_iff a b
 unfold eqS at h1
 cases hc : (a.toList == b.toList) with
 | false => rfl
 | true => exact absurd (h1.1 hc) h
theorem str_eq (a : ByteArray) : (a.toList == a.toList) = true := beq_self_eq_true _
set_option maxHeartbeats 1000000 in
theorem infc_any (e : EnM) (w u : ByteArray) (g : Nat) (W : World) (h : PcAt W g w u) :
  Calls Tryz.prog 261 #[enV e, .pointer (some ⟨g, 0, none⟩)] W fun r w' => r = .returned (.bool (infE w u e)) ∧ Below W.heap.size W w' := by
 have HB := Lib.hid (ebelow_one W)
 obtain ⟨c0, c1, hg⟩ := h
 unfold enV
 obtain ⟨ew, eu, ef, et⟩ := e
 have HF : Hid (∀ b : Bool, (b = true ↔ ew = w ∧ eu = u ∧ et = 1099511627776) → b = infE w u ⟨ew, eu, ef, et⟩) := fun b hb => by
  have h1 := infE_iff (w := w) (u := u) (e := ⟨ew, eu, ef, et⟩)
  cases hc : infE w u ⟨ew, eu, ef, et⟩ with
  | true => rw [hc] at h1; exact hb.2 (h1.1 rfl)
  | false =>
   rw [hc] at h1
   cases b with
   | false => rfl
   | true => exact absurd (h1.2 (hb.1 rfl)) Bool.false_ne_true
 dsimp only
 by_cases h0 : ew = w
 ·subst h0
  have e0 := str_eq ew
  by_cases h1 : eu = u
  ·subst h1
   have e1 := str_eq eu
   by_cases h2 : et = 1099511627776
   ·subst h2
    have HE := Lib.hid (HF.out true ⟨fun _ => ⟨rfl, rfl, rfl⟩, fun _ => rfl⟩)
    clear HF
    go_enter Tryz.func261, Tryz.ntmps261
    go_wp2
    go_ret
    exact ⟨retB HE.out, HB.out _⟩
   ·have e2 : (et == 1099511627776) = false := beq_eq_false_iff_ne.2 h2
    have HE := Lib.hid (HF.out false ⟨fun h => (by cases h), fun h => absurd h.2.2 h2⟩)
    clear HF h2
    go_enter Tryz.func261, Tryz.ntmps261
    go_wp2
    go_ret
    exact ⟨retB HE.out, HB.out _⟩
  ·have e1 := str_ne h1
   have HE := Lib.hid (HF.out false ⟨fun h => (by cases h), fun h => absurd h.2.1 h1⟩)
   clear HF h1
   go_enter Tryz.func261, Tryz.ntmps261
   go_wp2
   go_ret
   exact ⟨retB HE.out, HB.out _⟩
 ·have e0 := str_ne h0
  have HE := Lib.hid (HF.out false ⟨fun h => (by cases h), fun h => absurd h.1 h0⟩)
  clear HF h0
  go_enter Tryz.func261, Tryz.ntmps261
  go_wp2
  go_ret
  exact ⟨retB HE.out, HB.out _⟩
def idxI (p : EnM → Bool) (l : List EnM) : Int := if l.findIdx p < l.length then (l.findIdx p : Nat) else -1
theorem idx_hit {p : EnM → Bool} {l : List EnM} {k : Nat} (h : IsFirst p l k) (hk : k < l.length) : idxI p l = k := by
 unfold idxI
 rw [h.idx, if_pos hk]
theorem idx_miss {p : EnM → Bool} {l : List EnM} (h : IsFirst p l l.length) : idxI p l = -1 := by
 unfold idxI
 rw [h.idx, if_neg (by omega)]
theorem idx_any (p : EnM → Bool) (l : List EnM) : decide (0 ≤ idxI p l) = l.any p := by
 have h := first_idx p l
 rw [h.any]
 by_cases h1 : l.findIdx p < l.length
 ·rw [idx_hit h h1, decide_eq_true h1]
  exact decide_eq_true (by omega)
 ·rw [decide_eq_false h1]
  unfold idxI
  rw [if_neg h1]
  rfl
def LowTo (p : EnM → Bool) (l : List EnM) (j : Nat) : Prop := ∀ i (h : i < l.length), i < j → p l[i] = false
theorem LowTo.next {p : EnM → Bool} {l : List EnM} {j : Nat} (h : LowTo p l j) (hj : j < l.length) (hp : p l[j] = false) : LowTo p l (j + 1) := fun i hi hij => by
 rcases Nat.lt_or_ge i j with h1 | h1
 ·exact h i hi h1
 ·obtain rfl : i = j := by omega
  exact hp
theorem LowTo.hit {p : EnM → Bool} {l : List EnM} {j : Nat} (h : LowTo p l j) (hj : j < l.length) (hp : p l[j] = true) : IsFirst p l j := ⟨Nat.le_of_lt hj, h, fun _ => hp⟩
theorem LowTo.miss {p : EnM → Bool} {l : List EnM} (h : LowTo p l l.length) : IsFirst p l l.length := ⟨Nat.le_refl _, h, fun h => absurd h (by omega)⟩
set_option maxHeartbeats 2000000 in
theorem index_any (a : Option Addr) (c : Nat) (l : List EnM) (w u : ByteArray) (g : Nat) (W : World) (hr : EnSl W a l) (h : PcAt W g w u) (hl : l.length ≤ 1000000) :
  Calls Tryz.prog 260 #[.slice a l.length c, .func (.func 261) #[] #[.pointer (some ⟨g, 0, none⟩)]] W fun r w' => r = .returned (.int .i64 (idxI (infE w u) l)) ∧ Below W.heap.size W w' := by
 have HR := Lib.hid hr
 have HP := Lib.hid h
 have HC := Lib.hid (fun e V k => infc_any e w u g V k)
 unfold enV at HC
 clear hr h
 go_enter Tryz.func260, Tryz.ntmps260
 go_wp2
 go_loopw [8] (fun i wr => ∃ (j : Nat), j ≤ l.length ∧ i = .int .i64 j ∧ Hid (LowTo (infE w u) l j) ∧ Hid (Below W.heap.size W wr)) (fun i _ => l.length - (intOf i).toNat)
 case atStart => exact ⟨0, by omega, rfl, fun k _ h => absurd h (by omega), Below.refl _ _⟩
 case round =>
  obtain ⟨j, hj, rfl, HO, HB⟩ := hrel
  by_cases hjl : j < l.length
  ·obtain ⟨b, off, rfl, hbl, hc0, hc1, hc2, hc3⟩ := (HR.out.below HB.out).at_ hjl
   have HPW := Lib.hid (HP.out.below HB.out)
   have HNX := Lib.hid (HO.out.next hjl)
   have HHT := Lib.hid (HO.out.hit hjl)
   generalize l[j] = x at *
   cases hb : infE w u x with
   | false =>
    have HN := Lib.hid (HNX.out hb)
    have HCC := Lib.hid (HC.out x wr HPW.out)
    rw [hb] at HCC
    clear HNX HHT hb HC
    go_wp2_with fail
    refine HCC.out.mono ?_
    rintro r w2 ⟨rfl, hB⟩
    go_wp2
    go_roundw
    case rel => exact ⟨j + 1, by omega, by go_num, HN, HB.out.trans (hB.mono HB.out.size)⟩
    case measure => simp [intOf]; omega
   | true =>
    have HN := Lib.hid (idx_hit (HHT.out hb) hjl)
    have HCC := Lib.hid (HC.out x wr HPW.out)
    rw [hb] at HCC
    clear HNX HHT hb HC
    go_wp2_with fail
    refine HCC.out.mono ?_
    rintro r w2 ⟨rfl, hB⟩
    go_wp2
    go_ret
    exact ⟨by rw [HN.out]; rfl, HB.out.trans (hB.mono HB.out.size)⟩
  ·obtain rfl : j = l.length := by omega
   have HE := Lib.hid (idx_miss HO.out.miss)
   go_wp2
   go_ret
   exact ⟨by rw [HE.out]; rfl, HB.out⟩
set_option maxHeartbeats 1000000 in
theorem inforce_any (a : Option Addr) (c : Nat) (l : List EnM) (w u : ByteArray) (W : World) (hr : EnSl W a l) (hl : l.length ≤ 1000000) :
  Calls Tryz.prog 234 #[.slice a l.length c, pr w u] W fun r w' => r = .returned (.int .i64 (idxI (infE w u) l)) ∧ Below W.heap.size W w' := by
 have hb := ebelow_one W (.cells #[.string w, .string u] 79)
 have HC := Lib.hid (index_any a c l w u W.heap.size (W.alloc (.cells #[.string w, .string u] 79)) (hr.below hb) (PcAt.new _ _ _ _) hl)
 have HB := Lib.hid hb
 unfold pr
 clear hr hb
 go_enter Tryz.func234, Tryz.ntmps234
 go_wp2_with fail
 refine HC.out.mono ?_
 rintro r w2 ⟨rfl, hB⟩
 go_wp2
 go_ret
 exact ⟨rfl, HB.out.trans (hB.mono HB.out.size)⟩
set_option maxHeartbeats 1000000 in
theorem inForce_any (a : Option Addr) (c : Nat) (l : List EnM) (w u : ByteArray) (W : World) (hr : EnSl W a l) (hl : l.length ≤ 1000000) :
  Calls Tryz.prog 232 #[.slice a l.length c, pr w u] W fun r w' => r = .returned (.bool (l.any (infE w u))) ∧ Below W.heap.size W w' := by
 have hb := ebelow_one W (.cells #[.string w, .string u] 79)
 have HC := Lib.hid (inforce_any a c l w u (W.alloc (.cells #[.string w, .string u] 79)) (hr.below hb) hl)
 have HB := Lib.hid hb
 have HE := Lib.hid (idx_any (infE w u) l)
 unfold pr at *
 clear hr hb
 generalize idxI (infE w u) l = n at *
 go_enter Tryz.func232, Tryz.ntmps232
 go_wp2_with fail
 refine HC.out.mono ?_
 rintro r w2 ⟨rfl, hB⟩
 go_wp2
 go_ret
 exact ⟨by rw [← HE.out]; rfl, HB.out.trans (hB.mono HB.out.size)⟩
theorem below_2 (w : World) (o p : Obj) : Below w.heap.size w ((w.alloc o).alloc p) := ((Below.refl _ _).alloc (Nat.le_refl _) _).alloc (by rw [size1]; omega) _
structure TwE (w : World) (g h : Nat) (a b : EnM) (W : World) : Prop where
 a : W.cell? ⟨g, 0, none⟩ = some (.string a.w) ∧ W.cell? ⟨g, 1, none⟩ = some (.string a.u) ∧ W.cell? ⟨g, 2, none⟩ = some (.int .i64 a.f) ∧ W.cell? ⟨g, 3, none⟩ = some (.int .i64 a.t)
 b : W.cell? ⟨h, 0, none⟩ = some (.string b.w) ∧ W.cell? ⟨h, 1, none⟩ = some (.string b.u) ∧ W.cell? ⟨h, 2, none⟩ = some (.int .i64 b.f) ∧ W.cell? ⟨h, 3, none⟩ = some (.int .i64 b.t)
 lt : g < W.heap.size ∧ h < W.heap.size
 frame : Below w.heap.size w W
theorem TwE.below {w W W' : World} {g h : Nat} {a b : EnM} (k : TwE w g h a b W) (q : Below W.heap.size W W') : TwE w g h a b W' :=
 ⟨⟨(q.cell (p := ⟨g, 0, none⟩) k.lt.1).trans k.a.1, (q.cell (p := ⟨g, 1, none⟩) k.lt.1).trans k.a.2.1, (q.cell (p := ⟨g, 2, none⟩) k.lt.1).trans k.a.2.2.1, (q.cell (p := ⟨g, 3, none⟩) k.lt.1).trans k.a.2.2.2⟩,
  ⟨(q.cell (p := ⟨h, 0, none⟩) k.lt.2).trans k.b.1, (q.cell (p := ⟨h, 1, none⟩) k.lt.2).trans k.b.2.1, (q.cell (p := ⟨h, 2, none⟩) k.lt.2).trans k.b.2.2.1, (q.cell (p := ⟨h, 3, none⟩) k.lt.2).trans k.b.2.2.2⟩,
  ⟨Nat.lt_of_lt_of_le k.lt.1 q.size, Nat.lt_of_lt_of_le k.lt.2 q.size⟩, k.frame.trans (q.mono k.frame.size)⟩
theorem TwE.new (w : World) (a b : EnM) (t t' : TypeId) : TwE w w.heap.size (w.heap.size + 1) a b ((w.alloc (.cells #[.string a.w, .string a.u, .int .i64 a.f, .int .i64 a.t] t)).alloc (.cells #[.string b.w, .string b.u, .int .i64 b.f, .int .i64 b.t] t')) := by
 have hb := below_2 w (.cells #[.string a.w, .string a.u, .int .i64 a.f, .int .i64 a.t] t) (.cells #[.string b.w, .string b.u, .int .i64 b.f, .int .i64 b.t] t')
 have h1 := heap_alloc_new w (.cells #[.string a.w, .string a.u, .int .i64 a.f, .int .i64 a.t] t)
 have z1 := size1 w (.cells #[.string a.w, .string a.u, .int .i64 a.f, .int .i64 a.t] t)
 generalize w.alloc (.cells #[.string a.w, .string a.u, .int .i64 a.f, .int .i64 a.t] t) = w1 at *
 have h2 := heap_alloc_new w1 (.cells #[.string b.w, .string b.u, .int .i64 b.f, .int .i64 b.t] t')
 have b2 := ebelow_one w1 (.cells #[.string b.w, .string b.u, .int .i64 b.f, .int .i64 b.t] t')
 have z2 := size1 w1 (.cells #[.string b.w, .string b.u, .int .i64 b.f, .int .i64 b.t] t')
 generalize w1.alloc (.cells #[.string b.w, .string b.u, .int .i64 b.f, .int .i64 b.t] t') = w2 at *
 rw [z1] at h2
 exact ⟨ecells4 ((b2.block _ (heap_lt h1)).trans h1), ecells4 h2, ⟨by omega, by omega⟩, hb⟩
theorem above_pc (a b : EnM) : (aheadE b a) ↔ (0 < pc a b ∨ (pc a b = 0 ∧ b.f < a.f)) := by
 have h := pc_neg a b
 unfold aheadE
 omega
set_option maxHeartbeats 2000000 in
theorem above_any (a b : EnM) (w : World) : Calls Tryz.prog 221 #[enV a, enV b] w fun e w' => e = .returned (.bool (decide (aheadE b a))) ∧ Below w.heap.size w w' := by
 have K0 := Lib.hid (TwE.new w a b 165 165)
 have HC := Lib.hid (fun W => pairCmp_any a.w a.u b.w b.u W)
 have HP := above_pc a b
 unfold enV
 unfold pr at HC
 have hpc : cmpP a.w a.u b.w b.u = pc a b := rfl
 rw [hpc] at HC
 generalize pc a b = c at *
 have HF : Hid (∀ x : Bool, (x = true ↔ aheadE b a) → x = decide (aheadE b a)) := fun x h => by
  cases x with
  | true => exact (decide_eq_true (h.1 rfl)).symm
  | false => exact (decide_eq_false (fun k => by cases h.2 k)).symm
 rcases Int.lt_trichotomy c 0 with h1 | h1 | h1
 ·have d1 : decide (0 < c) = false := decide_eq_false (by omega)
  have d2 : (c == 0) = false := beq_eq_false_iff_ne.2 (by omega)
  have HE := Lib.hid (HF.out false ⟨fun h => (by cases h), fun h => (by have := HP.1 h; omega)⟩)
  clear HF HP h1
  go_enter Tryz.func221, Tryz.ntmps221
  go_wp2_with fail
  refine (HC.out _).mono ?_
  rintro e w2 ⟨rfl, hB⟩
  have K1 := K0.out.below hB
  obtain ⟨a0, a1, a2, a3⟩ := K1.a
  obtain ⟨b0, b1, b2, b3⟩ := K1.b
  clear K0 HC hB
  go_wp2
  go_ret
  exact ⟨by rw [← HE.out]; rfl, K1.frame⟩
 ·subst h1
  have d1 : decide ((0 : Int) < 0) = false := rfl
  have HE := Lib.hid (HF.out (decide (b.f < a.f)) (by rw [HP, decide_eq_true_iff]; omega))
  clear HF HP
  go_enter Tryz.func221, Tryz.ntmps221
  go_wp2_with fail
  refine (HC.out _).mono ?_
  rintro e w2 ⟨rfl, hB⟩
  have K1 := K0.out.below hB
  obtain ⟨a0, a1, a2, a3⟩ := K1.a
  obtain ⟨b0, b1, b2, b3⟩ := K1.b
  clear K0 HC hB
  go_wp2
  go_ret
  exact ⟨by rw [← HE.out]; rfl, K1.frame⟩
 ·have d1 : decide (0 < c) = true := decide_eq_true (by omega)
  have HE := Lib.hid (HF.out true ⟨fun _ => HP.2 (Or.inl h1), fun _ => rfl⟩)
  clear HF HP h1
  go_enter Tryz.func221, Tryz.ntmps221
  go_wp2_with fail
  refine (HC.out _).mono ?_
  rintro e w2 ⟨rfl, hB⟩
  have K1 := K0.out.below hB
  obtain ⟨a0, a1, a2, a3⟩ := K1.a
  obtain ⟨b0, b1, b2, b3⟩ := K1.b
  clear K0 HC hB
  go_wp2
  go_ret
  exact ⟨by rw [← HE.out]; rfl, K1.frame⟩
end Go.Proofs.YtapacckmgmdnoaaGreat
