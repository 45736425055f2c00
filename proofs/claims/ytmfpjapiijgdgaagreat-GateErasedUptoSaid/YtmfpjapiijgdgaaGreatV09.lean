/- Texts of mine, one behind the other, of each what is wanted. -/
import Derived.Test.YtmfpjapiijgdgaaGreatV00
import Derived.Test.YtmfpjapiijgdgaaGreatShelf
import Derived.Test.YtmfpjapiijgdgaaGreatV01
import Derived.Test.YtmfpjapiijgdgaaGreatV05
import Derived.Test.YtmfpjapiijgdgaaGreatV07
namespace Go.Proofs.YtmfpjapiijgdgaaGreat
open Go.RowKit
set_option linter.unusedVariables false
set_option maxRecDepth 100000
set_option maxRecDepth 100000
theorem txt_eq (a : ByteArray) : (a.toList == a.toList) = true := beq_self_eq_true _
theorem txt_ne {a b : ByteArray} (h : ¬ a = b) : (a.toList == b.toList) = false := by
 rw [beq_eq_false_iff_ne]
 intro e
 rw [ByteArray.toList_eq, ByteArray.toList_eq] at e
 exact h (toL_inj e)
theorem txt_nt {a b : ByteArray} (h : ¬ a = b) : (a.toList != b.toList) = true := by
 unfold bne
 rw [txt_ne h]
 rfl
theorem txt_ns (a : ByteArray) : (a.toList != a.toList) = false := by
 unfold bne
 rw [txt_eq]
 rfl
def CapO (W : World) (g : Nat) (v : Value) : Prop := W.cell? ⟨g, 0, none⟩ = some v ∧ g < W.heap.size
theorem CapO.below {W W' : World} {g : Nat} {v : Value} (h : CapO W g v) (q : Below W.heap.size W W') : CapO W' g v :=
 ⟨(q.cell (p := ⟨g, 0, none⟩) h.2).trans h.1, Nat.lt_of_lt_of_le h.2 q.size⟩
set_option maxHeartbeats 1000000 in
theorem hasc_any (x : OpM) (n : Int) (g : Nat) (W : World) (h : CapO W g (.int .i64 n)) :
  Calls Tryz.prog 225 #[opV x, .pointer (some ⟨g, 0, none⟩)] W fun r w' => r = .returned (.bool (hasN n x)) ∧ Below W.heap.size W w' := by
 have hb := below_one W (.cells #[.int .i64 x.n, .string x.u, .int .i64 x.s, .int .i64 x.f] 184)
 obtain ⟨c0, hg⟩ := h.below hb
 have HB := Lib.hid hb
 have HE : Hid ((x.n == n) = hasN n x) := rfl
 unfold opV
 clear hb hg h
 generalize hasN n x = r at *
 go_enter Tryz.func225, Tryz.ntmps225
 go_wp2
 go_ret
 exact ⟨retB HE.out, HB.out⟩
set_option maxHeartbeats 1000000 in
theorem abvc_any (x : OpM) (n : Int) (g : Nat) (W : World) (h : CapO W g (.int .i64 n)) :
  Calls Tryz.prog 227 #[opV x, .pointer (some ⟨g, 0, none⟩)] W fun r w' => r = .returned (.bool (abvN n x)) ∧ Below W.heap.size W w' := by
 have hb := below_one W (.cells #[.int .i64 x.n, .string x.u, .int .i64 x.s, .int .i64 x.f] 184)
 obtain ⟨c0, hg⟩ := h.below hb
 have HB := Lib.hid hb
 have HE : Hid ((decide (n < x.n)) = abvN n x) := rfl
 unfold opV
 clear hb hg h
 generalize abvN n x = r at *
 go_enter Tryz.func227, Tryz.ntmps227
 go_wp2
 go_ret
 exact ⟨retB HE.out, HB.out⟩
set_option maxHeartbeats 2000000 in
theorem idxh_any (a : Option Addr) (c : Nat) (l : List OpM) (n : Int) (g : Nat) (W : World) (hr : OpSl W a l) (h : CapO W g (.int .i64 n)) (hl : l.length ≤ 1000000) :
  Calls Tryz.prog 226 #[.slice a l.length c, .func (.func 225) #[] #[.pointer (some ⟨g, 0, none⟩)]] W fun r w' => r = .returned (.int .i64 (idxO (hasN n) l)) ∧ Below W.heap.size W w' := by
 have HR := Lib.hid hr
 have HP := Lib.hid h
 have HC := Lib.hid (fun e V k => hasc_any e n g V k)
 unfold opV at HC
 clear hr h
 go_enter Tryz.func226, Tryz.ntmps226
 go_wp2
 go_loopw [8] (fun i wr => ∃ (j : Nat), j ≤ l.length ∧ i = .int .i64 j ∧ Hid (LoTo (hasN n) l j) ∧ Hid (Below W.heap.size W wr)) (fun i _ => l.length - (intOf i).toNat)
 case atStart => exact ⟨0, by omega, rfl, LoTo.zero _ _, Below.refl _ _⟩
 case round =>
  obtain ⟨j, hj, rfl, HO, HB⟩ := hrel
  by_cases hjl : j < l.length
  ·obtain ⟨b, off, rfl, hbl, hc0, hc1, hc2, hc3⟩ := (HR.out.below HB.out).at_ hjl
   have HPW := Lib.hid (HP.out.below HB.out)
   have HNX := Lib.hid (HO.out.next hjl)
   have HHT := Lib.hid (HO.out.hit hjl)
   generalize l[j] = x at *
   cases hb : hasN n x with
   | false =>
    have HN := Lib.hid (HNX.out hb)
    have HCC := Lib.hid (HC.out x wr HPW.out)
    rw [hb] at HCC
    clear HNX HHT hb HC
    go_wp2_with fail
    refine HCC.out.mono ?_
    rintro r w2 ⟨rfl, hB⟩
    go_wp2
    go_roundw
    case rel => exact ⟨j + 1, by omega, by go_num, HN, HB.out.trans (hB.mono HB.out.size)⟩
    case measure => simp [intOf]; omega
   | true =>
    have HN := Lib.hid (idxO_hit (HHT.out hb) hjl)
    have HCC := Lib.hid (HC.out x wr HPW.out)
    rw [hb] at HCC
    clear HNX HHT hb HC
    go_wp2_with fail
    refine HCC.out.mono ?_
    rintro r w2 ⟨rfl, hB⟩
    go_wp2
    go_ret
    exact ⟨by rw [HN.out]; rfl, HB.out.trans (hB.mono HB.out.size)⟩
  ·obtain rfl : j = l.length := by omega
   have HE := Lib.hid (idxO_miss HO.out.miss)
   go_wp2
   go_ret
   exact ⟨by rw [HE.out]; rfl, HB.out⟩
set_option maxHeartbeats 2000000 in
theorem idxa_any (a : Option Addr) (c : Nat) (l : List OpM) (n : Int) (g : Nat) (W : World) (hr : OpSl W a l) (h : CapO W g (.int .i64 n)) (hl : l.length ≤ 1000000) :
  Calls Tryz.prog 226 #[.slice a l.length c, .func (.func 227) #[] #[.pointer (some ⟨g, 0, none⟩)]] W fun r w' => r = .returned (.int .i64 (idxO (abvN n) l)) ∧ Below W.heap.size W w' := by
 have HR := Lib.hid hr
 have HP := Lib.hid h
 have HC := Lib.hid (fun e V k => abvc_any e n g V k)
 unfold opV at HC
 clear hr h
 go_enter Tryz.func226, Tryz.ntmps226
 go_wp2
 go_loopw [8] (fun i wr => ∃ (j : Nat), j ≤ l.length ∧ i = .int .i64 j ∧ Hid (LoTo (abvN n) l j) ∧ Hid (Below W.heap.size W wr)) (fun i _ => l.length - (intOf i).toNat)
 case atStart => exact ⟨0, by omega, rfl, LoTo.zero _ _, Below.refl _ _⟩
 case round =>
  obtain ⟨j, hj, rfl, HO, HB⟩ := hrel
  by_cases hjl : j < l.length
  ·obtain ⟨b, off, rfl, hbl, hc0, hc1, hc2, hc3⟩ := (HR.out.below HB.out).at_ hjl
   have HPW := Lib.hid (HP.out.below HB.out)
   have HNX := Lib.hid (HO.out.next hjl)
   have HHT := Lib.hid (HO.out.hit hjl)
   generalize l[j] = x at *
   cases hb : abvN n x with
   | false =>
    have HN := Lib.hid (HNX.out hb)
    have HCC := Lib.hid (HC.out x wr HPW.out)
    rw [hb] at HCC
    clear HNX HHT hb HC
    go_wp2_with fail
    refine HCC.out.mono ?_
    rintro r w2 ⟨rfl, hB⟩
    go_wp2
    go_roundw
    case rel => exact ⟨j + 1, by omega, by go_num, HN, HB.out.trans (hB.mono HB.out.size)⟩
    case measure => simp [intOf]; omega
   | true =>
    have HN := Lib.hid (idxO_hit (HHT.out hb) hjl)
    have HCC := Lib.hid (HC.out x wr HPW.out)
    rw [hb] at HCC
    clear HNX HHT hb HC
    go_wp2_with fail
    refine HCC.out.mono ?_
    rintro r w2 ⟨rfl, hB⟩
    go_wp2
    go_ret
    exact ⟨by rw [HN.out]; rfl, HB.out.trans (hB.mono HB.out.size)⟩
  ·obtain rfl : j = l.length := by omega
   have HE := Lib.hid (idxO_miss HO.out.miss)
   go_wp2
   go_ret
   exact ⟨by rw [HE.out]; rfl, HB.out⟩
set_option maxHeartbeats 1000000 in
theorem conth_any (a : Option Addr) (c : Nat) (l : List OpM) (n : Int) (g : Nat) (W : World) (hr : OpSl W a l) (h : CapO W g (.int .i64 n)) (hl : l.length ≤ 1000000) :
  Calls Tryz.prog 224 #[.slice a l.length c, .func (.func 225) #[] #[.pointer (some ⟨g, 0, none⟩)]] W fun r w' => r = .returned (.bool (l.any (hasN n))) ∧ Below W.heap.size W w' := by
 have HC := Lib.hid (idxh_any a c l n g W hr h hl)
 have HE := Lib.hid (idxO_any (hasN n) l)
 clear hr h
 generalize idxO (hasN n) l = i at *
 go_enter Tryz.func224, Tryz.ntmps224
 go_wp2_with fail
 refine HC.out.mono ?_
 rintro r w2 ⟨rfl, hB⟩
 go_wp2
 go_ret
 exact ⟨by rw [← HE.out]; rfl, hB⟩
theorem within_any (n a b : Int) (w : World) : Calls Tryz.prog 214 #[.int .i64 n, .int .i64 a, .int .i64 b] w fun e w' => e = .returned (.bool (decide (a ≤ n) && decide (n ≤ b))) ∧ w' = w := by
 by_cases h1 : a ≤ n
 ·have d1 := decide_eq_true h1
  rw [d1]
  clear h1
  go_enter Tryz.func214, Tryz.ntmps214
  go_wp2
  go_ret
  exact ⟨by simp, rfl⟩
 ·have d1 := decide_eq_false h1
  rw [d1]
  clear h1
  go_enter Tryz.func214, Tryz.ntmps214
  go_wp2
  go_ret
  exact ⟨by simp, rfl⟩
theorem results_tmp_cell_tmp {fn : Func} {p u v : Tmp} {ty : TypeId} (h : fn.results = #[.tmp u, .cell p ty, .tmp v]) (tmps : Array Value) (P : Program) (w : World) :
  (results fn tmps).run P w = ((asAddr (tmps.getD p undef)).run P w).andThen fun a w₁ => ((loadVar ty a).run P w₁).andThen fun x w₂ => .ok (.tuple #[tmps.getD u undef, x, tmps.getD v undef]) w₂ := by
 simp only [results, h]
 simp [Sem.run_bind, Result.andThen]
 try (split <;> simp)
 all_goals try (split <;> simp)
def setO (W : World) (g : Nat) (a b c d : Value) : World := (((W.setCell ⟨g, 0, none⟩ a).setCell ⟨g, 1, none⟩ b).setCell ⟨g, 2, none⟩ c).setCell ⟨g, 3, none⟩ d
structure Zb (w : World) (g : Nat) (a b c d : Value) (t : TypeId) (W : World) : Prop where
 blk : W.heap[g]? = some (.cells #[a, b, c, d] t (0, 0))
 ge : w.heap.size ≤ g
 frame : Below w.heap.size w W
section
variable {w W W' : World} {g : Nat} {a b c d : Value} {t : TypeId}
theorem Zb.lt (h : Zb w g a b c d t W) : g < W.heap.size := heap_lt h.blk
theorem Zb.below (h : Zb w g a b c d t W) (q : Below W.heap.size W W') : Zb w g a b c d t W' := ⟨(q.block g h.lt).trans h.blk, h.ge, h.frame.trans (q.mono h.frame.size)⟩
theorem Zb.new (w : World) (a b c d : Value) (t : TypeId) : Zb w w.heap.size a b c d t (w.alloc (.cells #[a, b, c, d] t)) := ⟨heap_alloc_new w _, Nat.le_refl _, below_one _ _⟩
theorem Zb.cells (h : Zb w g a b c d t W) : W.cell? ⟨g, 0, none⟩ = some a ∧ W.cell? ⟨g, 1, none⟩ = some b ∧ W.cell? ⟨g, 2, none⟩ = some c ∧ W.cell? ⟨g, 3, none⟩ = some d := cells4 h.blk
theorem Zb.free (h : Zb w g a b c d t W) : W.frozen? ⟨g, 0, none⟩ = false ∧ W.frozen? ⟨g, 1, none⟩ = false ∧ W.frozen? ⟨g, 2, none⟩ = false ∧ W.frozen? ⟨g, 3, none⟩ = false :=
 ⟨frozen_of_row _ _ 0 _ _ h.blk, frozen_of_row _ _ 1 _ _ h.blk, frozen_of_row _ _ 2 _ _ h.blk, frozen_of_row _ _ 3 _ _ h.blk⟩
theorem Zb.set (h : Zb w g a b c d t W) (x y z v : Value) : Below w.heap.size w (setO W g x y z v) :=
 (((h.frame.setCell (p := ⟨g, 0, none⟩) h.ge x).setCell (p := ⟨g, 1, none⟩) h.ge y).setCell (p := ⟨g, 2, none⟩) h.ge z).setCell (p := ⟨g, 3, none⟩) h.ge v
theorem Zb.there (h : Zb w g a b c d t W) : W.there g 0 4 := fun j hj => by
 rw [Nat.zero_add]
 refine ⟨?_, frozen_of_row _ _ _ _ _ h.blk⟩
 rw [cell_of_row _ _ _ _ _ (0, 0) h.blk, Array.getElem?_eq_getElem (by simpa using hj)]
 rfl
theorem setO_cell (W : World) (g : Nat) (x y z v : Value) {p : Addr} (h : p.block ≠ g) : (setO W g x y z v).cell? p = W.cell? p := by
 unfold setO World.cell?
 rw [Below.heap_setCell _ _ _ _ h, Below.heap_setCell _ _ _ _ h, Below.heap_setCell _ _ _ _ h, Below.heap_setCell _ _ _ _ h]
theorem setO_size (W : World) (g : Nat) (x y z v : Value) : (setO W g x y z v).heap.size = W.heap.size := by
 unfold setO
 simp [World.setCell]
theorem OpSl.setO {l : List OpM} {A : Option Addr} (h : OpSl W A l) (g : Nat) (x y z v : Value) (hg : ∀ b o, A = some ⟨b, o, none⟩ → b ≠ g) : OpSl (setO W g x y z v) A l := fun k hk => by
 obtain ⟨b, off, e, hlt, h0, h1, h2, h3⟩ := h k hk
 have hne := hg b off e
 exact ⟨b, off, e, by rw [setO_size]; exact hlt, (setO_cell W g x y z v (p := ⟨b, off + k * 4, none⟩) hne).trans h0, (setO_cell W g x y z v (p := ⟨b, off + k * 4 + 1, none⟩) hne).trans h1, (setO_cell W g x y z v (p := ⟨b, off + k * 4 + 2, none⟩) hne).trans h2, (setO_cell W g x y z v (p := ⟨b, off + k * 4 + 3, none⟩) hne).trans h3⟩
end
section
variable {w W : World} {g : Nat} {a b c d : Value} {t : TypeId}
theorem Zb.loadS (h : Zb w g a b c d t W) (x y z v : Value) : (loadVar 111 ⟨g, 0, none⟩).run Tryz.prog (setO W g x y z v) = .ok (.agg #[x, y, z, v]) (setO W g x y z v) :=
 run_loadVar_mid (P := Tryz.prog) (W.setCells g 0 [x, y, z, v]) g 0 111 [x, y, z, v] _ (World.rangeAt_setCells_same _ _ _ _ h.there) Tryz.underlying111 rfl infoStay4
end
set_option maxHeartbeats 2000000 in
theorem find_any (a : Option Addr) (c : Nat) (l : List OpM) (n : Int) (u : ByteArray) (w : World) (hr : OpSl w a l) (hl : l.length ≤ 1000000) :
  Calls Tryz.prog 229 #[.slice a l.length c, .int .i64 n, .string u] w fun e w' => e = .returned (.tuple #[.int .i64 (findP l n u : Nat), .int .i64 (findC l n u)]) ∧ Below w.heap.size w w' := by
 have HR := Lib.hid hr
 clear hr
 have HM := Lib.hid (fun (h : IsFst (hasN n) l l.length) => fc_miss h u)
 have HU := Lib.hid (fun k (h : IsFst (hasN n) l k) (hk : k < l.length) (hu : ¬ l[k].u = u) => fc_user h hk hu)
 have HH := Lib.hid (fun k (h : IsFst (hasN n) l k) (hk : k < l.length) (hu : l[k].u = u) => fc_hit h hk hu)
 generalize findP l n u = P at *
 generalize findC l n u = C at *
 go_enter Tryz.func229, Tryz.ntmps229
 go_wp2
 go_step3
 go_wp2
 go_step3
 go_wp2
 go_loopw [8, 9, 14] (fun p q i wr => ∃ (j : Nat), j ≤ l.length ∧ p = .int .i64 0 ∧ q = .int .i64 101 ∧ i = .int .i64 j ∧ Hid (LoTo (hasN n) l j) ∧ Hid (Below w.heap.size w wr)) (fun _ _ i _ => l.length - (intOf i).toNat)
 case atStart => exact ⟨0, by omega, rfl, rfl, rfl, LoTo.zero _ _, Below.refl _ _⟩
 case round =>
  obtain ⟨j, hj, rfl, rfl, rfl, HO, HB⟩ := hrel
  by_cases hjl : j < l.length
  ·obtain ⟨b, off, rfl, hbl, hc0, hc1, hc2, hc3⟩ := (HR.out.below HB.out).at_ hjl
   have HNX := Lib.hid (HO.out.next hjl)
   have HHT := Lib.hid (fun h => HH.out j (HO.out.hit hjl h) hjl)
   have HHU := Lib.hid (fun h => HU.out j (HO.out.hit hjl h) hjl)
   have HB2 := Lib.hid (HB.out.trans ((below_one wr (.cells #[.int .i64 l[j].n, .string l[j].u, .int .i64 l[j].s, .int .i64 l[j].f] 184)).mono HB.out.size))
   generalize l[j] = x at *
   clear HM HU HH
   obtain ⟨xn, xu, xs, xf⟩ := x
   dsimp only at *
   by_cases h1 : xn = n
   ·subst h1
    have d1 : (xn != xn) = false := by simp
    have d1' : (xn == xn) = true := beq_self_eq_true _
    by_cases h2 : xu = u
    ·subst h2
     have d2 := txt_ns xu
     have d2' := txt_eq xu
     obtain ⟨e1, _, e3⟩ := HHT.out (decide_eq_true rfl) rfl
     subst e1 e3
     clear HNX HHT HHU HO
     go_wp2
     try rw [Exit.noGoto_ret]
     go_ret2
     exact ⟨by trivial, HB2.out⟩
    ·have d2 := txt_nt h2
     have d2' := txt_ne h2
     obtain ⟨e1, _, e3⟩ := HHU.out (decide_eq_true rfl) h2
     subst e1 e3
     clear HNX HHT HHU HO
     go_wp2
     try rw [Exit.noGoto_ret]
     go_ret2
     exact ⟨by trivial, HB2.out⟩
   ·have d1 : (xn != n) = true := by simp [h1]
    have d1' : (xn == n) = false := beq_eq_false_iff_ne.2 h1
    have HN := Lib.hid (HNX.out (decide_eq_false h1))
    clear HNX HHT HHU HO
    go_wp2
    go_roundw
    case rel => exact ⟨j + 1, by omega, rfl, rfl, by go_num, HN, HB2.out⟩
    case measure => simp [intOf]; omega
  ·obtain rfl : j = l.length := by omega
   obtain ⟨e1, _, e3⟩ := HM.out HO.out.miss
   subst e1 e3
   go_wp2
   try rw [Exit.noGoto_ret]
   go_ret2
   exact ⟨by trivial, HB.out⟩
set_option maxHeartbeats 1000000 in
theorem stay_any (e : OpM) (t : Int) (w : World) : Calls Tryz.prog 156 #[opV e, .int .i64 t] w fun r w' => r = .returned (stV (stayO e t)) ∧ Below w.heap.size w w' := by
 unfold opV stV stayO
 obtain ⟨n, u, s, f⟩ := e
 dsimp only
 have HL : Hid (∀ o1 : Obj, (loadVar 111 ⟨w.heap.size + 1, 0, none⟩).run Tryz.prog ((w.alloc o1).alloc (.cells #[.int .i64 f, .int .i64 t, .int .i64 n, .int .i64 s] 111)) = .ok (.agg #[.int .i64 f, .int .i64 t, .int .i64 n, .int .i64 s]) ((w.alloc o1).alloc (.cells #[.int .i64 f, .int .i64 t, .int .i64 n, .int .i64 s] 111))) := fun o1 => by
  have := heap_alloc_new (w.alloc o1) (.cells #[.int .i64 f, .int .i64 t, .int .i64 n, .int .i64 s] 111)
  rw [size1] at this
  exact loadSt this
 have HG := Lib.hid (fun o p => below_two w o p)
 go_enter Tryz.func156, Tryz.ntmps156
 go_wp2
 refine bodyPost_ret (v := .agg #[.int .i64 f, .int .i64 t, .int .i64 n, .int .i64 s]) ?_ rfl ?_
 ·rw [results_cell1 rfl]
  simp [asAddr, Result.andThen, HL.out]
 ·exact ⟨rfl, HG.out _ _⟩
end Go.Proofs.YtmfpjapiijgdgaaGreat
namespace Go.Proofs.YtmfpjapiijgdgaaGreat
open Go.RowKit Go.Sort Go.Proofs
set_option linter.unusedVariables false
set_option maxRecDepth 100000
set_option maxRecDepth 100000
theorem sgrow_any (n : Nat) (w : World) (hn : n ≤ 1000000) : Calls Tryz.prog 169 #[.slice none 0 0, .int .i64 n] w fun e w' => ∃ v, e = .returned v ∧ w'.ownsRow w.heap.size 111 4 v 0 [] ∧ Below w.heap.size w w' := by
 obtain ⟨i0, hi, hz0, hz1, hz2⟩ := info_parts infoStay
 rcases Nat.eq_zero_or_pos n with h0 | h0
 ·subst h0
  have h := Any8.slices_Grow_room Tryz.laysGrowSt none 0 0 0 w (by omega) (by omega) (by omega) (by omega)
  refine Calls.mono h ?_
  rintro e w' ⟨rfl, rfl⟩
  exact ⟨_, rfl, ⟨rfl, .inl ⟨rfl, rfl⟩⟩, Below.refl _ _⟩
 ·have h := Any8.slices_Grow_grow Tryz.laysGrowSt i0 _ hi hz0 (by rw [hz1]; omega) none 0 0 n [] w (by omega) (by omega) (by rw [hz2]; omega) (by omega) (by simp) (fun _ => rfl) (fun a h => by cases h)
  refine Calls.mono h ?_
  rintro e w' ⟨rfl, rfl⟩
  have hge := grownCap_ge w (0 + n) 0 111
  have hle := grownCap_le_maxLen w (0 + n) 0 111 (by unfold maxLen; omega)
  refine ⟨_, rfl, ⟨rfl, .inr ⟨w.heap.size, _, _, rfl, Nat.le_refl _, heap_alloc_new w.drew _, Nat.zero_le _, hle, ?_, by simp⟩⟩, ?_⟩
  ·simp only [Array.size_append, size_zeroCells]
   show 0 + (0 + n - 0) * 4 + (grownCap w (0 + n) 0 111 - (0 + n)) * 4 = grownCap w (0 + n) 0 111 * 4
   omega
  ·exact (Below.refl w.heap.size w).drew.alloc (Nat.le_refl _) _
structure StR where
 a : Option Addr
 l : List StM
 c : Nat
def strV (r : StR) : Value := .slice r.a r.l.length r.c
def catS (R : List StR) : List StM := R.flatMap (·.l)
theorem catS_take (R : List StR) (j : Nat) (h : j < R.length) : catS (R.take (j + 1)) = catS (R.take j) ++ R[j].l := by
 unfold catS
 rw [List.take_succ_eq_append_getElem h, List.flatMap_append]
 simp
theorem catS_le (R : List StR) (j : Nat) : (catS (R.take j)).length ≤ (catS R).length := by
 have : catS R = catS (R.take j) ++ catS (R.drop j) := by
  unfold catS
  rw [← List.flatMap_append, List.take_append_drop]
 rw [this, List.length_append]
 omega
def StRAt (w : World) (r : StR) : Prop := StSl w r.a r.l ∧ (r.a = none → r.c = 0)
theorem srows_at {w : World} {a : Option Addr} {R : List StR} (h : Sl w a (R.map strV)) {k : Nat} (hk : k < R.length) : ∃ b off, a = some ⟨b, off, none⟩ ∧ b < w.heap.size ∧ w.cell? ⟨b, off + k, none⟩ = some (strV R[k]) := by
 obtain ⟨b, off, e, hlt, hc⟩ := h k (by simpa using hk)
 exact ⟨b, off, e, hlt, by rw [hc]; simp⟩
set_option maxHeartbeats 1000000 in
theorem sconcat_any (a : Option Addr) (c : Nat) (R : List StR) (w : World) (hr : Sl w a (R.map strV)) (hR : ∀ r ∈ R, StRAt w r) (hl : R.length ≤ 100000) (hs : (catS R).length ≤ 100000) :
  Calls Tryz.prog 110 #[.slice a R.length c] w fun e w' => ∃ v, e = .returned v ∧ w'.ownsRow w.heap.size 111 4 v (catS R).length (sts (catS R)) ∧ Below w.heap.size w w' := by
 obtain ⟨i0, hi, hz0, hz1, hz2⟩ := info_parts infoStay
 have HR := Lib.hid hr
 have HRR := Lib.hid hR
 have HG := Lib.hid (sgrow_any (catS R).length w (by omega))
 clear hr hR
 go_enter Tryz.func110, Tryz.ntmps110
 go_wp2
 go_loopw [3, 11] (fun v i wr => ∃ (j s : Nat), j ≤ R.length ∧ i = .int .i64 j ∧ v = .int .i64 s ∧ s ≤ 100000 ∧ Hid (s = (catS (R.take j)).length) ∧ wr = w) (fun _ i _ => R.length - (intOf i).toNat)
 case atStart => exact ⟨0, 0, by omega, rfl, rfl, by omega, rfl, rfl⟩
 case round =>
  obtain ⟨j, s, hj, rfl, rfl, hs1, HS, hw⟩ := hrel
  obtain rfl : w = wr := hw.symm
  clear hw
  by_cases hjl : j < R.length
  ·obtain ⟨b, off, rfl, hbl, hc0⟩ := srows_at HR.out hjl
   have HN := Lib.hid (catS_take R j hjl)
   have hle := catS_le R (j + 1)
   rw [HN.out, List.length_append, ← HS.out] at hle
   generalize R[j] = x at *
   unfold strV at hc0
   obtain ⟨xa, xl, xc⟩ := x
   simp only at hc0 hle HN
   have hsum : s + xl.length ≤ 100000 := by omega
   clear hle
   go_wp2
   go_roundw
   case rel => exact ⟨j + 1, s + xl.length, by omega, by go_num, by go_num, hsum, (by unfold Hid; rw [HN.out, List.length_append, ← HS.out]), (by first | rfl | trivial)⟩
   case measure => simp [intOf]; omega
  ·obtain rfl : j = R.length := by omega
   rw [List.take_of_length_le (Nat.le_refl _)] at HS
   have HS2 := HS.out
   subst HS2
   go_wp2_with fail
   refine HG.out.mono ?_
   rintro e w1 ⟨v, rfl, ho, hb⟩
   have HO := Lib.hid ho
   have HB := Lib.hid hb
   clear ho hb HG HS
   go_wp2
   go_loopw [6, 27] (fun v i wx => ∃ (j : Nat), j ≤ R.length ∧ i = .int .i64 j ∧ Hid (wx.ownsRow w.heap.size 111 4 v (catS (R.take j)).length (sts (catS (R.take j)))) ∧ Hid (Below w.heap.size w wx)) (fun _ i _ => R.length - (intOf i).toNat)
   case atStart => exact ⟨0, by omega, rfl, HO.out, HB.out⟩
   case round =>
    obtain ⟨j, hj, rfl, HO, HB⟩ := hrel
    by_cases hjl : j < R.length
    ·obtain ⟨b, off, rfl, hbl, hc0⟩ := srows_at (HR.out.below HB.out) hjl
     have HN := Lib.hid (catS_take R j hjl)
     have hle := catS_le R (j + 1)
     have hle2 := catS_le R j
     rw [HN.out, List.length_append] at hle
     have HX := Lib.hid (HRR.out _ (List.getElem_mem hjl))
     generalize R[j] = x at *
     unfold strV at hc0
     obtain ⟨xa, xl, xc⟩ := x
     simp only at hc0 hle HN
     obtain ⟨hx1, hx2⟩ := HX.out
     simp only at hx1 hx2
     have HX1 := Lib.hid (hx1.below HB.out)
     have HX2 := Lib.hid hx2
     generalize hct : catS (R.take j) = ct at *
     have hsum : ct.length + xl.length ≤ 1000000 := by omega
     clear hle hle2 hx1 hx2 HX hct
     go_wp2_with (at_builtin; refine wpList_append_st _ rfl (.tmp 31) (.tmp 32) 69 rfl w.heap.size 111 i0 _ Tryz.underlying69 hi hz0 hz1 hz2 rfl _ ct rfl HO.out xa xc xl rfl HX1.out HX2.out hsum HB.out.size ?_; intro v2 w2 hown2 hB2)
     have HO2 := Lib.hid hown2
     have HB2 := Lib.hid (HB.out.trans hB2)
     clear hown2 hB2
     go_wp2
     go_roundw
     case rel => exact ⟨j + 1, by omega, by go_num, (by unfold Hid; rw [HN.out]; exact HO2.out), HB2⟩
     case measure => simp [intOf]; omega
    ·obtain rfl : j = R.length := by omega
     rw [List.take_of_length_le (Nat.le_refl _)] at HO
     go_wp2
     go_ret
     exact ⟨_, rfl, HO.out, HB.out⟩
theorem own_empty8 (w : World) (e : TypeId) (k B : Nat) (hB : B ≤ w.heap.size) : (w.alloc (.cells #[] e)).ownsRow B e k (.slice (some ⟨w.heap.size, 0, none⟩) 0 0) 0 [] :=
 ⟨by simp, .inr ⟨w.heap.size, 0, #[], rfl, hB, heap_alloc_new w _, Nat.le_refl _, by unfold maxLen; omega, by simp, by simp⟩⟩
set_option maxHeartbeats 1000000 in
theorem clone8_any (a : Option Addr) (c : Nat) (l : List StM) (w : World) (hr : StSl w a l) (hn : a = none → c = 0) (hl : l.length ≤ 100000) :
  Calls Tryz.prog 89 #[.slice a l.length c] w fun e w' => ∃ v, e = .returned v ∧ w'.ownsRow w.heap.size 111 4 v l.length (sts l) ∧ Below w.heap.size w w' := by
 obtain ⟨i0, hi, hz0, hz1, hz2⟩ := info_parts infoStay
 have HN := Lib.hid hn
 have q22 : ∀ (W : World) (a : Option Addr) (n c n' c' : Nat), (binOp .eql 69 (.slice a n c) (.slice none n' c')).run Tryz.prog W = .ok (.bool a.isNone) W := fun W a n c n' c' => Lib.run_eql_slice_nil W _ _ a n c n' c' Tryz.underlying69
 clear hn
 cases a with
 | none =>
  have hc := HN.out rfl
  subst hc
  have : l = [] := by
   cases l with
   | nil => rfl
   | cons y m => obtain ⟨_, _, e, _⟩ := hr 0 (by simp); cases e
  subst this
  clear hr
  go_enter Tryz.func89, Tryz.ntmps89
  go_wp2
  go_ret
  exact ⟨_, rfl, ⟨rfl, .inl ⟨rfl, rfl⟩⟩, Below.refl _ _⟩
 | some ad =>
  have HO := Lib.hid (own_empty8 w 111 4 w.heap.size (Nat.le_refl _))
  have HB := Lib.hid (below_one w (.cells #[] 111))
  have HX1 := Lib.hid (hr.below HB.out)
  clear hr
  go_enter Tryz.func89, Tryz.ntmps89
  go_wp2_with (at_builtin; refine wpList_append_st _ rfl (.tmp 5) (.tmp 6) 69 rfl w.heap.size 111 i0 _ Tryz.underlying69 hi hz0 hz1 hz2 rfl _ [] rfl HO.out (some ad) c l rfl HX1.out HN.out (by simpa using (show l.length ≤ 1000000 by omega)) HB.out.size ?_; intro v2 w2 hown2 hB2)
  have HO2 := Lib.hid hown2
  have HB2 := Lib.hid (HB.out.trans hB2)
  clear hown2 hB2
  go_wp2
  go_ret
  exact ⟨_, rfl, HO2.out, HB2.out⟩
end Go.Proofs.YtmfpjapiijgdgaaGreat
namespace Go.Proofs.YtmfpjapiijgdgaaGreat
open Go.RowKit
set_option linter.unusedVariables false
set_option maxRecDepth 100000
set_option maxRecDepth 100000
set_option maxHeartbeats 2000000 in
theorem onews_any (a : Option Addr) (c : Nat) (l : List OpM) (w : World) (hr : OpSl w a l) (hl : l.length ≤ 1000000) :
  Calls Tryz.prog 71 #[.slice a l.length c] w fun e w' => ∃ (v : Value), e = .returned v ∧ w'.ownsRow w.heap.size 184 4 v l.length (oes l) ∧ Below w.heap.size w w' := by
 obtain ⟨i0, hi, hz0, hz1, hz2⟩ := info_parts infoOp
 have HR := Lib.hid hr
 clear hr
 go_enter Tryz.func71, Tryz.ntmps71
 go_wp2
 go_loopw [3, 8] (fun v i wr => ∃ (j : Nat), j ≤ l.length ∧ i = .int .i64 j ∧ Hid (wr.ownsRow w.heap.size 184 4 v j (oes (l.take j))) ∧ Hid (Below w.heap.size w wr)) (fun _ i _ => l.length - (intOf i).toNat)
 case atStart => exact ⟨0, by omega, rfl, ⟨rfl, .inl ⟨rfl, rfl⟩⟩, Below.refl _ _⟩
 case round =>
  obtain ⟨j, hj, rfl, HO, HB⟩ := hrel
  by_cases hjl : j < l.length
  ·obtain ⟨b, off, rfl, hbl, hc0, hc1, hc2, hc3⟩ := (HR.out.below HB.out).at_ hjl
   have HC := Lib.hid (oes_take l j hjl)
   generalize l[j] = x at *
   have hbt := below_two wr (.cells #[.int .i64 x.n, .string x.u, .int .i64 x.s, .int .i64 x.f] 129) (.cells #[.int .i64 x.n, .string x.u, .int .i64 x.s, .int .i64 x.f] 184)
   have HO2 := Lib.hid (own_below HO.out hbt)
   have HB2 : Hid (Below w.heap.size w ((wr.alloc (.cells #[.int .i64 x.n, .string x.u, .int .i64 x.s, .int .i64 x.f] 129)).alloc (.cells #[.int .i64 x.n, .string x.u, .int .i64 x.s, .int .i64 x.f] 184))) := HB.out.trans (hbt.mono HB.out.size)
   have HS2 := Lib.hid HB2.out.size
   clear hbt
   go_wp2_with (at_builtin; refine wpList_append_own _ rfl (.tmp 12) (.tmp 14) 34 rfl w.heap.size 184 i0 _ 4 40 Tryz.underlying34 hi hz0 hz1 hz2 rfl (by decide) _ _ _ rfl HO2.out ⟨wr.heap.size + 1, 0, none⟩ 1 1 [.int .i64 x.n, .string x.u, .int .i64 x.s, .int .i64 x.f] rfl rfl (news_at _ _ _ _ (size1 _ _).symm) (four_o _ _ _ _) (by unfold maxLen; omega) (by omega) HS2.out ?_; intro v' w3 hown' hgrow hiff)
   have HB3 := Lib.hid (app_below HB2.out HS2.out HO2.out hgrow)
   have HO3 := Lib.hid hown'
   clear hown' hgrow hiff HB2 HS2 HO2
   go_wp2
   go_roundw
   case rel => exact ⟨j + 1, by omega, by go_num, (by unfold Hid; rw [HC.out]; exact HO3.out), HB3⟩
   case measure => simp [intOf]; omega
  ·obtain rfl : j = l.length := by omega
   rw [List.take_of_length_le (Nat.le_refl _)] at HO
   go_wp2
   go_ret
   exact ⟨_, rfl, HO.out, HB.out⟩
end Go.Proofs.YtmfpjapiijgdgaaGreat
