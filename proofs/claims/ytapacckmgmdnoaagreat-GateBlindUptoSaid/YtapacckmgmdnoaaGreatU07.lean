/- Texts of mine, one behind the other, of each what is wanted. -/
import Derived.Test.YtapacckmgmdnoaaGreatU00
import Derived.Test.YtapacckmgmdnoaaGreatShelf
import Derived.Test.YtapacckmgmdnoaaGreatU01
import Derived.Test.YtapacckmgmdnoaaGreatU02
import Derived.Test.YtapacckmgmdnoaaGreatU04
import Derived.Test.YtapacckmgmdnoaaGreatU06
namespace Go.Proofs.YtapacckmgmdnoaaGreat
open Go.RowKit
set_option linter.unusedVariables false
set_option maxRecDepth 100000
set_option maxRecDepth 100000
theorem txt_eq (a : ByteArray) : (a.toList == a.toList) = true := beq_self_eq_true _
theorem txt_ne {a b : ByteArray} (h : ¬ a = b) : (a.toList == b.toList) = false := by
 rw [beq_eq_false_iff_ne]
 intro e
 rw [ByteArray.toList_eq, ByteArray.toList_eq] at e
 exact h (toL_inj e)
theorem txt_nt {a b : ByteArray} (h : ¬ a = b) : (a.toList != b.toList) = true := by
 unfold bne
 rw [txt_ne h]
 rfl
theorem txt_ns (a : ByteArray) : (a.toList != a.toList) = false := by
 unfold bne
 rw [txt_eq]
 rfl
def CapO (W : World) (g : Nat) (v : Value) : Prop := W.cell? ⟨g, 0, none⟩ = some v ∧ g < W.heap.size
theorem CapO.below {W W' : World} {g : Nat} {v : Value} (h : CapO W g v) (q : Below W.heap.size W W') : CapO W' g v :=
 ⟨(q.cell (p := ⟨g, 0, none⟩) h.2).trans h.1, Nat.lt_of_lt_of_le h.2 q.size⟩
set_option maxHeartbeats 1000000 in
theorem hasc_any (x : OpM) (n : Int) (g : Nat) (W : World) (h : CapO W g (.int .i64 n)) :
  Calls Tryz.prog 225 #[opV x, .pointer (some ⟨g, 0, none⟩)] W fun r w' => r = .returned (.bool (hasN n x)) ∧ Below W.heap.size W w' := by
 have hb := below_one W (.cells #[.int .i64 x.n, .string x.u, .int .i64 x.s, .int .i64 x.f] 184)
 obtain ⟨c0, hg⟩ := h.below hb
 have HB := Lib.hid hb
 have HE : Hid ((x.n == n) = hasN n x) := rfl
 unfold opV
 clear hb hg h
 generalize hasN n x = r at *
 go_enter Tryz.func225, Tryz.ntmps225
 go_wp2
 go_ret
 exact ⟨retB HE.out, HB.out⟩
set_option maxHeartbeats 1000000 in
theorem abvc_any (x : OpM) (n : Int) (g : Nat) (W : World) (h : CapO W g (.int .i64 n)) :
  Calls Tryz.prog 227 #[opV x, .pointer (some ⟨g, 0, none⟩)] W fun r w' => r = .returned (.bool (abvN n x)) ∧ Below W.heap.size W w' := by
 have hb := below_one W (.cells #[.int .i64 x.n, .string x.u, .int .i64 x.s, .int .i64 x.f] 184)
 obtain ⟨c0, hg⟩ := h.below hb
 have HB := Lib.hid hb
 have HE : Hid ((decide (n < x.n)) = abvN n x) := rfl
 unfold opV
 clear hb hg h
 generalize abvN n x = r at *
 go_enter Tryz.func227, Tryz.ntmps227
 go_wp2
 go_ret
 exact ⟨retB HE.out, HB.out⟩
set_option maxHeartbeats 2000000 in
theorem idxh_any (a : Option Addr) (c : Nat) (l : List OpM) (n : Int) (g : Nat) (W : World) (hr : OpSl W a l) (h : CapO W g (.int .i64 n)) (hl : l.length ≤ 1000000) :
  Calls Tryz.prog 226 #[.slice a l.length c, .func (.func 225) #[] #[.pointer (some ⟨g, 0, none⟩)]] W fun r w' => r = .returned (.int .i64 (idxO (hasN n) l)) ∧ Below W.heap.size W w' := by
 have HR := Lib.hid hr
 have HP := Lib.hid h
 have HC := Lib.hid (fun e V k => hasc_any e n g V k)
 unfold opV at HC
 clear hr h
 go_enter Tryz.func226, Tryz.ntmps226
 go_wp2
 go_loopw [8] (fun i wr => ∃ (j : Nat), j ≤ l.length ∧ i = .int .i64 j ∧ Hid (LoTo (hasN n) l j) ∧ Hid (Below W.heap.size W wr)) (fun i _ => l.length - (intOf i).toNat)
 case atStart => exact ⟨0, by omega, rfl, LoTo.zero _ _, Below.refl _ _⟩
 case round =>
  obtain ⟨j, hj, rfl, HO, HB⟩ := hrel
  by_cases hjl : j < l.length
  ·obtain ⟨b, off, rfl, hbl, hc0, hc1, hc2, hc3⟩ := (HR.out.below HB.out).at_ hjl
   have HPW := Lib.hid (HP.out.below HB.out)
   have HNX := Lib.hid (HO.out.next hjl)
   have HHT := Lib.hid (HO.out.hit hjl)
   generalize l[j] = x at *
   cases hb : hasN n x with
   | false =>
    have HN := Lib.hid (HNX.out hb)
    have HCC := Lib.hid (HC.out x wr HPW.out)
    rw [hb] at HCC
    clear HNX HHT hb HC
    go_wp2_with fail
    refine HCC.out.mono ?_
    rintro r w2 ⟨rfl, hB⟩
    go_wp2
    go_roundw
    case rel => exact ⟨j + 1, by omega, by go_num, HN, HB.out.trans (hB.mono HB.out.size)⟩
    case measure => simp [intOf]; omega
   | true =>
    have HN := Lib.hid (idxO_hit (HHT.out hb) hjl)
    have HCC := Lib.hid (HC.out x wr HPW.out)
    rw [hb] at HCC
    clear HNX HHT hb HC
    go_wp2_with fail
    refine HCC.out.mono ?_
    rintro r w2 ⟨rfl, hB⟩
    go_wp2
    go_ret
    exact ⟨by rw [HN.out]; rfl, HB.out.trans (hB.mono HB.out.size)⟩
  ·obtain rfl : j = l.length := by omega
   have HE := Lib.hid (idxO_miss HO.out.miss)
   go_wp2
   go_ret
   exact ⟨by rw [HE.out]; rfl, HB.out⟩
set_option maxHeartbeats 2000000 in
theorem idxa_any (a : Option Addr) (c : Nat) (l : List OpM) (n : Int) (g : Nat) (W : World) (hr : OpSl W a l) (h : CapO W g (.int .i64 n)) (hl : l.length ≤ 1000000) :
  Calls Tryz.prog 226 #[.slice a l.length c, .func (.func 227) #[] #[.pointer (some ⟨g, 0, none⟩)]] W fun r w' => r = .returned (.int .i64 (idxO (abvN n) l)) ∧ Below W.heap.size W w' := by
 have HR := Lib.hid hr
 have HP := Lib.hid h
 have HC := Lib.hid (fun e V k => abvc_any e n g V k)
 unfold opV at HC
 clear hr h
 go_enter Tryz.func226, Tryz.ntmps226
 go_wp2
 go_loopw [8] (fun i wr => ∃ (j : Nat), j ≤ l.length ∧ i = .int .i64 j ∧ Hid (LoTo (abvN n) l j) ∧ Hid (Below W.heap.size W wr)) (fun i _ => l.length - (intOf i).toNat)
 case atStart => exact ⟨0, by omega, rfl, LoTo.zero _ _, Below.refl _ _⟩
 case round =>
  obtain ⟨j, hj, rfl, HO, HB⟩ := hrel
  by_cases hjl : j < l.length
  ·obtain ⟨b, off, rfl, hbl, hc0, hc1, hc2, hc3⟩ := (HR.out.below HB.out).at_ hjl
   have HPW := Lib.hid (HP.out.below HB.out)
   have HNX := Lib.hid (HO.out.next hjl)
   have HHT := Lib.hid (HO.out.hit hjl)
   generalize l[j] = x at *
   cases hb : abvN n x with
   | false =>
    have HN := Lib.hid (HNX.out hb)
    have HCC := Lib.hid (HC.out x wr HPW.out)
    rw [hb] at HCC
    clear HNX HHT hb HC
    go_wp2_with fail
    refine HCC.out.mono ?_
    rintro r w2 ⟨rfl, hB⟩
    go_wp2
    go_roundw
    case rel => exact ⟨j + 1, by omega, by go_num, HN, HB.out.trans (hB.mono HB.out.size)⟩
    case measure => simp [intOf]; omega
   | true =>
    have HN := Lib.hid (idxO_hit (HHT.out hb) hjl)
    have HCC := Lib.hid (HC.out x wr HPW.out)
    rw [hb] at HCC
    clear HNX HHT hb HC
    go_wp2_with fail
    refine HCC.out.mono ?_
    rintro r w2 ⟨rfl, hB⟩
    go_wp2
    go_ret
    exact ⟨by rw [HN.out]; rfl, HB.out.trans (hB.mono HB.out.size)⟩
  ·obtain rfl : j = l.length := by omega
   have HE := Lib.hid (idxO_miss HO.out.miss)
   go_wp2
   go_ret
   exact ⟨by rw [HE.out]; rfl, HB.out⟩
set_option maxHeartbeats 1000000 in
theorem conth_any (a : Option Addr) (c : Nat) (l : List OpM) (n : Int) (g : Nat) (W : World) (hr : OpSl W a l) (h : CapO W g (.int .i64 n)) (hl : l.length ≤ 1000000) :
  Calls Tryz.prog 224 #[.slice a l.length c, .func (.func 225) #[] #[.pointer (some ⟨g, 0, none⟩)]] W fun r w' => r = .returned (.bool (l.any (hasN n))) ∧ Below W.heap.size W w' := by
 have HC := Lib.hid (idxh_any a c l n g W hr h hl)
 have HE := Lib.hid (idxO_any (hasN n) l)
 clear hr h
 generalize idxO (hasN n) l = i at *
 go_enter Tryz.func224, Tryz.ntmps224
 go_wp2_with fail
 refine HC.out.mono ?_
 rintro r w2 ⟨rfl, hB⟩
 go_wp2
 go_ret
 exact ⟨by rw [← HE.out]; rfl, hB⟩
theorem within_any (n a b : Int) (w : World) : Calls Tryz.prog 214 #[.int .i64 n, .int .i64 a, .int .i64 b] w fun e w' => e = .returned (.bool (decide (a ≤ n) && decide (n ≤ b))) ∧ w' = w := by
 by_cases h1 : a ≤ n
 ·have d1 := decide_eq_true h1
  rw [d1]
  clear h1
  go_enter Tryz.func214, Tryz.ntmps214
  go_wp2
  go_ret
  exact ⟨by simp, rfl⟩
 ·have d1 := decide_eq_false h1
  rw [d1]
  clear h1
  go_enter Tryz.func214, Tryz.ntmps214
  go_wp2
  go_ret
  exact ⟨by simp, rfl⟩
theorem results_tmp_cell_tmp {fn : Func} {p u v : Tmp} {ty : TypeId} (h : fn.results = #[.tmp u, .cell p ty, .tmp v]) (tmps : Array Value) (P : Program) (w : World) :
  (results fn tmps).run P w = ((asAddr (tmps.getD p undef)).run P w).andThen fun a w₁ => ((loadVar ty a).run P w₁).andThen fun x w₂ => .ok (.tuple #[tmps.getD u undef, x, tmps.getD v undef]) w₂ := by
 simp only [results, h]
 simp [Sem.run_bind, Result.andThen]
 try (split <;> simp)
 all_goals try (split <;> simp)
def setO (W : World) (g : Nat) (a b c d : Value) : World := (((W.setCell ⟨g, 0, none⟩ a).setCell ⟨g, 1, none⟩ b).setCell ⟨g, 2, none⟩ c).setCell ⟨g, 3, none⟩ d
structure Zb (w : World) (g : Nat) (a b c d : Value) (t : TypeId) (W : World) : Prop where
 blk : W.heap[g]? = some (.cells #[a, b, c, d] t (0, 0))
 ge : w.heap.size ≤ g
 frame : Below w.heap.size w W
section
variable {w W W' : World} {g : Nat} {a b c d : Value} {t : TypeId}
theorem Zb.lt (h : Zb w g a b c d t W) : g < W.heap.size := heap_lt h.blk
theorem Zb.below (h : Zb w g a b c d t W) (q : Below W.heap.size W W') : Zb w g a b c d t W' := ⟨(q.block g h.lt).trans h.blk, h.ge, h.frame.trans (q.mono h.frame.size)⟩
theorem Zb.new (w : World) (a b c d : Value) (t : TypeId) : Zb w w.heap.size a b c d t (w.alloc (.cells #[a, b, c, d] t)) := ⟨heap_alloc_new w _, Nat.le_refl _, below_one _ _⟩
theorem Zb.cells (h : Zb w g a b c d t W) : W.cell? ⟨g, 0, none⟩ = some a ∧ W.cell? ⟨g, 1, none⟩ = some b ∧ W.cell? ⟨g, 2, none⟩ = some c ∧ W.cell? ⟨g, 3, none⟩ = some d := cells4 h.blk
theorem Zb.free (h : Zb w g a b c d t W) : W.frozen? ⟨g, 0, none⟩ = false ∧ W.frozen? ⟨g, 1, none⟩ = false ∧ W.frozen? ⟨g, 2, none⟩ = false ∧ W.frozen? ⟨g, 3, none⟩ = false :=
 ⟨frozen_of_row _ _ 0 _ _ h.blk, frozen_of_row _ _ 1 _ _ h.blk, frozen_of_row _ _ 2 _ _ h.blk, frozen_of_row _ _ 3 _ _ h.blk⟩
theorem Zb.set (h : Zb w g a b c d t W) (x y z v : Value) : Below w.heap.size w (setO W g x y z v) :=
 (((h.frame.setCell (p := ⟨g, 0, none⟩) h.ge x).setCell (p := ⟨g, 1, none⟩) h.ge y).setCell (p := ⟨g, 2, none⟩) h.ge z).setCell (p := ⟨g, 3, none⟩) h.ge v
theorem Zb.there (h : Zb w g a b c d t W) : W.there g 0 4 := fun j hj => by
 rw [Nat.zero_add]
 refine ⟨?_, frozen_of_row _ _ _ _ _ h.blk⟩
 rw [cell_of_row _ _ _ _ _ (0, 0) h.blk, Array.getElem?_eq_getElem (by simpa using hj)]
 rfl
theorem setO_cell (W : World) (g : Nat) (x y z v : Value) {p : Addr} (h : p.block ≠ g) : (setO W g x y z v).cell? p = W.cell? p := by
 unfold setO World.cell?
 rw [Below.heap_setCell _ _ _ _ h, Below.heap_setCell _ _ _ _ h, Below.heap_setCell _ _ _ _ h, Below.heap_setCell _ _ _ _ h]
theorem setO_size (W : World) (g : Nat) (x y z v : Value) : (setO W g x y z v).heap.size = W.heap.size := by
 unfold setO
 simp [World.setCell]
theorem OpSl.setO {l : List OpM} {A : Option Addr} (h : OpSl W A l) (g : Nat) (x y z v : Value) (hg : ∀ b o, A = some ⟨b, o, none⟩ → b ≠ g) : OpSl (setO W g x y z v) A l := fun k hk => by
 obtain ⟨b, off, e, hlt, h0, h1, h2, h3⟩ := h k hk
 have hne := hg b off e
 exact ⟨b, off, e, by rw [setO_size]; exact hlt, (setO_cell W g x y z v (p := ⟨b, off + k * 4, none⟩) hne).trans h0, (setO_cell W g x y z v (p := ⟨b, off + k * 4 + 1, none⟩) hne).trans h1, (setO_cell W g x y z v (p := ⟨b, off + k * 4 + 2, none⟩) hne).trans h2, (setO_cell W g x y z v (p := ⟨b, off + k * 4 + 3, none⟩) hne).trans h3⟩
end
section
variable {w W : World} {g : Nat} {a b c d : Value} {t : TypeId}
theorem Zb.loadS (h : Zb w g a b c d t W) (x y z v : Value) : (loadVar 111 ⟨g, 0, none⟩).run Tryz.prog (setO W g x y z v) = .ok (.agg #[x, y, z, v]) (setO W g x y z v) :=
 run_loadVar_mid (P := Tryz.prog) (W.setCells g 0 [x, y, z, v]) g 0 111 [x, y, z, v] _ (World.rangeAt_setCells_same _ _ _ _ h.there) Tryz.underlying111 rfl infoStay4
end
set_option maxHeartbeats 2000000 in
theorem find_any (a : Option Addr) (c : Nat) (l : List OpM) (n : Int) (u : ByteArray) (w : World) (hr : OpSl w a l) (hl : l.length ≤ 1000000) :
  Calls Tryz.prog 229 #[.slice a l.length c, .int .i64 n, .string u] w fun e w' => e = .returned (.tuple #[.int .i64 (findP l n u : Nat), .int .i64 (findC l n u)]) ∧ Below w.heap.size w w' := by
 have HR := Lib.hid hr
 clear hr
 have HM := Lib.hid (fun (h : IsFst (hasN n) l l.length) => fc_miss h u)
 have HU := Lib.hid (fun k (h : IsFst (hasN n) l k) (hk : k < l.length) (hu : ¬ l[k].u = u) => fc_user h hk hu)
 have HH := Lib.hid (fun k (h : IsFst (hasN n) l k) (hk : k < l.length) (hu : l[k].u = u) => fc_hit h hk hu)
 generalize findP l n u = P at *
 generalize findC l n u = C at *
 go_enter Tryz.func229, Tryz.ntmps229
 go_wp2
 go_step3
 go_wp2
 go_step3
 go_wp2
 go_loopw [8, 9, 14] (fun p q i wr => ∃ (j : Nat), j ≤ l.length ∧ p = .int .i64 0 ∧ q = .int .i64 101 ∧ i = .int .i64 j ∧ Hid (LoTo (hasN n) l j) ∧ Hid (Below w.heap.size w wr)) (fun _ _ i _ => l.length - (intOf i).toNat)
 case atStart => exact ⟨0, by omega, rfl, rfl, rfl, LoTo.zero _ _, Below.refl _ _⟩
 case round =>
  obtain ⟨j, hj, rfl, rfl, rfl, HO, HB⟩ := hrel
  by_cases hjl : j < l.length
  ·obtain ⟨b, off, rfl, hbl, hc0, hc1, hc2, hc3⟩ := (HR.out.below HB.out).at_ hjl
   have HNX := Lib.hid (HO.out.next hjl)
   have HHT := Lib.hid (fun h => HH.out j (HO.out.hit hjl h) hjl)
   have HHU := Lib.hid (fun h => HU.out j (HO.out.hit hjl h) hjl)
   have HB2 := Lib.hid (HB.out.trans ((below_one wr (.cells #[.int .i64 l[j].n, .string l[j].u, .int .i64 l[j].s, .int .i64 l[j].f] 184)).mono HB.out.size))
   generalize l[j] = x at *
   clear HM HU HH
   obtain ⟨xn, xu, xs, xf⟩ := x
   dsimp only at *
   by_cases h1 : xn = n
   ·subst h1
    have d1 : (xn != xn) = false := by simp
    have d1' : (xn == xn) = true := beq_self_eq_true _
    by_cases h2 : xu = u
    ·subst h2
     have d2 := txt_ns xu
     have d2' := txt_eq xu
     obtain ⟨e1, _, e3⟩ := HHT.out (decide_eq_true rfl) rfl
     subst e1 e3
     clear HNX HHT HHU HO
     go_wp2
     try rw [Exit.noGoto_ret]
     go_ret2
     exact ⟨by trivial, HB2.out⟩
    ·have d2 := txt_nt h2
     have d2' := txt_ne h2
     obtain ⟨e1, _, e3⟩ := HHU.out (decide_eq_true rfl) h2
     subst e1 e3
     clear HNX HHT HHU HO
     go_wp2
     try rw [Exit.noGoto_ret]
     go_ret2
     exact ⟨by trivial, HB2.out⟩
   ·have d1 : (xn != n) = true := by simp [h1]
    have d1' : (xn == n) = false := beq_eq_false_iff_ne.2 h1
    have HN := Lib.hid (HNX.out (decide_eq_false h1))
    clear HNX HHT HHU HO
    go_wp2
    go_roundw
    case rel => exact ⟨j + 1, by omega, rfl, rfl, by go_num, HN, HB2.out⟩
    case measure => simp [intOf]; omega
  ·obtain rfl : j = l.length := by omega
   obtain ⟨e1, _, e3⟩ := HM.out HO.out.miss
   subst e1 e3
   go_wp2
   try rw [Exit.noGoto_ret]
   go_ret2
   exact ⟨by trivial, HB.out⟩
end Go.Proofs.YtapacckmgmdnoaaGreat
namespace Go.Proofs.YtapacckmgmdnoaaGreat
open Go.RowKit
set_option linter.unusedVariables false
set_option maxRecDepth 100000
set_option maxHeartbeats 400000 in
theorem all_any (a : Option Addr) (c : Nat) (l : List ByteArray) (w : World) (hr : Sl w a (strs l)) (hf : Fits l) :
  Calls Tryz.prog 162 #[.slice a l.length c] w fun e w' => e = .returned (.bool (l.all nameB)) ∧ w = w' := by
 have hm := hf.1
 unfold maxLen at hm
 have HR := Lib.hid hr
 have HF := Lib.hid hf
 clear hr hf
 go_enter Tryz.func162, Tryz.ntmps162
 go_wp2
 go_loop [7] (fun i => ∃ k : Nat, k ≤ l.length ∧ i = .int .i64 k ∧ Hid ((l.take k).all nameB = true)) (fun i => l.length - (intOf i).toNat)
 case atStart => exact ⟨0, by omega, rfl, by simp [Hid]⟩
 case round =>
  obtain ⟨k, hk, rfl, H⟩ := hrel
  by_cases hlt : k < l.length
  ·obtain ⟨b, off, rfl, hbl, hcell⟩ := HR.out.str hlt
   have hsz : l[k].size ≤ maxLen := HF.out.2 _ (List.getElem_mem hlt)
   cases hB : isName l[k].data.toList
   ·have HB := Lib.hid (all_not_at nameB l k hlt hB)
    go_wp2_with (go_at_call 173; refine (right_any _ _ hsz).mono ?_; rintro e w' ⟨rfl, rfl⟩)
    go_ret
    exact ⟨retB HB.out.symm, rfl⟩
   ·have HB := Lib.hid (all_take_next nameB l k hlt H.out hB)
    go_wp2_with (go_at_call 173; refine (right_any _ _ hsz).mono ?_; rintro e w' ⟨rfl, rfl⟩)
    go_round
    case rel => exact ⟨k + 1, by omega, by go_num, HB⟩
    case measure => simp [intOf]; omega
  ·have HB := Lib.hid (all_take_end nameB l k (by omega) H.out)
   go_wp2
   go_ret
   exact ⟨retB HB.out.symm, rfl⟩
def pr (a b : ByteArray) : Value := .agg #[.string a, .string b]
theorem sl_two (w : World) (x y : Value) (t : TypeId) : Sl (w.alloc (.cells #[x, y] t)) (some ⟨w.heap.size, 0, none⟩) [x, y] := fun k hk => by
 refine ⟨_, _, rfl, by simp, ?_⟩
 match k, hk with
 | 0, _ => simp
 | 1, _ => simp
set_option maxHeartbeats 400000 in
theorem pairRight_any (a b : ByteArray) (w : World) (ha : a.size ≤ maxLen) (hb : b.size ≤ maxLen) :
  Calls Tryz.prog 99 #[pr a b] w fun e w' => e = .returned (.bool (nameB a && nameB b)) ∧ Below w.heap.size w w' := by
 have hall : ∀ t (W : World) (g : Nat), g = W.heap.size → Calls Tryz.prog 162 #[.slice (some ⟨g, 0, none⟩) 2 2] (W.alloc (.cells #[.string a, .string b] t)) fun e w' => e = .returned (.bool (nameB a && nameB b)) ∧ (W.alloc (.cells #[.string a, .string b] t)) = w' := fun t W g hg => by
  subst hg
  have h := all_any (some ⟨W.heap.size, 0, none⟩) 2 [a, b] _ (sl_two W (.string a) (.string b) t) ⟨by simp [maxLen], by simp [ha, hb]⟩
  simpa using h
 have HA := Lib.hid hall
 clear hall
 unfold pr
 go_enter Tryz.func99, Tryz.ntmps99
 go_wp2_with (go_at_call 162; refine (HA.out _ _ _ (by simp)).mono ?_; rintro e w' ⟨rfl, rfl⟩)
 go_ret
 exact ⟨rfl, ((Below.refl _ _).alloc (Nat.le_refl _) _).alloc (by simp) _⟩
set_option maxHeartbeats 400000 in
theorem pairCmp_any (a b c d : ByteArray) (w : World) :
  Calls Tryz.prog 255 #[pr a b, pr c d] w fun e w' => e = .returned (.int .i64 (cmpP a b c d)) ∧ Below w.heap.size w w' := by
 unfold pr
 have HB : Hid (∀ o o', Below w.heap.size w ((w.alloc o).alloc o')) := fun o o' => ((Below.refl _ _).alloc (Nat.le_refl _) _).alloc (by simp) _
 have hcm : ∀ x y W, Calls Tryz.prog 174 #[.string x, .string y] W fun e w' => e = .returned (.int .i64 (cmpS x y)) ∧ W = w' := fun x y W => cmp_any x y W
 have HC := Lib.hid hcm
 clear hcm
 cases h : (cmpS a c != 0)
 ·have HE : Hid (cmpP a b c d = cmpS b d) := if_pos (by simpa using h)
  go_enter Tryz.func255, Tryz.ntmps255
  go_wp2_with (go_at_call 174; refine (HC.out _ _ _).mono ?_; rintro e w' ⟨rfl, rfl⟩)
  go_ret
  exact ⟨retI HE.out.symm, HB.out _ _⟩
 ·have HE : Hid (cmpP a b c d = cmpS a c) := if_neg (by simpa using h)
  go_enter Tryz.func255, Tryz.ntmps255
  go_wp2_with (go_at_call 174; refine (HC.out _ _ _).mono ?_; rintro e w' ⟨rfl, rfl⟩)
  go_ret
  exact ⟨retI HE.out.symm, HB.out _ _⟩
def eqS (a b : ByteArray) : Bool := a.toList == b.toList
theorem eqS_iff (a b : ByteArray) : eqS a b = true ↔ a = b := by
 unfold eqS
 rw [beq_iff_eq, ByteArray.toList_eq, ByteArray.toList_eq]
 constructor
 ·intro h
  cases a; cases b
  simp at h
  rw [h]
 ·intro h; rw [h]
set_option maxHeartbeats 400000 in
theorem pairHas_any (a b s : ByteArray) (w : World) :
  Calls Tryz.prog 265 #[pr a b, .string s] w fun e w' => e = .returned (.bool (eqS s a || eqS s b)) ∧ Below w.heap.size w w' := by
 unfold pr
 have HB : Hid (∀ o, Below w.heap.size w (w.alloc o)) := fun o => (Below.refl _ _).alloc (Nat.le_refl _) _
 cases h : (s.toList == a.toList)
 ·have HE : Hid ((s.toList == b.toList) = (eqS s a || eqS s b)) := by unfold Hid eqS; rw [h]; rfl
  go_enter Tryz.func265, Tryz.ntmps265
  go_wp2
  go_ret
  exact ⟨retB HE.out, HB.out _⟩
 ·have HE : Hid (true = (eqS s a || eqS s b)) := by unfold Hid eqS; rw [h]; rfl
  go_enter Tryz.func265, Tryz.ntmps265
  go_wp2
  go_ret
  exact ⟨retB HE.out, HB.out _⟩
end Go.Proofs.YtapacckmgmdnoaaGreat
namespace Go.Proofs.YtapacckmgmdnoaaGreat
open Go.RowKit
set_option linter.unusedVariables false
set_option maxRecDepth 100000
set_option maxRecDepth 100000
theorem ebelow_one (w : World) (o : Obj) : Below w.heap.size w (w.alloc o) := (Below.refl _ _).alloc (Nat.le_refl _) _
def PcAt (W : World) (g : Nat) (w u : ByteArray) : Prop := W.cell? ⟨g, 0, none⟩ = some (.string w) ∧ W.cell? ⟨g, 1, none⟩ = some (.string u) ∧ g < W.heap.size
theorem PcAt.below {W W' : World} {g : Nat} {w u : ByteArray} (h : PcAt W g w u) (q : Below W.heap.size W W') : PcAt W' g w u :=
 ⟨(q.cell (p := ⟨g, 0, none⟩) h.2.2).trans h.1, (q.cell (p := ⟨g, 1, none⟩) h.2.2).trans h.2.1, Nat.lt_of_lt_of_le h.2.2 q.size⟩
theorem PcAt.new (W : World) (w u : ByteArray) (t : TypeId) : PcAt (W.alloc (.cells #[.string w, .string u] t)) W.heap.size w u :=
 ⟨cell_of_row _ _ _ _ _ _ (heap_alloc_new W _), cell_of_row _ _ _ _ _ _ (heap_alloc_new W _), by rw [size1]; omega⟩
theorem str_ne {a b : ByteArray} (h : ¬ a = b) : (a.toList == b.toList) = false := by
 have h1 := eqS_iff a b
 unfold eqS at h1
 cases hc : (a.toList == b.toList) with
 | false => rfl
 | true => exact absurd (h1.1 hc) h
theorem str_eq (a : ByteArray) : (a.toList == a.toList) = true := beq_self_eq_true _
set_option maxHeartbeats 1000000 in
theorem infc_any (e : EnM) (w u : ByteArray) (g : Nat) (W : World) (h : PcAt W g w u) :
  Calls Tryz.prog 261 #[enV e, .pointer (some ⟨g, 0, none⟩)] W fun r w' => r = .returned (.bool (infE w u e)) ∧ Below W.heap.size W w' := by
 have HB := Lib.hid (ebelow_one W)
 obtain ⟨c0, c1, hg⟩ := h
 unfold enV
 obtain ⟨ew, eu, ef, et⟩ := e
 have HF : Hid (∀ b : Bool, (b = true ↔ ew = w ∧ eu = u ∧ et = 1099511627776) → b = infE w u ⟨ew, eu, ef, et⟩) := fun b hb => by
  have h1 := infE_iff (w := w) (u := u) (e := ⟨ew, eu, ef, et⟩)
  cases hc : infE w u ⟨ew, eu, ef, et⟩ with
  | true => rw [hc] at h1; exact hb.2 (h1.1 rfl)
  | false =>
   rw [hc] at h1
   cases b with
   | false => rfl
   | true => exact absurd (h1.2 (hb.1 rfl)) Bool.false_ne_true
 dsimp only
 by_cases h0 : ew = w
 ·subst h0
  have e0 := str_eq ew
  by_cases h1 : eu = u
  ·subst h1
   have e1 := str_eq eu
   by_cases h2 : et = 1099511627776
   ·subst h2
    have HE := Lib.hid (HF.out true ⟨fun _ => ⟨rfl, rfl, rfl⟩, fun _ => rfl⟩)
    clear HF
    go_enter Tryz.func261, Tryz.ntmps261
    go_wp2
    go_ret
    exact ⟨retB HE.out, HB.out _⟩
   ·have e2 : (et == 1099511627776) = false := beq_eq_false_iff_ne.2 h2
    have HE := Lib.hid (HF.out false ⟨fun h => (by cases h), fun h => absurd h.2.2 h2⟩)
    clear HF h2
    go_enter Tryz.func261, Tryz.ntmps261
    go_wp2
    go_ret
    exact ⟨retB HE.out, HB.out _⟩
  ·have e1 := str_ne h1
   have HE := Lib.hid (HF.out false ⟨fun h => (by cases h), fun h => absurd h.2.1 h1⟩)
   clear HF h1
   go_enter Tryz.func261, Tryz.ntmps261
   go_wp2
   go_ret
   exact ⟨retB HE.out, HB.out _⟩
 ·have e0 := str_ne h0
  have HE := Lib.hid (HF.out false ⟨fun h => (by cases h), fun h => absurd h.1 h0⟩)
  clear HF h0
  go_enter Tryz.func261, Tryz.ntmps261
  go_wp2
  go_ret
  exact ⟨retB HE.out, HB.out _⟩
def idxI (p : EnM → Bool) (l : List EnM) : Int := if l.findIdx p < l.length then (l.findIdx p : Nat) else -1
theorem idx_hit {p : EnM → Bool} {l : List EnM} {k : Nat} (h : IsFirst p l k) (hk : k < l.length) : idxI p l = k := by
 unfold idxI
 rw [h.idx, if_pos hk]
theorem idx_miss {p : EnM → Bool} {l : List EnM} (h : IsFirst p l l.length) : idxI p l = -1 := by
 unfold idxI
 rw [h.idx, if_neg (by omega)]
theorem idx_any (p : EnM → Bool) (l : List EnM) : decide (0 ≤ idxI p l) = l.any p := by
 have h := first_idx p l
 rw [h.any]
 by_cases h1 : l.findIdx p < l.length
 ·rw [idx_hit h h1, decide_eq_true h1]
  exact decide_eq_true (by omega)
 ·rw [decide_eq_false h1]
  unfold idxI
  rw [if_neg h1]
  rfl
def LowTo (p : EnM → Bool) (l : List EnM) (j : Nat) : Prop := ∀ i (h : i < l.length), i < j → p l[i] = false
theorem LowTo.next {p : EnM → Bool} {l : List EnM} {j : Nat} (h : LowTo p l j) (hj : j < l.length) (hp : p l[j] = false) : LowTo p l (j + 1) := fun i hi hij => by
 rcases Nat.lt_or_ge i j with h1 | h1
 ·exact h i hi h1
 ·obtain rfl : i = j := by omega
  exact hp
theorem LowTo.hit {p : EnM → Bool} {l : List EnM} {j : Nat} (h : LowTo p l j) (hj : j < l.length) (hp : p l[j] = true) : IsFirst p l j := ⟨Nat.le_of_lt hj, h, fun _ => hp⟩
theorem LowTo.miss {p : EnM → Bool} {l : List EnM} (h : LowTo p l l.length) : IsFirst p l l.length := ⟨Nat.le_refl _, h, fun h => absurd h (by omega)⟩
set_option maxHeartbeats 2000000 in
theorem index_any (a : Option Addr) (c : Nat) (l : List EnM) (w u : ByteArray) (g : Nat) (W : World) (hr : EnSl W a l) (h : PcAt W g w u) (hl : l.length ≤ 1000000) :
  Calls Tryz.prog 260 #[.slice a l.length c, .func (.func 261) #[] #[.pointer (some ⟨g, 0, none⟩)]] W fun r w' => r = .returned (.int .i64 (idxI (infE w u) l)) ∧ Below W.heap.size W w' := by
 have HR := Lib.hid hr
 have HP := Lib.hid h
 have HC := Lib.hid (fun e V k => infc_any e w u g V k)
 unfold enV at HC
 clear hr h
 go_enter Tryz.func260, Tryz.ntmps260
 go_wp2
 go_loopw [8] (fun i wr => ∃ (j : Nat), j ≤ l.length ∧ i = .int .i64 j ∧ Hid (LowTo (infE w u) l j) ∧ Hid (Below W.heap.size W wr)) (fun i _ => l.length - (intOf i).toNat)
 case atStart => exact ⟨0, by omega, rfl, fun k _ h => absurd h (by omega), Below.refl _ _⟩
 case round =>
  obtain ⟨j, hj, rfl, HO, HB⟩ := hrel
  by_cases hjl : j < l.length
  ·obtain ⟨b, off, rfl, hbl, hc0, hc1, hc2, hc3⟩ := (HR.out.below HB.out).at_ hjl
   have HPW := Lib.hid (HP.out.below HB.out)
   have HNX := Lib.hid (HO.out.next hjl)
   have HHT := Lib.hid (HO.out.hit hjl)
   generalize l[j] = x at *
   cases hb : infE w u x with
   | false =>
    have HN := Lib.hid (HNX.out hb)
    have HCC := Lib.hid (HC.out x wr HPW.out)
    rw [hb] at HCC
    clear HNX HHT hb HC
    go_wp2_with fail
    refine HCC.out.mono ?_
    rintro r w2 ⟨rfl, hB⟩
    go_wp2
    go_roundw
    case rel => exact ⟨j + 1, by omega, by go_num, HN, HB.out.trans (hB.mono HB.out.size)⟩
    case measure => simp [intOf]; omega
   | true =>
    have HN := Lib.hid (idx_hit (HHT.out hb) hjl)
    have HCC := Lib.hid (HC.out x wr HPW.out)
    rw [hb] at HCC
    clear HNX HHT hb HC
    go_wp2_with fail
    refine HCC.out.mono ?_
    rintro r w2 ⟨rfl, hB⟩
    go_wp2
    go_ret
    exact ⟨by rw [HN.out]; rfl, HB.out.trans (hB.mono HB.out.size)⟩
  ·obtain rfl : j = l.length := by omega
   have HE := Lib.hid (idx_miss HO.out.miss)
   go_wp2
   go_ret
   exact ⟨by rw [HE.out]; rfl, HB.out⟩
set_option maxHeartbeats 1000000 in
theorem inforce_any (a : Option Addr) (c : Nat) (l : List EnM) (w u : ByteArray) (W : World) (hr : EnSl W a l) (hl : l.length ≤ 1000000) :
  Calls Tryz.prog 234 #[.slice a l.length c, pr w u] W fun r w' => r = .returned (.int .i64 (idxI (infE w u) l)) ∧ Below W.heap.size W w' := by
 have hb := ebelow_one W (.cells #[.string w, .string u] 79)
 have HC := Lib.hid (index_any a c l w u W.heap.size (W.alloc (.cells #[.string w, .string u] 79)) (hr.below hb) (PcAt.new _ _ _ _) hl)
 have HB := Lib.hid hb
 unfold pr
 clear hr hb
 go_enter Tryz.func234, Tryz.ntmps234
 go_wp2_with fail
 refine HC.out.mono ?_
 rintro r w2 ⟨rfl, hB⟩
 go_wp2
 go_ret
 exact ⟨rfl, HB.out.trans (hB.mono HB.out.size)⟩
set_option maxHeartbeats 1000000 in
theorem inForce_any (a : Option Addr) (c : Nat) (l : List EnM) (w u : ByteArray) (W : World) (hr : EnSl W a l) (hl : l.length ≤ 1000000) :
  Calls Tryz.prog 232 #[.slice a l.length c, pr w u] W fun r w' => r = .returned (.bool (l.any (infE w u))) ∧ Below W.heap.size W w' := by
 have hb := ebelow_one W (.cells #[.string w, .string u] 79)
 have HC := Lib.hid (inforce_any a c l w u (W.alloc (.cells #[.string w, .string u] 79)) (hr.below hb) hl)
 have HB := Lib.hid hb
 have HE := Lib.hid (idx_any (infE w u) l)
 unfold pr at *
 clear hr hb
 generalize idxI (infE w u) l = n at *
 go_enter Tryz.func232, Tryz.ntmps232
 go_wp2_with fail
 refine HC.out.mono ?_
 rintro r w2 ⟨rfl, hB⟩
 go_wp2
 go_ret
 exact ⟨by rw [← HE.out]; rfl, HB.out.trans (hB.mono HB.out.size)⟩
structure PK (w : World) (g : Nat) (p u : ByteArray) (a : Option Addr) (l : List EnM) (W : World) : Prop where
 pc : PcAt W g p u
 row : EnSl W a l
 frame : Below w.heap.size w W
theorem PK.below {w W W' : World} {g : Nat} {p u : ByteArray} {a : Option Addr} {l : List EnM} (h : PK w g p u a l W) (q : Below W.heap.size W W') : PK w g p u a l W' :=
 ⟨h.pc.below q, h.row.below q, h.frame.trans (q.mono h.frame.size)⟩
theorem PK.new {w : World} {a : Option Addr} {l : List EnM} (h : EnSl w a l) (p u : ByteArray) (t : TypeId) : PK w w.heap.size p u a l (w.alloc (.cells #[.string p, .string u] t)) :=
 ⟨PcAt.new _ _ _ _, h.below (ebelow_one _ _), ebelow_one _ _⟩
end Go.Proofs.YtapacckmgmdnoaaGreat
namespace Go.Proofs.YtapacckmgmdnoaaGreat
open Go.RowKit Go.Sort Go.Proofs
set_option linter.unusedVariables false
set_option maxRecDepth 100000
set_option maxRecDepth 100000
instance : Inhabited SpM := ⟨⟨0, 0⟩⟩
def encS (s : SpM) : List Value := [.int .i64 s.f, .int .i64 s.t]
def cfS (x y : SpM) : Int := Lib.compareInt x.f y.f
theorem ltS (x y : SpM) : ltOf cfS x y = decide (x.f < y.f) := by
 unfold ltOf cfS Lib.compareInt
 by_cases h1 : x.f < y.f
 ·simp [h1]
 ·by_cases h2 : y.f < x.f <;> simp [h1, h2]
theorem swoS : SWO (ltOf cfS) where
 irrefl x := by rw [ltS]; simp
 trans x y z h1 h2 := by rw [ltS] at *; simp at *; omega
 ntrans x y z h1 h2 := by rw [ltS] at *; simp at *; omega
set_option maxHeartbeats 1000000 in
theorem closure_any (x y : SpM) (W : World) : Calls Tryz.prog 210 #[.agg #[.int .i64 x.f, .int .i64 x.t], .agg #[.int .i64 y.f, .int .i64 y.t]] W fun e w' => e = .returned (.int .i64 (cfS x y)) ∧ ∃ q os', w' = grow (W.drewN q) os' := by
 have hcon := fun W' => AnyG.cmp_Compare_int Tryz.laysCompare x.f y.f W'
 change ∀ W', Calls Tryz.prog 168 _ _ _ at hcon
 unfold cfS
 generalize Lib.compareInt x.f y.f = r at hcon ⊢
 go_enter Tryz.func210, Tryz.ntmps210
 go_wp2_with (go_at_call 168; refine (hcon _).mono ?_; rintro e w' ⟨rfl, rfl⟩)
 go_ret
 exact ⟨rfl, 0, _, by rw [alloc_eq_grow, alloc_eq_grow, grow_grow]; rfl⟩
theorem flat_sps (l : List SpM) (t : Nat) (h : t < l.length * 2) : (sps l)[t]? = some ((flatK encS 2 l.toArray)[t]!) := by
 rw [get_flatK encS 2 l.toArray t (by simpa using h)]
 have hk : t / 2 < l.length := by omega
 have hd : (t = t / 2 * 2 ∧ t % 2 = 0) ∨ (t = t / 2 * 2 + 1 ∧ t % 2 = 1) := by omega
 obtain ⟨g1, g2⟩ := sps_get l (t / 2) hk
 have he : l.toArray[t / 2]! = l[t / 2] := by simp [hk]
 rw [he]
 rcases hd with ⟨h1, h2⟩ | ⟨h1, h2⟩
 ·rw [← h1] at g1
  rw [h2, g1]
  rfl
 ·rw [← h1] at g2
  rw [h2, g2]
  rfl
theorem heap_sortedS {w : World} {g n : Nat} {os : Array Obj} {cur : Array Value} {e : TypeId} {fr : Nat × Nat} (d : Array SpM) (hb : w.heap[g]? = some (.cells cur e fr)) :
  (sortWorldK encS 2 w g 0 n d os).heap[g]? = some (.cells (putCells id 0 (flatK encS 2 d) cur) e fr) := by
 have hg : g < w.heap.size := (Array.getElem?_eq_some_iff.1 hb).1
 unfold sortWorldK putRowK
 rw [heap_grow_old _ _ (by simpa using hg)]
 simp [putRow, mapBlock, Sort.ahead, Array.getElem?_modify, hb, onCells]
theorem grownBy_sortedS {w : World} {g n : Nat} {os : Array Obj} (d : Array SpM) : w.grownBy (sortWorldK encS 2 w g 0 n d os) (some g) := by
 unfold sortWorldK putRowK
 refine ⟨rfl, rfl, rfl, by simp, fun k hk hne => ?_⟩
 rw [heap_grow_old _ _ (by simpa using hk)]
 have : g ≠ k := fun e => hne (by rw [e])
 simp [putRow, mapBlock, Sort.ahead, Array.getElem?_modify, this]
theorem take_putS (cur : Array Value) (m : List SpM) (h : m.length * 2 ≤ cur.size) : (putCells id 0 (flatK encS 2 m.toArray) cur).toList.take (m.length * 2) = sps m := by
 apply List.ext_getElem?
 intro j
 by_cases hj : j < m.length * 2
 ·rw [List.getElem?_take_of_lt hj, Array.getElem?_toList, flat_sps m j hj]
  simp [putCells, hj, show j < cur.size by omega]
 ·rw [List.getElem?_take_eq_none (by omega), List.getElem?_eq_none (by rw [sps_len]; omega)]
set_option maxHeartbeats 2000000 in
theorem sort_any (B : Nat) (v : Value) (l : List SpM) (w : World) (hB : B ≤ w.heap.size) (ho : w.ownsRow B 90 2 v l.length (sps l)) (hl : l.length ≤ 1000000) :
  Calls Tryz.prog 209 #[v, .func (.func 210) #[] #[]] w fun e w' => e = .returned (.tuple #[]) ∧ ∃ m : List SpM, m.Perm l ∧ m.Pairwise (fun a b => a.f ≤ b.f) ∧ w'.ownsRow B 90 2 v m.length (sps m) ∧ Below B w w' := by
 cases hll : l with
 | nil =>
  subst hll
  obtain ⟨a, c, rfl, hc, _⟩ := own_sp ho
  refine (AnyF.slices_SortFunc_none Tryz.laysSortFunc a c _ w).mono ?_
  rintro e w' ⟨rfl, rfl⟩
  exact ⟨rfl, [], List.Perm.refl _, List.Pairwise.nil, ho, Below.refl _ _⟩
 | cons x l' =>
  rw [← hll]
  rcases ho.2 with ⟨_, h0⟩ | ⟨g, cap, cur, rfl, hg, hb, hn, hcm, hsz, ht⟩
  ·rw [hll] at h0; simp at h0
  have hH : HoldsK encS 2 w g 0 l.toArray := fun j hj => by
   have hj' : j < l.length * 2 := by simpa using hj
   rw [Nat.zero_add]
   exact ⟨by rw [ho.cellAt j hj', flat_sps l j hj']; rfl, ho.frozenAt j⟩
  have eg : ∀ args w, (callFunc 210 args).run Tryz.prog w = .ok (.enter 210 args) w := enters_of Tryz.func210 (by kernel_rfl) rfl
  have hcon := AnyQ.slices_SortFunc Tryz.laysSortFunc 2 Tryz.isAgg90 Tryz.sizeOf90 encS (fun _ => rfl) (fun x v hv => by simp [encS] at hv; rcases hv with rfl | rfl <;> rfl) cfS swoS 210 #[] g 0 cap l.toArray w eg (fun _ _ _ _ x y => closure_any x y _) hH (Array.getElem?_eq_some_iff.1 hb).1 (by simp; omega)
  change Calls Tryz.prog 209 #[.slice (some ⟨g, 0, none⟩) l.length cap, _] _ _ at hcon
  refine hcon.mono ?_
  rintro e w' ⟨rfl, d', n, os, hp, hs, rfl⟩
  have hsize : d'.size = l.length := by simpa using hp.1
  have hml : d'.toList.length = l.length := by simpa using hsize
  have hpm : d'.toList.Perm l := by
   have h := hp.2.2
   simpa [Array.extract_eq_self_of_le, hsize] using h
  have hd : d'.toList.toArray = d' := by simp
  refine ⟨rfl, d'.toList, hpm, ?_, ?_, app_below (Below.refl _ _) hB ho (grownBy_sortedS d')⟩
  ·rw [List.pairwise_iff_getElem]
   intro i j hi hj hij
   have h := hs i j (Nat.zero_le _) hij (by simpa [hsize] using hj)
   rw [ltS] at h
   simp at hi hj
   simp [hi, hj] at h
   simpa using h
  ·rw [hml]
   refine ⟨by rw [sps_len, hml], .inr ⟨g, cap, _, rfl, hg, heap_sortedS d' hb, hn, hcm, by simp [putCells, hsz], ?_⟩⟩
   have := take_putS cur d'.toList (by rw [hml, hsz]; exact Nat.mul_le_mul_right _ hn)
   rw [hd, hml] at this
   exact this
end Go.Proofs.YtapacckmgmdnoaaGreat
namespace Go.Proofs.YtapacckmgmdnoaaGreat
open Go.RowKit
set_option linter.unusedVariables false
set_option maxRecDepth 100000
set_option maxRecDepth 100000
theorem step_own {P : Program} {w : World} {ops : Array Oper} {o : Oper} {a : Act} {K : Act → World → Prop} {Q : Exit → Act → World → Prop} {E : Prop} (hgd : o.guard = none) (s x : Operand) (t : TypeId)
  (ho : o.op = .call { callee := .builtin .append, args := #[s, x], argTypes := #[t, t] })
  (base : Nat) (e : TypeId) (i : TypeInfo) (z : Value) (size bytes : Nat) (ht : P.underlying t = some (.slice e)) (hi : P.info? e = some i) (hz : i.zero = some z)
  (hsize : i.size = size) (hby : i.bytes = bytes) (hzs : z.cells.size = size) (hsz : 0 < size)
  (v : Value) (n : Nat) (xs : List Value) (hs : a.eval s = v) (hown : w.ownsRow base e size v n xs)
  (ad : Addr) (m c : Nat) (news : List Value) (hx : a.eval x = .slice (some ad) m c) (hl : news.length = m * size) (hnews : ∀ j u, news[j]? = some u → w.cell? (ad.add j) = some u) (h1 : ∀ u ∈ news, u.oneCell' = true)
  (h63 : n + m ≤ maxLen) (hbytes : (n + m) * bytes ≤ 140737488355328) (hbase : base ≤ w.heap.size)
  (h : ∀ v' w', w'.ownsRow base e size v' (n + m) (xs ++ news) → w.grownBy w' v.ownBlock → K (a.put o.dst v') w') :
  if Region.wanted o (yielded ops a.tmps) = true then Oper.wp P o a w K Q else E := by
 have hw : Region.wanted o (yielded ops a.tmps) = true := by simp [Region.wanted, hgd]
 rw [if_pos hw]
 exact wp_append_own w s x t ho base e i z size bytes ht hi hz hsize hby hzs hsz v n xs hs hown ad m c news hx hl hnews h1 h63 hbytes hbase fun v' w' h2 h3 _ => h v' w' h2 h3
end Go.Proofs.YtapacckmgmdnoaaGreat
namespace Go.Proofs.YtapacckmgmdnoaaGreat
open Go.RowKit Go.Proofs
set_option linter.unusedVariables false
set_option maxRecDepth 100000
set_option maxRecDepth 100000
def clampN (n l m : Nat → Int) (i : Nat) : Int := min (max (n i) (l i)) (m i)
def wiB (n l m : Nat → Int) : Bool := (clampN n l m 0 == n 0) && ((clampN n l m 1 == n 1) && ((clampN n l m 2 == n 2) && (clampN n l m 3 == n 3)))
end Go.Proofs.YtapacckmgmdnoaaGreat
