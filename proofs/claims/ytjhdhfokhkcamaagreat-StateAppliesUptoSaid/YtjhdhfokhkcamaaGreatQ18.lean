/- Texts of mine, one behind the other, of each what is wanted. -/
import Derived.Test.YtjhdhfokhkcamaaGreatQ00
import Derived.Test.YtjhdhfokhkcamaaGreatShelf
import Derived.Test.YtjhdhfokhkcamaaGreatQ01
import Derived.Test.YtjhdhfokhkcamaaGreatQ02
import Derived.Test.YtjhdhfokhkcamaaGreatQ03
import Derived.Test.YtjhdhfokhkcamaaGreatQ05
import Derived.Test.YtjhdhfokhkcamaaGreatQ09
import Derived.Test.YtjhdhfokhkcamaaGreatQ10
import Derived.Test.YtjhdhfokhkcamaaGreatQ11
import Derived.Test.YtjhdhfokhkcamaaGreatQ13
import Derived.Test.YtjhdhfokhkcamaaGreatQ14
import Derived.Test.YtjhdhfokhkcamaaGreatQ17
import Derived.Test.YtjhdhfokhkcamaaGreatTQ
namespace Go.Proofs.YtjhdhfokhkcamaaGreat
open Go.RowKit
set_option linter.unusedVariables false
set_option maxRecDepth 100000
set_option maxRecDepth 100000
theorem results_tmp_cell_tmp {fn : Func} {p u v : Tmp} {ty : TypeId} (h : fn.results = #[.tmp u, .cell p ty, .tmp v]) (tmps : Array Value) (P : Program) (w : World) :
  (results fn tmps).run P w = ((asAddr (tmps.getD p undef)).run P w).andThen fun a w₁ => ((loadVar ty a).run P w₁).andThen fun x w₂ => .ok (.tuple #[tmps.getD u undef, x, tmps.getD v undef]) w₂ := by
 simp only [results, h]
 simp [Sem.run_bind, Result.andThen]
 try (split <;> simp)
 all_goals try (split <;> simp)
def setO (W : World) (g : Nat) (a b c d : Value) : World := (((W.setCell ⟨g, 0, none⟩ a).setCell ⟨g, 1, none⟩ b).setCell ⟨g, 2, none⟩ c).setCell ⟨g, 3, none⟩ d
structure Zb (w : World) (g : Nat) (a b c d : Value) (t : TypeId) (W : World) : Prop where
 blk : W.heap[g]? = some (.cells #[a, b, c, d] t (0, 0))
 ge : w.heap.size ≤ g
 frame : Below w.heap.size w W
section
variable {w W W' : World} {g : Nat} {a b c d : Value} {t : TypeId}
theorem Zb.lt (h : Zb w g a b c d t W) : g < W.heap.size := heap_lt h.blk
theorem Zb.below (h : Zb w g a b c d t W) (q : Below W.heap.size W W') : Zb w g a b c d t W' := ⟨(q.block g h.lt).trans h.blk, h.ge, h.frame.trans (q.mono h.frame.size)⟩
theorem Zb.alloc (h : Zb w g a b c d t W) (o : Obj) : Zb w g a b c d t (W.alloc o) := h.below (below_one _ _)
theorem Zb.drew (h : Zb w g a b c d t W) : Zb w g a b c d t W.drew := h.below (Below.refl _ _).drew
theorem Zb.new (w : World) (a b c d : Value) (t : TypeId) : Zb w w.heap.size a b c d t (w.alloc (.cells #[a, b, c, d] t)) := ⟨heap_alloc_new w _, Nat.le_refl _, below_one _ _⟩
theorem Zb.cells (h : Zb w g a b c d t W) : W.cell? ⟨g, 0, none⟩ = some a ∧ W.cell? ⟨g, 1, none⟩ = some b ∧ W.cell? ⟨g, 2, none⟩ = some c ∧ W.cell? ⟨g, 3, none⟩ = some d := cells4 h.blk
theorem Zb.free (h : Zb w g a b c d t W) : W.frozen? ⟨g, 0, none⟩ = false ∧ W.frozen? ⟨g, 1, none⟩ = false ∧ W.frozen? ⟨g, 2, none⟩ = false ∧ W.frozen? ⟨g, 3, none⟩ = false :=
 ⟨frozen_of_row _ _ 0 _ _ h.blk, frozen_of_row _ _ 1 _ _ h.blk, frozen_of_row _ _ 2 _ _ h.blk, frozen_of_row _ _ 3 _ _ h.blk⟩
theorem Zb.set (h : Zb w g a b c d t W) (x y z v : Value) : Below w.heap.size w (setO W g x y z v) :=
 (((h.frame.setCell (p := ⟨g, 0, none⟩) h.ge x).setCell (p := ⟨g, 1, none⟩) h.ge y).setCell (p := ⟨g, 2, none⟩) h.ge z).setCell (p := ⟨g, 3, none⟩) h.ge v
theorem Zb.there (h : Zb w g a b c d t W) : W.there g 0 4 := fun j hj => by
 rw [Nat.zero_add]
 refine ⟨?_, frozen_of_row _ _ _ _ _ h.blk⟩
 rw [cell_of_row _ _ _ _ _ (0, 0) h.blk, Array.getElem?_eq_getElem (by simpa using hj)]
 rfl
theorem setO_cell (W : World) (g : Nat) (x y z v : Value) {p : Addr} (h : p.block ≠ g) : (setO W g x y z v).cell? p = W.cell? p := by
 unfold setO World.cell?
 rw [Below.heap_setCell _ _ _ _ h, Below.heap_setCell _ _ _ _ h, Below.heap_setCell _ _ _ _ h, Below.heap_setCell _ _ _ _ h]
theorem setO_size (W : World) (g : Nat) (x y z v : Value) : (setO W g x y z v).heap.size = W.heap.size := by
 unfold setO
 simp [World.setCell]
theorem OpSl.setO {l : List OpM} {A : Option Addr} (h : OpSl W A l) (g : Nat) (x y z v : Value) (hg : ∀ b o, A = some ⟨b, o, none⟩ → b ≠ g) : OpSl (setO W g x y z v) A l := fun k hk => by
 obtain ⟨b, off, e, hlt, h0, h1, h2, h3⟩ := h k hk
 have hne := hg b off e
 exact ⟨b, off, e, by rw [setO_size]; exact hlt, (setO_cell W g x y z v (p := ⟨b, off + k * 4, none⟩) hne).trans h0, (setO_cell W g x y z v (p := ⟨b, off + k * 4 + 1, none⟩) hne).trans h1, (setO_cell W g x y z v (p := ⟨b, off + k * 4 + 2, none⟩) hne).trans h2, (setO_cell W g x y z v (p := ⟨b, off + k * 4 + 3, none⟩) hne).trans h3⟩
end
theorem infoOpR4 : (Tryz.prog.info? 75).map (·.size) = some 4 := by kernel_rfl
section
variable {w W : World} {g : Nat} {a b c d : Value} {t : TypeId}
theorem Zb.loadR (h : Zb w g a b c d t W) (x y z v : Value) : (loadVar 75 ⟨g, 0, none⟩).run Tryz.prog (setO W g x y z v) = .ok (.agg #[x, y, z, v]) (setO W g x y z v) :=
 run_loadVar_mid (P := Tryz.prog) (W.setCells g 0 [x, y, z, v]) g 0 75 [x, y, z, v] _ (World.rangeAt_setCells_same _ _ _ _ h.there) Tryz.underlying75 rfl infoOpR4
theorem Zb.loadS (h : Zb w g a b c d t W) (x y z v : Value) : (loadVar 86 ⟨g, 0, none⟩).run Tryz.prog (setO W g x y z v) = .ok (.agg #[x, y, z, v]) (setO W g x y z v) :=
 run_loadVar_mid (P := Tryz.prog) (W.setCells g 0 [x, y, z, v]) g 0 86 [x, y, z, v] _ (World.rangeAt_setCells_same _ _ _ _ h.there) Tryz.underlying86 rfl infoStay4
theorem Zb.loadT (h : Zb w g a b c d t W) (x y z v : Value) : (loadVar 135 ⟨g, 0, none⟩).run Tryz.prog (setO W g x y z v) = .ok (.agg #[x, y, z, v]) (setO W g x y z v) :=
 run_loadVar_mid (P := Tryz.prog) (W.setCells g 0 [x, y, z, v]) g 0 135 [x, y, z, v] _ (World.rangeAt_setCells_same _ _ _ _ h.there) Tryz.underlying135 rfl infoStayR4
end
set_option maxHeartbeats 2000000 in
theorem find_any (a : Option Addr) (c : Nat) (l : List OpM) (n : Int) (u : ByteArray) (w : World) (hr : OpSl w a l) (hl : l.length ≤ 1000000) :
  Calls Tryz.prog 163 #[.slice a l.length c, .int .i64 n, .string u] w fun e w' => e = .returned (.tuple #[.int .i64 (findP l n u : Nat), .int .i64 (findC l n u)]) ∧ Below w.heap.size w w' := by
 have HR := Lib.hid hr
 clear hr
 have HM := Lib.hid (fun (h : IsFst (hasN n) l l.length) => fc_miss h u)
 have HU := Lib.hid (fun k (h : IsFst (hasN n) l k) (hk : k < l.length) (hu : ¬ l[k].u = u) => fc_user h hk hu)
 have HH := Lib.hid (fun k (h : IsFst (hasN n) l k) (hk : k < l.length) (hu : l[k].u = u) => fc_hit h hk hu)
 generalize findP l n u = P at *
 generalize findC l n u = C at *
 go_enter Tryz.func163, Tryz.ntmps163
 go_wp2
 go_step3
 go_wp2
 go_step3
 go_wp2
 go_loopw [8, 9, 14] (fun p q i wr => ∃ (j : Nat), j ≤ l.length ∧ p = .int .i64 0 ∧ q = .int .i64 101 ∧ i = .int .i64 j ∧ Hid (LoTo (hasN n) l j) ∧ Hid (Below w.heap.size w wr)) (fun _ _ i _ => l.length - (intOf i).toNat)
 case atStart => exact ⟨0, by omega, rfl, rfl, rfl, LoTo.zero _ _, Below.refl _ _⟩
 case round =>
  obtain ⟨j, hj, rfl, rfl, rfl, HO, HB⟩ := hrel
  by_cases hjl : j < l.length
  ·obtain ⟨b, off, rfl, hbl, hc0, hc1, hc2, hc3⟩ := (HR.out.below HB.out).at_ hjl
   have HNX := Lib.hid (HO.out.next hjl)
   have HHT := Lib.hid (fun h => HH.out j (HO.out.hit hjl h) hjl)
   have HHU := Lib.hid (fun h => HU.out j (HO.out.hit hjl h) hjl)
   have HB2 := Lib.hid (HB.out.trans ((below_one wr (.cells #[.int .i64 l[j].n, .string l[j].u, .int .i64 l[j].s, .int .i64 l[j].f] 112)).mono HB.out.size))
   generalize l[j] = x at *
   clear HM HU HH
   obtain ⟨xn, xu, xs, xf⟩ := x
   dsimp only at *
   by_cases h1 : xn = n
   ·subst h1
    have d1 : (xn != xn) = false := by simp
    have d1' : (xn == xn) = true := beq_self_eq_true _
    by_cases h2 : xu = u
    ·subst h2
     have d2 := txt_ns xu
     have d2' := txt_eq xu
     obtain ⟨e1, _, e3⟩ := HHT.out (decide_eq_true rfl) rfl
     subst e1 e3
     clear HNX HHT HHU HO
     go_wp2
     try rw [Exit.noGoto_ret]
     go_ret2
     exact ⟨by trivial, HB2.out⟩
    ·have d2 := txt_nt h2
     have d2' := txt_ne h2
     obtain ⟨e1, _, e3⟩ := HHU.out (decide_eq_true rfl) h2
     subst e1 e3
     clear HNX HHT HHU HO
     go_wp2
     try rw [Exit.noGoto_ret]
     go_ret2
     exact ⟨by trivial, HB2.out⟩
   ·have d1 : (xn != n) = true := by simp [h1]
    have d1' : (xn == n) = false := beq_eq_false_iff_ne.2 h1
    have HN := Lib.hid (HNX.out (decide_eq_false h1))
    clear HNX HHT HHU HO
    go_wp2
    go_roundw
    case rel => exact ⟨j + 1, by omega, rfl, rfl, by go_num, HN, HB2.out⟩
    case measure => simp [intOf]; omega
  ·obtain rfl : j = l.length := by omega
   obtain ⟨e1, _, e3⟩ := HM.out HO.out.miss
   subst e1 e3
   go_wp2
   try rw [Exit.noGoto_ret]
   go_ret2
   exact ⟨by trivial, HB.out⟩
end Go.Proofs.YtjhdhfokhkcamaaGreat
namespace Go.Proofs.YtjhdhfokhkcamaaGreat
open Go.RowKit Go.Proofs
set_option linter.unusedVariables false
set_option maxRecDepth 100000
theorem infoUs : (Tryz.prog.info? 89).map (fun i => (i.zero, i.size, i.bytes)) = some (some (.agg #[.string ⟨#[]⟩, .slice none 0 0]), 2, 40) := by kernel_rfl
theorem infoTb : (Tryz.prog.info? 87).map (fun i => (i.zero, i.size, i.bytes)) = some (some (.agg #[.string ⟨#[]⟩, .int .i64 0]), 2, 24) := by kernel_rfl
theorem infoUsR : (Tryz.prog.info? 77).map (fun i => (i.zero, i.size, i.bytes)) = some (some (.agg #[.string ⟨#[]⟩, .slice none 0 0]), 2, 40) := by kernel_rfl
theorem infoTbR : (Tryz.prog.info? 69).map (fun i => (i.zero, i.size, i.bytes)) = some (some (.agg #[.string ⟨#[]⟩, .int .i64 0]), 2, 24) := by kernel_rfl
set_option maxHeartbeats 1000000 in
theorem clone_op (a : Option Addr) (c : Nat) (l : List OpM) (w : World) (hr : OpSl w a l) (hc : Cp a l.length c) (hl : l.length ≤ 100000) :
  Calls Tryz.prog 116 #[.slice a l.length c] w fun e w' => ∃ v, e = .returned v ∧ w'.ownsRow w.heap.size 112 4 v l.length (oes l) ∧ Below w.heap.size w w' := by
 obtain ⟨i0, hi, hz0, hz1, hz2⟩ := info_parts infoOp
 have q22 : ∀ (W : World) (a : Option Addr) (n c n' c' : Nat), (binOp .eql 33 (.slice a n c) (.slice none n' c')).run Tryz.prog W = .ok (.bool a.isNone) W := fun W a n c n' c' => Lib.run_eql_slice_nil W _ _ a n c n' c' Tryz.underlying33
 cases a with
 | none =>
  have hc0 := hc.nil rfl
  subst hc0
  have hl0 : l = [] := List.eq_nil_of_length_eq_zero (by have := hc.le; omega)
  subst hl0
  clear hr hc
  go_enter Tryz.func116, Tryz.ntmps116
  go_wp2
  go_ret
  exact ⟨_, rfl, ⟨rfl, .inl ⟨rfl, rfl⟩⟩, Below.refl _ _⟩
 | some ad =>
  have HO := Lib.hid (own_emptyO w 112 4 w.heap.size (Nat.le_refl _))
  have HB := Lib.hid (below_one w (.cells #[] 112))
  have HX1 := Lib.hid (hr.below HB.out)
  clear hr hc
  go_enter Tryz.func116, Tryz.ntmps116
  go_wp2_with (at_builtin; refine wpList_append_op _ rfl (.tmp 5) (.tmp 6) 33 rfl w.heap.size 112 i0 _ Tryz.underlying33 hi hz0 hz1 hz2 rfl _ [] rfl HO.out (some ad) c l rfl HX1.out (fun h => by cases h) (by simpa using (show l.length ≤ 1000000 by omega)) HB.out.size ?_; intro v2 w2 hown2 hB2)
  have HO2 := Lib.hid hown2
  have HB2 := Lib.hid (HB.out.trans hB2)
  clear hown2 hB2
  go_wp2
  go_ret
  exact ⟨_, rfl, (by have ho := HO2.out; rw [List.nil_append] at ho; exact ho), HB2.out⟩
set_option maxHeartbeats 1000000 in
theorem clone_en (a : Option Addr) (c : Nat) (l : List EnM) (w : World) (hr : EnSl w a l) (hc : Cp a l.length c) (hl : l.length ≤ 100000) :
  Calls Tryz.prog 117 #[.slice a l.length c] w fun e w' => ∃ v, e = .returned v ∧ w'.ownsRow w.heap.size 123 4 v l.length (ens l) ∧ Below w.heap.size w w' := by
 obtain ⟨i0, hi, hz0, hz1, hz2⟩ := info_parts infoEn
 have q22 : ∀ (W : World) (a : Option Addr) (n c n' c' : Nat), (binOp .eql 35 (.slice a n c) (.slice none n' c')).run Tryz.prog W = .ok (.bool a.isNone) W := fun W a n c n' c' => Lib.run_eql_slice_nil W _ _ a n c n' c' Tryz.underlying35
 cases a with
 | none =>
  have hc0 := hc.nil rfl
  subst hc0
  have hl0 : l = [] := List.eq_nil_of_length_eq_zero (by have := hc.le; omega)
  subst hl0
  clear hr hc
  go_enter Tryz.func117, Tryz.ntmps117
  go_wp2
  go_ret
  exact ⟨_, rfl, ⟨rfl, .inl ⟨rfl, rfl⟩⟩, Below.refl _ _⟩
 | some ad =>
  have HO := Lib.hid (own_emptyO w 123 4 w.heap.size (Nat.le_refl _))
  have HB := Lib.hid (below_one w (.cells #[] 123))
  have HX1 := Lib.hid (hr.below HB.out)
  clear hr hc
  go_enter Tryz.func117, Tryz.ntmps117
  go_wp2_with (at_builtin; refine wpList_append_en _ rfl (.tmp 5) (.tmp 6) 35 rfl w.heap.size 123 i0 _ Tryz.underlying35 hi hz0 hz1 hz2 rfl _ [] rfl HO.out (some ad) c l rfl HX1.out (fun h => by cases h) (by simpa using (show l.length ≤ 1000000 by omega)) HB.out.size ?_; intro v2 w2 hown2 hB2)
  have HO2 := Lib.hid hown2
  have HB2 := Lib.hid (HB.out.trans hB2)
  clear hown2 hB2
  go_wp2
  go_ret
  exact ⟨_, rfl, (by have ho := HO2.out; rw [List.nil_append] at ho; exact ho), HB2.out⟩
set_option maxHeartbeats 1000000 in
theorem clone_st (a : Option Addr) (c : Nat) (l : List StM) (w : World) (hr : StSl w a l) (hc : Cp a l.length c) (hl : l.length ≤ 100000) :
  Calls Tryz.prog 88 #[.slice a l.length c] w fun e w' => ∃ v, e = .returned v ∧ w'.ownsRow w.heap.size 86 4 v l.length (sts l) ∧ Below w.heap.size w w' := by
 obtain ⟨i0, hi, hz0, hz1, hz2⟩ := info_parts infoStay
 have q22 : ∀ (W : World) (a : Option Addr) (n c n' c' : Nat), (binOp .eql 60 (.slice a n c) (.slice none n' c')).run Tryz.prog W = .ok (.bool a.isNone) W := fun W a n c n' c' => Lib.run_eql_slice_nil W _ _ a n c n' c' Tryz.underlying60
 cases a with
 | none =>
  have hc0 := hc.nil rfl
  subst hc0
  have hl0 : l = [] := List.eq_nil_of_length_eq_zero (by have := hc.le; omega)
  subst hl0
  clear hr hc
  go_enter Tryz.func88, Tryz.ntmps88
  go_wp2
  go_ret
  exact ⟨_, rfl, ⟨rfl, .inl ⟨rfl, rfl⟩⟩, Below.refl _ _⟩
 | some ad =>
  have HO := Lib.hid (own_emptyO w 86 4 w.heap.size (Nat.le_refl _))
  have HB := Lib.hid (below_one w (.cells #[] 86))
  have HX1 := Lib.hid (hr.below HB.out)
  clear hr hc
  go_enter Tryz.func88, Tryz.ntmps88
  go_wp2_with (at_builtin; refine wpList_append_st _ rfl (.tmp 5) (.tmp 6) 60 rfl w.heap.size 86 i0 _ Tryz.underlying60 hi hz0 hz1 hz2 rfl _ [] rfl HO.out (some ad) c l rfl HX1.out (fun h => by cases h) (by simpa using (show l.length ≤ 1000000 by omega)) HB.out.size ?_; intro v2 w2 hown2 hB2)
  have HO2 := Lib.hid hown2
  have HB2 := Lib.hid (HB.out.trans hB2)
  clear hown2 hB2
  go_wp2
  go_ret
  exact ⟨_, rfl, (by have ho := HO2.out; rw [List.nil_append] at ho; exact ho), HB2.out⟩
set_option maxHeartbeats 1000000 in
theorem pclone_us (a : Option Addr) (c : Nat) (l : List (Value × Value)) (h1 : OneP l) (w : World) (hr : PpSl w a l) (hc : Cp a l.length c) (hl : l.length ≤ 100000) :
  Calls Tryz.prog 119 #[.slice a l.length c] w fun e w' => ∃ v, e = .returned v ∧ w'.ownsRow w.heap.size 89 2 v l.length (pps l) ∧ Below w.heap.size w w' := by
 obtain ⟨i0, hi, hz0, hz1, hz2⟩ := info_parts infoUs
 have q22 : ∀ (W : World) (a : Option Addr) (n c n' c' : Nat), (binOp .eql 34 (.slice a n c) (.slice none n' c')).run Tryz.prog W = .ok (.bool a.isNone) W := fun W a n c n' c' => Lib.run_eql_slice_nil W _ _ a n c n' c' Tryz.underlying34
 cases a with
 | none =>
  have hc0 := hc.nil rfl
  subst hc0
  have hl0 : l = [] := List.eq_nil_of_length_eq_zero (by have := hc.le; omega)
  subst hl0
  clear hr hc
  go_enter Tryz.func119, Tryz.ntmps119
  go_wp2
  go_ret
  exact ⟨_, rfl, ⟨rfl, .inl ⟨rfl, rfl⟩⟩, Below.refl _ _⟩
 | some ad =>
  have HO := Lib.hid (own_emptyO w 89 2 w.heap.size (Nat.le_refl _))
  have HB := Lib.hid (below_one w (.cells #[] 89))
  have HX1 := Lib.hid (hr.below HB.out)
  clear hr hc
  go_enter Tryz.func119, Tryz.ntmps119
  go_wp2_with (at_builtin; refine wpList_append_pp _ rfl (.tmp 5) (.tmp 6) 34 rfl w.heap.size 89 i0 _ 40 Tryz.underlying34 hi hz0 hz1 hz2 (by decide) rfl _ [] rfl HO.out (some ad) c l rfl HX1.out h1 (fun h => by cases h) (by simpa using (show l.length ≤ 1000000 by omega)) HB.out.size ?_; intro v2 w2 hown2 hB2)
  have HO2 := Lib.hid hown2
  have HB2 := Lib.hid (HB.out.trans hB2)
  clear hown2 hB2
  go_wp2
  go_ret
  exact ⟨_, rfl, (by have ho := HO2.out; rw [List.nil_append] at ho; exact ho), HB2.out⟩
set_option maxHeartbeats 1000000 in
theorem pclone_tb (a : Option Addr) (c : Nat) (l : List (Value × Value)) (h1 : OneP l) (w : World) (hr : PpSl w a l) (hc : Cp a l.length c) (hl : l.length ≤ 100000) :
  Calls Tryz.prog 118 #[.slice a l.length c] w fun e w' => ∃ v, e = .returned v ∧ w'.ownsRow w.heap.size 87 2 v l.length (pps l) ∧ Below w.heap.size w w' := by
 obtain ⟨i0, hi, hz0, hz1, hz2⟩ := info_parts infoTb
 have q22 : ∀ (W : World) (a : Option Addr) (n c n' c' : Nat), (binOp .eql 36 (.slice a n c) (.slice none n' c')).run Tryz.prog W = .ok (.bool a.isNone) W := fun W a n c n' c' => Lib.run_eql_slice_nil W _ _ a n c n' c' Tryz.underlying36
 cases a with
 | none =>
  have hc0 := hc.nil rfl
  subst hc0
  have hl0 : l = [] := List.eq_nil_of_length_eq_zero (by have := hc.le; omega)
  subst hl0
  clear hr hc
  go_enter Tryz.func118, Tryz.ntmps118
  go_wp2
  go_ret
  exact ⟨_, rfl, ⟨rfl, .inl ⟨rfl, rfl⟩⟩, Below.refl _ _⟩
 | some ad =>
  have HO := Lib.hid (own_emptyO w 87 2 w.heap.size (Nat.le_refl _))
  have HB := Lib.hid (below_one w (.cells #[] 87))
  have HX1 := Lib.hid (hr.below HB.out)
  clear hr hc
  go_enter Tryz.func118, Tryz.ntmps118
  go_wp2_with (at_builtin; refine wpList_append_pp _ rfl (.tmp 5) (.tmp 6) 36 rfl w.heap.size 87 i0 _ 24 Tryz.underlying36 hi hz0 hz1 hz2 (by decide) rfl _ [] rfl HO.out (some ad) c l rfl HX1.out h1 (fun h => by cases h) (by simpa using (show l.length ≤ 1000000 by omega)) HB.out.size ?_; intro v2 w2 hown2 hB2)
  have HO2 := Lib.hid hown2
  have HB2 := Lib.hid (HB.out.trans hB2)
  clear hown2 hB2
  go_wp2
  go_ret
  exact ⟨_, rfl, (by have ho := HO2.out; rw [List.nil_append] at ho; exact ho), HB2.out⟩
structure PpR where
 a : Option Addr
 l : List (Value × Value)
 c : Nat
def pprV (r : PpR) : Value := .slice r.a r.l.length r.c
def catP (R : List PpR) : List (Value × Value) := R.flatMap (·.l)
theorem catP_take (R : List PpR) (j : Nat) (h : j < R.length) : catP (R.take (j + 1)) = catP (R.take j) ++ R[j].l := by
 unfold catP
 rw [List.take_succ_eq_append_getElem h, List.flatMap_append]
 simp
theorem catP_le (R : List PpR) (j : Nat) : (catP (R.take j)).length ≤ (catP R).length := by
 have : catP R = catP (R.take j) ++ catP (R.drop j) := by
  unfold catP
  rw [← List.flatMap_append, List.take_append_drop]
 rw [this, List.length_append]
 omega
def PpRAt (w : World) (r : PpR) : Prop := PpSl w r.a r.l ∧ OneP r.l ∧ (r.a = none → r.c = 0)
theorem prows_at {w : World} {a : Option Addr} {R : List PpR} (h : Sl w a (R.map pprV)) {k : Nat} (hk : k < R.length) : ∃ b off, a = some ⟨b, off, none⟩ ∧ b < w.heap.size ∧ w.cell? ⟨b, off + k, none⟩ = some (pprV R[k]) := by
 obtain ⟨b, off, e, hlt, hc⟩ := h k (by simpa using hk)
 exact ⟨b, off, e, hlt, by rw [hc]; simp⟩
theorem pgrow_us (n : Nat) (w : World) (hn : n ≤ 1000000) : Calls Tryz.prog 214 #[.slice none 0 0, .int .i64 n] w fun e w' => ∃ v, e = .returned v ∧ w'.ownsRow w.heap.size 89 2 v 0 [] ∧ Below w.heap.size w w' := by
 obtain ⟨i0, hi, hz0, hz1, hz2⟩ := info_parts infoUs
 rcases Nat.eq_zero_or_pos n with h0 | h0
 ·subst h0
  have h := Any8.slices_Grow_room Tryz.laysGrowUs none 0 0 0 w (by omega) (by omega) (by omega) (by omega)
  refine Calls.mono h ?_
  rintro e w' ⟨rfl, rfl⟩
  exact ⟨_, rfl, ⟨rfl, .inl ⟨rfl, rfl⟩⟩, Below.refl _ _⟩
 ·have h := Any8.slices_Grow_grow Tryz.laysGrowUs i0 _ hi hz0 (by rw [hz1]; omega) none 0 0 n [] w (by omega) (by omega) (by rw [hz2]; omega) (by omega) (by simp) (fun _ => rfl) (fun a h => by cases h)
  refine Calls.mono h ?_
  rintro e w' ⟨rfl, rfl⟩
  have hge := grownCap_ge w (0 + n) 0 89
  have hle := grownCap_le_maxLen w (0 + n) 0 89 (by unfold maxLen; omega)
  refine ⟨_, rfl, ⟨rfl, .inr ⟨w.heap.size, _, _, rfl, Nat.le_refl _, heap_alloc_new w.drew _, Nat.zero_le _, hle, ?_, by simp⟩⟩, ?_⟩
  ·simp only [Array.size_append, size_zeroCells]
   show 0 + (0 + n - 0) * 2 + (grownCap w (0 + n) 0 89 - (0 + n)) * 2 = grownCap w (0 + n) 0 89 * 2
   omega
  ·exact (Below.refl w.heap.size w).drew.alloc (Nat.le_refl _) _
set_option maxHeartbeats 1000000 in
theorem pconcat_us (a : Option Addr) (c : Nat) (R : List PpR) (w : World) (hr : Sl w a (R.map pprV)) (hR : ∀ r ∈ R, PpRAt w r) (hl : R.length ≤ 100000) (hs : (catP R).length ≤ 100000) :
  Calls Tryz.prog 191 #[.slice a R.length c] w fun e w' => ∃ v, e = .returned v ∧ w'.ownsRow w.heap.size 89 2 v (catP R).length (pps (catP R)) ∧ Below w.heap.size w w' := by
 obtain ⟨i0, hi, hz0, hz1, hz2⟩ := info_parts infoUs
 have HR := Lib.hid hr
 have HRR := Lib.hid hR
 have HG := Lib.hid (pgrow_us (catP R).length w (by omega))
 clear hr hR
 go_enter Tryz.func191, Tryz.ntmps191
 go_wp2
 go_loopw [3, 11] (fun v i wr => ∃ (j s : Nat), j ≤ R.length ∧ i = .int .i64 j ∧ v = .int .i64 s ∧ s ≤ 100000 ∧ Hid (s = (catP (R.take j)).length) ∧ wr = w) (fun _ i _ => R.length - (intOf i).toNat)
 case atStart => exact ⟨0, 0, by omega, rfl, rfl, by omega, rfl, rfl⟩
 case round =>
  obtain ⟨j, s, hj, rfl, rfl, hs1, HS, hw⟩ := hrel
  obtain rfl : w = wr := hw.symm
  clear hw
  by_cases hjl : j < R.length
  ·obtain ⟨b, off, rfl, hbl, hc0⟩ := prows_at HR.out hjl
   have HN := Lib.hid (catP_take R j hjl)
   have hle := catP_le R (j + 1)
   rw [HN.out, List.length_append, ← HS.out] at hle
   generalize R[j] = x at *
   unfold pprV at hc0
   obtain ⟨xa, xl, xc⟩ := x
   simp only at hc0 hle HN
   have hsum : s + xl.length ≤ 100000 := by omega
   clear hle
   go_wp2
   go_roundw
   case rel => exact ⟨j + 1, s + xl.length, by omega, by go_num, by go_num, hsum, (by unfold Hid; rw [HN.out, List.length_append, ← HS.out]), (by first | rfl | trivial)⟩
   case measure => simp [intOf]; omega
  ·obtain rfl : j = R.length := by omega
   rw [List.take_of_length_le (Nat.le_refl _)] at HS
   have HS2 := HS.out
   subst HS2
   go_wp2_with fail
   refine HG.out.mono ?_
   rintro e w1 ⟨v, rfl, ho, hb⟩
   have HO := Lib.hid ho
   have HB := Lib.hid hb
   clear ho hb HG HS
   go_wp2
   go_loopw [6, 27] (fun v i wx => ∃ (j : Nat), j ≤ R.length ∧ i = .int .i64 j ∧ Hid (wx.ownsRow w.heap.size 89 2 v (catP (R.take j)).length (pps (catP (R.take j)))) ∧ Hid (Below w.heap.size w wx)) (fun _ i _ => R.length - (intOf i).toNat)
   case atStart => exact ⟨0, by omega, rfl, HO.out, HB.out⟩
   case round =>
    obtain ⟨j, hj, rfl, HO, HB⟩ := hrel
    by_cases hjl : j < R.length
    ·obtain ⟨b, off, rfl, hbl, hc0⟩ := prows_at (HR.out.below HB.out) hjl
     have HN := Lib.hid (catP_take R j hjl)
     have hle := catP_le R (j + 1)
     have hle2 := catP_le R j
     rw [HN.out, List.length_append] at hle
     have HX := Lib.hid (HRR.out _ (List.getElem_mem hjl))
     generalize R[j] = x at *
     unfold pprV at hc0
     obtain ⟨xa, xl, xc⟩ := x
     simp only at hc0 hle HN
     obtain ⟨hx1, hx3, hx2⟩ := HX.out
     simp only at hx1 hx2 hx3
     have HX1 := Lib.hid (hx1.below HB.out)
     have HX2 := Lib.hid hx2
     have HX3 := Lib.hid hx3
     generalize hct : catP (R.take j) = ct at *
     have hsum : ct.length + xl.length ≤ 1000000 := by omega
     clear hle hle2 hx1 hx2 hx3 HX hct
     go_wp2_with (at_builtin; refine wpList_append_pp _ rfl (.tmp 31) (.tmp 32) 34 rfl w.heap.size 89 i0 _ 40 Tryz.underlying34 hi hz0 hz1 hz2 (by decide) rfl _ ct rfl HO.out xa xc xl rfl HX1.out HX3.out HX2.out hsum HB.out.size ?_; intro v2 w2 hown2 hB2)
     have HO2 := Lib.hid hown2
     have HB2 := Lib.hid (HB.out.trans hB2)
     clear hown2 hB2
     go_wp2
     go_roundw
     case rel => exact ⟨j + 1, by omega, by go_num, (by unfold Hid; rw [HN.out]; exact HO2.out), HB2⟩
     case measure => simp [intOf]; omega
    ·obtain rfl : j = R.length := by omega
     rw [List.take_of_length_le (Nat.le_refl _)] at HO
     go_wp2
     go_ret
     exact ⟨_, rfl, HO.out, HB.out⟩
theorem pgrow_tb (n : Nat) (w : World) (hn : n ≤ 1000000) : Calls Tryz.prog 216 #[.slice none 0 0, .int .i64 n] w fun e w' => ∃ v, e = .returned v ∧ w'.ownsRow w.heap.size 87 2 v 0 [] ∧ Below w.heap.size w w' := by
 obtain ⟨i0, hi, hz0, hz1, hz2⟩ := info_parts infoTb
 rcases Nat.eq_zero_or_pos n with h0 | h0
 ·subst h0
  have h := Any8.slices_Grow_room Tryz.laysGrowTb none 0 0 0 w (by omega) (by omega) (by omega) (by omega)
  refine Calls.mono h ?_
  rintro e w' ⟨rfl, rfl⟩
  exact ⟨_, rfl, ⟨rfl, .inl ⟨rfl, rfl⟩⟩, Below.refl _ _⟩
 ·have h := Any8.slices_Grow_grow Tryz.laysGrowTb i0 _ hi hz0 (by rw [hz1]; omega) none 0 0 n [] w (by omega) (by omega) (by rw [hz2]; omega) (by omega) (by simp) (fun _ => rfl) (fun a h => by cases h)
  refine Calls.mono h ?_
  rintro e w' ⟨rfl, rfl⟩
  have hge := grownCap_ge w (0 + n) 0 87
  have hle := grownCap_le_maxLen w (0 + n) 0 87 (by unfold maxLen; omega)
  refine ⟨_, rfl, ⟨rfl, .inr ⟨w.heap.size, _, _, rfl, Nat.le_refl _, heap_alloc_new w.drew _, Nat.zero_le _, hle, ?_, by simp⟩⟩, ?_⟩
  ·simp only [Array.size_append, size_zeroCells]
   show 0 + (0 + n - 0) * 2 + (grownCap w (0 + n) 0 87 - (0 + n)) * 2 = grownCap w (0 + n) 0 87 * 2
   omega
  ·exact (Below.refl w.heap.size w).drew.alloc (Nat.le_refl _) _
set_option maxHeartbeats 1000000 in
theorem pconcat_tb (a : Option Addr) (c : Nat) (R : List PpR) (w : World) (hr : Sl w a (R.map pprV)) (hR : ∀ r ∈ R, PpRAt w r) (hl : R.length ≤ 100000) (hs : (catP R).length ≤ 100000) :
  Calls Tryz.prog 200 #[.slice a R.length c] w fun e w' => ∃ v, e = .returned v ∧ w'.ownsRow w.heap.size 87 2 v (catP R).length (pps (catP R)) ∧ Below w.heap.size w w' := by
 obtain ⟨i0, hi, hz0, hz1, hz2⟩ := info_parts infoTb
 have HR := Lib.hid hr
 have HRR := Lib.hid hR
 have HG := Lib.hid (pgrow_tb (catP R).length w (by omega))
 clear hr hR
 go_enter Tryz.func200, Tryz.ntmps200
 go_wp2
 go_loopw [3, 11] (fun v i wr => ∃ (j s : Nat), j ≤ R.length ∧ i = .int .i64 j ∧ v = .int .i64 s ∧ s ≤ 100000 ∧ Hid (s = (catP (R.take j)).length) ∧ wr = w) (fun _ i _ => R.length - (intOf i).toNat)
 case atStart => exact ⟨0, 0, by omega, rfl, rfl, by omega, rfl, rfl⟩
 case round =>
  obtain ⟨j, s, hj, rfl, rfl, hs1, HS, hw⟩ := hrel
  obtain rfl : w = wr := hw.symm
  clear hw
  by_cases hjl : j < R.length
  ·obtain ⟨b, off, rfl, hbl, hc0⟩ := prows_at HR.out hjl
   have HN := Lib.hid (catP_take R j hjl)
   have hle := catP_le R (j + 1)
   rw [HN.out, List.length_append, ← HS.out] at hle
   generalize R[j] = x at *
   unfold pprV at hc0
   obtain ⟨xa, xl, xc⟩ := x
   simp only at hc0 hle HN
   have hsum : s + xl.length ≤ 100000 := by omega
   clear hle
   go_wp2
   go_roundw
   case rel => exact ⟨j + 1, s + xl.length, by omega, by go_num, by go_num, hsum, (by unfold Hid; rw [HN.out, List.length_append, ← HS.out]), (by first | rfl | trivial)⟩
   case measure => simp [intOf]; omega
  ·obtain rfl : j = R.length := by omega
   rw [List.take_of_length_le (Nat.le_refl _)] at HS
   have HS2 := HS.out
   subst HS2
   go_wp2_with fail
   refine HG.out.mono ?_
   rintro e w1 ⟨v, rfl, ho, hb⟩
   have HO := Lib.hid ho
   have HB := Lib.hid hb
   clear ho hb HG HS
   go_wp2
   go_loopw [6, 27] (fun v i wx => ∃ (j : Nat), j ≤ R.length ∧ i = .int .i64 j ∧ Hid (wx.ownsRow w.heap.size 87 2 v (catP (R.take j)).length (pps (catP (R.take j)))) ∧ Hid (Below w.heap.size w wx)) (fun _ i _ => R.length - (intOf i).toNat)
   case atStart => exact ⟨0, by omega, rfl, HO.out, HB.out⟩
   case round =>
    obtain ⟨j, hj, rfl, HO, HB⟩ := hrel
    by_cases hjl : j < R.length
    ·obtain ⟨b, off, rfl, hbl, hc0⟩ := prows_at (HR.out.below HB.out) hjl
     have HN := Lib.hid (catP_take R j hjl)
     have hle := catP_le R (j + 1)
     have hle2 := catP_le R j
     rw [HN.out, List.length_append] at hle
     have HX := Lib.hid (HRR.out _ (List.getElem_mem hjl))
     generalize R[j] = x at *
     unfold pprV at hc0
     obtain ⟨xa, xl, xc⟩ := x
     simp only at hc0 hle HN
     obtain ⟨hx1, hx3, hx2⟩ := HX.out
     simp only at hx1 hx2 hx3
     have HX1 := Lib.hid (hx1.below HB.out)
     have HX2 := Lib.hid hx2
     have HX3 := Lib.hid hx3
     generalize hct : catP (R.take j) = ct at *
     have hsum : ct.length + xl.length ≤ 1000000 := by omega
     clear hle hle2 hx1 hx2 hx3 HX hct
     go_wp2_with (at_builtin; refine wpList_append_pp _ rfl (.tmp 31) (.tmp 32) 36 rfl w.heap.size 87 i0 _ 24 Tryz.underlying36 hi hz0 hz1 hz2 (by decide) rfl _ ct rfl HO.out xa xc xl rfl HX1.out HX3.out HX2.out hsum HB.out.size ?_; intro v2 w2 hown2 hB2)
     have HO2 := Lib.hid hown2
     have HB2 := Lib.hid (HB.out.trans hB2)
     clear hown2 hB2
     go_wp2
     go_roundw
     case rel => exact ⟨j + 1, by omega, by go_num, (by unfold Hid; rw [HN.out]; exact HO2.out), HB2⟩
     case measure => simp [intOf]; omega
    ·obtain rfl : j = R.length := by omega
     rw [List.take_of_length_le (Nat.le_refl _)] at HO
     go_wp2
     go_ret
     exact ⟨_, rfl, HO.out, HB.out⟩
end Go.Proofs.YtjhdhfokhkcamaaGreat
namespace Go.Proofs.YtjhdhfokhkcamaaGreat
open Go.RowKit
set_option linter.unusedVariables false
set_option maxRecDepth 100000
set_option maxRecDepth 100000
theorem below_2 (w : World) (o p : Obj) : Below w.heap.size w ((w.alloc o).alloc p) := ((Below.refl _ _).alloc (Nat.le_refl _) _).alloc (by rw [size1]; omega) _
structure TwE (w : World) (g h : Nat) (a b : EnM) (W : World) : Prop where
 a : W.cell? ⟨g, 0, none⟩ = some (.string a.w) ∧ W.cell? ⟨g, 1, none⟩ = some (.string a.u) ∧ W.cell? ⟨g, 2, none⟩ = some (.int .i64 a.f) ∧ W.cell? ⟨g, 3, none⟩ = some (.int .i64 a.t)
 b : W.cell? ⟨h, 0, none⟩ = some (.string b.w) ∧ W.cell? ⟨h, 1, none⟩ = some (.string b.u) ∧ W.cell? ⟨h, 2, none⟩ = some (.int .i64 b.f) ∧ W.cell? ⟨h, 3, none⟩ = some (.int .i64 b.t)
 lt : g < W.heap.size ∧ h < W.heap.size
 frame : Below w.heap.size w W
theorem TwE.below {w W W' : World} {g h : Nat} {a b : EnM} (k : TwE w g h a b W) (q : Below W.heap.size W W') : TwE w g h a b W' :=
 ⟨⟨(q.cell (p := ⟨g, 0, none⟩) k.lt.1).trans k.a.1, (q.cell (p := ⟨g, 1, none⟩) k.lt.1).trans k.a.2.1, (q.cell (p := ⟨g, 2, none⟩) k.lt.1).trans k.a.2.2.1, (q.cell (p := ⟨g, 3, none⟩) k.lt.1).trans k.a.2.2.2⟩,
  ⟨(q.cell (p := ⟨h, 0, none⟩) k.lt.2).trans k.b.1, (q.cell (p := ⟨h, 1, none⟩) k.lt.2).trans k.b.2.1, (q.cell (p := ⟨h, 2, none⟩) k.lt.2).trans k.b.2.2.1, (q.cell (p := ⟨h, 3, none⟩) k.lt.2).trans k.b.2.2.2⟩,
  ⟨Nat.lt_of_lt_of_le k.lt.1 q.size, Nat.lt_of_lt_of_le k.lt.2 q.size⟩, k.frame.trans (q.mono k.frame.size)⟩
theorem TwE.new (w : World) (a b : EnM) (t t' : TypeId) : TwE w w.heap.size (w.heap.size + 1) a b ((w.alloc (.cells #[.string a.w, .string a.u, .int .i64 a.f, .int .i64 a.t] t)).alloc (.cells #[.string b.w, .string b.u, .int .i64 b.f, .int .i64 b.t] t')) := by
 have hb := below_2 w (.cells #[.string a.w, .string a.u, .int .i64 a.f, .int .i64 a.t] t) (.cells #[.string b.w, .string b.u, .int .i64 b.f, .int .i64 b.t] t')
 have h1 := heap_alloc_new w (.cells #[.string a.w, .string a.u, .int .i64 a.f, .int .i64 a.t] t)
 have z1 := size1 w (.cells #[.string a.w, .string a.u, .int .i64 a.f, .int .i64 a.t] t)
 generalize w.alloc (.cells #[.string a.w, .string a.u, .int .i64 a.f, .int .i64 a.t] t) = w1 at *
 have h2 := heap_alloc_new w1 (.cells #[.string b.w, .string b.u, .int .i64 b.f, .int .i64 b.t] t')
 have b2 := ebelow_one w1 (.cells #[.string b.w, .string b.u, .int .i64 b.f, .int .i64 b.t] t')
 have z2 := size1 w1 (.cells #[.string b.w, .string b.u, .int .i64 b.f, .int .i64 b.t] t')
 generalize w1.alloc (.cells #[.string b.w, .string b.u, .int .i64 b.f, .int .i64 b.t] t') = w2 at *
 rw [z1] at h2
 exact ⟨ecells4 ((b2.block _ (heap_lt h1)).trans h1), ecells4 h2, ⟨by omega, by omega⟩, hb⟩
theorem above_pc (a b : EnM) : (aheadE b a) ↔ (0 < pc a b ∨ (pc a b = 0 ∧ b.f < a.f)) := by
 have h := pc_neg a b
 unfold aheadE
 omega
set_option maxHeartbeats 2000000 in
theorem above_any (a b : EnM) (w : World) : Calls Tryz.prog 166 #[enV a, enV b] w fun e w' => e = .returned (.bool (decide (aheadE b a))) ∧ Below w.heap.size w w' := by
 have K0 := Lib.hid (TwE.new w a b 123 123)
 have HC := Lib.hid (fun W => pairCmp_any a.w a.u b.w b.u W)
 have HP := above_pc a b
 unfold enV
 unfold pr at HC
 have hpc : cmpP a.w a.u b.w b.u = pc a b := rfl
 rw [hpc] at HC
 generalize pc a b = c at *
 have HF : Hid (∀ x : Bool, (x = true ↔ aheadE b a) → x = decide (aheadE b a)) := fun x h => by
  cases x with
  | true => exact (decide_eq_true (h.1 rfl)).symm
  | false => exact (decide_eq_false (fun k => by cases h.2 k)).symm
 rcases Int.lt_trichotomy c 0 with h1 | h1 | h1
 ·have d1 : decide (0 < c) = false := decide_eq_false (by omega)
  have d2 : (c == 0) = false := beq_eq_false_iff_ne.2 (by omega)
  have HE := Lib.hid (HF.out false ⟨fun h => (by cases h), fun h => (by have := HP.1 h; omega)⟩)
  clear HF HP h1
  go_enter Tryz.func166, Tryz.ntmps166
  go_wp2_with fail
  refine (HC.out _).mono ?_
  rintro e w2 ⟨rfl, hB⟩
  have K1 := K0.out.below hB
  obtain ⟨a0, a1, a2, a3⟩ := K1.a
  obtain ⟨b0, b1, b2, b3⟩ := K1.b
  clear K0 HC hB
  go_wp2
  go_ret
  exact ⟨by rw [← HE.out]; rfl, K1.frame⟩
 ·subst h1
  have d1 : decide ((0 : Int) < 0) = false := rfl
  have HE := Lib.hid (HF.out (decide (b.f < a.f)) (by rw [HP, decide_eq_true_iff]; omega))
  clear HF HP
  go_enter Tryz.func166, Tryz.ntmps166
  go_wp2_with fail
  refine (HC.out _).mono ?_
  rintro e w2 ⟨rfl, hB⟩
  have K1 := K0.out.below hB
  obtain ⟨a0, a1, a2, a3⟩ := K1.a
  obtain ⟨b0, b1, b2, b3⟩ := K1.b
  clear K0 HC hB
  go_wp2
  go_ret
  exact ⟨by rw [← HE.out]; rfl, K1.frame⟩
 ·have d1 : decide (0 < c) = true := decide_eq_true (by omega)
  have HE := Lib.hid (HF.out true ⟨fun _ => HP.2 (Or.inl h1), fun _ => rfl⟩)
  clear HF HP h1
  go_enter Tryz.func166, Tryz.ntmps166
  go_wp2_with fail
  refine (HC.out _).mono ?_
  rintro e w2 ⟨rfl, hB⟩
  have K1 := K0.out.below hB
  obtain ⟨a0, a1, a2, a3⟩ := K1.a
  obtain ⟨b0, b1, b2, b3⟩ := K1.b
  clear K0 HC hB
  go_wp2
  go_ret
  exact ⟨by rw [← HE.out]; rfl, K1.frame⟩
set_option maxHeartbeats 2000000 in
theorem eahead_any (a b : EnM) (w : World) (h1 : a.w.size ≤ maxLen) (h2 : a.u.size ≤ maxLen) (h3 : b.w.size ≤ maxLen) (h4 : b.u.size ≤ maxLen) :
  Calls Tryz.prog 102 #[enV a, enV b] w fun e w' => e = .returned (.bool (decide (aheadE a b))) ∧ Below w.heap.size w w' := by
 have K0 := Lib.hid (TwE.new w a b 82 82)
 have HC1 := Lib.hid (fun W => refCmp_any a.w b.w W h1 h3)
 have HC2 := Lib.hid (fun W => refCmp_any a.u b.u W h2 h4)
 have HP : aheadE a b ↔ (pc a b < 0 ∨ (pc a b = 0 ∧ a.f < b.f)) := Iff.rfl
 have hpc : pc a b = if cmpS a.w b.w = 0 then cmpS a.u b.u else cmpS a.w b.w := rfl
 rw [hpc] at HP
 have e1 : Lib.compareBytes a.w.data.toList b.w.data.toList = cmpS a.w b.w := rfl
 have e2 : Lib.compareBytes a.u.data.toList b.u.data.toList = cmpS a.u b.u := rfl
 rw [e1] at HC1
 rw [e2] at HC2
 clear hpc e1 e2 h1 h2 h3 h4
 unfold enV
 generalize cmpS a.w b.w = c at *
 generalize cmpS a.u b.u = d at *
 have HF : Hid (∀ x : Bool, (x = true ↔ aheadE a b) → x = decide (aheadE a b)) := fun x h => by
  cases x with
  | true => exact (decide_eq_true (h.1 rfl)).symm
  | false => exact (decide_eq_false (fun k => by cases h.2 k)).symm
 by_cases h1 : c = 0
 ·subst h1
  rw [if_pos rfl] at HP
  have k1 : ((0 : Int) != 0) = false := rfl
  by_cases h2 : d = 0
  ·subst h2
   have HE := Lib.hid (HF.out (decide (a.f < b.f)) (by rw [HP, decide_eq_true_iff]; omega))
   clear HF HP
   go_enter Tryz.func102, Tryz.ntmps102
   go_wp2_with fail
   refine (HC1.out _).mono ?_
   rintro e w2 ⟨rfl, hB⟩
   have K1 := Lib.hid (K0.out.below (Drew.below hB _))
   obtain ⟨a0, a1, a2, a3⟩ := K1.out.a
   obtain ⟨b0, b1, b2, b3⟩ := K1.out.b
   clear K0 HC1 hB
   go_wp2_with fail
   refine (HC2.out _).mono ?_
   rintro e w3 ⟨rfl, hB⟩
   have K2 := Lib.hid (K1.out.below (Drew.below hB _))
   clear a0 a1 a2 a3 b0 b1 b2 b3 K1
   obtain ⟨a0, a1, a2, a3⟩ := K2.out.a
   obtain ⟨b0, b1, b2, b3⟩ := K2.out.b
   clear HC2 hB
   go_wp2
   go_ret
   exact ⟨by rw [← HE.out]; rfl, K2.out.frame⟩
  ·have HE := Lib.hid (HF.out (decide (d < 0)) (by rw [HP, decide_eq_true_iff]; omega))
   have k2 : (d != 0) = true := bne_iff_ne.2 h2
   clear HF HP
   go_enter Tryz.func102, Tryz.ntmps102
   go_wp2_with fail
   refine (HC1.out _).mono ?_
   rintro e w2 ⟨rfl, hB⟩
   have K1 := Lib.hid (K0.out.below (Drew.below hB _))
   obtain ⟨a0, a1, a2, a3⟩ := K1.out.a
   obtain ⟨b0, b1, b2, b3⟩ := K1.out.b
   clear K0 HC1 hB
   go_wp2_with fail
   refine (HC2.out _).mono ?_
   rintro e w3 ⟨rfl, hB⟩
   have K2 := Lib.hid (K1.out.below (Drew.below hB _))
   clear a0 a1 a2 a3 b0 b1 b2 b3 K1 HC2 hB
   go_wp2
   go_ret
   exact ⟨by rw [← HE.out]; rfl, K2.out.frame⟩
 ·rw [if_neg h1] at HP
  have HE := Lib.hid (HF.out (decide (c < 0)) (by rw [HP, decide_eq_true_iff]; omega))
  have k1 : (c != 0) = true := bne_iff_ne.2 h1
  clear HF HP
  go_enter Tryz.func102, Tryz.ntmps102
  go_wp2_with fail
  refine (HC1.out _).mono ?_
  rintro e w2 ⟨rfl, hB⟩
  have K1 := Lib.hid (K0.out.below (Drew.below hB _))
  clear K0 HC1 hB
  go_wp2
  go_ret
  exact ⟨by rw [← HE.out]; rfl, K1.out.frame⟩
set_option maxHeartbeats 1000000 in
theorem of_any (e : EnM) (w u : ByteArray) (W : World) :
  Calls Tryz.prog 176 #[enV e, pr w u] W fun r w' => r = .returned (.bool (ofE w u e)) ∧ Below W.heap.size W w' := by
 have HB := Lib.hid (below_2 W)
 unfold enV pr
 obtain ⟨ew, eu, ef, et⟩ := e
 have HF : Hid (∀ b : Bool, (b = true ↔ ew = w ∧ eu = u) → b = ofE w u ⟨ew, eu, ef, et⟩) := fun b hb => by
  have h1 := ofE_iff (w := w) (u := u) (e := ⟨ew, eu, ef, et⟩)
  cases hc : ofE w u ⟨ew, eu, ef, et⟩ with
  | true => rw [hc] at h1; exact hb.2 (h1.1 rfl)
  | false =>
   rw [hc] at h1
   cases b with
   | false => rfl
   | true => exact absurd (h1.2 (hb.1 rfl)) Bool.false_ne_true
 dsimp only
 by_cases h0 : ew = w
 ·subst h0
  have e0 := str_eq ew
  by_cases h1 : eu = u
  ·subst h1
   have e1 := str_eq eu
   have HE := Lib.hid (HF.out true ⟨fun _ => ⟨rfl, rfl⟩, fun _ => rfl⟩)
   clear HF
   go_enter Tryz.func176, Tryz.ntmps176
   go_wp2
   go_ret
   exact ⟨retB HE.out, HB.out _ _⟩
  ·have e1 := str_ne h1
   have HE := Lib.hid (HF.out false ⟨fun h => (by cases h), fun h => absurd h.2 h1⟩)
   clear HF h1
   go_enter Tryz.func176, Tryz.ntmps176
   go_wp2
   go_ret
   exact ⟨retB HE.out, HB.out _ _⟩
 ·have e0 := str_ne h0
  have HE := Lib.hid (HF.out false ⟨fun h => (by cases h), fun h => absurd h.1 h0⟩)
  clear HF h0
  go_enter Tryz.func176, Tryz.ntmps176
  go_wp2
  go_ret
  exact ⟨retB HE.out, HB.out _ _⟩
structure PK (w : World) (g : Nat) (p u : ByteArray) (a : Option Addr) (l : List EnM) (W : World) : Prop where
 pc : PcAt W g p u
 row : EnSl W a l
 frame : Below w.heap.size w W
theorem PK.below {w W W' : World} {g : Nat} {p u : ByteArray} {a : Option Addr} {l : List EnM} (h : PK w g p u a l W) (q : Below W.heap.size W W') : PK w g p u a l W' :=
 ⟨h.pc.below q, h.row.below q, h.frame.trans (q.mono h.frame.size)⟩
theorem PK.new {w : World} {a : Option Addr} {l : List EnM} (h : EnSl w a l) (p u : ByteArray) (t : TypeId) : PK w w.heap.size p u a l (w.alloc (.cells #[.string p, .string u] t)) :=
 ⟨PcAt.new _ _ _ _, h.below (ebelow_one _ _), ebelow_one _ _⟩
theorem PK.cells {w W : World} {g : Nat} {p u : ByteArray} {b off : Nat} {l : List EnM} (h : PK w g p u (some ⟨b, off, none⟩) l W) {k : Nat} (hk : k < l.length) :
  W.cell? ⟨g, 0, none⟩ = some (.string p) ∧ W.cell? ⟨g, 1, none⟩ = some (.string u) ∧ W.cell? ⟨b, off + k * 4, none⟩ = some (.string l[k].w) ∧ W.cell? ⟨b, off + k * 4 + 1, none⟩ = some (.string l[k].u) ∧ W.cell? ⟨b, off + k * 4 + 2, none⟩ = some (.int .i64 l[k].f) ∧ W.cell? ⟨b, off + k * 4 + 3, none⟩ = some (.int .i64 l[k].t) := by
 obtain ⟨_, _, e, _, h0, h1, h2, h3⟩ := h.row.at_ hk
 cases e
 exact ⟨h.pc.1, h.pc.2.1, h0, h1, h2, h3⟩
set_option maxHeartbeats 4000000 in
theorem force_any (a : Option Addr) (c : Nat) (l : List EnM) (p u : ByteArray) (w : World) (hr : EnSl w a l) (hl : l.length ≤ 1000000) :
  Calls Tryz.prog 124 #[.slice a l.length c, pr p u] w fun r w' => r = .returned (.int .i64 (idxI (infE p u) l)) ∧ Below w.heap.size w w' := by
 have K0 := Lib.hid (PK.new hr p u 96)
 have HC := Lib.hid (fun e W => of_any e p u W)
 unfold enV pr at HC
 unfold pr
 clear hr
 go_enter Tryz.func124, Tryz.ntmps124
 go_wp2
 generalize w.heap.size = g at *
 go_loopw [5] (fun i wr => ∃ (j : Nat), j ≤ l.length ∧ i = .int .i64 j ∧ Hid (LowTo (infE p u) l j) ∧ Hid (PK w g p u a l wr)) (fun i _ => l.length - (intOf i).toNat)
 case atStart => exact ⟨0, by omega, rfl, fun k _ h => absurd h (by omega), K0.out⟩
 case round =>
  obtain ⟨j, hj, rfl, HO, HK⟩ := hrel
  by_cases hjl : j < l.length
  ·obtain ⟨b, off, rfl, -, -, -, -, -⟩ := HK.out.row.at_ hjl
   have HNX := Lib.hid (HO.out.next hjl)
   have HHT := Lib.hid (HO.out.hit hjl)
   have HSC := Lib.hid (fun W (h : PK w g p u (some ⟨b, off, none⟩) l W) => h.cells hjl)
   generalize l[j] = x at *
   have K1 := HK.out.below (Below.refl _ _).drew
   cases hb : ofE p u x with
   | false =>
    have HN := Lib.hid (HNX.out (by unfold infE; rw [hb]; rfl))
    have HCC := Lib.hid (HC.out x)
    rw [hb] at HCC
    clear HNX HHT hb HC
    go_wp2_with fail
    refine wp_region_held_drew (S := (fun W => W.cell? ⟨g, 0, none⟩ = some (.string p) ∧ W.cell? ⟨g, 1, none⟩ = some (.string u) ∧ W.cell? ⟨b, off + j * 4, none⟩ = some (.string x.w) ∧ W.cell? ⟨b, off + j * 4 + 1, none⟩ = some (.string x.u) ∧ W.cell? ⟨b, off + j * 4 + 2, none⟩ = some (.int .i64 x.f) ∧ W.cell? ⟨b, off + j * 4 + 3, none⟩ = some (.int .i64 x.t))) (by kernel_rfl) ?_ (fun hHeld => ?_)
    ·exact HSC.out _ K1
    refine tV 0 12 ?_
    refine tV 1 13 ?_
    refine tV 2 14 ?_
    refine tV 3 15 ?_
    refine tV 4 16 ?_
    refine wpAnyH_ready (rs := [5]) (by kernel_rfl) (by simp) ?_
    refine AllReadyH.cons (o := ⟨some 17, _, _, _, _, _⟩) rfl (fun K hK => ?_) AllReadyH.nil
    go_simp
    refine (HCC.out _).mono ?_
    rintro e w2 ⟨rfl, h2⟩
    have K2 := K1.below h2
    go_wp2_with fail
    refine hK.out _ _ ?_ (fun hH5 => ?_)
    ·exact HSC.out _ K2
    clear hK K
    (try simp only [Act.put, List.setIfInBounds_toArray, List.set_cons_zero, List.set_cons_succ])
    refine tV 6 18 ?_
    refine tU 7 19 ?_
    refine tU 8 20 ?_
    refine tU 9 21 ?_
    refine tU 10 22 ?_
    refine tU 11 23 ?_
    refine tU 12 24 ?_
    refine tV 13 25 ?_
    refine wpAnyH_done (by kernel_rfl) ?_ _
    all_goals
     go_wp2
     go_roundw
     case rel => exact ⟨j + 1, by omega, by go_num, HN, K2⟩
     case measure => simp [intOf]; omega
   | true =>
    have HCC := Lib.hid (HC.out x)
    rw [hb] at HCC
    by_cases ht : x.t = 1099511627776
    ·have HN := Lib.hid (idx_hit (HHT.out (by unfold infE; rw [hb, decide_eq_true ht]; rfl)) hjl)
     have hd : (x.t == 1099511627776) = true := beq_iff_eq.2 ht
     clear HNX HHT hb HC ht
     go_wp2_with fail
     go_region_held3 (fun W => W.cell? ⟨g, 0, none⟩ = some (.string p) ∧ W.cell? ⟨g, 1, none⟩ = some (.string u) ∧ W.cell? ⟨b, off + j * 4, none⟩ = some (.string x.w) ∧ W.cell? ⟨b, off + j * 4 + 1, none⟩ = some (.string x.u) ∧ W.cell? ⟨b, off + j * 4 + 2, none⟩ = some (.int .i64 x.f) ∧ W.cell? ⟨b, off + j * 4 + 3, none⟩ = some (.int .i64 x.t))
      (first | exact HSC.out _ K2 | exact HSC.out _ K1)
      (first | (go_at_call 176; refine (HCC.out _).mono ?_; rintro e w2 ⟨rfl, h2⟩; have K2 := K1.below h2))
     all_goals
      go_wp2
      go_ret
      exact ⟨by rw [HN.out]; rfl, K2.frame⟩
    ·have HN := Lib.hid (HNX.out (by unfold infE; rw [hb, decide_eq_false ht]; rfl))
     have hd : (x.t == 1099511627776) = false := beq_eq_false_iff_ne.2 ht
     clear HNX HHT hb HC ht
     go_wp2_with fail
     go_region_held3 (fun W => W.cell? ⟨g, 0, none⟩ = some (.string p) ∧ W.cell? ⟨g, 1, none⟩ = some (.string u) ∧ W.cell? ⟨b, off + j * 4, none⟩ = some (.string x.w) ∧ W.cell? ⟨b, off + j * 4 + 1, none⟩ = some (.string x.u) ∧ W.cell? ⟨b, off + j * 4 + 2, none⟩ = some (.int .i64 x.f) ∧ W.cell? ⟨b, off + j * 4 + 3, none⟩ = some (.int .i64 x.t))
      (first | exact HSC.out _ K2 | exact HSC.out _ K1)
      (first | (go_at_call 176; refine (HCC.out _).mono ?_; rintro e w2 ⟨rfl, h2⟩; have K2 := K1.below h2))
     all_goals
      go_wp2
      go_roundw
      case rel => exact ⟨j + 1, by omega, by go_num, HN, K2⟩
      case measure => simp [intOf]; omega
  ·obtain rfl : j = l.length := by omega
   have HE := Lib.hid (idx_miss HO.out.miss)
   go_wp2
   go_ret
   exact ⟨by rw [HE.out]; rfl, HK.out.frame⟩
end Go.Proofs.YtjhdhfokhkcamaaGreat
