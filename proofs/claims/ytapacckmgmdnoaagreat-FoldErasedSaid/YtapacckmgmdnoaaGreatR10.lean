/- Texts of mine, one behind the other, of each what is wanted. -/
import Derived.Test.YtapacckmgmdnoaaGreatR00
import Derived.Test.YtapacckmgmdnoaaGreatShelf
import Derived.Test.YtapacckmgmdnoaaGreatR01
import Derived.Test.YtapacckmgmdnoaaGreatR03
import Derived.Test.YtapacckmgmdnoaaGreatR04
import Derived.Test.YtapacckmgmdnoaaGreatR07
import Derived.Test.YtapacckmgmdnoaaGreatR09
namespace Go.Proofs.YtapacckmgmdnoaaGreat
open Go.RowKit
set_option linter.unusedVariables false
set_option maxRecDepth 100000
set_option maxRecDepth 100000
set_option maxHeartbeats 1000000 in
theorem stay_any (e : OpM) (t : Int) (w : World) : Calls Tryz.prog 156 #[opV e, .int .i64 t] w fun r w' => r = .returned (stV (stayO e t)) ∧ Below w.heap.size w w' := by
 unfold opV stV stayO
 obtain ⟨n, u, s, f⟩ := e
 dsimp only
 have HL : Hid (∀ o1 : Obj, (loadVar 111 ⟨w.heap.size + 1, 0, none⟩).run Tryz.prog ((w.alloc o1).alloc (.cells #[.int .i64 f, .int .i64 t, .int .i64 n, .int .i64 s] 111)) = .ok (.agg #[.int .i64 f, .int .i64 t, .int .i64 n, .int .i64 s]) ((w.alloc o1).alloc (.cells #[.int .i64 f, .int .i64 t, .int .i64 n, .int .i64 s] 111))) := fun o1 => by
  have := heap_alloc_new (w.alloc o1) (.cells #[.int .i64 f, .int .i64 t, .int .i64 n, .int .i64 s] 111)
  rw [size1] at this
  exact loadSt this
 have HG := Lib.hid (fun o p => below_two w o p)
 go_enter Tryz.func156, Tryz.ntmps156
 go_wp2
 refine bodyPost_ret (v := .agg #[.int .i64 f, .int .i64 t, .int .i64 n, .int .i64 s]) ?_ rfl ?_
 ·rw [results_cell1 rfl]
  simp [asAddr, Result.andThen, HL.out]
 ·exact ⟨rfl, HG.out _ _⟩
end Go.Proofs.YtapacckmgmdnoaaGreat
namespace Go.Proofs.YtapacckmgmdnoaaGreat
open Go.RowKit Go.Proofs
set_option linter.unusedVariables false
set_option maxRecDepth 100000
set_option maxRecDepth 100000
theorem infoUs : (Tryz.prog.info? 108).map (fun i => (i.zero, i.size, i.bytes)) = some (some (.agg #[.string ⟨#[]⟩, .slice none 0 0]), 2, 40) := by kernel_rfl
theorem infoTb : (Tryz.prog.info? 141).map (fun i => (i.zero, i.size, i.bytes)) = some (some (.agg #[.string ⟨#[]⟩, .int .i64 0]), 2, 24) := by kernel_rfl
set_option maxHeartbeats 1000000 in
theorem clone_op (a : Option Addr) (c : Nat) (l : List OpM) (w : World) (hr : OpSl w a l) (hc : Cp a l.length c) (hl : l.length ≤ 100000) :
  Calls Tryz.prog 140 #[.slice a l.length c] w fun e w' => ∃ v, e = .returned v ∧ w'.ownsRow w.heap.size 184 4 v l.length (oes l) ∧ Below w.heap.size w w' := by
 obtain ⟨i0, hi, hz0, hz1, hz2⟩ := info_parts infoOp
 have q22 : ∀ (W : World) (a : Option Addr) (n c n' c' : Nat), (binOp .eql 34 (.slice a n c) (.slice none n' c')).run Tryz.prog W = .ok (.bool a.isNone) W := fun W a n c n' c' => Lib.run_eql_slice_nil W _ _ a n c n' c' Tryz.underlying34
 cases a with
 | none =>
  have hc0 := hc.nil rfl
  subst hc0
  have hl0 : l = [] := List.eq_nil_of_length_eq_zero (by have := hc.le; omega)
  subst hl0
  clear hr hc
  go_enter Tryz.func140, Tryz.ntmps140
  go_wp2
  go_ret
  exact ⟨_, rfl, ⟨rfl, .inl ⟨rfl, rfl⟩⟩, Below.refl _ _⟩
 | some ad =>
  have HO := Lib.hid (own_emptyO w 184 4 w.heap.size (Nat.le_refl _))
  have HB := Lib.hid (below_one w (.cells #[] 184))
  have HX1 := Lib.hid (hr.below HB.out)
  clear hr hc
  go_enter Tryz.func140, Tryz.ntmps140
  go_wp2_with (at_builtin; refine wpList_append_op _ rfl (.tmp 5) (.tmp 6) 34 rfl w.heap.size 184 i0 _ Tryz.underlying34 hi hz0 hz1 hz2 rfl _ [] rfl HO.out (some ad) c l rfl HX1.out (fun h => by cases h) (by simpa using (show l.length ≤ 1000000 by omega)) HB.out.size ?_; intro v2 w2 hown2 hB2)
  have HO2 := Lib.hid hown2
  have HB2 := Lib.hid (HB.out.trans hB2)
  clear hown2 hB2
  go_wp2
  go_ret
  exact ⟨_, rfl, (by have ho := HO2.out; rw [List.nil_append] at ho; exact ho), HB2.out⟩
set_option maxHeartbeats 1000000 in
theorem clone_en (a : Option Addr) (c : Nat) (l : List EnM) (w : World) (hr : EnSl w a l) (hc : Cp a l.length c) (hl : l.length ≤ 100000) :
  Calls Tryz.prog 141 #[.slice a l.length c] w fun e w' => ∃ v, e = .returned v ∧ w'.ownsRow w.heap.size 165 4 v l.length (ens l) ∧ Below w.heap.size w w' := by
 obtain ⟨i0, hi, hz0, hz1, hz2⟩ := info_parts infoEn
 have q22 : ∀ (W : World) (a : Option Addr) (n c n' c' : Nat), (binOp .eql 36 (.slice a n c) (.slice none n' c')).run Tryz.prog W = .ok (.bool a.isNone) W := fun W a n c n' c' => Lib.run_eql_slice_nil W _ _ a n c n' c' Tryz.underlying36
 cases a with
 | none =>
  have hc0 := hc.nil rfl
  subst hc0
  have hl0 : l = [] := List.eq_nil_of_length_eq_zero (by have := hc.le; omega)
  subst hl0
  clear hr hc
  go_enter Tryz.func141, Tryz.ntmps141
  go_wp2
  go_ret
  exact ⟨_, rfl, ⟨rfl, .inl ⟨rfl, rfl⟩⟩, Below.refl _ _⟩
 | some ad =>
  have HO := Lib.hid (own_emptyO w 165 4 w.heap.size (Nat.le_refl _))
  have HB := Lib.hid (below_one w (.cells #[] 165))
  have HX1 := Lib.hid (hr.below HB.out)
  clear hr hc
  go_enter Tryz.func141, Tryz.ntmps141
  go_wp2_with (at_builtin; refine wpList_append_en _ rfl (.tmp 5) (.tmp 6) 36 rfl w.heap.size 165 i0 _ Tryz.underlying36 hi hz0 hz1 hz2 rfl _ [] rfl HO.out (some ad) c l rfl HX1.out (fun h => by cases h) (by simpa using (show l.length ≤ 1000000 by omega)) HB.out.size ?_; intro v2 w2 hown2 hB2)
  have HO2 := Lib.hid hown2
  have HB2 := Lib.hid (HB.out.trans hB2)
  clear hown2 hB2
  go_wp2
  go_ret
  exact ⟨_, rfl, (by have ho := HO2.out; rw [List.nil_append] at ho; exact ho), HB2.out⟩
set_option maxHeartbeats 1000000 in
theorem clone_st (a : Option Addr) (c : Nat) (l : List StM) (w : World) (hr : StSl w a l) (hc : Cp a l.length c) (hl : l.length ≤ 100000) :
  Calls Tryz.prog 89 #[.slice a l.length c] w fun e w' => ∃ v, e = .returned v ∧ w'.ownsRow w.heap.size 111 4 v l.length (sts l) ∧ Below w.heap.size w w' := by
 obtain ⟨i0, hi, hz0, hz1, hz2⟩ := info_parts infoStay
 have q22 : ∀ (W : World) (a : Option Addr) (n c n' c' : Nat), (binOp .eql 69 (.slice a n c) (.slice none n' c')).run Tryz.prog W = .ok (.bool a.isNone) W := fun W a n c n' c' => Lib.run_eql_slice_nil W _ _ a n c n' c' Tryz.underlying69
 cases a with
 | none =>
  have hc0 := hc.nil rfl
  subst hc0
  have hl0 : l = [] := List.eq_nil_of_length_eq_zero (by have := hc.le; omega)
  subst hl0
  clear hr hc
  go_enter Tryz.func89, Tryz.ntmps89
  go_wp2
  go_ret
  exact ⟨_, rfl, ⟨rfl, .inl ⟨rfl, rfl⟩⟩, Below.refl _ _⟩
 | some ad =>
  have HO := Lib.hid (own_emptyO w 111 4 w.heap.size (Nat.le_refl _))
  have HB := Lib.hid (below_one w (.cells #[] 111))
  have HX1 := Lib.hid (hr.below HB.out)
  clear hr hc
  go_enter Tryz.func89, Tryz.ntmps89
  go_wp2_with (at_builtin; refine wpList_append_st _ rfl (.tmp 5) (.tmp 6) 69 rfl w.heap.size 111 i0 _ Tryz.underlying69 hi hz0 hz1 hz2 rfl _ [] rfl HO.out (some ad) c l rfl HX1.out (fun h => by cases h) (by simpa using (show l.length ≤ 1000000 by omega)) HB.out.size ?_; intro v2 w2 hown2 hB2)
  have HO2 := Lib.hid hown2
  have HB2 := Lib.hid (HB.out.trans hB2)
  clear hown2 hB2
  go_wp2
  go_ret
  exact ⟨_, rfl, (by have ho := HO2.out; rw [List.nil_append] at ho; exact ho), HB2.out⟩
set_option maxHeartbeats 1000000 in
theorem pclone_us (a : Option Addr) (c : Nat) (l : List (Value × Value)) (h1 : OneP l) (w : World) (hr : PpSl w a l) (hc : Cp a l.length c) (hl : l.length ≤ 100000) :
  Calls Tryz.prog 139 #[.slice a l.length c] w fun e w' => ∃ v, e = .returned v ∧ w'.ownsRow w.heap.size 108 2 v l.length (pps l) ∧ Below w.heap.size w w' := by
 obtain ⟨i0, hi, hz0, hz1, hz2⟩ := info_parts infoUs
 have q22 : ∀ (W : World) (a : Option Addr) (n c n' c' : Nat), (binOp .eql 35 (.slice a n c) (.slice none n' c')).run Tryz.prog W = .ok (.bool a.isNone) W := fun W a n c n' c' => Lib.run_eql_slice_nil W _ _ a n c n' c' Tryz.underlying35
 cases a with
 | none =>
  have hc0 := hc.nil rfl
  subst hc0
  have hl0 : l = [] := List.eq_nil_of_length_eq_zero (by have := hc.le; omega)
  subst hl0
  clear hr hc
  go_enter Tryz.func139, Tryz.ntmps139
  go_wp2
  go_ret
  exact ⟨_, rfl, ⟨rfl, .inl ⟨rfl, rfl⟩⟩, Below.refl _ _⟩
 | some ad =>
  have HO := Lib.hid (own_emptyO w 108 2 w.heap.size (Nat.le_refl _))
  have HB := Lib.hid (below_one w (.cells #[] 108))
  have HX1 := Lib.hid (hr.below HB.out)
  clear hr hc
  go_enter Tryz.func139, Tryz.ntmps139
  go_wp2_with (at_builtin; refine wpList_append_pp _ rfl (.tmp 5) (.tmp 6) 35 rfl w.heap.size 108 i0 _ 40 Tryz.underlying35 hi hz0 hz1 hz2 (by decide) rfl _ [] rfl HO.out (some ad) c l rfl HX1.out h1 (fun h => by cases h) (by simpa using (show l.length ≤ 1000000 by omega)) HB.out.size ?_; intro v2 w2 hown2 hB2)
  have HO2 := Lib.hid hown2
  have HB2 := Lib.hid (HB.out.trans hB2)
  clear hown2 hB2
  go_wp2
  go_ret
  exact ⟨_, rfl, (by have ho := HO2.out; rw [List.nil_append] at ho; exact ho), HB2.out⟩
set_option maxHeartbeats 1000000 in
theorem pclone_tb (a : Option Addr) (c : Nat) (l : List (Value × Value)) (h1 : OneP l) (w : World) (hr : PpSl w a l) (hc : Cp a l.length c) (hl : l.length ≤ 100000) :
  Calls Tryz.prog 142 #[.slice a l.length c] w fun e w' => ∃ v, e = .returned v ∧ w'.ownsRow w.heap.size 141 2 v l.length (pps l) ∧ Below w.heap.size w w' := by
 obtain ⟨i0, hi, hz0, hz1, hz2⟩ := info_parts infoTb
 have q22 : ∀ (W : World) (a : Option Addr) (n c n' c' : Nat), (binOp .eql 37 (.slice a n c) (.slice none n' c')).run Tryz.prog W = .ok (.bool a.isNone) W := fun W a n c n' c' => Lib.run_eql_slice_nil W _ _ a n c n' c' Tryz.underlying37
 cases a with
 | none =>
  have hc0 := hc.nil rfl
  subst hc0
  have hl0 : l = [] := List.eq_nil_of_length_eq_zero (by have := hc.le; omega)
  subst hl0
  clear hr hc
  go_enter Tryz.func142, Tryz.ntmps142
  go_wp2
  go_ret
  exact ⟨_, rfl, ⟨rfl, .inl ⟨rfl, rfl⟩⟩, Below.refl _ _⟩
 | some ad =>
  have HO := Lib.hid (own_emptyO w 141 2 w.heap.size (Nat.le_refl _))
  have HB := Lib.hid (below_one w (.cells #[] 141))
  have HX1 := Lib.hid (hr.below HB.out)
  clear hr hc
  go_enter Tryz.func142, Tryz.ntmps142
  go_wp2_with (at_builtin; refine wpList_append_pp _ rfl (.tmp 5) (.tmp 6) 37 rfl w.heap.size 141 i0 _ 24 Tryz.underlying37 hi hz0 hz1 hz2 (by decide) rfl _ [] rfl HO.out (some ad) c l rfl HX1.out h1 (fun h => by cases h) (by simpa using (show l.length ≤ 1000000 by omega)) HB.out.size ?_; intro v2 w2 hown2 hB2)
  have HO2 := Lib.hid hown2
  have HB2 := Lib.hid (HB.out.trans hB2)
  clear hown2 hB2
  go_wp2
  go_ret
  exact ⟨_, rfl, (by have ho := HO2.out; rw [List.nil_append] at ho; exact ho), HB2.out⟩
structure PpR where
 a : Option Addr
 l : List (Value × Value)
 c : Nat
def pprV (r : PpR) : Value := .slice r.a r.l.length r.c
def catP (R : List PpR) : List (Value × Value) := R.flatMap (·.l)
theorem catP_take (R : List PpR) (j : Nat) (h : j < R.length) : catP (R.take (j + 1)) = catP (R.take j) ++ R[j].l := by
 unfold catP
 rw [List.take_succ_eq_append_getElem h, List.flatMap_append]
 simp
theorem catP_le (R : List PpR) (j : Nat) : (catP (R.take j)).length ≤ (catP R).length := by
 have : catP R = catP (R.take j) ++ catP (R.drop j) := by
  unfold catP
  rw [← List.flatMap_append, List.take_append_drop]
 rw [this, List.length_append]
 omega
def PpRAt (w : World) (r : PpR) : Prop := PpSl w r.a r.l ∧ OneP r.l ∧ (r.a = none → r.c = 0)
theorem prows_at {w : World} {a : Option Addr} {R : List PpR} (h : Sl w a (R.map pprV)) {k : Nat} (hk : k < R.length) : ∃ b off, a = some ⟨b, off, none⟩ ∧ b < w.heap.size ∧ w.cell? ⟨b, off + k, none⟩ = some (pprV R[k]) := by
 obtain ⟨b, off, e, hlt, hc⟩ := h k (by simpa using hk)
 exact ⟨b, off, e, hlt, by rw [hc]; simp⟩
theorem pgrow_us (n : Nat) (w : World) (hn : n ≤ 1000000) : Calls Tryz.prog 282 #[.slice none 0 0, .int .i64 n] w fun e w' => ∃ v, e = .returned v ∧ w'.ownsRow w.heap.size 108 2 v 0 [] ∧ Below w.heap.size w w' := by
 obtain ⟨i0, hi, hz0, hz1, hz2⟩ := info_parts infoUs
 rcases Nat.eq_zero_or_pos n with h0 | h0
 ·subst h0
  have h := Any8.slices_Grow_room Tryz.laysGrowUs none 0 0 0 w (by omega) (by omega) (by omega) (by omega)
  refine Calls.mono h ?_
  rintro e w' ⟨rfl, rfl⟩
  exact ⟨_, rfl, ⟨rfl, .inl ⟨rfl, rfl⟩⟩, Below.refl _ _⟩
 ·have h := Any8.slices_Grow_grow Tryz.laysGrowUs i0 _ hi hz0 (by rw [hz1]; omega) none 0 0 n [] w (by omega) (by omega) (by rw [hz2]; omega) (by omega) (by simp) (fun _ => rfl) (fun a h => by cases h)
  refine Calls.mono h ?_
  rintro e w' ⟨rfl, rfl⟩
  have hge := grownCap_ge w (0 + n) 0 108
  have hle := grownCap_le_maxLen w (0 + n) 0 108 (by unfold maxLen; omega)
  refine ⟨_, rfl, ⟨rfl, .inr ⟨w.heap.size, _, _, rfl, Nat.le_refl _, heap_alloc_new w.drew _, Nat.zero_le _, hle, ?_, by simp⟩⟩, ?_⟩
  ·simp only [Array.size_append, size_zeroCells]
   show 0 + (0 + n - 0) * 2 + (grownCap w (0 + n) 0 108 - (0 + n)) * 2 = grownCap w (0 + n) 0 108 * 2
   omega
  ·exact (Below.refl w.heap.size w).drew.alloc (Nat.le_refl _) _
set_option maxHeartbeats 1000000 in
theorem pconcat_us (a : Option Addr) (c : Nat) (R : List PpR) (w : World) (hr : Sl w a (R.map pprV)) (hR : ∀ r ∈ R, PpRAt w r) (hl : R.length ≤ 100000) (hs : (catP R).length ≤ 100000) :
  Calls Tryz.prog 258 #[.slice a R.length c] w fun e w' => ∃ v, e = .returned v ∧ w'.ownsRow w.heap.size 108 2 v (catP R).length (pps (catP R)) ∧ Below w.heap.size w w' := by
 obtain ⟨i0, hi, hz0, hz1, hz2⟩ := info_parts infoUs
 have HR := Lib.hid hr
 have HRR := Lib.hid hR
 have HG := Lib.hid (pgrow_us (catP R).length w (by omega))
 clear hr hR
 go_enter Tryz.func258, Tryz.ntmps258
 go_wp2
 go_loopw [3, 11] (fun v i wr => ∃ (j s : Nat), j ≤ R.length ∧ i = .int .i64 j ∧ v = .int .i64 s ∧ s ≤ 100000 ∧ Hid (s = (catP (R.take j)).length) ∧ wr = w) (fun _ i _ => R.length - (intOf i).toNat)
 case atStart => exact ⟨0, 0, by omega, rfl, rfl, by omega, rfl, rfl⟩
 case round =>
  obtain ⟨j, s, hj, rfl, rfl, hs1, HS, hw⟩ := hrel
  obtain rfl : w = wr := hw.symm
  clear hw
  by_cases hjl : j < R.length
  ·obtain ⟨b, off, rfl, hbl, hc0⟩ := prows_at HR.out hjl
   have HN := Lib.hid (catP_take R j hjl)
   have hle := catP_le R (j + 1)
   rw [HN.out, List.length_append, ← HS.out] at hle
   generalize R[j] = x at *
   unfold pprV at hc0
   obtain ⟨xa, xl, xc⟩ := x
   simp only at hc0 hle HN
   have hsum : s + xl.length ≤ 100000 := by omega
   clear hle
   go_wp2
   go_roundw
   case rel => exact ⟨j + 1, s + xl.length, by omega, by go_num, by go_num, hsum, (by unfold Hid; rw [HN.out, List.length_append, ← HS.out]), (by first | rfl | trivial)⟩
   case measure => simp [intOf]; omega
  ·obtain rfl : j = R.length := by omega
   rw [List.take_of_length_le (Nat.le_refl _)] at HS
   have HS2 := HS.out
   subst HS2
   go_wp2_with fail
   refine HG.out.mono ?_
   rintro e w1 ⟨v, rfl, ho, hb⟩
   have HO := Lib.hid ho
   have HB := Lib.hid hb
   clear ho hb HG HS
   go_wp2
   go_loopw [6, 27] (fun v i wx => ∃ (j : Nat), j ≤ R.length ∧ i = .int .i64 j ∧ Hid (wx.ownsRow w.heap.size 108 2 v (catP (R.take j)).length (pps (catP (R.take j)))) ∧ Hid (Below w.heap.size w wx)) (fun _ i _ => R.length - (intOf i).toNat)
   case atStart => exact ⟨0, by omega, rfl, HO.out, HB.out⟩
   case round =>
    obtain ⟨j, hj, rfl, HO, HB⟩ := hrel
    by_cases hjl : j < R.length
    ·obtain ⟨b, off, rfl, hbl, hc0⟩ := prows_at (HR.out.below HB.out) hjl
     have HN := Lib.hid (catP_take R j hjl)
     have hle := catP_le R (j + 1)
     have hle2 := catP_le R j
     rw [HN.out, List.length_append] at hle
     have HX := Lib.hid (HRR.out _ (List.getElem_mem hjl))
     generalize R[j] = x at *
     unfold pprV at hc0
     obtain ⟨xa, xl, xc⟩ := x
     simp only at hc0 hle HN
     obtain ⟨hx1, hx3, hx2⟩ := HX.out
     simp only at hx1 hx2 hx3
     have HX1 := Lib.hid (hx1.below HB.out)
     have HX2 := Lib.hid hx2
     have HX3 := Lib.hid hx3
     generalize hct : catP (R.take j) = ct at *
     have hsum : ct.length + xl.length ≤ 1000000 := by omega
     clear hle hle2 hx1 hx2 hx3 HX hct
     go_wp2_with (at_builtin; refine wpList_append_pp _ rfl (.tmp 31) (.tmp 32) 35 rfl w.heap.size 108 i0 _ 40 Tryz.underlying35 hi hz0 hz1 hz2 (by decide) rfl _ ct rfl HO.out xa xc xl rfl HX1.out HX3.out HX2.out hsum HB.out.size ?_; intro v2 w2 hown2 hB2)
     have HO2 := Lib.hid hown2
     have HB2 := Lib.hid (HB.out.trans hB2)
     clear hown2 hB2
     go_wp2
     go_roundw
     case rel => exact ⟨j + 1, by omega, by go_num, (by unfold Hid; rw [HN.out]; exact HO2.out), HB2⟩
     case measure => simp [intOf]; omega
    ·obtain rfl : j = R.length := by omega
     rw [List.take_of_length_le (Nat.le_refl _)] at HO
     go_wp2
     go_ret
     exact ⟨_, rfl, HO.out, HB.out⟩
theorem pgrow_tb (n : Nat) (w : World) (hn : n ≤ 1000000) : Calls Tryz.prog 284 #[.slice none 0 0, .int .i64 n] w fun e w' => ∃ v, e = .returned v ∧ w'.ownsRow w.heap.size 141 2 v 0 [] ∧ Below w.heap.size w w' := by
 obtain ⟨i0, hi, hz0, hz1, hz2⟩ := info_parts infoTb
 rcases Nat.eq_zero_or_pos n with h0 | h0
 ·subst h0
  have h := Any8.slices_Grow_room Tryz.laysGrowTb none 0 0 0 w (by omega) (by omega) (by omega) (by omega)
  refine Calls.mono h ?_
  rintro e w' ⟨rfl, rfl⟩
  exact ⟨_, rfl, ⟨rfl, .inl ⟨rfl, rfl⟩⟩, Below.refl _ _⟩
 ·have h := Any8.slices_Grow_grow Tryz.laysGrowTb i0 _ hi hz0 (by rw [hz1]; omega) none 0 0 n [] w (by omega) (by omega) (by rw [hz2]; omega) (by omega) (by simp) (fun _ => rfl) (fun a h => by cases h)
  refine Calls.mono h ?_
  rintro e w' ⟨rfl, rfl⟩
  have hge := grownCap_ge w (0 + n) 0 141
  have hle := grownCap_le_maxLen w (0 + n) 0 141 (by unfold maxLen; omega)
  refine ⟨_, rfl, ⟨rfl, .inr ⟨w.heap.size, _, _, rfl, Nat.le_refl _, heap_alloc_new w.drew _, Nat.zero_le _, hle, ?_, by simp⟩⟩, ?_⟩
  ·simp only [Array.size_append, size_zeroCells]
   show 0 + (0 + n - 0) * 2 + (grownCap w (0 + n) 0 141 - (0 + n)) * 2 = grownCap w (0 + n) 0 141 * 2
   omega
  ·exact (Below.refl w.heap.size w).drew.alloc (Nat.le_refl _) _
set_option maxHeartbeats 1000000 in
theorem pconcat_tb (a : Option Addr) (c : Nat) (R : List PpR) (w : World) (hr : Sl w a (R.map pprV)) (hR : ∀ r ∈ R, PpRAt w r) (hl : R.length ≤ 100000) (hs : (catP R).length ≤ 100000) :
  Calls Tryz.prog 267 #[.slice a R.length c] w fun e w' => ∃ v, e = .returned v ∧ w'.ownsRow w.heap.size 141 2 v (catP R).length (pps (catP R)) ∧ Below w.heap.size w w' := by
 obtain ⟨i0, hi, hz0, hz1, hz2⟩ := info_parts infoTb
 have HR := Lib.hid hr
 have HRR := Lib.hid hR
 have HG := Lib.hid (pgrow_tb (catP R).length w (by omega))
 clear hr hR
 go_enter Tryz.func267, Tryz.ntmps267
 go_wp2
 go_loopw [3, 11] (fun v i wr => ∃ (j s : Nat), j ≤ R.length ∧ i = .int .i64 j ∧ v = .int .i64 s ∧ s ≤ 100000 ∧ Hid (s = (catP (R.take j)).length) ∧ wr = w) (fun _ i _ => R.length - (intOf i).toNat)
 case atStart => exact ⟨0, 0, by omega, rfl, rfl, by omega, rfl, rfl⟩
 case round =>
  obtain ⟨j, s, hj, rfl, rfl, hs1, HS, hw⟩ := hrel
  obtain rfl : w = wr := hw.symm
  clear hw
  by_cases hjl : j < R.length
  ·obtain ⟨b, off, rfl, hbl, hc0⟩ := prows_at HR.out hjl
   have HN := Lib.hid (catP_take R j hjl)
   have hle := catP_le R (j + 1)
   rw [HN.out, List.length_append, ← HS.out] at hle
   generalize R[j] = x at *
   unfold pprV at hc0
   obtain ⟨xa, xl, xc⟩ := x
   simp only at hc0 hle HN
   have hsum : s + xl.length ≤ 100000 := by omega
   clear hle
   go_wp2
   go_roundw
   case rel => exact ⟨j + 1, s + xl.length, by omega, by go_num, by go_num, hsum, (by unfold Hid; rw [HN.out, List.length_append, ← HS.out]), (by first | rfl | trivial)⟩
   case measure => simp [intOf]; omega
  ·obtain rfl : j = R.length := by omega
   rw [List.take_of_length_le (Nat.le_refl _)] at HS
   have HS2 := HS.out
   subst HS2
   go_wp2_with fail
   refine HG.out.mono ?_
   rintro e w1 ⟨v, rfl, ho, hb⟩
   have HO := Lib.hid ho
   have HB := Lib.hid hb
   clear ho hb HG HS
   go_wp2
   go_loopw [6, 27] (fun v i wx => ∃ (j : Nat), j ≤ R.length ∧ i = .int .i64 j ∧ Hid (wx.ownsRow w.heap.size 141 2 v (catP (R.take j)).length (pps (catP (R.take j)))) ∧ Hid (Below w.heap.size w wx)) (fun _ i _ => R.length - (intOf i).toNat)
   case atStart => exact ⟨0, by omega, rfl, HO.out, HB.out⟩
   case round =>
    obtain ⟨j, hj, rfl, HO, HB⟩ := hrel
    by_cases hjl : j < R.length
    ·obtain ⟨b, off, rfl, hbl, hc0⟩ := prows_at (HR.out.below HB.out) hjl
     have HN := Lib.hid (catP_take R j hjl)
     have hle := catP_le R (j + 1)
     have hle2 := catP_le R j
     rw [HN.out, List.length_append] at hle
     have HX := Lib.hid (HRR.out _ (List.getElem_mem hjl))
     generalize R[j] = x at *
     unfold pprV at hc0
     obtain ⟨xa, xl, xc⟩ := x
     simp only at hc0 hle HN
     obtain ⟨hx1, hx3, hx2⟩ := HX.out
     simp only at hx1 hx2 hx3
     have HX1 := Lib.hid (hx1.below HB.out)
     have HX2 := Lib.hid hx2
     have HX3 := Lib.hid hx3
     generalize hct : catP (R.take j) = ct at *
     have hsum : ct.length + xl.length ≤ 1000000 := by omega
     clear hle hle2 hx1 hx2 hx3 HX hct
     go_wp2_with (at_builtin; refine wpList_append_pp _ rfl (.tmp 31) (.tmp 32) 37 rfl w.heap.size 141 i0 _ 24 Tryz.underlying37 hi hz0 hz1 hz2 (by decide) rfl _ ct rfl HO.out xa xc xl rfl HX1.out HX3.out HX2.out hsum HB.out.size ?_; intro v2 w2 hown2 hB2)
     have HO2 := Lib.hid hown2
     have HB2 := Lib.hid (HB.out.trans hB2)
     clear hown2 hB2
     go_wp2
     go_roundw
     case rel => exact ⟨j + 1, by omega, by go_num, (by unfold Hid; rw [HN.out]; exact HO2.out), HB2⟩
     case measure => simp [intOf]; omega
    ·obtain rfl : j = R.length := by omega
     rw [List.take_of_length_le (Nat.le_refl _)] at HO
     go_wp2
     go_ret
     exact ⟨_, rfl, HO.out, HB.out⟩
end Go.Proofs.YtapacckmgmdnoaaGreat
