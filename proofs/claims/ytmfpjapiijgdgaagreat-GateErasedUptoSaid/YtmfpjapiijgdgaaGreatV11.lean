/- Texts of mine, one behind the other, of each what is wanted. -/
import Derived.Test.YtmfpjapiijgdgaaGreatV00
import Derived.Test.YtmfpjapiijgdgaaGreatShelf
import Derived.Test.YtmfpjapiijgdgaaGreatV01
import Derived.Test.YtmfpjapiijgdgaaGreatV03
import Derived.Test.YtmfpjapiijgdgaaGreatV04
import Derived.Test.YtmfpjapiijgdgaaGreatV05
import Derived.Test.YtmfpjapiijgdgaaGreatV07
import Derived.Test.YtmfpjapiijgdgaaGreatV08
import Derived.Test.YtmfpjapiijgdgaaGreatV09
namespace Go.Proofs.YtmfpjapiijgdgaaGreat
open Go.RowKit Go.Proofs
set_option linter.unusedVariables false
set_option maxRecDepth 100000
set_option maxRecDepth 100000
theorem infoUs : (Tryz.prog.info? 108).map (fun i => (i.zero, i.size, i.bytes)) = some (some (.agg #[.string ⟨#[]⟩, .slice none 0 0]), 2, 40) := by kernel_rfl
theorem infoTb : (Tryz.prog.info? 141).map (fun i => (i.zero, i.size, i.bytes)) = some (some (.agg #[.string ⟨#[]⟩, .int .i64 0]), 2, 24) := by kernel_rfl
set_option maxHeartbeats 1000000 in
theorem clone_op (a : Option Addr) (c : Nat) (l : List OpM) (w : World) (hr : OpSl w a l) (hc : Cp a l.length c) (hl : l.length ≤ 100000) :
  Calls Tryz.prog 140 #[.slice a l.length c] w fun e w' => ∃ v, e = .returned v ∧ w'.ownsRow w.heap.size 184 4 v l.length (oes l) ∧ Below w.heap.size w w' := by
 obtain ⟨i0, hi, hz0, hz1, hz2⟩ := info_parts infoOp
 have q22 : ∀ (W : World) (a : Option Addr) (n c n' c' : Nat), (binOp .eql 34 (.slice a n c) (.slice none n' c')).run Tryz.prog W = .ok (.bool a.isNone) W := fun W a n c n' c' => Lib.run_eql_slice_nil W _ _ a n c n' c' Tryz.underlying34
 cases a with
 | none =>
  have hc0 := hc.nil rfl
  subst hc0
  have hl0 : l = [] := List.eq_nil_of_length_eq_zero (by have := hc.le; omega)
  subst hl0
  clear hr hc
  go_enter Tryz.func140, Tryz.ntmps140
  go_wp2
  go_ret
  exact ⟨_, rfl, ⟨rfl, .inl ⟨rfl, rfl⟩⟩, Below.refl _ _⟩
 | some ad =>
  have HO := Lib.hid (own_emptyO w 184 4 w.heap.size (Nat.le_refl _))
  have HB := Lib.hid (below_one w (.cells #[] 184))
  have HX1 := Lib.hid (hr.below HB.out)
  clear hr hc
  go_enter Tryz.func140, Tryz.ntmps140
  go_wp2_with (at_builtin; refine wpList_append_op _ rfl (.tmp 5) (.tmp 6) 34 rfl w.heap.size 184 i0 _ Tryz.underlying34 hi hz0 hz1 hz2 rfl _ [] rfl HO.out (some ad) c l rfl HX1.out (fun h => by cases h) (by simpa using (show l.length ≤ 1000000 by omega)) HB.out.size ?_; intro v2 w2 hown2 hB2)
  have HO2 := Lib.hid hown2
  have HB2 := Lib.hid (HB.out.trans hB2)
  clear hown2 hB2
  go_wp2
  go_ret
  exact ⟨_, rfl, (by have ho := HO2.out; rw [List.nil_append] at ho; exact ho), HB2.out⟩
set_option maxHeartbeats 1000000 in
theorem clone_en (a : Option Addr) (c : Nat) (l : List EnM) (w : World) (hr : EnSl w a l) (hc : Cp a l.length c) (hl : l.length ≤ 100000) :
  Calls Tryz.prog 141 #[.slice a l.length c] w fun e w' => ∃ v, e = .returned v ∧ w'.ownsRow w.heap.size 165 4 v l.length (ens l) ∧ Below w.heap.size w w' := by
 obtain ⟨i0, hi, hz0, hz1, hz2⟩ := info_parts infoEn
 have q22 : ∀ (W : World) (a : Option Addr) (n c n' c' : Nat), (binOp .eql 36 (.slice a n c) (.slice none n' c')).run Tryz.prog W = .ok (.bool a.isNone) W := fun W a n c n' c' => Lib.run_eql_slice_nil W _ _ a n c n' c' Tryz.underlying36
 cases a with
 | none =>
  have hc0 := hc.nil rfl
  subst hc0
  have hl0 : l = [] := List.eq_nil_of_length_eq_zero (by have := hc.le; omega)
  subst hl0
  clear hr hc
  go_enter Tryz.func141, Tryz.ntmps141
  go_wp2
  go_ret
  exact ⟨_, rfl, ⟨rfl, .inl ⟨rfl, rfl⟩⟩, Below.refl _ _⟩
 | some ad =>
  have HO := Lib.hid (own_emptyO w 165 4 w.heap.size (Nat.le_refl _))
  have HB := Lib.hid (below_one w (.cells #[] 165))
  have HX1 := Lib.hid (hr.below HB.out)
  clear hr hc
  go_enter Tryz.func141, Tryz.ntmps141
  go_wp2_with (at_builtin; refine wpList_append_en _ rfl (.tmp 5) (.tmp 6) 36 rfl w.heap.size 165 i0 _ Tryz.underlying36 hi hz0 hz1 hz2 rfl _ [] rfl HO.out (some ad) c l rfl HX1.out (fun h => by cases h) (by simpa using (show l.length ≤ 1000000 by omega)) HB.out.size ?_; intro v2 w2 hown2 hB2)
  have HO2 := Lib.hid hown2
  have HB2 := Lib.hid (HB.out.trans hB2)
  clear hown2 hB2
  go_wp2
  go_ret
  exact ⟨_, rfl, (by have ho := HO2.out; rw [List.nil_append] at ho; exact ho), HB2.out⟩
set_option maxHeartbeats 1000000 in
theorem clone_st (a : Option Addr) (c : Nat) (l : List StM) (w : World) (hr : StSl w a l) (hc : Cp a l.length c) (hl : l.length ≤ 100000) :
  Calls Tryz.prog 89 #[.slice a l.length c] w fun e w' => ∃ v, e = .returned v ∧ w'.ownsRow w.heap.size 111 4 v l.length (sts l) ∧ Below w.heap.size w w' := by
 obtain ⟨i0, hi, hz0, hz1, hz2⟩ := info_parts infoStay
 have q22 : ∀ (W : World) (a : Option Addr) (n c n' c' : Nat), (binOp .eql 69 (.slice a n c) (.slice none n' c')).run Tryz.prog W = .ok (.bool a.isNone) W := fun W a n c n' c' => Lib.run_eql_slice_nil W _ _ a n c n' c' Tryz.underlying69
 cases a with
 | none =>
  have hc0 := hc.nil rfl
  subst hc0
  have hl0 : l = [] := List.eq_nil_of_length_eq_zero (by have := hc.le; omega)
  subst hl0
  clear hr hc
  go_enter Tryz.func89, Tryz.ntmps89
  go_wp2
  go_ret
  exact ⟨_, rfl, ⟨rfl, .inl ⟨rfl, rfl⟩⟩, Below.refl _ _⟩
 | some ad =>
  have HO := Lib.hid (own_emptyO w 111 4 w.heap.size (Nat.le_refl _))
  have HB := Lib.hid (below_one w (.cells #[] 111))
  have HX1 := Lib.hid (hr.below HB.out)
  clear hr hc
  go_enter Tryz.func89, Tryz.ntmps89
  go_wp2_with (at_builtin; refine wpList_append_st _ rfl (.tmp 5) (.tmp 6) 69 rfl w.heap.size 111 i0 _ Tryz.underlying69 hi hz0 hz1 hz2 rfl _ [] rfl HO.out (some ad) c l rfl HX1.out (fun h => by cases h) (by simpa using (show l.length ≤ 1000000 by omega)) HB.out.size ?_; intro v2 w2 hown2 hB2)
  have HO2 := Lib.hid hown2
  have HB2 := Lib.hid (HB.out.trans hB2)
  clear hown2 hB2
  go_wp2
  go_ret
  exact ⟨_, rfl, (by have ho := HO2.out; rw [List.nil_append] at ho; exact ho), HB2.out⟩
set_option maxHeartbeats 1000000 in
theorem pclone_us (a : Option Addr) (c : Nat) (l : List (Value × Value)) (h1 : OneP l) (w : World) (hr : PpSl w a l) (hc : Cp a l.length c) (hl : l.length ≤ 100000) :
  Calls Tryz.prog 139 #[.slice a l.length c] w fun e w' => ∃ v, e = .returned v ∧ w'.ownsRow w.heap.size 108 2 v l.length (pps l) ∧ Below w.heap.size w w' := by
 obtain ⟨i0, hi, hz0, hz1, hz2⟩ := info_parts infoUs
 have q22 : ∀ (W : World) (a : Option Addr) (n c n' c' : Nat), (binOp .eql 35 (.slice a n c) (.slice none n' c')).run Tryz.prog W = .ok (.bool a.isNone) W := fun W a n c n' c' => Lib.run_eql_slice_nil W _ _ a n c n' c' Tryz.underlying35
 cases a with
 | none =>
  have hc0 := hc.nil rfl
  subst hc0
  have hl0 : l = [] := List.eq_nil_of_length_eq_zero (by have := hc.le; omega)
  subst hl0
  clear hr hc
  go_enter Tryz.func139, Tryz.ntmps139
  go_wp2
  go_ret
  exact ⟨_, rfl, ⟨rfl, .inl ⟨rfl, rfl⟩⟩, Below.refl _ _⟩
 | some ad =>
  have HO := Lib.hid (own_emptyO w 108 2 w.heap.size (Nat.le_refl _))
  have HB := Lib.hid (below_one w (.cells #[] 108))
  have HX1 := Lib.hid (hr.below HB.out)
  clear hr hc
  go_enter Tryz.func139, Tryz.ntmps139
  go_wp2_with (at_builtin; refine wpList_append_pp _ rfl (.tmp 5) (.tmp 6) 35 rfl w.heap.size 108 i0 _ 40 Tryz.underlying35 hi hz0 hz1 hz2 (by decide) rfl _ [] rfl HO.out (some ad) c l rfl HX1.out h1 (fun h => by cases h) (by simpa using (show l.length ≤ 1000000 by omega)) HB.out.size ?_; intro v2 w2 hown2 hB2)
  have HO2 := Lib.hid hown2
  have HB2 := Lib.hid (HB.out.trans hB2)
  clear hown2 hB2
  go_wp2
  go_ret
  exact ⟨_, rfl, (by have ho := HO2.out; rw [List.nil_append] at ho; exact ho), HB2.out⟩
set_option maxHeartbeats 1000000 in
theorem pclone_tb (a : Option Addr) (c : Nat) (l : List (Value × Value)) (h1 : OneP l) (w : World) (hr : PpSl w a l) (hc : Cp a l.length c) (hl : l.length ≤ 100000) :
  Calls Tryz.prog 142 #[.slice a l.length c] w fun e w' => ∃ v, e = .returned v ∧ w'.ownsRow w.heap.size 141 2 v l.length (pps l) ∧ Below w.heap.size w w' := by
 obtain ⟨i0, hi, hz0, hz1, hz2⟩ := info_parts infoTb
 have q22 : ∀ (W : World) (a : Option Addr) (n c n' c' : Nat), (binOp .eql 37 (.slice a n c) (.slice none n' c')).run Tryz.prog W = .ok (.bool a.isNone) W := fun W a n c n' c' => Lib.run_eql_slice_nil W _ _ a n c n' c' Tryz.underlying37
 cases a with
 | none =>
  have hc0 := hc.nil rfl
  subst hc0
  have hl0 : l = [] := List.eq_nil_of_length_eq_zero (by have := hc.le; omega)
  subst hl0
  clear hr hc
  go_enter Tryz.func142, Tryz.ntmps142
  go_wp2
  go_ret
  exact ⟨_, rfl, ⟨rfl, .inl ⟨rfl, rfl⟩⟩, Below.refl _ _⟩
 | some ad =>
  have HO := Lib.hid (own_emptyO w 141 2 w.heap.size (Nat.le_refl _))
  have HB := Lib.hid (below_one w (.cells #[] 141))
  have HX1 := Lib.hid (hr.below HB.out)
  clear hr hc
  go_enter Tryz.func142, Tryz.ntmps142
  go_wp2_with (at_builtin; refine wpList_append_pp _ rfl (.tmp 5) (.tmp 6) 37 rfl w.heap.size 141 i0 _ 24 Tryz.underlying37 hi hz0 hz1 hz2 (by decide) rfl _ [] rfl HO.out (some ad) c l rfl HX1.out h1 (fun h => by cases h) (by simpa using (show l.length ≤ 1000000 by omega)) HB.out.size ?_; intro v2 w2 hown2 hB2)
  have HO2 := Lib.hid hown2
  have HB2 := Lib.hid (HB.out.trans hB2)
  clear hown2 hB2
  go_wp2
  go_ret
  exact ⟨_, rfl, (by have ho := HO2.out; rw [List.nil_append] at ho; exact ho), HB2.out⟩
structure PpR where
 a : Option Addr
 l : List (Value × Value)
 c : Nat
def pprV (r : PpR) : Value := .slice r.a r.l.length r.c
def catP (R : List PpR) : List (Value × Value) := R.flatMap (·.l)
theorem catP_take (R : List PpR) (j : Nat) (h : j < R.length) : catP (R.take (j + 1)) = catP (R.take j) ++ R[j].l := by
 unfold catP
 rw [List.take_succ_eq_append_getElem h, List.flatMap_append]
 simp
theorem catP_le (R : List PpR) (j : Nat) : (catP (R.take j)).length ≤ (catP R).length := by
 have : catP R = catP (R.take j) ++ catP (R.drop j) := by
  unfold catP
  rw [← List.flatMap_append, List.take_append_drop]
 rw [this, List.length_append]
 omega
def PpRAt (w : World) (r : PpR) : Prop := PpSl w r.a r.l ∧ OneP r.l ∧ (r.a = none → r.c = 0)
theorem prows_at {w : World} {a : Option Addr} {R : List PpR} (h : Sl w a (R.map pprV)) {k : Nat} (hk : k < R.length) : ∃ b off, a = some ⟨b, off, none⟩ ∧ b < w.heap.size ∧ w.cell? ⟨b, off + k, none⟩ = some (pprV R[k]) := by
 obtain ⟨b, off, e, hlt, hc⟩ := h k (by simpa using hk)
 exact ⟨b, off, e, hlt, by rw [hc]; simp⟩
theorem pgrow_us (n : Nat) (w : World) (hn : n ≤ 1000000) : Calls Tryz.prog 282 #[.slice none 0 0, .int .i64 n] w fun e w' => ∃ v, e = .returned v ∧ w'.ownsRow w.heap.size 108 2 v 0 [] ∧ Below w.heap.size w w' := by
 obtain ⟨i0, hi, hz0, hz1, hz2⟩ := info_parts infoUs
 rcases Nat.eq_zero_or_pos n with h0 | h0
 ·subst h0
  have h := Any8.slices_Grow_room Tryz.laysGrowUs none 0 0 0 w (by omega) (by omega) (by omega) (by omega)
  refine Calls.mono h ?_
  rintro e w' ⟨rfl, rfl⟩
  exact ⟨_, rfl, ⟨rfl, .inl ⟨rfl, rfl⟩⟩, Below.refl _ _⟩
 ·have h := Any8.slices_Grow_grow Tryz.laysGrowUs i0 _ hi hz0 (by rw [hz1]; omega) none 0 0 n [] w (by omega) (by omega) (by rw [hz2]; omega) (by omega) (by simp) (fun _ => rfl) (fun a h => by cases h)
  refine Calls.mono h ?_
  rintro e w' ⟨rfl, rfl⟩
  have hge := grownCap_ge w (0 + n) 0 108
  have hle := grownCap_le_maxLen w (0 + n) 0 108 (by unfold maxLen; omega)
  refine ⟨_, rfl, ⟨rfl, .inr ⟨w.heap.size, _, _, rfl, Nat.le_refl _, heap_alloc_new w.drew _, Nat.zero_le _, hle, ?_, by simp⟩⟩, ?_⟩
  ·simp only [Array.size_append, size_zeroCells]
   show 0 + (0 + n - 0) * 2 + (grownCap w (0 + n) 0 108 - (0 + n)) * 2 = grownCap w (0 + n) 0 108 * 2
   omega
  ·exact (Below.refl w.heap.size w).drew.alloc (Nat.le_refl _) _
set_option maxHeartbeats 1000000 in
theorem pconcat_us (a : Option Addr) (c : Nat) (R : List PpR) (w : World) (hr : Sl w a (R.map pprV)) (hR : ∀ r ∈ R, PpRAt w r) (hl : R.length ≤ 100000) (hs : (catP R).length ≤ 100000) :
  Calls Tryz.prog 258 #[.slice a R.length c] w fun e w' => ∃ v, e = .returned v ∧ w'.ownsRow w.heap.size 108 2 v (catP R).length (pps (catP R)) ∧ Below w.heap.size w w' := by
 obtain ⟨i0, hi, hz0, hz1, hz2⟩ := info_parts infoUs
 have HR := Lib.hid hr
 have HRR := Lib.hid hR
 have HG := Lib.hid (pgrow_us (catP R).length w (by omega))
 clear hr hR
 go_enter Tryz.func258, Tryz.ntmps258
 go_wp2
 go_loopw [3, 11] (fun v i wr => ∃ (j s : Nat), j ≤ R.length ∧ i = .int .i64 j ∧ v = .int .i64 s ∧ s ≤ 100000 ∧ Hid (s = (catP (R.take j)).length) ∧ wr = w) (fun _ i _ => R.length - (intOf i).toNat)
 case atStart => exact ⟨0, 0, by omega, rfl, rfl, by omega, rfl, rfl⟩
 case round =>
  obtain ⟨j, s, hj, rfl, rfl, hs1, HS, hw⟩ := hrel
  obtain rfl : w = wr := hw.symm
  clear hw
  by_cases hjl : j < R.length
  ·obtain ⟨b, off, rfl, hbl, hc0⟩ := prows_at HR.out hjl
   have HN := Lib.hid (catP_take R j hjl)
   have hle := catP_le R (j + 1)
   rw [HN.out, List.length_append, ← HS.out] at hle
   generalize R[j] = x at *
   unfold pprV at hc0
   obtain ⟨xa, xl, xc⟩ := x
   simp only at hc0 hle HN
   have hsum : s + xl.length ≤ 100000 := by omega
   clear hle
   go_wp2
   go_roundw
   case rel => exact ⟨j + 1, s + xl.length, by omega, by go_num, by go_num, hsum, (by unfold Hid; rw [HN.out, List.length_append, ← HS.out]), (by first | rfl | trivial)⟩
   case measure => simp [intOf]; omega
  ·obtain rfl : j = R.length := by omega
   rw [List.take_of_length_le (Nat.le_refl _)] at HS
   have HS2 := HS.out
   subst HS2
   go_wp2_with fail
   refine HG.out.mono ?_
   rintro e w1 ⟨v, rfl, ho, hb⟩
   have HO := Lib.hid ho
   have HB := Lib.hid hb
   clear ho hb HG HS
   go_wp2
   go_loopw [6, 27] (fun v i wx => ∃ (j : Nat), j ≤ R.length ∧ i = .int .i64 j ∧ Hid (wx.ownsRow w.heap.size 108 2 v (catP (R.take j)).length (pps (catP (R.take j)))) ∧ Hid (Below w.heap.size w wx)) (fun _ i _ => R.length - (intOf i).toNat)
   case atStart => exact ⟨0, by omega, rfl, HO.out, HB.out⟩
   case round =>
    obtain ⟨j, hj, rfl, HO, HB⟩ := hrel
    by_cases hjl : j < R.length
    ·obtain ⟨b, off, rfl, hbl, hc0⟩ := prows_at (HR.out.below HB.out) hjl
     have HN := Lib.hid (catP_take R j hjl)
     have hle := catP_le R (j + 1)
     have hle2 := catP_le R j
     rw [HN.out, List.length_append] at hle
     have HX := Lib.hid (HRR.out _ (List.getElem_mem hjl))
     generalize R[j] = x at *
     unfold pprV at hc0
     obtain ⟨xa, xl, xc⟩ := x
     simp only at hc0 hle HN
     obtain ⟨hx1, hx3, hx2⟩ := HX.out
     simp only at hx1 hx2 hx3
     have HX1 := Lib.hid (hx1.below HB.out)
     have HX2 := Lib.hid hx2
     have HX3 := Lib.hid hx3
     generalize hct : catP (R.take j) = ct at *
     have hsum : ct.length + xl.length ≤ 1000000 := by omega
     clear hle hle2 hx1 hx2 hx3 HX hct
     go_wp2_with (at_builtin; refine wpList_append_pp _ rfl (.tmp 31) (.tmp 32) 35 rfl w.heap.size 108 i0 _ 40 Tryz.underlying35 hi hz0 hz1 hz2 (by decide) rfl _ ct rfl HO.out xa xc xl rfl HX1.out HX3.out HX2.out hsum HB.out.size ?_; intro v2 w2 hown2 hB2)
     have HO2 := Lib.hid hown2
     have HB2 := Lib.hid (HB.out.trans hB2)
     clear hown2 hB2
     go_wp2
     go_roundw
     case rel => exact ⟨j + 1, by omega, by go_num, (by unfold Hid; rw [HN.out]; exact HO2.out), HB2⟩
     case measure => simp [intOf]; omega
    ·obtain rfl : j = R.length := by omega
     rw [List.take_of_length_le (Nat.le_refl _)] at HO
     go_wp2
     go_ret
     exact ⟨_, rfl, HO.out, HB.out⟩
theorem pgrow_tb (n : Nat) (w : World) (hn : n ≤ 1000000) : Calls Tryz.prog 284 #[.slice none 0 0, .int .i64 n] w fun e w' => ∃ v, e = .returned v ∧ w'.ownsRow w.heap.size 141 2 v 0 [] ∧ Below w.heap.size w w' := by
 obtain ⟨i0, hi, hz0, hz1, hz2⟩ := info_parts infoTb
 rcases Nat.eq_zero_or_pos n with h0 | h0
 ·subst h0
  have h := Any8.slices_Grow_room Tryz.laysGrowTb none 0 0 0 w (by omega) (by omega) (by omega) (by omega)
  refine Calls.mono h ?_
  rintro e w' ⟨rfl, rfl⟩
  exact ⟨_, rfl, ⟨rfl, .inl ⟨rfl, rfl⟩⟩, Below.refl _ _⟩
 ·have h := Any8.slices_Grow_grow Tryz.laysGrowTb i0 _ hi hz0 (by rw [hz1]; omega) none 0 0 n [] w (by omega) (by omega) (by rw [hz2]; omega) (by omega) (by simp) (fun _ => rfl) (fun a h => by cases h)
  refine Calls.mono h ?_
  rintro e w' ⟨rfl, rfl⟩
  have hge := grownCap_ge w (0 + n) 0 141
  have hle := grownCap_le_maxLen w (0 + n) 0 141 (by unfold maxLen; omega)
  refine ⟨_, rfl, ⟨rfl, .inr ⟨w.heap.size, _, _, rfl, Nat.le_refl _, heap_alloc_new w.drew _, Nat.zero_le _, hle, ?_, by simp⟩⟩, ?_⟩
  ·simp only [Array.size_append, size_zeroCells]
   show 0 + (0 + n - 0) * 2 + (grownCap w (0 + n) 0 141 - (0 + n)) * 2 = grownCap w (0 + n) 0 141 * 2
   omega
  ·exact (Below.refl w.heap.size w).drew.alloc (Nat.le_refl _) _
set_option maxHeartbeats 1000000 in
theorem pconcat_tb (a : Option Addr) (c : Nat) (R : List PpR) (w : World) (hr : Sl w a (R.map pprV)) (hR : ∀ r ∈ R, PpRAt w r) (hl : R.length ≤ 100000) (hs : (catP R).length ≤ 100000) :
  Calls Tryz.prog 267 #[.slice a R.length c] w fun e w' => ∃ v, e = .returned v ∧ w'.ownsRow w.heap.size 141 2 v (catP R).length (pps (catP R)) ∧ Below w.heap.size w w' := by
 obtain ⟨i0, hi, hz0, hz1, hz2⟩ := info_parts infoTb
 have HR := Lib.hid hr
 have HRR := Lib.hid hR
 have HG := Lib.hid (pgrow_tb (catP R).length w (by omega))
 clear hr hR
 go_enter Tryz.func267, Tryz.ntmps267
 go_wp2
 go_loopw [3, 11] (fun v i wr => ∃ (j s : Nat), j ≤ R.length ∧ i = .int .i64 j ∧ v = .int .i64 s ∧ s ≤ 100000 ∧ Hid (s = (catP (R.take j)).length) ∧ wr = w) (fun _ i _ => R.length - (intOf i).toNat)
 case atStart => exact ⟨0, 0, by omega, rfl, rfl, by omega, rfl, rfl⟩
 case round =>
  obtain ⟨j, s, hj, rfl, rfl, hs1, HS, hw⟩ := hrel
  obtain rfl : w = wr := hw.symm
  clear hw
  by_cases hjl : j < R.length
  ·obtain ⟨b, off, rfl, hbl, hc0⟩ := prows_at HR.out hjl
   have HN := Lib.hid (catP_take R j hjl)
   have hle := catP_le R (j + 1)
   rw [HN.out, List.length_append, ← HS.out] at hle
   generalize R[j] = x at *
   unfold pprV at hc0
   obtain ⟨xa, xl, xc⟩ := x
   simp only at hc0 hle HN
   have hsum : s + xl.length ≤ 100000 := by omega
   clear hle
   go_wp2
   go_roundw
   case rel => exact ⟨j + 1, s + xl.length, by omega, by go_num, by go_num, hsum, (by unfold Hid; rw [HN.out, List.length_append, ← HS.out]), (by first | rfl | trivial)⟩
   case measure => simp [intOf]; omega
  ·obtain rfl : j = R.length := by omega
   rw [List.take_of_length_le (Nat.le_refl _)] at HS
   have HS2 := HS.out
   subst HS2
   go_wp2_with fail
   refine HG.out.mono ?_
   rintro e w1 ⟨v, rfl, ho, hb⟩
   have HO := Lib.hid ho
   have HB := Lib.hid hb
   clear ho hb HG HS
   go_wp2
   go_loopw [6, 27] (fun v i wx => ∃ (j : Nat), j ≤ R.length ∧ i = .int .i64 j ∧ Hid (wx.ownsRow w.heap.size 141 2 v (catP (R.take j)).length (pps (catP (R.take j)))) ∧ Hid (Below w.heap.size w wx)) (fun _ i _ => R.length - (intOf i).toNat)
   case atStart => exact ⟨0, by omega, rfl, HO.out, HB.out⟩
   case round =>
    obtain ⟨j, hj, rfl, HO, HB⟩ := hrel
    by_cases hjl : j < R.length
    ·obtain ⟨b, off, rfl, hbl, hc0⟩ := prows_at (HR.out.below HB.out) hjl
     have HN := Lib.hid (catP_take R j hjl)
     have hle := catP_le R (j + 1)
     have hle2 := catP_le R j
     rw [HN.out, List.length_append] at hle
     have HX := Lib.hid (HRR.out _ (List.getElem_mem hjl))
     generalize R[j] = x at *
     unfold pprV at hc0
     obtain ⟨xa, xl, xc⟩ := x
     simp only at hc0 hle HN
     obtain ⟨hx1, hx3, hx2⟩ := HX.out
     simp only at hx1 hx2 hx3
     have HX1 := Lib.hid (hx1.below HB.out)
     have HX2 := Lib.hid hx2
     have HX3 := Lib.hid hx3
     generalize hct : catP (R.take j) = ct at *
     have hsum : ct.length + xl.length ≤ 1000000 := by omega
     clear hle hle2 hx1 hx2 hx3 HX hct
     go_wp2_with (at_builtin; refine wpList_append_pp _ rfl (.tmp 31) (.tmp 32) 37 rfl w.heap.size 141 i0 _ 24 Tryz.underlying37 hi hz0 hz1 hz2 (by decide) rfl _ ct rfl HO.out xa xc xl rfl HX1.out HX3.out HX2.out hsum HB.out.size ?_; intro v2 w2 hown2 hB2)
     have HO2 := Lib.hid hown2
     have HB2 := Lib.hid (HB.out.trans hB2)
     clear hown2 hB2
     go_wp2
     go_roundw
     case rel => exact ⟨j + 1, by omega, by go_num, (by unfold Hid; rw [HN.out]; exact HO2.out), HB2⟩
     case measure => simp [intOf]; omega
    ·obtain rfl : j = R.length := by omega
     rw [List.take_of_length_le (Nat.le_refl _)] at HO
     go_wp2
     go_ret
     exact ⟨_, rfl, HO.out, HB.out⟩
theorem notAll {α : Type} {p : α → Bool} {l : List α} (h : ∀ x ∈ l, p x = false) : l.filter (fun x => !p x) = l :=
 List.filter_eq_self.2 fun x hx => by rw [h x hx]; rfl
structure DelK {α : Type} (p : α → Bool) (D : List α) (j i : Nat) (M : List α) : Prop where
 len : M.length = D.length
 le : i ≤ j
 jl : j ≤ D.length
 fst : M.take i = (D.take j).filter fun x => !p x
 rest : M.drop j = D.drop j
theorem DelK.start {α : Type} {p : α → Bool} {D : List α} {k : Nat} (h : LowK p D k) (hk : k < D.length) (hp : p D[k] = true) : DelK p D (k + 1) k D := by
 refine ⟨rfl, by omega, by omega, ?_, rfl⟩
 rw [List.take_succ_eq_append_getElem hk, List.filter_append, notAll (fun x hx => ?_)]
 ·simp [hp]
 ·obtain ⟨i, hi, rfl⟩ := List.getElem_of_mem hx
  rw [List.length_take] at hi
  rw [List.getElem_take]
  exact h i (by omega) (by omega)
theorem DelK.at_ {α : Type} {p : α → Bool} {D M : List α} {i j : Nat} (h : DelK p D j i M) (hj : j < D.length) (hm : j < M.length) : M[j] = D[j] := by
 have h1 : M[j]? = (M.drop j)[0]? := by rw [List.getElem?_drop, Nat.add_zero]
 have h2 : D[j]? = (D.drop j)[0]? := by rw [List.getElem?_drop, Nat.add_zero]
 rw [h.rest, ← h2, List.getElem?_eq_getElem hj, List.getElem?_eq_getElem hm] at h1
 exact Option.some.inj h1
theorem DelK.keep {α : Type} {p : α → Bool} {D M : List α} {i j : Nat} (h : DelK p D j i M) (hj : j < D.length) (hp : p D[j] = false) : DelK p D (j + 1) (i + 1) (M.set i D[j]) := by
 have hle := h.le
 have hlen := h.len
 refine ⟨by rw [List.length_set, h.len], by omega, by omega, ?_, ?_⟩
 ·rw [List.take_succ_eq_append_getElem hj, List.filter_append, ← h.fst]
  rw [List.take_succ_eq_append_getElem (by rw [List.length_set]; omega), List.getElem_set_self, List.take_set_of_le (Nat.le_refl _)]
  simp [hp]
 ·rw [List.drop_set_of_lt (by omega), ← List.drop_drop, ← List.drop_drop, h.rest]
theorem DelK.skip {α : Type} {p : α → Bool} {D M : List α} {i j : Nat} (h : DelK p D j i M) (hj : j < D.length) (hp : p D[j] = true) : DelK p D (j + 1) i M := by
 have hle := h.le
 refine ⟨h.len, by omega, by omega, ?_, ?_⟩
 ·rw [List.take_succ_eq_append_getElem hj, List.filter_append, ← h.fst]
  simp [hp]
 ·rw [← List.drop_drop, ← List.drop_drop, h.rest]
theorem DelK.done {α : Type} {p : α → Bool} {D M : List α} {i : Nat} (h : DelK p D D.length i M) : M.take i = D.filter fun x => !p x := by
 rw [h.fst, List.take_of_length_le (Nat.le_refl _)]
theorem DelK.num {α : Type} {p : α → Bool} {D M : List α} {i : Nat} (h : DelK p D D.length i M) : (D.filter fun x => !p x).length = i := by
 rw [← h.done, List.length_take, h.len]
 have := h.le
 omega
theorem pps_set (l : List (Value × Value)) (x : Value × Value) : ∀ (i : Nat), i < l.length → ((pps l).set (i * 2) x.1).set (i * 2 + 1) x.2 = pps (l.set i x) := by
 induction l with
 | nil => intro i h; exact absurd h (by simp)
 | cons y l ih =>
  intro i h
  cases i with
  | zero => rfl
  | succ i =>
   have := ih i (by simpa using h)
   rw [pps_cons, List.set_cons_succ, pps_cons, ← this, show (i + 1) * 2 = i * 2 + 1 + 1 by omega]
   rfl
theorem own_cut {w : World} {B e k g n cap m : Nat} {xs : List Value} (h : w.ownsRow B e k (.slice (some ⟨g, 0, none⟩) n cap) n xs) (hm : m ≤ n) : w.ownsRow B e k (.slice (some ⟨g, 0, none⟩) m cap) m (xs.take (m * k)) := by
 have hx := h.1
 have hmk : m * k ≤ n * k := Nat.mul_le_mul_right k hm
 rcases h.2 with ⟨h', _⟩ | ⟨g', cap', cur, h', hb, hg, hnc, hcm, hcs, htake⟩
 ·cases h'
 ·cases h'
  refine ⟨by rw [List.length_take]; omega, .inr ⟨g, cap, cur, rfl, hb, hg, by omega, hcm, hcs, ?_⟩⟩
  rw [← htake, List.take_take, Nat.min_eq_left hmk]
theorem own_setCells {B e k g n cap m : Nat} : ∀ (zs : List Value) (o : Nat) {w : World} {xs : List Value}, w.ownsRow B e k (.slice (some ⟨g, 0, none⟩) n cap) n xs → m ≤ o →
  ∃ ys, (w.setCells g o zs).ownsRow B e k (.slice (some ⟨g, 0, none⟩) n cap) n ys ∧ ys.take m = xs.take m ∧ (B ≤ g → Below B w (w.setCells g o zs))
 | [], o, w, xs, h, hm => ⟨xs, h, rfl, fun _ => Below.refl _ _⟩
 | z :: zs, o, w, xs, h, hm => by
  obtain ⟨h1, h2⟩ := h.stored o z
  obtain ⟨ys, h3, h4, h5⟩ := own_setCells zs (o + 1) h1 (m := m) (by omega)
  refine ⟨ys, h3, by rw [h4, List.take_set_of_le hm], fun hB => ?_⟩
  exact ((Below.refl B w).setCell (p := ⟨g, o, none⟩) hB z).trans (h5 hB)
theorem run_clear_us (w : World) (ty b o n c : Nat) (hn : 0 < n) (hc : ∀ j, j < n * 2 → (w.cell? ⟨b, o + j, none⟩).isSome = true) (hf : ∀ j, j < n * 2 → w.frozen? ⟨b, o + j, none⟩ = false) :
  (Builtin.clear_ #[35] ty #[.slice (some ⟨b, o, none⟩) n c]).run Tryz.prog w = .ok (.tuple #[]) (w.setCells b o (Builtin.zeroCells #[.string ⟨#[]⟩, .slice none 0 0] n).toList) := by
 have hv : ∀ w, (zeroValue 108).run Tryz.prog w = .ok (.agg #[.string ⟨#[]⟩, .slice none 0 0]) w := by
  have h : (Tryz.prog.info? 108).map (fun i => (i.zero, i.size)) = some (some (.agg #[.string ⟨#[]⟩, .slice none 0 0]), 2) := by kernel_rfl
  exact (zero_of_info h).1
 have hlen : (Builtin.zeroCells #[.string ⟨#[]⟩, .slice none 0 0] n).toList.length = n * 2 := by simp [Builtin.zeroCells]
 have hone : ∀ v ∈ (Builtin.zeroCells #[.string ⟨#[]⟩, .slice none 0 0] n).toList, v.oneCell' = true := by
  intro v hv
  obtain ⟨i, hi, rfl⟩ := List.getElem_of_mem hv
  simp only [Builtin.zeroCells, Array.getElem_toList]
  have h2 : i % 2 = 0 ∨ i % 2 = 1 := by omega
  rcases h2 with h2 | h2 <;> simp [h2] <;> rfl
 have hst := run_storeCells_cells (P := Tryz.prog) b o (Builtin.zeroCells #[.string ⟨#[]⟩, .slice none 0 0] n).toList 0 w (by rw [hlen]; simpa using hc) (by rw [hlen]; simpa using hf) hone
 simp only [Nat.add_zero] at hst
 obtain ⟨m, rfl⟩ : ∃ m, n = m + 1 := ⟨n - 1, by omega⟩
 have hcl : (Value.agg #[.string ⟨#[]⟩, .slice none 0 0]).cells = #[.string ⟨#[]⟩, .slice none 0 0] := rfl
 simp [Builtin.clear_, run_underlying Tryz.underlying35, hv, hcl, hst]
set_option maxHeartbeats 4000000 in
theorem index_us (a : Option Addr) (c : Nat) (l : List UsL) (N g B : Nat) (p : UsL → Bool) (Inv : World → Prop) (W : World) (hr : PpSl W a (l.map usp)) (hi : Inv W) (hB : B ≤ W.heap.size) (hl : l.length ≤ 1000000) (hF : ∀ args V, Sem.run Tryz.prog (callFunc N args) V = .ok (.enter N args) V)
  (hv : ∀ W W', Inv W → Below B W W' → Inv W') (hN : ∀ x ∈ l, ∀ V, Inv V → Calls Tryz.prog N #[.agg #[.string x.u, .slice x.a x.l.length x.c], .pointer (some ⟨g, 0, none⟩)] V fun r w' => r = .returned (.bool (p x)) ∧ Below V.heap.size V w') :
  Calls Tryz.prog 283 #[.slice a l.length c, .func (.func N) #[] #[.pointer (some ⟨g, 0, none⟩)]] W fun r w' => r = .returned (.int .i64 (idxO p l)) ∧ Below W.heap.size W w' := by
 have HR := Lib.hid hr
 have HI := Lib.hid hi
 have HV := Lib.hid hv
 have HC := Lib.hid hN
 clear hr hi hv hN
 go_enter Tryz.func283, Tryz.ntmps283
 go_wp2
 go_loopw [8] (fun i wr => ∃ (j : Nat), j ≤ l.length ∧ i = .int .i64 j ∧ Hid (LowK p l j) ∧ Hid (Below W.heap.size W wr)) (fun i _ => l.length - (intOf i).toNat)
 case atStart => exact ⟨0, by omega, rfl, LowK.zero _ _, Below.refl _ _⟩
 case round =>
  obtain ⟨j, hj, rfl, HO, HB⟩ := hrel
  by_cases hjl : j < l.length
  ·obtain ⟨b, off, rfl, hbl, hc0, hc1⟩ := (HR.out.below HB.out).at_ (k := j) (by rw [List.length_map]; exact hjl)
   rw [List.getElem_map] at hc0 hc1
   have HCC := Lib.hid (HC.out l[j] (List.getElem_mem hjl) _ (HV.out _ _ HI.out (HB.out.mono hB)))
   have HNX := Lib.hid (HO.out.next hjl)
   have HHT := Lib.hid (fun h : p l[j] = true => (IsFst.mk (Nat.le_of_lt hjl) (fun i hi hij => HO.out i hi hij) (fun _ => h) : IsFst p l j))
   clear HC HV HI
   generalize l[j] = x at *
   unfold usp at hc0 hc1
   dsimp only at hc0 hc1
   cases hb : p x with
   | false =>
    have HN := Lib.hid (HNX.out hb)
    rw [hb] at HCC
    clear HNX HHT hb
    go_wp2_with fail
    refine HCC.out.mono ?_
    rintro r w2 ⟨rfl, hB2⟩
    go_wp2
    go_roundw
    case rel => exact ⟨j + 1, by omega, by go_num, HN, HB.out.trans (hB2.mono HB.out.size)⟩
    case measure => simp [intOf]; omega
   | true =>
    have HN := Lib.hid (idxO_hit (HHT.out hb) hjl)
    rw [hb] at HCC
    clear HNX HHT hb
    go_wp2_with fail
    refine HCC.out.mono ?_
    rintro r w2 ⟨rfl, hB2⟩
    go_wp2
    go_ret
    exact ⟨by rw [HN.out]; rfl, HB.out.trans (hB2.mono HB.out.size)⟩
  ·obtain rfl : j = l.length := by omega
   have HE := Lib.hid (idxO_miss (p := p) (l := l) ⟨Nat.le_refl _, fun i hi hij => HO.out i hi hij, fun h => absurd h (by omega)⟩)
   go_wp2
   go_ret
   exact ⟨by rw [HE.out]; rfl, HB.out⟩
theorem idxO_cases {α : Type} (p : α → Bool) (l : List α) : (idxO p l = -1 ∧ ∀ x ∈ l, p x = false) ∨ ∃ k, ∃ h : k < l.length, idxO p l = (k : Nat) ∧ LowK p l k ∧ p l[k] = true := by
 have h := fst_idx p l
 rcases Nat.lt_or_ge (l.findIdx p) l.length with h1 | h1
 ·refine .inr ⟨_, h1, idxO_hit h h1, fun i hi hij => ?_, List.findIdx_getElem⟩
  exact List.not_of_lt_findIdx hij
 ·refine .inl ⟨?_, fun x hx => ?_⟩
  ·unfold idxO
   rw [if_neg (by omega)]
  ·have := List.findIdx_eq_length.1 (Nat.le_antisymm List.findIdx_le_length h1)
   simpa using this x hx
structure DelW (w : World) (B g cap : Nat) (p : UsL → Bool) (D : List UsL) (j i : Nat) (M : List UsL) (W : World) : Prop where
 del : DelK p D j i M
 own : W.ownsRow B 108 2 (.slice (some ⟨g, 0, none⟩) D.length cap) D.length (usv M)
 frame : Below B w W
theorem DelW.below {w W W' : World} {B g cap : Nat} {p : UsL → Bool} {D : List UsL} {j i : Nat} {M : List UsL} (h : DelW w B g cap p D j i M W) (q : Below W.heap.size W W') (hB : B ≤ W.heap.size) : DelW w B g cap p D j i M W' :=
 ⟨h.del, own_below h.own q, h.frame.trans (q.mono hB)⟩
theorem usv_get {M : List UsL} {k : Nat} (h : k < M.length) : (usv M)[k * 2]? = some (.string M[k].u) ∧ (usv M)[k * 2 + 1]? = some (.slice M[k].a M[k].l.length M[k].c) := by
 obtain ⟨h0, h1⟩ := pps_get (M.map usp) k (by rw [List.length_map]; exact h)
 rw [List.getElem_map] at h0 h1
 exact ⟨h0, h1⟩
theorem usv_len (M : List UsL) : (usv M).length = M.length * 2 := by unfold usv; rw [pps_len, List.length_map]
theorem usv_set (M : List UsL) (x : UsL) {i : Nat} (h : i < M.length) : ((usv M).set (i * 2) (.string x.u)).set (i * 2 + 1) (.slice x.a x.l.length x.c) = usv (M.set i x) := by
 unfold usv
 rw [List.map_set]
 exact pps_set (M.map usp) (usp x) i (by rw [List.length_map]; exact h)
theorem usv_take (M : List UsL) (i : Nat) : (usv M).take (i * 2) = usv (M.take i) := by
 induction M generalizing i with
 | nil => simp [usv, pps]
 | cons x M ih =>
  cases i with
  | zero => simp [usv, pps]
  | succ i =>
   have := ih i
   unfold usv at this ⊢
   rw [List.map_cons, List.take_succ_cons, List.map_cons, pps_cons, pps_cons, show (i + 1) * 2 = i * 2 + 1 + 1 by omega, ← this]
   rfl
theorem DelW.cell {w W : World} {B g cap : Nat} {p : UsL → Bool} {D : List UsL} {j i : Nat} {M : List UsL} (h : DelW w B g cap p D j i M W) {k : Nat} (hk : k < M.length) : W.cell? ⟨g, k * 2, none⟩ = some (.string M[k].u) ∧ W.cell? ⟨g, k * 2 + 1, none⟩ = some (.slice M[k].a M[k].l.length M[k].c) := by
 obtain ⟨h0, h1⟩ := usv_get hk
 have hl := h.del.len
 rw [h.own.cellAt _ (by omega), h.own.cellAt _ (by omega)]
 exact ⟨h0, h1⟩
theorem DelW.lt {w W : World} {B g cap : Nat} {p : UsL → Bool} {D : List UsL} {j i : Nat} {M : List UsL} (h : DelW w B g cap p D j i M W) : B ≤ g ∧ g < W.heap.size := h.own.lt g rfl
theorem DelW.store {w W : World} {B g cap : Nat} {p : UsL → Bool} {D : List UsL} {j i : Nat} {M : List UsL} (h : DelW w B g cap p D j i M W) (hj : j < D.length) (hp : p D[j] = false) :
  DelW w B g cap p D (j + 1) (i + 1) (M.set i D[j]) ((W.setCell ⟨g, i * 2, none⟩ (.string D[j].u)).setCell ⟨g, i * 2 + 1, none⟩ (.slice D[j].a D[j].l.length D[j].c)) := by
 have hle := h.del.le
 have hl := h.del.len
 refine ⟨h.del.keep hj hp, ?_, (h.frame.setCell (p := ⟨g, i * 2, none⟩) h.lt.1 _).setCell (p := ⟨g, i * 2 + 1, none⟩) h.lt.1 _⟩
 rw [← usv_set M D[j] (by omega)]
 exact ((h.own.stored _ _).1.stored _ _).1
theorem DelW.skip {w W : World} {B g cap : Nat} {p : UsL → Bool} {D : List UsL} {j i : Nat} {M : List UsL} (h : DelW w B g cap p D j i M W) (hj : j < D.length) (hp : p D[j] = true) : DelW w B g cap p D (j + 1) i M W :=
 ⟨h.del.skip hj hp, h.own, h.frame⟩
theorem DelW.clear {w W : World} {B g cap : Nat} {p : UsL → Bool} {D : List UsL} {i : Nat} {M : List UsL} (h : DelW w B g cap p D D.length i M W) (zs : List Value) :
  (W.setCells g (i * 2) zs).ownsRow B 108 2 (.slice (some ⟨g, 0, none⟩) i cap) (D.filter fun x => !p x).length (usv (D.filter fun x => !p x)) ∧ Below B w (W.setCells g (i * 2) zs) := by
 obtain ⟨ys, h1, h2, h3⟩ := own_setCells zs (i * 2) h.own (m := i * 2) (Nat.le_refl _)
 have hc := own_cut h1 (m := i) h.del.le
 rw [h2, usv_take, h.del.done] at hc
 rw [h.del.num]
 exact ⟨hc, h.frame.trans (h3 h.lt.1)⟩
set_option maxHeartbeats 8000000 in
theorem del_us (v : Value) (l : List UsL) (N g B : Nat) (p : UsL → Bool) (Inv : World → Prop) (W : World) (ho : W.ownsRow B 108 2 v l.length (usv l)) (hi : Inv W) (hB : B ≤ W.heap.size) (hl : l.length ≤ 1000000) (hF : ∀ args V, Sem.run Tryz.prog (callFunc N args) V = .ok (.enter N args) V)
  (hv : ∀ W W', Inv W → Below B W W' → Inv W') (hN : ∀ x ∈ l, ∀ V, Inv V → Calls Tryz.prog N #[.agg #[.string x.u, .slice x.a x.l.length x.c], .pointer (some ⟨g, 0, none⟩)] V fun r w' => r = .returned (.bool (p x)) ∧ Below V.heap.size V w') :
  Calls Tryz.prog 262 #[v, .func (.func N) #[] #[.pointer (some ⟨g, 0, none⟩)]] W fun r w' => ∃ v', r = .returned v' ∧ w'.ownsRow B 108 2 v' (l.filter fun x => !p x).length (usv (l.filter fun x => !p x)) ∧ Below B W w' := by
 obtain ⟨a, c, rfl, hlc, hcm, hr, hnil⟩ := own_us ho
 have HX := Lib.hid (index_us a c l N g B p Inv W hr hi hB hl hF hv hN)
 rcases idxO_cases p l with ⟨h1, h2⟩ | ⟨k, hk, h1, h2, h3⟩
 ·rw [h1] at HX
  have HF := Lib.hid (notAll h2)
  have HO := Lib.hid ho
  clear ho hi hv hN hr h1 h2 hnil
  go_enter Tryz.func262, Tryz.ntmps262
  go_wp2_with fail
  refine HX.out.mono ?_
  rintro r w2 ⟨rfl, hB2⟩
  go_wp2
  go_ret
  exact ⟨_, rfl, (by rw [HF.out]; exact own_below HO.out hB2), hB2.mono hB⟩
 ·rw [h1] at HX
  have hne : ((k : Int) == -1) = false := by rw [beq_eq_false_iff_ne]; omega
  obtain ⟨ga, rfl⟩ : ∃ ga, a = some ⟨ga, 0, none⟩ := by
   rcases ho.2 with ⟨e, hn⟩ | ⟨ga, _, _, e, _⟩
   ·omega
   ·cases e; exact ⟨ga, rfl⟩
  have HD : Hid (∀ w2, Below W.heap.size W w2 → DelW W B ga c p l (k + 1) k l w2) := fun w2 hB2 => ⟨DelK.start h2 hk h3, own_below ho hB2, hB2.mono hB⟩
  have HI := Lib.hid hi
  have HV := Lib.hid hv
  have HC := Lib.hid hN
  clear ho hi hv hN hr h1 h2 h3 hnil
  go_enter Tryz.func262, Tryz.ntmps262
  go_wp2_with fail
  refine HX.out.mono ?_
  rintro r w2 ⟨rfl, hB2⟩
  have HD2 := Lib.hid (HD.out _ hB2)
  have hS2 := Nat.le_trans hB hB2.size
  clear hB2 HD HX
  go_wp2
  go_loopw [5, 6] (fun iv jv wr => ∃ (i j : Nat) (M : List UsL), i < j ∧ j ≤ l.length ∧ iv = .int .i64 i ∧ jv = .int .i64 j ∧ B ≤ wr.heap.size ∧ Hid (DelW W B ga c p l j i M wr)) (fun _ jv _ => l.length - (intOf jv).toNat)
  case atStart => exact ⟨k, k + 1, l, by omega, by omega, rfl, by go_num, hS2, HD2.out⟩
  case round =>
   clear HD2 hS2
   obtain ⟨i, j, M, hij, hj, rfl, rfl, hS, HD⟩ := hrel
   by_cases hjl : j < l.length
   ·have hml : M.length = l.length := HD.out.del.len
    obtain ⟨hc0, hc1⟩ := HD.out.cell (k := j) (by omega)
    have hat := HD.out.del.at_ hjl (by omega)
    rw [hat] at hc0 hc1
    have hb1 := below_one wr (.cells #[.string l[j].u, .slice l[j].a l[j].l.length l[j].c] 108)
    have HCC := Lib.hid (HC.out l[j] (List.getElem_mem hjl) _ (HV.out _ _ HI.out (HD.out.frame.trans (hb1.mono hS))))
    have HB1 := Lib.hid hb1
    have HST := Lib.hid (fun V (h : DelW W B ga c p l j i M V) hp => h.store hjl hp)
    have HSK := Lib.hid (fun hp => HD.out.skip hjl hp)
    have HCE := Lib.hid (fun V (h : DelW W B ga c p l j i M V) => h.cell (k := i) (by omega))
    have hblk := heap_alloc_new wr (.cells #[.string l[j].u, .slice l[j].a l[j].l.length l[j].c] 108)
    have HBK := Lib.hid hblk
    clear HC HV HI hat hb1 hblk
    generalize l[j] = x at *
    cases hb : p x with
    | true =>
     rw [hb] at HCC
     have HN := Lib.hid (HSK.out hb)
     clear HST HSK HCE hb
     go_wp2_with fail
     refine HCC.out.mono ?_
     rintro r w3 ⟨rfl, hB3⟩
     have HN2 := Lib.hid (HN.out.below (HB1.out.trans (hB3.mono HB1.out.size)) hS)
     have hS3 : B ≤ w3.heap.size := Nat.le_trans hS (Nat.le_trans HB1.out.size hB3.size)
     clear hB3
     go_wp2
     go_roundw
     case rel => exact ⟨i, j + 1, M, by omega, by omega, rfl, by go_num, hS3, HN2.out⟩
     case measure => simp [intOf]; omega
    | false =>
     rw [hb] at HCC
     have HN := Lib.hid (fun V (h : DelW W B ga c p l j i M V) => HST.out V h hb)
     clear HST HSK hb
     go_wp2_with fail
     refine HCC.out.mono ?_
     rintro r w3 ⟨rfl, hB3⟩
     have hD3 := HD.out.below (HB1.out.trans (hB3.mono HB1.out.size)) hS
     have hS3 : B ≤ w3.heap.size := Nat.le_trans hS (Nat.le_trans HB1.out.size hB3.size)
     have HN3 := Lib.hid (HN.out _ hD3)
     obtain ⟨d0, d1⟩ := HCE.out _ hD3
     have hf0 := hD3.own.frozenAt (i * 2)
     have hf1 := hD3.own.frozenAt (i * 2 + 1)
     have hgl := hD3.lt.2
     have hx3 := (hB3.block _ (by rw [size1]; omega)).trans HBK.out
     obtain ⟨e0, e1⟩ := pcell2 hx3
     have hS4 : Hid (B ≤ ((w3.setCell ⟨ga, i * 2, none⟩ (.string x.u)).setCell ⟨ga, i * 2 + 1, none⟩ (.slice x.a x.l.length x.c)).heap.size) := by
      unfold Hid
      rw [size_set, size_set]
      exact hS3
     clear hB3 hD3 HN HCE hx3 HBK
     go_wp2
     go_roundw
     case rel => exact ⟨i + 1, j + 1, _, by omega, by omega, by go_num, by go_num, hS4.out, HN3.out⟩
     case measure => simp [intOf]; omega
   ·obtain rfl : j = l.length := by omega
    have hml : M.length = l.length := HD.out.del.len
    have hcl : ∀ ty, (Builtin.clear_ #[35] ty #[.slice (some ⟨ga, i * 2, none⟩) (l.length - i) (c - i)]).run Tryz.prog wr = .ok (.tuple #[]) (wr.setCells ga (i * 2) (Builtin.zeroCells #[.string ⟨#[]⟩, .slice none 0 0] (l.length - i)).toList) := fun ty =>
     run_clear_us wr ty ga (i * 2) _ _ (by omega) (fun t ht => by rw [HD.out.own.cellAt _ (by omega), List.getElem?_eq_getElem (by rw [usv_len]; omega)]; rfl) (fun t ht => HD.out.own.frozenAt _)
    have HFN := Lib.hid (HD.out.clear (Builtin.zeroCells #[.string ⟨#[]⟩, .slice none 0 0] (l.length - i)).toList)
    clear HC HV HI HD
    go_wp2
    go_ret
    exact ⟨_, rfl, HFN.out.1, HFN.out.2⟩
theorem txt_dec (a b : ByteArray) : (a.toList == b.toList) = decide (a = b) := by
 by_cases h : a = b
 ·subst h; rw [txt_eq, decide_eq_true rfl]
 ·rw [txt_ne h, decide_eq_false h]
theorem txt_ndec (a b : ByteArray) : (a.toList != b.toList) = !decide (a = b) := by unfold bne; rw [txt_dec]
set_option maxHeartbeats 1000000 in
theorem userName_any (u : ByteArray) (a : Option Addr) (n c : Nat) (W : World) :
  Calls Tryz.prog 117 #[.agg #[.string u, .slice a n c]] W fun r w' => r = .returned (.string u) ∧ Below W.heap.size W w' := by
 have HB := Lib.hid (below_one W (.cells #[.string u, .slice a n c] 108))
 go_enter Tryz.func117, Tryz.ntmps117
 go_wp2
 go_ret
 exact ⟨rfl, HB.out⟩
set_option maxHeartbeats 1000000 in
theorem tombName_any (u : ByteArray) (n : Int) (W : World) :
  Calls Tryz.prog 126 #[.agg #[.string u, .int .i64 n]] W fun r w' => r = .returned (.string u) ∧ Below W.heap.size W w' := by
 have HB := Lib.hid (below_one W (.cells #[.string u, .int .i64 n] 141))
 go_enter Tryz.func126, Tryz.ntmps126
 go_wp2
 go_ret
 exact ⟨rfl, HB.out⟩
set_option maxHeartbeats 1000000 in
theorem c_staysOf (x : UsL) (u : ByteArray) (g : Nat) (W : World) (h : CapO W g (.string u)) :
  Calls Tryz.prog 155 #[.agg #[.string x.u, .slice x.a x.l.length x.c], .pointer (some ⟨g, 0, none⟩)] W fun r w' => r = .returned (.bool (decide (x.u = u))) ∧ Below W.heap.size W w' := by
 have hb := below_one W (.cells #[.string x.u, .slice x.a x.l.length x.c] 108)
 obtain ⟨c0, hg⟩ := h.below hb
 have HB := Lib.hid hb
 have HE := Lib.hid (txt_dec x.u u)
 clear hb hg h
 go_enter Tryz.func155, Tryz.ntmps155
 go_wp2
 go_ret
 exact ⟨retB HE.out, HB.out⟩
set_option maxHeartbeats 1000000 in
theorem c_erased (x : UsL) (u : ByteArray) (g : Nat) (W : World) (h : CapO W g (.string u)) :
  Calls Tryz.prog 237 #[.agg #[.string x.u, .slice x.a x.l.length x.c], .pointer (some ⟨g, 0, none⟩)] W fun r w' => r = .returned (.bool (!decide (x.u = u))) ∧ Below W.heap.size W w' := by
 have hb := below_one W (.cells #[.string x.u, .slice x.a x.l.length x.c] 108)
 obtain ⟨c0, hg⟩ := h.below hb
 have HB := Lib.hid hb
 have HE := Lib.hid (txt_ndec x.u u)
 clear hb hg h
 go_enter Tryz.func237, Tryz.ntmps237
 go_wp2
 go_ret
 exact ⟨retB HE.out, HB.out⟩
set_option maxHeartbeats 1000000 in
theorem c_those (x : UsL) (N g b : Nat) (q : Bool) (W : World) (h : CapO W b (.func (.func N) #[] #[.pointer (some ⟨g, 0, none⟩)])) (hF : ∀ args V, Sem.run Tryz.prog (callFunc N args) V = .ok (.enter N args) V)
  (hN : ∀ V, Below W.heap.size W V → Calls Tryz.prog N #[.agg #[.string x.u, .slice x.a x.l.length x.c], .pointer (some ⟨g, 0, none⟩)] V fun r w' => r = .returned (.bool q) ∧ Below V.heap.size V w') :
  Calls Tryz.prog 263 #[.agg #[.string x.u, .slice x.a x.l.length x.c], .pointer (some ⟨b, 0, none⟩)] W fun r w' => r = .returned (.bool !q) ∧ Below W.heap.size W w' := by
 have hb := below_one W (.cells #[.string x.u, .slice x.a x.l.length x.c] 108)
 obtain ⟨c0, hg⟩ := h.below hb
 have HB := Lib.hid hb
 have HC := Lib.hid (hN _ hb)
 clear hb hg h hN
 go_enter Tryz.func263, Tryz.ntmps263
 go_wp2_with fail
 refine HC.out.mono ?_
 rintro r w2 ⟨rfl, hB⟩
 go_wp2
 go_ret
 exact ⟨rfl, HB.out.trans (hB.mono HB.out.size)⟩
def butU (u : ByteArray) (D : List UsL) : List UsL := D.filter fun x => !decide (x.u = u)
theorem butU_m (u : ByteArray) (D : List UsL) : umS (butU u D) = (umS D).filter fun x => !isKy UsM.u u x := by
 unfold umS butU
 rw [List.filter_map]
 rfl
set_option maxHeartbeats 2000000 in
theorem those_any (a : Option Addr) (c : Nat) (D : List UsL) (u : ByteArray) (g : Nat) (w : World) (hr : UsSl w a D) (hc : Cp a D.length c) (hl : D.length ≤ 10000) (hg : CapO w g (.string u)) :
  Calls Tryz.prog 236 #[.slice a D.length c, .func (.func 237) #[] #[.pointer (some ⟨g, 0, none⟩)]] w fun e w' => ∃ x q, e = .returned (.slice x (butU u D).length q) ∧ UsSl w' x (butU u D) ∧ Cp x (butU u D).length q ∧ Below w.heap.size w w' := by
 have hb := below_one w (.cells #[.func (.func 237) #[] #[.pointer (some ⟨g, 0, none⟩)]] 190)
 have hcap : CapO (w.alloc (.cells #[.func (.func 237) #[] #[.pointer (some ⟨g, 0, none⟩)]] 190)) w.heap.size (.func (.func 237) #[] #[.pointer (some ⟨g, 0, none⟩)]) := ⟨cell_of_row _ _ 0 _ _ (0, 0) (heap_alloc_new w _), by rw [size1]; omega⟩
 have HCL := Lib.hid (pclone_us a c (D.map usp) (usp_one D) (w.alloc (.cells #[.func (.func 237) #[] #[.pointer (some ⟨g, 0, none⟩)]] 190)) (hr.row.below hb) (by rw [List.length_map]; exact hc) (by rw [List.length_map]; omega))
 rw [List.length_map] at HCL
 have HDE : Hid (∀ v V, (w.alloc (.cells #[.func (.func 237) #[] #[.pointer (some ⟨g, 0, none⟩)]] 190)).heap.size ≤ V.heap.size → Below (w.alloc (.cells #[.func (.func 237) #[] #[.pointer (some ⟨g, 0, none⟩)]] 190)).heap.size (w.alloc (.cells #[.func (.func 237) #[] #[.pointer (some ⟨g, 0, none⟩)]] 190)) V → V.ownsRow (w.alloc (.cells #[.func (.func 237) #[] #[.pointer (some ⟨g, 0, none⟩)]] 190)).heap.size 108 2 v D.length (usv D) →
   Calls Tryz.prog 262 #[v, .func (.func 263) #[] #[.pointer (some ⟨w.heap.size, 0, none⟩)]] V fun r w' => ∃ v', r = .returned v' ∧ w'.ownsRow (w.alloc (.cells #[.func (.func 237) #[] #[.pointer (some ⟨g, 0, none⟩)]] 190)).heap.size 108 2 v' (butU u D).length (usv (butU u D)) ∧ Below (w.alloc (.cells #[.func (.func 237) #[] #[.pointer (some ⟨g, 0, none⟩)]] 190)).heap.size V w') := fun v V hsz hbV hoV => by
  have h := del_us v D 263 w.heap.size (w.alloc (.cells #[.func (.func 237) #[] #[.pointer (some ⟨g, 0, none⟩)]] 190)).heap.size (fun x => decide (x.u = u))
   (fun V => CapO V w.heap.size (.func (.func 237) #[] #[.pointer (some ⟨g, 0, none⟩)]) ∧ CapO V g (.string u) ∧ (w.alloc (.cells #[.func (.func 237) #[] #[.pointer (some ⟨g, 0, none⟩)]] 190)).heap.size ≤ V.heap.size) V hoV ⟨hcap.below hbV, (hg.below hb).below hbV, hsz⟩ hsz (by omega) (call_known Tryz.func263 rfl)
   (fun W W' h q => by
    have hw1 : w.heap.size < (w.alloc (.cells #[.func (.func 237) #[] #[.pointer (some ⟨g, 0, none⟩)]] 190)).heap.size := by rw [size1]; omega
    have hw2 : g < (w.alloc (.cells #[.func (.func 237) #[] #[.pointer (some ⟨g, 0, none⟩)]] 190)).heap.size := Nat.lt_trans hg.2 hw1
    exact ⟨⟨(q.cell (p := ⟨w.heap.size, 0, none⟩) hw1).trans h.1.1, Nat.lt_of_lt_of_le h.1.2 q.size⟩, ⟨(q.cell (p := ⟨g, 0, none⟩) hw2).trans h.2.1.1, Nat.lt_of_lt_of_le h.2.1.2 q.size⟩, Nat.le_trans h.2.2 q.size⟩)
   (fun x hx V h => by
    have h2 := c_those x 237 g w.heap.size (!decide (x.u = u)) V h.1 (call_known Tryz.func237 rfl) (fun V' q => c_erased x u g V' (h.2.1.below q))
    rw [Bool.not_not] at h2
    exact h2)
  exact h
 have HU := Lib.hid hr
 have HB := Lib.hid hb
 clear hr hb hcap hg hc
 go_enter Tryz.func236, Tryz.ntmps236
 go_wp2_with fail
 refine HCL.out.mono ?_
 rintro e w2 ⟨v, rfl, ho, hB2⟩
 go_wp2_with fail
 refine (HDE.out v w2 hB2.size hB2 ho).mono ?_
 rintro e w3 ⟨v3, rfl, ho3, hB3⟩
 have hB4 : Below w.heap.size w w3 := HB.out.trans ((hB2.trans hB3).mono HB.out.size)
 have HO := Lib.hid ho3
 have HB4 := Lib.hid hB4
 clear hB2 hB3 ho3 ho hB4 HB HDE HCL
 go_wp2
 go_ret
 obtain ⟨x, q, rfl, h1, h2, h3, h4⟩ := own_us HO.out
 exact ⟨x, q, rfl, ⟨h3, fun y hy => (HU.out.at_ y (List.mem_filter.1 hy).1).below HB4.out⟩, ⟨h1, h2, h4⟩, HB4.out⟩
theorem fst_key {D : List UsL} {u : ByteArray} {k : Nat} (hk : D.findIdx (fun x => decide (x.u = u)) = k) : (k = D.length ∧ ofU (umS D) u = []) ∨ ∃ h : k < D.length, ofU (umS D) u = D[k].l ∧ D[k].u = u := by
 have hf : (umS D).find? (isKy UsM.u u) = (D.find? (fun x => decide (x.u = u))).map UsL.m := by
  unfold umS
  rw [List.find?_map]
  rfl
 have hle : D.findIdx (fun x => decide (x.u = u)) ≤ D.length := List.findIdx_le_length
 rcases Nat.lt_or_ge k D.length with h1 | h1
 ·refine .inr ⟨h1, ?_, ?_⟩
  ·have h2 : D.find? (fun x => decide (x.u = u)) = some D[k] := by
    rw [List.find?_eq_some_iff_getElem]
    refine ⟨?_, k, h1, rfl, fun j hj => ?_⟩
    ·have := (List.findIdx_eq h1).1 hk
     exact this.1
    ·have := ((List.findIdx_eq h1).1 hk).2 j hj
     simpa using this
   unfold ofU
   rw [hf, h2]
   rfl
  ·exact of_decide_eq_true ((List.findIdx_eq h1).1 hk).1
 ·refine .inl ⟨by omega, ?_⟩
  have h2 : D.find? (fun x => decide (x.u = u)) = none := by
   rw [List.find?_eq_none]
   intro x hx
   have := List.findIdx_eq_length.1 (show D.findIdx (fun x => decide (x.u = u)) = D.length by omega) x hx
   simpa using this
  unfold ofU
  rw [hf, h2]
  rfl
set_option maxHeartbeats 2000000 in
theorem staysOf_any (a : Option Addr) (c : Nat) (D : List UsL) (u : ByteArray) (w : World) (hr : UsSl w a D) (hl : D.length ≤ 10000) :
  Calls Tryz.prog 90 #[.slice a D.length c, .string u] w fun e w' => ∃ x q, e = .returned (.slice x (ofU (umS D) u).length q) ∧ StSl w' x (ofU (umS D) u) ∧ Cp x (ofU (umS D) u).length q ∧ Below w.heap.size w w' := by
 have hb := below_one w (.cells #[.string u] 9)
 have hcap : CapO (w.alloc (.cells #[.string u] 9)) w.heap.size (.string u) := ⟨cell_of_row _ _ 0 _ _ (0, 0) (heap_alloc_new w _), by rw [size1]; omega⟩
 have HF := Lib.hid (find_us a c D 155 w.heap.size (fun x => decide (x.u = u)) (fun V => CapO V w.heap.size (.string u)) _ (hr.below hb) hcap (by omega) (call_known Tryz.func155 rfl) (fun W W' h q => h.below q) (fun x hx V _ h => c_staysOf x u w.heap.size V h))
 have HK := Lib.hid (fst_key (D := D) (u := u) rfl)
 have HB := Lib.hid hb
 have HR := Lib.hid hr
 clear hr hb hcap
 generalize D.findIdx (fun x => decide (x.u = u)) = k at *
 generalize ofU (umS D) u = m at *
 rcases HK.out with ⟨h1, h2⟩ | ⟨h1, h2, _⟩
 ·subst h2
  have d1 : ((k : Int) == (D.length : Int)) = true := by rw [h1]; exact beq_self_eq_true _
  clear h1 HK HR
  go_enter Tryz.func90, Tryz.ntmps90
  go_wp2_with fail
  refine HF.out.mono ?_
  rintro e w2 ⟨rfl, hB2⟩
  go_wp2
  go_ret
  exact ⟨none, 0, rfl, StSl.nil _ _, Cp.none, HB.out.trans (hB2.mono HB.out.size)⟩
 ·have d1 : ((k : Int) == (D.length : Int)) = false := by rw [beq_eq_false_iff_ne]; omega
  have HM := Lib.hid h2
  clear HK h2
  go_enter Tryz.func90, Tryz.ntmps90
  go_wp2_with fail
  refine HF.out.mono ?_
  rintro e w2 ⟨rfl, hB2⟩
  have hB3 : Below w.heap.size w w2 := HB.out.trans (hB2.mono HB.out.size)
  obtain ⟨b, off, rfl, hbl, hc0, hc1, hat⟩ := (HR.out.below hB3).get h1
  have HB3 := Lib.hid hB3
  have HA := Lib.hid hat
  clear hB2 hB3 HF HB HR hat
  generalize D[k] = x at *
  go_wp2
  go_ret
  exact ⟨x.a, x.c, by rw [HM.out]; rfl, by rw [HM.out]; exact HA.out.st, by rw [HM.out]; exact ⟨HA.out.le, HA.out.mx, HA.out.nil⟩, HB3.out⟩
theorem no_key {α : Type} {key : α → ByteArray} {u : ByteArray} {l : List α} (hr : RiseK key l) {k : Nat} (h : IsFst (notBel key u) l k) (hk : ∀ h : k < l.length, key l[k] ≠ u) : ∀ x ∈ l, key x ≠ u := fun x hx e => by
 obtain ⟨h1, h2⟩ := fst_parts hr h
 obtain ⟨i, hi, rfl⟩ := List.getElem_of_mem hx
 rcases Nat.lt_trichotomy i k with h3 | h3 | h3
 ·have h4 : l[i] ∈ l.filter (belK key u) := by rw [h1]; exact List.mem_take_iff_getElem.2 ⟨i, by omega, rfl⟩
  exact cmpS_ne (belK_iff.1 (List.mem_filter.1 h4).2) e
 ·subst h3; exact hk hi e
 ·have hkl : k < l.length := by omega
  have h5 := List.pairwise_iff_getElem.1 hr k i hkl hi h3
  rw [e] at h5
  exact h2 l[k] (List.mem_drop_iff_getElem.2 ⟨0, by omega, by simp⟩) h5
def geqK {α : Type} (key : α → ByteArray) (u : ByteArray) (x : α) : Bool := decide (0 ≤ cmpS (key x) u)
theorem geq_bel {α : Type} (key : α → ByteArray) (u : ByteArray) (x : α) : geqK key u x = notBel key u x := by
 unfold geqK notBel belK
 by_cases h : cmpS (key x) u < 0
 ·rw [decide_eq_true h, decide_eq_false (by omega)]; rfl
 ·rw [decide_eq_false h, decide_eq_true (by omega)]; rfl
theorem geq_fst {α : Type} {key : α → ByteArray} {u : ByteArray} {l : List α} {k : Nat} (h : l.findIdx (geqK key u) = k) : IsFst (notBel key u) l k := by
 subst h
 have h1 := fst_idx (geqK key u) l
 have e : geqK key u = notBel key u := funext fun x => geq_bel key u x
 rw [e] at h1 ⊢
 exact h1
theorem umS_idx (u : ByteArray) (D : List UsL) : D.findIdx (fun x => decide (0 ≤ cmpS x.u u)) = (umS D).findIdx (geqK UsM.u u) := by
 unfold umS
 rw [List.findIdx_map]
 rfl
theorem umS_put (D : List UsL) (p : UsL) (i j : Nat) : umS (D.take i ++ p :: D.drop j) = (umS D).take i ++ ([p.m] ++ (umS D).drop j) := by
 unfold umS
 rw [List.map_append, List.map_cons, List.map_take, List.map_drop]
 rfl
theorem put_new {D : List UsL} {p : UsL} {k : Nat} (hr : RiseK UsM.u (umS D)) (hk : D.findIdx (fun x => decide (0 ≤ cmpS x.u p.u)) = k) (hn : ∀ h : k < D.length, D[k].u ≠ p.u) : umS (D.take k ++ p :: D.drop k) = insK UsM.u p.u [p.m] (umS D) := by
 rw [umS_idx] at hk
 have hf := geq_fst hk
 rw [umS_put, ins_new hr hf (no_key hr hf fun h => by have := hn (by rwa [umS_len] at h); simpa [umS, UsL.m] using this)]
theorem put_old {D : List UsL} {p : UsL} {k : Nat} (hr : RiseK UsM.u (umS D)) (hk : k < D.length) (he : D[k].u = p.u) : umS (D.take k ++ p :: D.drop (k + 1)) = insK UsM.u p.u [p.m] (umS D) := by
 rw [umS_put, ins_old hr (k := k) (by rw [umS_len]; exact hk) (by simpa [umS, UsL.m] using he)]
theorem tput_new {D : List TbM} {p : TbM} {k : Nat} (hr : RiseK TbM.u D) (hk : D.findIdx (fun x => decide (0 ≤ cmpS x.u p.u)) = k) (hn : ∀ h : k < D.length, D[k].u ≠ p.u) : D.take k ++ p :: D.drop k = insK TbM.u p.u [p] D := by
 have hf := geq_fst (key := TbM.u) hk
 rw [ins_new hr hf (no_key hr hf hn)]
 rfl
theorem tput_old {D : List TbM} {p : TbM} {k : Nat} (hr : RiseK TbM.u D) (hk : k < D.length) (he : D[k].u = p.u) : D.take k ++ p :: D.drop (k + 1) = insK TbM.u p.u [p] D := by
 rw [ins_old hr hk he]
 rfl
theorem psl_drew3 (W : World) (xs : Array Value) (t : TypeId) : Sl (W.alloc (.cells xs t)).drew (some ⟨W.heap.size, 0, none⟩) xs.toList := (sl_lit W xs t).drewN 1
theorem own_low2 {w : World} {B B' e k n : Nat} {v : Value} {xs : List Value} (h : w.ownsRow B e k v n xs) (hB : B' ≤ B) : w.ownsRow B' e k v n xs := own_base h hB
theorem pconcat3_us (x y : Option Addr) (A B : List (Value × Value)) (c1 c2 n1 n2 : Nat) (s0 s1 : Value) (h0 : s0.oneCell' = true) (h1' : s1.oneCell' = true) (W : World) (g1 g2 : Nat) (T : TypeId) (h1 : n1 = A.length) (h2 : n2 = B.length) (hA : PpSl W x A) (hB : PpSl W y B) (oA : OneP A) (oB : OneP B) (k1 : x = none → c1 = 0) (k2 : y = none → c2 = 0) (hg1 : g1 = W.heap.size) (hg2 : g2 = W.heap.size + 1) (hl : A.length + B.length ≤ 10000) :
  Calls Tryz.prog 258 #[.slice (some ⟨g2, 0, none⟩) 3 3] ((W.alloc (.cells #[s0, s1] 108)).alloc (.cells #[.slice x n1 c1, .slice (some ⟨g1, 0, none⟩) 1 1, .slice y n2 c2] T)).drew fun e w' => ∃ v, e = .returned v ∧ w'.ownsRow W.heap.size 108 2 v (A ++ (s0, s1) :: B).length (pps (A ++ (s0, s1) :: B)) ∧ Below W.heap.size W w' := by
 subst hg1 h1 h2
 have hcat : catP [⟨x, A, c1⟩, ⟨some ⟨W.heap.size, 0, none⟩, [(s0, s1)], 1⟩, ⟨y, B, c2⟩] = A ++ (s0, s1) :: B := by simp [catP]
 have hb1 := below_one W (.cells #[s0, s1] 108)
 have hS := cells_pp W [(s0, s1)] #[s0, s1] 108 _ rfl rfl
 generalize hW1 : W.alloc (.cells #[s0, s1] 108) = W1 at *
 have hz : W1.heap.size = W.heap.size + 1 := by rw [← hW1, size1]
 have hb2 := below_one W1 (.cells #[.slice x A.length c1, .slice (some ⟨W.heap.size, 0, none⟩) 1 1, .slice y B.length c2] T)
 have hb2 := hb2.drew
 have hb := hb1.trans (hb2.mono hb1.size)
 have hlen : (catP [⟨x, A, c1⟩, ⟨some ⟨W.heap.size, 0, none⟩, [(s0, s1)], 1⟩, ⟨y, B, c2⟩]).length ≤ 100000 := by rw [hcat, List.length_append, List.length_cons]; omega
 rw [hg2, ← hz]
 refine (pconcat_us (some ⟨W1.heap.size, 0, none⟩) 3 [⟨x, A, c1⟩, ⟨some ⟨W.heap.size, 0, none⟩, [(s0, s1)], 1⟩, ⟨y, B, c2⟩] _ (psl_drew3 W1 #[.slice x A.length c1, .slice (some ⟨W.heap.size, 0, none⟩) 1 1, .slice y B.length c2] T) ?_ (by show 3 ≤ _; decide) hlen).mono ?_
 ·intro r hr
  simp only [List.mem_cons, List.mem_nil_iff, or_false] at hr
  rcases hr with rfl | rfl | rfl
  ·exact ⟨hA.below hb, oA, k1⟩
  ·exact ⟨hS.below hb2, fun y hy => by rw [List.mem_singleton.1 hy]; exact ⟨h0, h1'⟩, fun h => by cases h⟩
  ·exact ⟨hB.below hb, oB, k2⟩
 ·rintro e w' ⟨v, rfl, ho, hbb⟩
  rw [hcat] at ho
  exact ⟨v, rfl, own_low2 ho hb.size, hb.trans (hbb.mono hb.size)⟩
structure Ptus (w : World) (gf gp : Nat) (p : UsL) (a : Option Addr) (l : List UsL) (W : World) : Prop where
 f : CapO W gf (.func (.func 117) #[] #[])
 p : W.heap[gp]? = some (.cells #[.string p.u, .slice p.a p.l.length p.c] 108 (0, 0))
 row : PpSl W a (l.map usp)
 frame : Below w.heap.size w W
theorem Ptus.below {w W W' : World} {gf gp : Nat} {p : UsL} {a : Option Addr} {l : List UsL} (h : Ptus w gf gp p a l W) (q : Below W.heap.size W W') : Ptus w gf gp p a l W' :=
 ⟨h.f.below q, (q.block _ (heap_lt h.p)).trans h.p, h.row.below q, h.frame.trans (q.mono h.frame.size)⟩
theorem Ptus.cells {w W : World} {gf gp : Nat} {p : UsL} {a : Option Addr} {l : List UsL} (h : Ptus w gf gp p a l W) : W.cell? ⟨gf, 0, none⟩ = some (.func (.func 117) #[] #[]) ∧ W.cell? ⟨gp, 0, none⟩ = some (.string p.u) ∧ W.cell? ⟨gp, 1, none⟩ = some (.slice p.a p.l.length p.c) := ⟨h.f.1, pcell2 h.p⟩
theorem Ptus.at_ {w W : World} {gf gp : Nat} {p : UsL} {b off : Nat} {l : List UsL} (h : Ptus w gf gp p (some ⟨b, off, none⟩) l W) {j : Nat} (hj : j < l.length) : W.cell? ⟨b, off + j * 2, none⟩ = some (.string l[j].u) ∧ W.cell? ⟨b, off + j * 2 + 1, none⟩ = some (.slice l[j].a l[j].l.length l[j].c) := by
 obtain ⟨b', off', e, _, h0, h1⟩ := h.row.at_ (k := j) (by rw [List.length_map]; exact hj)
 cases e
 rw [List.getElem_map] at h0 h1
 exact ⟨h0, h1⟩
set_option maxHeartbeats 4000000 in
theorem c_put_us (x p : UsL) (gf gp : Nat) (W : World) (hf : CapO W gf (.func (.func 117) #[] #[])) (hp : W.heap[gp]? = some (.cells #[.string p.u, .slice p.a p.l.length p.c] 108 (0, 0))) :
  Calls Tryz.prog 257 #[.agg #[.string x.u, .slice x.a x.l.length x.c], .pointer (some ⟨gf, 0, none⟩), .pointer (some ⟨gp, 0, none⟩)] W fun r w' => r = .returned (.bool (decide (0 ≤ cmpS x.u p.u))) ∧ Below W.heap.size W w' := by
 have hb := below_one W (.cells #[.string x.u, .slice x.a x.l.length x.c] 108)
 have K0 : Ptus W gf gp p none [] (W.alloc (.cells #[.string x.u, .slice x.a x.l.length x.c] 108)) := ⟨hf.below hb, (hb.block _ (heap_lt hp)).trans hp, PpSl.nil _ _, hb⟩
 have HX : Hid (∀ V, Below (W.alloc (.cells #[.string x.u, .slice x.a x.l.length x.c] 108)).heap.size (W.alloc (.cells #[.string x.u, .slice x.a x.l.length x.c] 108)) V → V.cell? ⟨W.heap.size, 0, none⟩ = some (.string x.u) ∧ V.cell? ⟨W.heap.size, 1, none⟩ = some (.slice x.a x.l.length x.c)) := fun V q => pcell2 ((q.block _ (by rw [size1]; omega)).trans (heap_alloc_new W _))
 have HSC : Hid (∀ V, Ptus W gf gp p none [] V → Below (W.alloc (.cells #[.string x.u, .slice x.a x.l.length x.c] 108)).heap.size (W.alloc (.cells #[.string x.u, .slice x.a x.l.length x.c] 108)) V → V.cell? ⟨gf, 0, none⟩ = some (.func (.func 117) #[] #[]) ∧ V.cell? ⟨gp, 0, none⟩ = some (.string p.u) ∧ V.cell? ⟨gp, 1, none⟩ = some (.slice p.a p.l.length p.c) ∧ V.cell? ⟨W.heap.size, 0, none⟩ = some (.string x.u) ∧ V.cell? ⟨W.heap.size, 1, none⟩ = some (.slice x.a x.l.length x.c)) := fun V h q => ⟨h.f.1, (pcell2 h.p).1, (pcell2 h.p).2, (HX.out V q).1, (HX.out V q).2⟩
 have HU := Lib.hid userName_any
 have HC := Lib.hid (fun V => cmp_any x.u p.u V)
 have HE : Hid (Lib.compareBytes x.u.data.toList p.u.data.toList = cmpS x.u p.u) := rfl
 rw [HE.out] at HC
 have hq : Below (W.alloc (.cells #[.string x.u, .slice x.a x.l.length x.c] 108)).heap.size (W.alloc (.cells #[.string x.u, .slice x.a x.l.length x.c] 108)) (W.alloc (.cells #[.string x.u, .slice x.a x.l.length x.c] 108)).drew := (Below.refl _ _).drew
 have K1 := K0.below hq
 have Q1 := Lib.hid hq
 have hcl := K0.cells
 obtain ⟨c0, c1, c2⟩ := hcl
 clear hf hp hb HX K0 HE hq
 generalize cmpS x.u p.u = z at *
 go_enter Tryz.func257, Tryz.ntmps257
 go_wp2_with fail
 go_region_held3 (fun V => V.cell? ⟨gf, 0, none⟩ = some (.func (.func 117) #[] #[]) ∧ V.cell? ⟨gp, 0, none⟩ = some (.string p.u) ∧ V.cell? ⟨gp, 1, none⟩ = some (.slice p.a p.l.length p.c) ∧ V.cell? ⟨W.heap.size, 0, none⟩ = some (.string x.u) ∧ V.cell? ⟨W.heap.size, 1, none⟩ = some (.slice x.a x.l.length x.c))
  (first | exact HSC.out _ K3 Q3.out | exact HSC.out _ K2 Q2.out | exact HSC.out _ K1 Q1.out)
  (first | (have hseen := K3; clear hseen; go_at_call 174; refine (HC.out _).mono ?_; rintro e w4 ⟨rfl, rfl⟩) | (have hseen := K2; clear hseen; go_at_call 117; refine (HU.out _ _ _ _ _).mono ?_; rintro e w3 ⟨rfl, h3⟩; have K3 := K2.below h3; have Q3 := Lib.hid (Q2.out.trans (h3.mono Q2.out.size))) | (have hseen := K1; clear hseen; go_at_call 117; refine (HU.out _ _ _ _ _).mono ?_; rintro e w2 ⟨rfl, h2⟩; have K2 := K1.below h2; have Q2 := Lib.hid (Q1.out.trans (h2.mono Q1.out.size))))
 go_wp2
 go_ret
 exact ⟨rfl, K3.frame⟩
theorem pconcat3_tb (x y : Option Addr) (A B : List (Value × Value)) (c1 c2 n1 n2 : Nat) (s0 s1 : Value) (h0 : s0.oneCell' = true) (h1' : s1.oneCell' = true) (W : World) (g1 g2 : Nat) (T : TypeId) (h1 : n1 = A.length) (h2 : n2 = B.length) (hA : PpSl W x A) (hB : PpSl W y B) (oA : OneP A) (oB : OneP B) (k1 : x = none → c1 = 0) (k2 : y = none → c2 = 0) (hg1 : g1 = W.heap.size) (hg2 : g2 = W.heap.size + 1) (hl : A.length + B.length ≤ 10000) :
  Calls Tryz.prog 267 #[.slice (some ⟨g2, 0, none⟩) 3 3] ((W.alloc (.cells #[s0, s1] 141)).alloc (.cells #[.slice x n1 c1, .slice (some ⟨g1, 0, none⟩) 1 1, .slice y n2 c2] T)).drew fun e w' => ∃ v, e = .returned v ∧ w'.ownsRow W.heap.size 141 2 v (A ++ (s0, s1) :: B).length (pps (A ++ (s0, s1) :: B)) ∧ Below W.heap.size W w' := by
 subst hg1 h1 h2
 have hcat : catP [⟨x, A, c1⟩, ⟨some ⟨W.heap.size, 0, none⟩, [(s0, s1)], 1⟩, ⟨y, B, c2⟩] = A ++ (s0, s1) :: B := by simp [catP]
 have hb1 := below_one W (.cells #[s0, s1] 141)
 have hS := cells_pp W [(s0, s1)] #[s0, s1] 141 _ rfl rfl
 generalize hW1 : W.alloc (.cells #[s0, s1] 141) = W1 at *
 have hz : W1.heap.size = W.heap.size + 1 := by rw [← hW1, size1]
 have hb2 := below_one W1 (.cells #[.slice x A.length c1, .slice (some ⟨W.heap.size, 0, none⟩) 1 1, .slice y B.length c2] T)
 have hb2 := hb2.drew
 have hb := hb1.trans (hb2.mono hb1.size)
 have hlen : (catP [⟨x, A, c1⟩, ⟨some ⟨W.heap.size, 0, none⟩, [(s0, s1)], 1⟩, ⟨y, B, c2⟩]).length ≤ 100000 := by rw [hcat, List.length_append, List.length_cons]; omega
 rw [hg2, ← hz]
 refine (pconcat_tb (some ⟨W1.heap.size, 0, none⟩) 3 [⟨x, A, c1⟩, ⟨some ⟨W.heap.size, 0, none⟩, [(s0, s1)], 1⟩, ⟨y, B, c2⟩] _ (psl_drew3 W1 #[.slice x A.length c1, .slice (some ⟨W.heap.size, 0, none⟩) 1 1, .slice y B.length c2] T) ?_ (by show 3 ≤ _; decide) hlen).mono ?_
 ·intro r hr
  simp only [List.mem_cons, List.mem_nil_iff, or_false] at hr
  rcases hr with rfl | rfl | rfl
  ·exact ⟨hA.below hb, oA, k1⟩
  ·exact ⟨hS.below hb2, fun y hy => by rw [List.mem_singleton.1 hy]; exact ⟨h0, h1'⟩, fun h => by cases h⟩
  ·exact ⟨hB.below hb, oB, k2⟩
 ·rintro e w' ⟨v, rfl, ho, hbb⟩
  rw [hcat] at ho
  exact ⟨v, rfl, own_low2 ho hb.size, hb.trans (hbb.mono hb.size)⟩
structure Pttb (w : World) (gf gp : Nat) (p : TbM) (a : Option Addr) (l : List TbM) (W : World) : Prop where
 f : CapO W gf (.func (.func 126) #[] #[])
 p : W.heap[gp]? = some (.cells #[.string p.u, .int .i64 p.a] 141 (0, 0))
 row : PpSl W a (l.map tbp)
 frame : Below w.heap.size w W
theorem Pttb.below {w W W' : World} {gf gp : Nat} {p : TbM} {a : Option Addr} {l : List TbM} (h : Pttb w gf gp p a l W) (q : Below W.heap.size W W') : Pttb w gf gp p a l W' :=
 ⟨h.f.below q, (q.block _ (heap_lt h.p)).trans h.p, h.row.below q, h.frame.trans (q.mono h.frame.size)⟩
theorem Pttb.cells {w W : World} {gf gp : Nat} {p : TbM} {a : Option Addr} {l : List TbM} (h : Pttb w gf gp p a l W) : W.cell? ⟨gf, 0, none⟩ = some (.func (.func 126) #[] #[]) ∧ W.cell? ⟨gp, 0, none⟩ = some (.string p.u) ∧ W.cell? ⟨gp, 1, none⟩ = some (.int .i64 p.a) := ⟨h.f.1, pcell2 h.p⟩
theorem Pttb.at_ {w W : World} {gf gp : Nat} {p : TbM} {b off : Nat} {l : List TbM} (h : Pttb w gf gp p (some ⟨b, off, none⟩) l W) {j : Nat} (hj : j < l.length) : W.cell? ⟨b, off + j * 2, none⟩ = some (.string l[j].u) ∧ W.cell? ⟨b, off + j * 2 + 1, none⟩ = some (.int .i64 l[j].a) := by
 obtain ⟨b', off', e, _, h0, h1⟩ := h.row.at_ (k := j) (by rw [List.length_map]; exact hj)
 cases e
 rw [List.getElem_map] at h0 h1
 exact ⟨h0, h1⟩
set_option maxHeartbeats 4000000 in
theorem c_put_tb (x p : TbM) (gf gp : Nat) (W : World) (hf : CapO W gf (.func (.func 126) #[] #[])) (hp : W.heap[gp]? = some (.cells #[.string p.u, .int .i64 p.a] 141 (0, 0))) :
  Calls Tryz.prog 266 #[.agg #[.string x.u, .int .i64 x.a], .pointer (some ⟨gf, 0, none⟩), .pointer (some ⟨gp, 0, none⟩)] W fun r w' => r = .returned (.bool (decide (0 ≤ cmpS x.u p.u))) ∧ Below W.heap.size W w' := by
 have hb := below_one W (.cells #[.string x.u, .int .i64 x.a] 141)
 have K0 : Pttb W gf gp p none [] (W.alloc (.cells #[.string x.u, .int .i64 x.a] 141)) := ⟨hf.below hb, (hb.block _ (heap_lt hp)).trans hp, PpSl.nil _ _, hb⟩
 have HX : Hid (∀ V, Below (W.alloc (.cells #[.string x.u, .int .i64 x.a] 141)).heap.size (W.alloc (.cells #[.string x.u, .int .i64 x.a] 141)) V → V.cell? ⟨W.heap.size, 0, none⟩ = some (.string x.u) ∧ V.cell? ⟨W.heap.size, 1, none⟩ = some (.int .i64 x.a)) := fun V q => pcell2 ((q.block _ (by rw [size1]; omega)).trans (heap_alloc_new W _))
 have HSC : Hid (∀ V, Pttb W gf gp p none [] V → Below (W.alloc (.cells #[.string x.u, .int .i64 x.a] 141)).heap.size (W.alloc (.cells #[.string x.u, .int .i64 x.a] 141)) V → V.cell? ⟨gf, 0, none⟩ = some (.func (.func 126) #[] #[]) ∧ V.cell? ⟨gp, 0, none⟩ = some (.string p.u) ∧ V.cell? ⟨gp, 1, none⟩ = some (.int .i64 p.a) ∧ V.cell? ⟨W.heap.size, 0, none⟩ = some (.string x.u) ∧ V.cell? ⟨W.heap.size, 1, none⟩ = some (.int .i64 x.a)) := fun V h q => ⟨h.f.1, (pcell2 h.p).1, (pcell2 h.p).2, (HX.out V q).1, (HX.out V q).2⟩
 have HU := Lib.hid tombName_any
 have HC := Lib.hid (fun V => cmp_any x.u p.u V)
 have HE : Hid (Lib.compareBytes x.u.data.toList p.u.data.toList = cmpS x.u p.u) := rfl
 rw [HE.out] at HC
 have hq : Below (W.alloc (.cells #[.string x.u, .int .i64 x.a] 141)).heap.size (W.alloc (.cells #[.string x.u, .int .i64 x.a] 141)) (W.alloc (.cells #[.string x.u, .int .i64 x.a] 141)).drew := (Below.refl _ _).drew
 have K1 := K0.below hq
 have Q1 := Lib.hid hq
 have hcl := K0.cells
 obtain ⟨c0, c1, c2⟩ := hcl
 clear hf hp hb HX K0 HE hq
 generalize cmpS x.u p.u = z at *
 go_enter Tryz.func266, Tryz.ntmps266
 go_wp2_with fail
 go_region_held3 (fun V => V.cell? ⟨gf, 0, none⟩ = some (.func (.func 126) #[] #[]) ∧ V.cell? ⟨gp, 0, none⟩ = some (.string p.u) ∧ V.cell? ⟨gp, 1, none⟩ = some (.int .i64 p.a) ∧ V.cell? ⟨W.heap.size, 0, none⟩ = some (.string x.u) ∧ V.cell? ⟨W.heap.size, 1, none⟩ = some (.int .i64 x.a))
  (first | exact HSC.out _ K3 Q3.out | exact HSC.out _ K2 Q2.out | exact HSC.out _ K1 Q1.out)
  (first | (have hseen := K3; clear hseen; go_at_call 174; refine (HC.out _).mono ?_; rintro e w4 ⟨rfl, rfl⟩) | (have hseen := K2; clear hseen; go_at_call 126; refine (HU.out _ _ _).mono ?_; rintro e w3 ⟨rfl, h3⟩; have K3 := K2.below h3; have Q3 := Lib.hid (Q2.out.trans (h3.mono Q2.out.size))) | (have hseen := K1; clear hseen; go_at_call 126; refine (HU.out _ _ _).mono ?_; rintro e w2 ⟨rfl, h2⟩; have K2 := K1.below h2; have Q2 := Lib.hid (Q1.out.trans (h2.mono Q1.out.size))))
 go_wp2
 go_ret
 exact ⟨rfl, K3.frame⟩
end Go.Proofs.YtmfpjapiijgdgaaGreat
