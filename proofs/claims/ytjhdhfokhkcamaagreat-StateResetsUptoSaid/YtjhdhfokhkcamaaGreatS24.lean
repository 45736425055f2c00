/- Texts of mine, one behind the other, of each what is wanted. -/
import Derived.Test.YtjhdhfokhkcamaaGreatS00
import Derived.Test.YtjhdhfokhkcamaaGreatShelf
import Derived.Test.YtjhdhfokhkcamaaGreatRows
import Derived.Test.YtjhdhfokhkcamaaGreatS01
import Derived.Test.YtjhdhfokhkcamaaGreatS02
import Derived.Test.YtjhdhfokhkcamaaGreatS03
import Derived.Test.YtjhdhfokhkcamaaGreatS04
import Derived.Test.YtjhdhfokhkcamaaGreatS06
import Derived.Test.YtjhdhfokhkcamaaGreatS07
import Derived.Test.YtjhdhfokhkcamaaGreatS09
import Derived.Test.YtjhdhfokhkcamaaGreatS14
import Derived.Test.YtjhdhfokhkcamaaGreatS17
import Derived.Test.YtjhdhfokhkcamaaGreatS22
import Derived.Test.YtjhdhfokhkcamaaGreatS23
namespace Go.Proofs.YtjhdhfokhkcamaaGreat
open Go.RowKit Go.Sort Go.Proofs
set_option linter.unusedVariables false
set_option maxRecDepth 100000
set_option maxRecDepth 100000
theorem sgrow_any (n : Nat) (w : World) (hn : n ≤ 1000000) : Calls Tryz.prog 188 #[.slice none 0 0, .int .i64 n] w fun e w' => ∃ v, e = .returned v ∧ w'.ownsRow w.heap.size 86 4 v 0 [] ∧ Below w.heap.size w w' := by
 obtain ⟨i0, hi, hz0, hz1, hz2⟩ := info_parts infoStay
 rcases Nat.eq_zero_or_pos n with h0 | h0
 ·subst h0
  have h := Any8.slices_Grow_room Tryz.laysGrowSt none 0 0 0 w (by omega) (by omega) (by omega) (by omega)
  refine Calls.mono h ?_
  rintro e w' ⟨rfl, rfl⟩
  exact ⟨_, rfl, ⟨rfl, .inl ⟨rfl, rfl⟩⟩, Below.refl _ _⟩
 ·have h := Any8.slices_Grow_grow Tryz.laysGrowSt i0 _ hi hz0 (by rw [hz1]; omega) none 0 0 n [] w (by omega) (by omega) (by rw [hz2]; omega) (by omega) (by simp) (fun _ => rfl) (fun a h => by cases h)
  refine Calls.mono h ?_
  rintro e w' ⟨rfl, rfl⟩
  have hge := grownCap_ge w (0 + n) 0 86
  have hle := grownCap_le_maxLen w (0 + n) 0 86 (by unfold maxLen; omega)
  refine ⟨_, rfl, ⟨rfl, .inr ⟨w.heap.size, _, _, rfl, Nat.le_refl _, heap_alloc_new w.drew _, Nat.zero_le _, hle, ?_, by simp⟩⟩, ?_⟩
  ·simp only [Array.size_append, size_zeroCells]
   show 0 + (0 + n - 0) * 4 + (grownCap w (0 + n) 0 86 - (0 + n)) * 4 = grownCap w (0 + n) 0 86 * 4
   omega
  ·exact (Below.refl w.heap.size w).drew.alloc (Nat.le_refl _) _
structure StR where
 a : Option Addr
 l : List StM
 c : Nat
def strV (r : StR) : Value := .slice r.a r.l.length r.c
def catS (R : List StR) : List StM := R.flatMap (·.l)
theorem catS_take (R : List StR) (j : Nat) (h : j < R.length) : catS (R.take (j + 1)) = catS (R.take j) ++ R[j].l := by
 unfold catS
 rw [List.take_succ_eq_append_getElem h, List.flatMap_append]
 simp
theorem catS_le (R : List StR) (j : Nat) : (catS (R.take j)).length ≤ (catS R).length := by
 have : catS R = catS (R.take j) ++ catS (R.drop j) := by
  unfold catS
  rw [← List.flatMap_append, List.take_append_drop]
 rw [this, List.length_append]
 omega
def StRAt (w : World) (r : StR) : Prop := StSl w r.a r.l ∧ (r.a = none → r.c = 0)
theorem srows_at {w : World} {a : Option Addr} {R : List StR} (h : Sl w a (R.map strV)) {k : Nat} (hk : k < R.length) : ∃ b off, a = some ⟨b, off, none⟩ ∧ b < w.heap.size ∧ w.cell? ⟨b, off + k, none⟩ = some (strV R[k]) := by
 obtain ⟨b, off, e, hlt, hc⟩ := h k (by simpa using hk)
 exact ⟨b, off, e, hlt, by rw [hc]; simp⟩
set_option maxHeartbeats 1000000 in
theorem sconcat_any (a : Option Addr) (c : Nat) (R : List StR) (w : World) (hr : Sl w a (R.map strV)) (hR : ∀ r ∈ R, StRAt w r) (hl : R.length ≤ 100000) (hs : (catS R).length ≤ 100000) :
  Calls Tryz.prog 151 #[.slice a R.length c] w fun e w' => ∃ v, e = .returned v ∧ w'.ownsRow w.heap.size 86 4 v (catS R).length (sts (catS R)) ∧ Below w.heap.size w w' := by
 obtain ⟨i0, hi, hz0, hz1, hz2⟩ := info_parts infoStay
 have HR := Lib.hid hr
 have HRR := Lib.hid hR
 have HG := Lib.hid (sgrow_any (catS R).length w (by omega))
 clear hr hR
 go_enter Tryz.func151, Tryz.ntmps151
 go_wp2
 go_loopw [3, 11] (fun v i wr => ∃ (j s : Nat), j ≤ R.length ∧ i = .int .i64 j ∧ v = .int .i64 s ∧ s ≤ 100000 ∧ Hid (s = (catS (R.take j)).length) ∧ wr = w) (fun _ i _ => R.length - (intOf i).toNat)
 case atStart => exact ⟨0, 0, by omega, rfl, rfl, by omega, rfl, rfl⟩
 case round =>
  obtain ⟨j, s, hj, rfl, rfl, hs1, HS, hw⟩ := hrel
  obtain rfl : w = wr := hw.symm
  clear hw
  by_cases hjl : j < R.length
  ·obtain ⟨b, off, rfl, hbl, hc0⟩ := srows_at HR.out hjl
   have HN := Lib.hid (catS_take R j hjl)
   have hle := catS_le R (j + 1)
   rw [HN.out, List.length_append, ← HS.out] at hle
   generalize R[j] = x at *
   unfold strV at hc0
   obtain ⟨xa, xl, xc⟩ := x
   simp only at hc0 hle HN
   have hsum : s + xl.length ≤ 100000 := by omega
   clear hle
   go_wp2
   go_roundw
   case rel => exact ⟨j + 1, s + xl.length, by omega, by go_num, by go_num, hsum, (by unfold Hid; rw [HN.out, List.length_append, ← HS.out]), (by first | rfl | trivial)⟩
   case measure => simp [intOf]; omega
  ·obtain rfl : j = R.length := by omega
   rw [List.take_of_length_le (Nat.le_refl _)] at HS
   have HS2 := HS.out
   subst HS2
   go_wp2_with fail
   refine HG.out.mono ?_
   rintro e w1 ⟨v, rfl, ho, hb⟩
   have HO := Lib.hid ho
   have HB := Lib.hid hb
   clear ho hb HG HS
   go_wp2
   go_loopw [6, 27] (fun v i wx => ∃ (j : Nat), j ≤ R.length ∧ i = .int .i64 j ∧ Hid (wx.ownsRow w.heap.size 86 4 v (catS (R.take j)).length (sts (catS (R.take j)))) ∧ Hid (Below w.heap.size w wx)) (fun _ i _ => R.length - (intOf i).toNat)
   case atStart => exact ⟨0, by omega, rfl, HO.out, HB.out⟩
   case round =>
    obtain ⟨j, hj, rfl, HO, HB⟩ := hrel
    by_cases hjl : j < R.length
    ·obtain ⟨b, off, rfl, hbl, hc0⟩ := srows_at (HR.out.below HB.out) hjl
     have HN := Lib.hid (catS_take R j hjl)
     have hle := catS_le R (j + 1)
     have hle2 := catS_le R j
     rw [HN.out, List.length_append] at hle
     have HX := Lib.hid (HRR.out _ (List.getElem_mem hjl))
     generalize R[j] = x at *
     unfold strV at hc0
     obtain ⟨xa, xl, xc⟩ := x
     simp only at hc0 hle HN
     obtain ⟨hx1, hx2⟩ := HX.out
     simp only at hx1 hx2
     have HX1 := Lib.hid (hx1.below HB.out)
     have HX2 := Lib.hid hx2
     generalize hct : catS (R.take j) = ct at *
     have hsum : ct.length + xl.length ≤ 1000000 := by omega
     clear hle hle2 hx1 hx2 HX hct
     go_wp2_with (at_builtin; refine wpList_append_st _ rfl (.tmp 31) (.tmp 32) 60 rfl w.heap.size 86 i0 _ Tryz.underlying60 hi hz0 hz1 hz2 rfl _ ct rfl HO.out xa xc xl rfl HX1.out HX2.out hsum HB.out.size ?_; intro v2 w2 hown2 hB2)
     have HO2 := Lib.hid hown2
     have HB2 := Lib.hid (HB.out.trans hB2)
     clear hown2 hB2
     go_wp2
     go_roundw
     case rel => exact ⟨j + 1, by omega, by go_num, (by unfold Hid; rw [HN.out]; exact HO2.out), HB2⟩
     case measure => simp [intOf]; omega
    ·obtain rfl : j = R.length := by omega
     rw [List.take_of_length_le (Nat.le_refl _)] at HO
     go_wp2
     go_ret
     exact ⟨_, rfl, HO.out, HB.out⟩
theorem own_empty8 (w : World) (e : TypeId) (k B : Nat) (hB : B ≤ w.heap.size) : (w.alloc (.cells #[] e)).ownsRow B e k (.slice (some ⟨w.heap.size, 0, none⟩) 0 0) 0 [] :=
 ⟨by simp, .inr ⟨w.heap.size, 0, #[], rfl, hB, heap_alloc_new w _, Nat.le_refl _, by unfold maxLen; omega, by simp, by simp⟩⟩
set_option maxHeartbeats 1000000 in
theorem clone8_any (a : Option Addr) (c : Nat) (l : List StM) (w : World) (hr : StSl w a l) (hn : a = none → c = 0) (hl : l.length ≤ 100000) :
  Calls Tryz.prog 88 #[.slice a l.length c] w fun e w' => ∃ v, e = .returned v ∧ w'.ownsRow w.heap.size 86 4 v l.length (sts l) ∧ Below w.heap.size w w' := by
 obtain ⟨i0, hi, hz0, hz1, hz2⟩ := info_parts infoStay
 have HN := Lib.hid hn
 have q22 : ∀ (W : World) (a : Option Addr) (n c n' c' : Nat), (binOp .eql 60 (.slice a n c) (.slice none n' c')).run Tryz.prog W = .ok (.bool a.isNone) W := fun W a n c n' c' => Lib.run_eql_slice_nil W _ _ a n c n' c' Tryz.underlying60
 clear hn
 cases a with
 | none =>
  have hc := HN.out rfl
  subst hc
  have : l = [] := by
   cases l with
   | nil => rfl
   | cons y m => obtain ⟨_, _, e, _⟩ := hr 0 (by simp); cases e
  subst this
  clear hr
  go_enter Tryz.func88, Tryz.ntmps88
  go_wp2
  go_ret
  exact ⟨_, rfl, ⟨rfl, .inl ⟨rfl, rfl⟩⟩, Below.refl _ _⟩
 | some ad =>
  have HO := Lib.hid (own_empty8 w 86 4 w.heap.size (Nat.le_refl _))
  have HB := Lib.hid (below_one w (.cells #[] 86))
  have HX1 := Lib.hid (hr.below HB.out)
  clear hr
  go_enter Tryz.func88, Tryz.ntmps88
  go_wp2_with (at_builtin; refine wpList_append_st _ rfl (.tmp 5) (.tmp 6) 60 rfl w.heap.size 86 i0 _ Tryz.underlying60 hi hz0 hz1 hz2 rfl _ [] rfl HO.out (some ad) c l rfl HX1.out HN.out (by simpa using (show l.length ≤ 1000000 by omega)) HB.out.size ?_; intro v2 w2 hown2 hB2)
  have HO2 := Lib.hid hown2
  have HB2 := Lib.hid (HB.out.trans hB2)
  clear hown2 hB2
  go_wp2
  go_ret
  exact ⟨_, rfl, HO2.out, HB2.out⟩
end Go.Proofs.YtjhdhfokhkcamaaGreat
namespace Go.Proofs.YtjhdhfokhkcamaaGreat
open Go.RowKit
set_option linter.unusedVariables false
set_option maxRecDepth 100000
set_option maxRecDepth 100000
theorem infoEn4 : (Tryz.prog.info? 123).map (·.size) = some 4 := by kernel_rfl
theorem loadEn {W : World} {g : Nat} {a b c d : Value} {t : TypeId} (h : W.heap[g]? = some (.cells #[a, b, c, d] t (0, 0))) :
  (loadVar 123 ⟨g, 0, none⟩).run Tryz.prog W = .ok (.agg #[a, b, c, d]) W :=
 run_loadVar_mid (P := Tryz.prog) W g 0 123 [a, b, c, d] _ (fun j v hv => by
  rw [Nat.zero_add, cell_of_row _ _ _ _ _ (0, 0) h]
  simpa using hv) Tryz.underlying123 rfl infoEn4
set_option maxHeartbeats 1000000 in
theorem eone_any (p u : ByteArray) (f t : Int) (w : World) : Calls Tryz.prog 104 #[.string p, .string u, .int .i64 f, .int .i64 t] w fun e w' => e = .returned (.agg #[.string p, .string u, .int .i64 f, .int .i64 t]) ∧ w' = w.alloc (.cells #[.string p, .string u, .int .i64 f, .int .i64 t] 123) := by
 have HL := Lib.hid (loadEn (heap_alloc_new w (.cells #[.string p, .string u, .int .i64 f, .int .i64 t] 123)))
 go_enter Tryz.func104, Tryz.ntmps104
 go_wp2
 refine bodyPost_ret (v := .agg #[.string p, .string u, .int .i64 f, .int .i64 t]) ?_ rfl ?_
 ·rw [results_cell1 rfl]
  simp [asAddr, Result.andThen, HL.out]
 ·exact ⟨rfl, rfl⟩
set_option maxHeartbeats 2000000 in
theorem enews_any (a : Option Addr) (c : Nat) (l : List EnM) (w : World) (hr : EnSl w a l) (hl : l.length ≤ 1000000) :
  Calls Tryz.prog 41 #[.slice a l.length c] w fun e w' => ∃ (v : Value), e = .returned v ∧ w'.ownsRow w.heap.size 123 4 v l.length (ens l) ∧ Below w.heap.size w w' := by
 obtain ⟨i0, hi, hz0, hz1, hz2⟩ := info_parts infoEn
 have HR := Lib.hid hr
 have HN := Lib.hid eone_any
 clear hr
 go_enter Tryz.func41, Tryz.ntmps41
 go_wp2
 go_loopw [3, 8] (fun v i wr => ∃ (j : Nat), j ≤ l.length ∧ i = .int .i64 j ∧ Hid (wr.ownsRow w.heap.size 123 4 v j (ens (l.take j))) ∧ Hid (Below w.heap.size w wr)) (fun _ i _ => l.length - (intOf i).toNat)
 case atStart => exact ⟨0, by omega, rfl, ⟨rfl, .inl ⟨rfl, rfl⟩⟩, Below.refl _ _⟩
 case round =>
  obtain ⟨j, hj, rfl, HO, HB⟩ := hrel
  by_cases hjl : j < l.length
  ·obtain ⟨b, off, rfl, hbl, hc0, hc1, hc2, hc3⟩ := (HR.out.below HB.out).at_ hjl
   have HC := Lib.hid (ens_take l j hjl)
   generalize l[j] = x at *
   go_wp2_with fail
   refine (HN.out _ _ _ _ _).mono ?_
   rintro e w2 ⟨rfl, hw⟩
   have hb2 : Below wr.heap.size wr w2 := by rw [hw]; exact below_2 wr (.cells #[.string x.w, .string x.u, .int .i64 x.f, .int .i64 x.t] 82) (.cells #[.string x.w, .string x.u, .int .i64 x.f, .int .i64 x.t] 123)
   have HO2 := Lib.hid (own_below HO.out (hb2.trans ((ebelow_one w2 (.cells #[.string x.w, .string x.u, .int .i64 x.f, .int .i64 x.t] 123)).mono hb2.size)))
   have HB2 : Hid (Below w.heap.size w (w2.alloc (.cells #[.string x.w, .string x.u, .int .i64 x.f, .int .i64 x.t] 123))) := HB.out.trans ((hb2.trans ((ebelow_one w2 _).mono hb2.size)).mono HB.out.size)
   have HS2 := Lib.hid HB2.out.size
   clear hw hb2 hc0 hc1 hc2 hc3
   go_wp2_with (at_builtin; refine wpList_append_own _ rfl (.tmp 12) (.tmp 22) 35 rfl w.heap.size 123 i0 _ 4 48 Tryz.underlying35 hi hz0 hz1 hz2 rfl (by decide) _ _ _ rfl HO2.out ⟨w2.heap.size, 0, none⟩ 1 1 [.string x.w, .string x.u, .int .i64 x.f, .int .i64 x.t] rfl rfl (news_at _ _ _ _ rfl) (four_e _ _ _ _) (by unfold maxLen; omega) (by omega) HS2.out ?_; intro v' w3 hown' hgrow hiff)
   have HB3 := Lib.hid (app_below HB2.out HS2.out HO2.out hgrow)
   have HO3 := Lib.hid hown'
   clear hown' hgrow hiff HB2 HS2 HO2
   go_wp2
   go_roundw
   case rel => exact ⟨j + 1, by omega, by go_num, (by unfold Hid; rw [HC.out]; exact HO3.out), HB3⟩
   case measure => simp [intOf]; omega
  ·obtain rfl : j = l.length := by omega
   rw [List.take_of_length_le (Nat.le_refl _)] at HO
   go_wp2
   go_ret
   exact ⟨_, rfl, HO.out, HB.out⟩
set_option maxHeartbeats 2000000 in
theorem eolds_any (a : Option Addr) (c : Nat) (l : List EnM) (w : World) (hr : EnSl w a l) (hl : l.length ≤ 1000000) :
  Calls Tryz.prog 57 #[.slice a l.length c] w fun e w' => ∃ (v : Value), e = .returned v ∧ w'.ownsRow w.heap.size 82 4 v l.length (ens l) ∧ Below w.heap.size w w' := by
 obtain ⟨i0, hi, hz0, hz1, hz2⟩ := info_parts infoEnR
 have HR := Lib.hid hr
 clear hr
 go_enter Tryz.func57, Tryz.ntmps57
 go_wp2
 go_loopw [3, 8] (fun v i wr => ∃ (j : Nat), j ≤ l.length ∧ i = .int .i64 j ∧ Hid (wr.ownsRow w.heap.size 82 4 v j (ens (l.take j))) ∧ Hid (Below w.heap.size w wr)) (fun _ i _ => l.length - (intOf i).toNat)
 case atStart => exact ⟨0, by omega, rfl, ⟨rfl, .inl ⟨rfl, rfl⟩⟩, Below.refl _ _⟩
 case round =>
  obtain ⟨j, hj, rfl, HO, HB⟩ := hrel
  by_cases hjl : j < l.length
  ·obtain ⟨b, off, rfl, hbl, hc0, hc1, hc2, hc3⟩ := (HR.out.below HB.out).at_ hjl
   have HC := Lib.hid (ens_take l j hjl)
   generalize l[j] = x at *
   have HO2 := Lib.hid (own_below HO.out (below_two wr (.cells #[.string x.w, .string x.u, .int .i64 x.f, .int .i64 x.t] 123) (.cells #[.string x.w, .string x.u, .int .i64 x.f, .int .i64 x.t] 82)))
   have HB2 : Hid (Below w.heap.size w ((wr.alloc (.cells #[.string x.w, .string x.u, .int .i64 x.f, .int .i64 x.t] 123)).alloc (.cells #[.string x.w, .string x.u, .int .i64 x.f, .int .i64 x.t] 82))) := HB.out.trans ((below_two wr (.cells #[.string x.w, .string x.u, .int .i64 x.f, .int .i64 x.t] 123) (.cells #[.string x.w, .string x.u, .int .i64 x.f, .int .i64 x.t] 82)).mono HB.out.size)
   have HS2 := Lib.hid HB2.out.size
   go_wp2_with (at_builtin; refine wpList_append_own _ rfl (.tmp 12) (.tmp 26) 24 rfl w.heap.size 82 i0 _ 4 48 Tryz.underlying24 hi hz0 hz1 hz2 rfl (by decide) _ _ _ rfl HO2.out ⟨wr.heap.size + 1, 0, none⟩ 1 1 [.string x.w, .string x.u, .int .i64 x.f, .int .i64 x.t] rfl rfl (news_at _ _ _ _ (size1 _ _).symm) (four_e _ _ _ _) (by unfold maxLen; omega) (by omega) HS2.out ?_; intro v' w3 hown' hgrow hiff)
   have HB3 := Lib.hid (app_below HB2.out HS2.out HO2.out hgrow)
   have HO3 := Lib.hid hown'
   clear hown' hgrow hiff HB2 HS2 HO2
   go_wp2
   go_roundw
   case rel => exact ⟨j + 1, by omega, by go_num, (by unfold Hid; rw [HC.out]; exact HO3.out), HB3⟩
   case measure => simp [intOf]; omega
  ·obtain rfl : j = l.length := by omega
   rw [List.take_of_length_le (Nat.le_refl _)] at HO
   go_wp2
   go_ret
   exact ⟨_, rfl, HO.out, HB.out⟩
theorem step_own {P : Program} {w : World} {ops : Array Oper} {o : Oper} {a : Act} {K : Act → World → Prop} {Q : Exit → Act → World → Prop} {E : Prop} (hgd : o.guard = none) (s x : Operand) (t : TypeId)
  (ho : o.op = .call { callee := .builtin .append, args := #[s, x], argTypes := #[t, t] })
  (base : Nat) (e : TypeId) (i : TypeInfo) (z : Value) (size bytes : Nat) (ht : P.underlying t = some (.slice e)) (hi : P.info? e = some i) (hz : i.zero = some z)
  (hsize : i.size = size) (hby : i.bytes = bytes) (hzs : z.cells.size = size) (hsz : 0 < size)
  (v : Value) (n : Nat) (xs : List Value) (hs : a.eval s = v) (hown : w.ownsRow base e size v n xs)
  (ad : Addr) (m c : Nat) (news : List Value) (hx : a.eval x = .slice (some ad) m c) (hl : news.length = m * size) (hnews : ∀ j u, news[j]? = some u → w.cell? (ad.add j) = some u) (h1 : ∀ u ∈ news, u.oneCell' = true)
  (h63 : n + m ≤ maxLen) (hbytes : (n + m) * bytes ≤ 140737488355328) (hbase : base ≤ w.heap.size)
  (h : ∀ v' w', w'.ownsRow base e size v' (n + m) (xs ++ news) → w.grownBy w' v.ownBlock → K (a.put o.dst v') w') :
  if Region.wanted o (yielded ops a.tmps) = true then Oper.wp P o a w K Q else E := by
 have hw : Region.wanted o (yielded ops a.tmps) = true := by simp [Region.wanted, hgd]
 rw [if_pos hw]
 exact wp_append_own w s x t ho base e i z size bytes ht hi hz hsize hby hzs hsz v n xs hs hown ad m c news hx hl hnews h1 h63 hbytes hbase fun v' w' h2 h3 _ => h v' w' h2 h3
end Go.Proofs.YtjhdhfokhkcamaaGreat
namespace Go.Proofs.YtjhdhfokhkcamaaGreat
open Go.RowKit Go.Proofs
set_option linter.unusedVariables false
set_option maxRecDepth 100000
set_option maxRecDepth 100000
theorem econcatR (x y z : Option Addr) (A B C : List EnM) (c1 c2 c3 n1 n2 n3 : Nat) (W : World) (g : Nat) (T : TypeId) (h1 : n1 = A.length) (h2 : n2 = B.length) (h3 : n3 = C.length) (hA : EnSl W x A) (hB : EnSl W y B) (hC : EnSl W z C) (k1 : x = none → c1 = 0) (k2 : y = none → c2 = 0) (k3 : z = none → c3 = 0) (hg : g = W.heap.size) (hl : A.length + (B.length + C.length) ≤ 1000) :
  Calls Tryz.prog 167 #[.slice (some ⟨g, 0, none⟩) 3 3] (W.alloc (.cells #[.slice x n1 c1, .slice y n2 c2, .slice z n3 c3] T)).drew fun e w' => ∃ v, e = .returned v ∧ w'.ownsRow W.heap.size 123 4 v (A ++ (B ++ C)).length (ens (A ++ (B ++ C))) ∧ Below W.heap.size W w' := by
 subst hg h1 h2 h3
 have hcat : catE [⟨x, A, c1⟩, ⟨y, B, c2⟩, ⟨z, C, c3⟩] = A ++ (B ++ C) := by simp [catE]
 have hb := (ebelow_one W (.cells #[.slice x A.length c1, .slice y B.length c2, .slice z C.length c3] T)).drew
 have hlen : (catE [⟨x, A, c1⟩, ⟨y, B, c2⟩, ⟨z, C, c3⟩]).length ≤ 100000 := by rw [hcat, List.length_append, List.length_append]; omega
 refine (econcat_any (some ⟨W.heap.size, 0, none⟩) 3 [⟨x, A, c1⟩, ⟨y, B, c2⟩, ⟨z, C, c3⟩] _ (sl_drew3 W #[.slice x A.length c1, .slice y B.length c2, .slice z C.length c3] T) ?_ (by show 3 ≤ _; decide) hlen).mono ?_
 ·intro r hr
  simp only [List.mem_cons, List.mem_nil_iff, or_false] at hr
  rcases hr with rfl | rfl | rfl
  ·exact ⟨hA.below hb, k1⟩
  ·exact ⟨hB.below hb, k2⟩
  ·exact ⟨hC.below hb, k3⟩
 ·rintro e w' ⟨v, rfl, ho, hbb⟩
  rw [hcat] at ho
  exact ⟨v, rfl, own_low ho hb.size, hb.trans (hbb.mono hb.size)⟩
set_option maxHeartbeats 8000000 in
theorem revoke_any (a : Option Addr) (c : Nat) (l : List EnM) (p u : ByteArray) (n : Int) (w : World) (hr : EnSl w a l) (hl : l.length ≤ 500) (hc : l.length ≤ c) (hcm : c ≤ maxLen) :
  Calls Tryz.prog 114 #[.slice a l.length c, pr p u, .int .i64 n] w fun e w' => (l.any (infE p u) = false ∧ e = .returned (.tuple #[.slice none 0 0, .int .i64 91]) ∧ Below w.heap.size w w') ∨
   (l.any (infE p u) = true ∧ ∃ v, e = .returned (.tuple #[v, .int .i64 0]) ∧ w'.ownsRow w.heap.size 123 4 v (revokeS l p u n).length (ens (revokeS l p u n)) ∧ Below w.heap.size w w') := by
 obtain ⟨i0, hi, hz0, hz1', hz2'⟩ := info_parts infoEn
 have HPC := Lib.hid (PK.new hr p u 121)
 have HIF := Lib.hid (fun W (h : EnSl W a l) => inforce_any a c l p u W h (by omega))
 have HF := first_idx (infE p u) l
 have HREV := fun k (h : IsFirst (infE p u) l k) => revoke_at h n
 unfold maxLen at hcm
 unfold pr at *
 generalize hG : revokeS l p u n = G at *
 clear hr hG
 have hany := HF.any
 generalize l.findIdx (infE p u) = k at *
 by_cases hk : k < l.length
 ·rw [decide_eq_true hk] at hany
  rw [hany]
  have hix := idx_hit HF hk
  have hG2 := HREV k HF
  rw [cut_at hk] at hG2
  rw [hix] at HIF
  clear HREV HF hix hany
  have hd0 : decide ((k : Int) < 0) = false := decide_eq_false (by omega)
  go_enter Tryz.func114, Tryz.ntmps114
  go_wp2_with fail
  refine (HIF.out _ HPC.out.row).mono ?_
  rintro e w1 ⟨rfl, hB⟩
  have K1 := Lib.hid (HPC.out.below hB)
  obtain ⟨b, off, rfl, hbl, hc0, hc1, hc2, hc3⟩ := K1.out.row.at_ hk
  generalize l[k] = x at *
  have HGH := Lib.hid hG2
  have HK2 : Hid (RsE w w1.heap.size ⟨x.w, x.u, x.f, n⟩ (some ⟨b, off, none⟩) l (w1.alloc (.cells #[.string x.w, .string x.u, .int .i64 x.f, .int .i64 n] 123))) := RsE.new (x := ⟨x.w, x.u, x.f, n⟩) K1.out.row K1.out.frame 123
  have HSB : Hid (∀ W, RsE w w1.heap.size ⟨x.w, x.u, x.f, n⟩ (some ⟨b, off, none⟩) l W → W.cell? ⟨w1.heap.size, 0, none⟩ = some (.string x.w) ∧ W.cell? ⟨w1.heap.size, 1, none⟩ = some (.string x.u) ∧ W.cell? ⟨w1.heap.size, 2, none⟩ = some (.int .i64 x.f) ∧ W.cell? ⟨w1.heap.size, 3, none⟩ = some (.int .i64 n)) := fun W h => h.box
  have HNO := Lib.hid (fun W => enone_any x.f n W)
  obtain ⟨k1, hk1⟩ : ∃ k1, k1 = k + 1 := ⟨_, rfl⟩
  have HK1 := Lib.hid hk1
  have hpw : IntKind.i64.wrap ((k : Int) + 1) = (k1 : Int) := by rw [IntWalk.i64_in] <;> omega
  have hk1l : k1 ≤ l.length := by omega
  have hkk : k < k1 := by omega
  have hz1 : (0 : Int) ≤ (k : Int) := by omega
  have hz2 : (k : Int) ≤ (l.length : Int) := by omega
  have hz3 : (k : Int) ≤ (c : Int) := by omega
  have hz4 : (l.length : Int) ≤ (c : Int) := by omega
  have hz5 : (0 : Int) ≤ (k1 : Int) := by omega
  have hz6 : (k1 : Int) ≤ (l.length : Int) := by omega
  have hz7 : (k1 : Int) ≤ (c : Int) := by omega
  have hz8 : k1 ≤ c := by omega
  have hz9 : k ≤ c := by omega
  clear hB HPC HIF hk1 hG2
  by_cases hn : n ≤ x.f
  ·rw [decide_eq_true hn] at HNO
   have HGG : Hid (l.take k ++ ([] ++ l.drop (k + 1)) = G) := by have := HGH.out; unfold endS at this; rw [if_pos hn] at this; exact this.symm
   clear HGH hn
   go_wp2_with fail
   refine (HNO.out _).mono ?_
   rintro e w3 ⟨rfl, hB⟩
   have K3 := HK2.out.below hB
   clear HK2 HNO hB K1
   by_cases hck : c = k1
   ·have hl1 : l.length = k1 := by omega
    subst hck
    rw [hl1] at *
    have HAC : Hid (∀ W g1 T0, EnSl W (some ⟨b, off, none⟩) l → g1 = W.heap.size → Calls Tryz.prog 167 #[.slice (some ⟨g1, 0, none⟩) 3 3] (W.alloc (.cells #[.slice (some ⟨b, off, none⟩) k c, .slice none 0 0, .slice (some ⟨b, off, none⟩) 0 0] T0)).drew fun e w' => ∃ v, e = .returned v ∧ w'.ownsRow W.heap.size 123 4 v G.length (ens G) ∧ Below W.heap.size W w') := fun W g1 T0 hs e1 => by
     have h := econcatR (some ⟨b, off, none⟩) none (some ⟨b, off, none⟩) (l.take k) [] (l.drop (k + 1)) c 0 0 k 0 0 W g1 T0 (by rw [List.length_take]; omega) rfl (by have := HK1.out; rw [List.length_drop]; omega) (hs.take k) (EnSl.nil _ _) (by have := HK1.out; rw [List.drop_of_length_le (by omega)]; exact EnSl.nil _ _) (fun h => by cases h) (fun _ => rfl) (fun h => by cases h) e1 (by have := HK1.out; rw [List.length_take, List.length_drop]; simp; omega)
     rw [HGG.out] at h
     exact h
    clear HGG HSB
    go_wp2_with fail
    go_region_held3 (fun W => True)
     (first | exact trivial)
     (first | (go_at_call 167; refine (HAC.out _ _ _ K3.row rfl).mono ?_; rintro e w9 ⟨v, rfl, ho9, hb9⟩; have HO9 := Lib.hid ho9; have HB9 := Lib.hid hb9; clear ho9 hb9))
    go_wp2
    go_ret2
    exact Or.inr ⟨by trivial, v, rfl, own_low HO9.out K3.frame.size, K3.frame.trans (HB9.out.mono K3.frame.size)⟩
   ·have hck2 : k1 < c := by omega
    have HAC : Hid (∀ W g1 T0, EnSl W (some ⟨b, off, none⟩) l → g1 = W.heap.size → Calls Tryz.prog 167 #[.slice (some ⟨g1, 0, none⟩) 3 3] (W.alloc (.cells #[.slice (some ⟨b, off, none⟩) k c, .slice none 0 0, .slice (some ⟨b, off + k1 * 4, none⟩) (l.length - k1) (c - k1)] T0)).drew fun e w' => ∃ v, e = .returned v ∧ w'.ownsRow W.heap.size 123 4 v G.length (ens G) ∧ Below W.heap.size W w') := fun W g1 T0 hs e1 => by
     have h := econcatR (some ⟨b, off, none⟩) none (some ⟨b, off + k1 * 4, none⟩) (l.take k) [] (l.drop (k + 1)) c 0 (c - k1) k 0 (l.length - k1) W g1 T0 (by rw [List.length_take]; omega) rfl (by have := HK1.out; rw [List.length_drop]; omega) (hs.take k) (EnSl.nil _ _) (by rw [HK1.out]; exact hs.drop (k + 1)) (fun h => by cases h) (fun _ => rfl) (fun h => by cases h) e1 (by have := HK1.out; rw [List.length_take, List.length_drop]; simp; omega)
     rw [HGG.out] at h
     exact h
    clear HGG HSB
    go_wp2_with fail
    go_region_held3 (fun W => True)
     (first | exact trivial)
     (first | (go_at_call 167; refine (HAC.out _ _ _ K3.row rfl).mono ?_; rintro e w9 ⟨v, rfl, ho9, hb9⟩; have HO9 := Lib.hid ho9; have HB9 := Lib.hid hb9; clear ho9 hb9))
    go_wp2
    go_ret2
    exact Or.inr ⟨by trivial, v, rfl, own_low HO9.out K3.frame.size, K3.frame.trans (HB9.out.mono K3.frame.size)⟩
  ·rw [decide_eq_false hn] at HNO
   have HGG : Hid (l.take k ++ ([⟨x.w, x.u, x.f, n⟩] ++ l.drop (k + 1)) = G) := by have := HGH.out; unfold endS at this; rw [if_neg hn] at this; exact this.symm
   clear HGH hn
   go_wp2_with fail
   refine (HNO.out _).mono ?_
   rintro e w3 ⟨rfl, hB⟩
   have K3 := HK2.out.below hB
   obtain ⟨d0, d1, d2, d3⟩ := HSB.out _ K3
   have HE3 : Hid ((w3.alloc (.cells #[.string x.w, .string x.u, .int .i64 x.f, .int .i64 n] 123)).ownsRow w3.heap.size 123 4 (.slice none 0 0) 0 []) := ⟨rfl, .inl ⟨rfl, rfl⟩⟩
   have HB3 := Lib.hid (ebelow_one w3 (.cells #[.string x.w, .string x.u, .int .i64 x.f, .int .i64 n] 123))
   have HS3 := Lib.hid HB3.out.size
   clear HK2 HNO hB K1
   go_wp2_with (at_builtin; refine wpList_append_own _ rfl (.tmp 27) (.tmp 29) 35 rfl w3.heap.size 123 i0 _ 4 48 Tryz.underlying35 hi hz0 hz1' hz2' rfl (by decide) _ _ _ rfl HE3.out ⟨w3.heap.size, 0, none⟩ 1 1 [.string x.w, .string x.u, .int .i64 x.f, .int .i64 n] rfl rfl (news_at _ _ _ _ rfl) (four_e _ _ _ _) (by unfold maxLen; omega) (by omega) HS3.out ?_; intro v1 w4 ho1 hgrow hiff)
   have hb4 := app_below HB3.out HS3.out HE3.out hgrow
   have ho4 : w4.ownsRow w3.heap.size 123 4 v1 [(⟨x.w, x.u, x.f, n⟩ : EnM)].length (ens [(⟨x.w, x.u, x.f, n⟩ : EnM)]) := ho1
   obtain ⟨xa, xc, hv, -, -, hsl, hnl⟩ := own_en ho4
   have hv2 : v1 = .slice xa 1 xc := hv
   subst hv2
   have K4 := K3.below hb4
   have HY := Lib.hid hsl
   have HYN := Lib.hid hnl
   clear hv ho4 ho1 hgrow hiff hb4 HE3 HB3 HS3 d0 d1 d2 d3 hsl hnl K3
   by_cases hck : c = k1
   ·have hl1 : l.length = k1 := by omega
    subst hck
    rw [hl1] at *
    have HAC : Hid (∀ W g1 T0, EnSl W (some ⟨b, off, none⟩) l → EnSl W xa [⟨x.w, x.u, x.f, n⟩] → g1 = W.heap.size → Calls Tryz.prog 167 #[.slice (some ⟨g1, 0, none⟩) 3 3] (W.alloc (.cells #[.slice (some ⟨b, off, none⟩) k c, .slice xa 1 xc, .slice (some ⟨b, off, none⟩) 0 0] T0)).drew fun e w' => ∃ v, e = .returned v ∧ w'.ownsRow W.heap.size 123 4 v G.length (ens G) ∧ Below W.heap.size W w') := fun W g1 T0 hs hs2 e1 => by
     have h := econcatR (some ⟨b, off, none⟩) xa (some ⟨b, off, none⟩) (l.take k) [⟨x.w, x.u, x.f, n⟩] (l.drop (k + 1)) c xc 0 k 1 0 W g1 T0 (by rw [List.length_take]; omega) rfl (by have := HK1.out; rw [List.length_drop]; omega) (hs.take k) hs2 (by have := HK1.out; rw [List.drop_of_length_le (by omega)]; exact EnSl.nil _ _) (fun h => by cases h) HYN.out (fun h => by cases h) e1 (by have := HK1.out; rw [List.length_take, List.length_drop]; simp; omega)
     rw [HGG.out] at h
     exact h
    clear HGG HSB
    go_wp2_with fail
    go_region_held3 (fun W => True)
     (first | exact trivial)
     (first | (go_at_call 167; refine (HAC.out _ _ _ K4.row HY.out rfl).mono ?_; rintro e w9 ⟨v, rfl, ho9, hb9⟩; have HO9 := Lib.hid ho9; have HB9 := Lib.hid hb9; clear ho9 hb9))
    go_wp2
    go_ret2
    exact Or.inr ⟨by trivial, v, rfl, own_low HO9.out K4.frame.size, K4.frame.trans (HB9.out.mono K4.frame.size)⟩
   ·have hck2 : k1 < c := by omega
    have HAC : Hid (∀ W g1 T0, EnSl W (some ⟨b, off, none⟩) l → EnSl W xa [⟨x.w, x.u, x.f, n⟩] → g1 = W.heap.size → Calls Tryz.prog 167 #[.slice (some ⟨g1, 0, none⟩) 3 3] (W.alloc (.cells #[.slice (some ⟨b, off, none⟩) k c, .slice xa 1 xc, .slice (some ⟨b, off + k1 * 4, none⟩) (l.length - k1) (c - k1)] T0)).drew fun e w' => ∃ v, e = .returned v ∧ w'.ownsRow W.heap.size 123 4 v G.length (ens G) ∧ Below W.heap.size W w') := fun W g1 T0 hs hs2 e1 => by
     have h := econcatR (some ⟨b, off, none⟩) xa (some ⟨b, off + k1 * 4, none⟩) (l.take k) [⟨x.w, x.u, x.f, n⟩] (l.drop (k + 1)) c xc (c - k1) k 1 (l.length - k1) W g1 T0 (by rw [List.length_take]; omega) rfl (by have := HK1.out; rw [List.length_drop]; omega) (hs.take k) hs2 (by rw [HK1.out]; exact hs.drop (k + 1)) (fun h => by cases h) HYN.out (fun h => by cases h) e1 (by have := HK1.out; rw [List.length_take, List.length_drop]; simp; omega)
     rw [HGG.out] at h
     exact h
    clear HGG HSB
    go_wp2_with fail
    go_region_held3 (fun W => True)
     (first | exact trivial)
     (first | (go_at_call 167; refine (HAC.out _ _ _ K4.row HY.out rfl).mono ?_; rintro e w9 ⟨v, rfl, ho9, hb9⟩; have HO9 := Lib.hid ho9; have HB9 := Lib.hid hb9; clear ho9 hb9))
    go_wp2
    go_ret2
    exact Or.inr ⟨by trivial, v, rfl, own_low HO9.out K4.frame.size, K4.frame.trans (HB9.out.mono K4.frame.size)⟩
 ·rw [decide_eq_false hk] at hany
  rw [hany]
  have hix : idxI (infE p u) l = -1 := by
   obtain rfl : k = l.length := Nat.le_antisymm HF.le (by omega)
   exact idx_miss HF
  rw [hix] at HIF
  clear HREV HF hix hany hk
  go_enter Tryz.func114, Tryz.ntmps114
  go_wp2_with fail
  refine (HIF.out _ HPC.out.row).mono ?_
  rintro e w1 ⟨rfl, hB⟩
  have K1 := Lib.hid (HPC.out.below hB)
  go_wp2
  go_ret2
  exact Or.inl ⟨by trivial, rfl, K1.out.frame⟩
end Go.Proofs.YtjhdhfokhkcamaaGreat
namespace Go.Proofs.YtjhdhfokhkcamaaGreat
open Go.RowKit
set_option linter.unusedVariables false
set_option maxRecDepth 100000
set_option maxRecDepth 100000
theorem e_news (a : Option Addr) (c : Nat) (l : List EnM) (W : World) (h : EnSl W a l) (hl : l.length ≤ 1000) : Calls Tryz.prog 41 #[.slice a l.length c] W fun e w' => ∃ x q, e = .returned (.slice x l.length q) ∧ l.length ≤ q ∧ q ≤ maxLen ∧ (x = none → q = 0) ∧ EnSl w' x l ∧ Below W.heap.size W w' := by
 refine (enews_any a c l W h (by omega)).mono ?_
 rintro e w' ⟨v, rfl, ho, hb⟩
 obtain ⟨x, q, rfl, h1, h2, h3, h4⟩ := own_en ho
 exact ⟨x, q, rfl, h1, h2, h4, h3, hb⟩
theorem e_olds (a : Option Addr) (c : Nat) (l : List EnM) (W : World) (h : EnSl W a l) (hl : l.length ≤ 1000) : Calls Tryz.prog 57 #[.slice a l.length c] W fun e w' => ∃ x q, e = .returned (.slice x l.length q) ∧ l.length ≤ q ∧ q ≤ maxLen ∧ (x = none → q = 0) ∧ EnSl w' x l ∧ Below W.heap.size W w' := by
 refine (eolds_any a c l W h (by omega)).mono ?_
 rintro e w' ⟨v, rfl, ho, hb⟩
 obtain ⟨x, q, rfl, h1, h2, h3, h4⟩ := own_en ho
 exact ⟨x, q, rfl, h1, h2, h4, h3, hb⟩
theorem e_without (a : Option Addr) (c : Nat) (l : List EnM) (s : ByteArray) (W : World) (h : EnSl W a l) (hl : l.length ≤ 1000) : Calls Tryz.prog 172 #[.slice a l.length c, .string s] W fun e w' => ∃ x q, e = .returned (.slice x (l.filter (wiE s)).length q) ∧ (l.filter (wiE s)).length ≤ q ∧ q ≤ maxLen ∧ (x = none → q = 0) ∧ EnSl w' x (l.filter (wiE s)) ∧ Below W.heap.size W w' := by
 refine (without_any a c l s W h (by omega)).mono ?_
 rintro e w' ⟨v, rfl, ho, hb⟩
 obtain ⟨x, q, rfl, h1, h2, h3, h4⟩ := own_en ho
 exact ⟨x, q, rfl, h1, h2, h4, h3, hb⟩
theorem e_after (a : Option Addr) (c : Nat) (l : List EnM) (s : Int) (W : World) (h : EnSl W a l) (hl : l.length ≤ 1000) : Calls Tryz.prog 77 #[.slice a l.length c, .int .i64 s] W fun e w' => ∃ x q, e = .returned (.slice x (l.filter (afE s)).length q) ∧ (l.filter (afE s)).length ≤ q ∧ q ≤ maxLen ∧ (x = none → q = 0) ∧ EnSl w' x (l.filter (afE s)) ∧ Below W.heap.size W w' := by
 refine (eafter_any a c l s W h (by omega)).mono ?_
 rintro e w' ⟨v, rfl, ho, hb⟩
 obtain ⟨x, q, rfl, h1, h2, h3, h4⟩ := own_en ho
 exact ⟨x, q, rfl, h1, h2, h4, h3, hb⟩
theorem e_grant (a : Option Addr) (c : Nat) (l : List EnM) (p u : ByteArray) (n : Int) (W : World) (h : EnSl W a l) (hn : a = none → c = 0) (hl : l.length ≤ 500) (hc : l.length ≤ c) (hcm : c ≤ maxLen) (hi : l.any (infE p u) = false) : Calls Tryz.prog 113 #[.slice a l.length c, .agg #[.string p, .string u], .int .i64 n] W fun e w' => ∃ x q, e = .returned (.tuple #[.slice x (grantS l (mkE p u n)).length q, .int .i64 0]) ∧ (grantS l (mkE p u n)).length ≤ q ∧ q ≤ maxLen ∧ (x = none → q = 0) ∧ EnSl w' x (grantS l (mkE p u n)) ∧ Below W.heap.size W w' := by
 refine Calls.mono (P := Tryz.prog) (grant_any a c l p u n W h hn hl hc hcm) ?_
 rintro e w' (⟨k, _, _⟩ | ⟨_, v, rfl, ho, hb⟩)
 ·rw [hi] at k; cases k
 ·obtain ⟨x, q, rfl, h1, h2, h3, h4⟩ := own_en ho
  exact ⟨x, q, rfl, h1, h2, h4, h3, hb⟩
theorem e_grant_no (a : Option Addr) (c : Nat) (l : List EnM) (p u : ByteArray) (n : Int) (W : World) (h : EnSl W a l) (hn : a = none → c = 0) (hl : l.length ≤ 500) (hc : l.length ≤ c) (hcm : c ≤ maxLen) (hi : l.any (infE p u) = true) : Calls Tryz.prog 113 #[.slice a l.length c, .agg #[.string p, .string u], .int .i64 n] W fun e w' => e = .returned (.tuple #[.slice none 0 0, .int .i64 90]) ∧ Below W.heap.size W w' := by
 refine Calls.mono (P := Tryz.prog) (grant_any a c l p u n W h hn hl hc hcm) ?_
 rintro e w' (⟨_, rfl, hb⟩ | ⟨k, _⟩)
 ·exact ⟨rfl, hb⟩
 ·rw [hi] at k; cases k
theorem e_revoke (a : Option Addr) (c : Nat) (l : List EnM) (p u : ByteArray) (n : Int) (W : World) (h : EnSl W a l) (hl : l.length ≤ 500) (hc : l.length ≤ c) (hcm : c ≤ maxLen) (hi : l.any (infE p u) = true) : Calls Tryz.prog 114 #[.slice a l.length c, .agg #[.string p, .string u], .int .i64 n] W fun e w' => ∃ x q, e = .returned (.tuple #[.slice x (revokeS l p u n).length q, .int .i64 0]) ∧ (revokeS l p u n).length ≤ q ∧ q ≤ maxLen ∧ (x = none → q = 0) ∧ EnSl w' x (revokeS l p u n) ∧ Below W.heap.size W w' := by
 refine Calls.mono (P := Tryz.prog) (revoke_any a c l p u n W h hl hc hcm) ?_
 rintro e w' (⟨k, _, _⟩ | ⟨_, v, rfl, ho, hb⟩)
 ·rw [hi] at k; cases k
 ·obtain ⟨x, q, rfl, h1, h2, h3, h4⟩ := own_en ho
  exact ⟨x, q, rfl, h1, h2, h4, h3, hb⟩
theorem e_revoke_no (a : Option Addr) (c : Nat) (l : List EnM) (p u : ByteArray) (n : Int) (W : World) (h : EnSl W a l) (hl : l.length ≤ 500) (hc : l.length ≤ c) (hcm : c ≤ maxLen) (hi : l.any (infE p u) = false) : Calls Tryz.prog 114 #[.slice a l.length c, .agg #[.string p, .string u], .int .i64 n] W fun e w' => e = .returned (.tuple #[.slice none 0 0, .int .i64 91]) ∧ Below W.heap.size W w' := by
 refine Calls.mono (P := Tryz.prog) (revoke_any a c l p u n W h hl hc hcm) ?_
 rintro e w' (⟨_, rfl, hb⟩ | ⟨k, _⟩)
 ·exact ⟨rfl, hb⟩
 ·rw [hi] at k; cases k
theorem e_rising (a : Option Addr) (c : Nat) (l : List EnM) (W : World) (h : EnSl W a l) (hs : SzE l) (hl : l.length ≤ 1000) : Calls Tryz.prog 67 #[.slice a l.length c] W fun e w' => e = .returned (.bool (decide (RiseE l))) ∧ Below W.heap.size W w' := erising_any a c l W h hs (by omega)
theorem e_same (a b : Option Addr) (c q : Nat) (l m : List EnM) (W : World) (ha : EnSl W a l) (hb : EnSl W b m) (hl : l.length ≤ 1000) (hm : m.length ≤ 1000) : Calls Tryz.prog 85 #[.slice a l.length c, .slice b m.length q] W fun e w' => e = .returned (.bool (decide (l = m))) ∧ Below W.heap.size W w' :=
 esame_any a b c q l m W ha hb (by unfold maxLen; omega) (by unfold maxLen; omega)
theorem e_rsame (a b : Option Addr) (c q : Nat) (l m : List EnM) (W : World) (ha : EnSl W a l) (hb : EnSl W b m) (hl : l.length ≤ 1000) (hm : m.length ≤ 1000) : Calls Tryz.prog 55 #[.slice a l.length c, .slice b m.length q] W fun e w' => e = .returned (.bool (decide (l = m))) ∧ Below W.heap.size W w' :=
 erefSame_any a b c q l m W ha hb (by unfold maxLen; omega) (by unfold maxLen; omega)
end Go.Proofs.YtjhdhfokhkcamaaGreat
