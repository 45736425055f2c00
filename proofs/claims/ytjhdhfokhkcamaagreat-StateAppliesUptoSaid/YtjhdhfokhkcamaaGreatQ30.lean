/- Texts of mine, one behind the other, of each what is wanted. -/
import Derived.Test.YtjhdhfokhkcamaaGreatQ00
import Derived.Test.YtjhdhfokhkcamaaGreatShelf
import Derived.Test.YtjhdhfokhkcamaaGreatRows
import Derived.Test.YtjhdhfokhkcamaaGreatQ01
import Derived.Test.YtjhdhfokhkcamaaGreatQ02
import Derived.Test.YtjhdhfokhkcamaaGreatQ03
import Derived.Test.YtjhdhfokhkcamaaGreatQ05
import Derived.Test.YtjhdhfokhkcamaaGreatQ09
import Derived.Test.YtjhdhfokhkcamaaGreatQ11
import Derived.Test.YtjhdhfokhkcamaaGreatQ15
import Derived.Test.YtjhdhfokhkcamaaGreatQ18
import Derived.Test.YtjhdhfokhkcamaaGreatQ20
import Derived.Test.YtjhdhfokhkcamaaGreatQ27
import Derived.Test.YtjhdhfokhkcamaaGreatQ28
import Derived.Test.YtjhdhfokhkcamaaGreatQ29
namespace Go.Proofs.YtjhdhfokhkcamaaGreat
open Go.RowKit Go.Proofs
set_option linter.unusedVariables false
set_option maxRecDepth 100000
set_option maxRecDepth 100000
theorem ocut_snoc (m : List OpM) (x : OpM) (k : Nat) : cutAt (m ++ [x]) k = if m.length = k then cutAt m k else cutAt m k ++ [x] := by
 unfold cutAt
 rw [List.take_append, List.drop_append]
 rcases Nat.lt_trichotomy m.length k with h | h | h
 ·rw [if_neg (by omega), List.take_of_length_le (show [x].length ≤ k - m.length by simp; omega), List.drop_of_length_le (show [x].length ≤ k + 1 - m.length by simp; omega), List.drop_of_length_le (show m.length ≤ k + 1 by omega)]
  simp
 ·rw [if_pos h]
  have e1 : k - m.length = 0 := by omega
  rw [e1, List.drop_of_length_le (show [x].length ≤ k + 1 - m.length by simp; omega), List.drop_of_length_le (show m.length ≤ k + 1 by omega)]
  simp
 ·rw [if_neg (by omega)]
  have e1 : k - m.length = 0 := by omega
  have e2 : k + 1 - m.length = 0 := by omega
  rw [e1, e2]
  simp
theorem cut_next (l : List OpM) (k j : Nat) (h : j < l.length) : cutAt (l.take (j + 1)) k = if j = k then cutAt (l.take j) k else cutAt (l.take j) k ++ [l[j]] := by
 have hl : (l.take j).length = j := by rw [List.length_take]; omega
 rw [List.take_succ_eq_append_getElem h, ocut_snoc, hl]
theorem cut_tlen (l : List OpM) (k j : Nat) : (cutAt (l.take j) k).length ≤ j := by
 have h1 := cutAt_len (l.take j) k
 have h2 : (l.take j).length ≤ j := by simp; omega
 omega
set_option maxHeartbeats 4000000 in
theorem rclose_any (a : Option Addr) (c : Nat) (l : List OpM) (n : Int) (u : ByteArray) (t : Int) (w : World) (hr : OpSl w a l) (hl : l.length ≤ 500) :
  Calls Tryz.prog 122 #[.slice a l.length c, .int .i64 n, .string u, .int .i64 t] w fun e w' => ∃ v, e = .returned (.tuple #[v, stV (fndS l n u t), .int .i64 (findC l n u)]) ∧ GotO w w' (cloR l n u) v := by
 obtain ⟨i0, hi, hz0, hz1, hz2⟩ := info_parts infoOpR
 have HF := Lib.hid (fun W (h : OpSl W a l) => rFind_any a c l n u W h (by omega))
 have HZ := Lib.hid (Zb.new w (.int .i64 0) (.int .i64 0) (.int .i64 0) (.int .i64 0) 135)
 have HR := Lib.hid hr
 have hCR : cloR l n u = if findC l n u = 0 then cutAt l (findP l n u) else [] := rfl
 have hFS : fndS l n u t = if findC l n u = 0 then stayO (findE l n u) t else stZ := rfl
 clear hr
 rcases fc_three l n u with ⟨hc0, k, hk, hfst, -, -, he, hp⟩ | ⟨hc0, he, hp⟩
 ·rw [hc0, he] at HF
  rw [hc0, if_pos rfl, hp] at hCR
  rw [hc0, if_pos rfl, he] at hFS
  rw [hc0, hCR, hFS]
  have HAT := Lib.hid (fun W (h : OpSl W a l) => rat_any a c l n W h (by omega))
  rw [idx_three (u := u) hk hfst] at HAT
  have HST := Lib.hid (fun W => rstay_any l[k] t W)
  unfold opV stV stayO at HST
  unfold opV at HF
  unfold stV stayO
  dsimp only at *
  have d1 : ((0 : Int) != 0) = false := rfl
  obtain ⟨x, hx⟩ : ∃ x, x = l[k] := ⟨_, rfl⟩
  rw [← hx] at HF HST ⊢
  clear hCR hFS hc0 he hp hfst hx
  have HLK := Lib.hid hk
  clear hk
  go_enter Tryz.func122, Tryz.ntmps122
  go_wp2_with fail
  refine (HF.out _ (HR.out.below HZ.out.frame)).mono ?_
  rintro e w1 ⟨rfl, hB⟩
  have K1 := HZ.out.below hB
  have KX := Zb.new w1 (.int .i64 x.n) (.string x.u) (.int .i64 x.s) (.int .i64 x.f) 75
  have K2 := K1.alloc (.cells #[.int .i64 x.n, .string x.u, .int .i64 x.s, .int .i64 x.f] 75)
  have HRW := HR.out.below K2.frame
  clear hB HF HZ K1 HR
  go_wp2
  generalize w1.alloc (.cells #[.int .i64 x.n, .string x.u, .int .i64 x.s, .int .i64 x.f] 75) = W2 at *
  generalize w1.heap.size = g1 at *
  have HGL := Lib.hid K2.lt
  have HKX := Lib.hid KX.blk
  have HK2 := Lib.hid K2
  have HRW2 := Lib.hid HRW
  clear K2 KX HRW
  go_loopw [13, 14] (fun v i wr => ∃ (j : Nat), j ≤ l.length ∧ i = .int .i64 j ∧ Hid (wr.ownsRow W2.heap.size 75 4 v (cutAt (l.take j) k).length (oes (cutAt (l.take j) k))) ∧ Hid (Below W2.heap.size W2 wr)) (fun _ i _ => l.length - (intOf i).toNat)
  case atStart => exact ⟨0, by omega, rfl, (by unfold Hid cutAt; rw [List.take_zero, List.take_nil, List.drop_nil]; exact ⟨rfl, .inl ⟨rfl, rfl⟩⟩), Below.refl _ _⟩
  case round =>
   obtain ⟨j, hj, rfl, HO, HB⟩ := hrel
   by_cases hjl : j < l.length
   ·have HN := Lib.hid (cut_next l k j hjl)
    have HLN := Lib.hid (cut_tlen l k j)
    obtain ⟨b, off, rfl, -, -, -, -, -⟩ := HRW2.out.at_ hjl
    generalize cutAt (l.take j) k = m at *
    by_cases hjk : j = k
    ·have HN2 : Hid (cutAt (l.take (j + 1)) k = m) := by
      have := HN.out
      rwa [if_pos hjk] at this
     have q1 : ((j : Int) != (k : Int)) = false := by rw [hjk]; simp
     have q2 : ((j : Int) == (k : Int)) = true := by rw [hjk]; simp
     clear HN hjk HST HLN
     go_wp2_with fail
     refine (HAT.out _ (HRW2.out.below HB.out)).mono ?_
     rintro e w3 ⟨rfl, hB⟩
     have HO3 := Lib.hid (own_below HO.out hB)
     have HB3 := Lib.hid (HB.out.trans (hB.mono HB.out.size))
     clear hB HAT
     go_wp2
     go_roundw
     case rel => exact ⟨j + 1, by omega, by go_num, (by unfold Hid; rw [HN2.out]; exact HO3.out), HB3.out⟩
     case measure => simp [intOf]; omega
    ·have HN2 : Hid (cutAt (l.take (j + 1)) k = m ++ [l[j]]) := by
      have := HN.out
      rwa [if_neg hjk] at this
     have q1 : ((j : Int) != (k : Int)) = true := by simp; omega
     have q2 : ((j : Int) == (k : Int)) = false := beq_eq_false_iff_ne.2 (by omega)
     clear HN hjk HST
     go_wp2_with fail
     refine (HAT.out _ (HRW2.out.below HB.out)).mono ?_
     rintro e w3 ⟨rfl, hB⟩
     have hB3 := HB.out.trans (hB.mono HB.out.size)
     obtain ⟨_, _, e0, hbl, hc0, hc1, hc2, hc3⟩ := (HRW2.out.below hB3).at_ hjl
     cases e0
     generalize l[j] = y at *
     have HO3 := Lib.hid (own_below HO.out (hB.trans ((below_one w3 (.cells #[.int .i64 y.n, .string y.u, .int .i64 y.s, .int .i64 y.f] 75)).mono hB.size)))
     have HB3 : Hid (Below W2.heap.size W2 (w3.alloc (.cells #[.int .i64 y.n, .string y.u, .int .i64 y.s, .int .i64 y.f] 75))) := hB3.trans ((below_one w3 _).mono hB3.size)
     have HS3 := Lib.hid HB3.out.size
     have hlm := HLN.out
     clear hB HAT hB3
     go_wp2_with (at_builtin; refine wpList_append_own _ rfl (.tmp 37) (.tmp 42) 22 rfl W2.heap.size 75 i0 _ 4 40 Tryz.underlying22 hi hz0 hz1 hz2 rfl (by decide) _ _ _ rfl HO3.out ⟨w3.heap.size, 0, none⟩ 1 1 [.int .i64 y.n, .string y.u, .int .i64 y.s, .int .i64 y.f] rfl rfl (news_at _ _ _ _ rfl) (four_o _ _ _ _) (by unfold maxLen; omega) (by omega) HS3.out ?_; intro v' w5 hown' hgrow hiff)
     have HB5 := Lib.hid (app_below HB3.out HS3.out HO3.out hgrow)
     have HO5 := Lib.hid hown'
     clear hown' hgrow hiff HB3 HS3 HO3
     go_wp2
     go_roundw
     case rel => exact ⟨j + 1, by omega, by go_num, (by unfold Hid; rw [HN2.out, List.length_append, oes_snoc]; exact HO5.out), HB5⟩
     case measure => simp [intOf]; omega
   ·obtain rfl : j = l.length := by omega
    rw [List.take_of_length_le (Nat.le_refl _)] at HO
    have KE := Lib.hid (HK2.out.below HB.out)
    have hx := (HB.out.block _ (heap_lt HKX.out)).trans HKX.out
    obtain ⟨c0, c1, c2, c3⟩ := cells4 hx
    clear hx HAT
    go_wp2_with fail
    refine (HST.out _).mono ?_
    rintro e w6 ⟨rfl, hB6⟩
    have K6 := KE.out.below hB6
    obtain ⟨z0, z1, z2, z3⟩ := K6.cells
    obtain ⟨y0, y1, y2, y3⟩ := K6.free
    have hgl := K6.lt
    have HL := Lib.hid (K6.loadT (.int .i64 x.f) (.int .i64 t) (.int .i64 x.n) (.int .i64 x.s))
    have hgo := GotO.far (own_below HO.out hB6) HGL.out (.int .i64 x.f) (.int .i64 t) (.int .i64 x.n) (.int .i64 x.s) (K6.set (.int .i64 x.f) (.int .i64 t) (.int .i64 x.n) (.int .i64 x.s))
    have HGO := Lib.hid hgo
    unfold setO at HL HGO
    clear hgo hB6 K6 HST KE c0 c1 c2 c3
    go_wp2
    refine bodyPost_ret (v := .tuple #[_, .agg #[.int .i64 x.f, .int .i64 t, .int .i64 x.n, .int .i64 x.s], .int .i64 0]) ?_ rfl ⟨_, rfl, HGO.out⟩
    rw [results_tmp_cell_tmp rfl]
    simp [asAddr, Result.andThen, HL.out]
 ·rw [he] at HF
  have hne : ¬ findC l n u = 0 := by rcases hc0 with h | h <;> rw [h] <;> decide
  rw [if_neg hne] at hCR hFS
  rw [hCR, hFS]
  have d1 : (findC l n u != 0) = true := by rcases hc0 with h | h <;> rw [h] <;> rfl
  generalize findC l n u = C at *
  unfold stV stZ
  unfold opV opZ at HF
  dsimp only at *
  clear hCR hFS hc0 he hp hne
  go_enter Tryz.func122, Tryz.ntmps122
  go_wp2_with fail
  refine (HF.out _ (HR.out.below HZ.out.frame)).mono ?_
  rintro e w1 ⟨rfl, hB⟩
  have K1 := HZ.out.below hB
  have K2 := K1.alloc (.cells #[.int .i64 0, .string ⟨#[]⟩, .int .i64 0, .int .i64 0] 75)
  have HL := Lib.hid (K2.loadT (.int .i64 0) (.int .i64 0) (.int .i64 0) (.int .i64 0))
  have HS := Lib.hid (K2.set (.int .i64 0) (.int .i64 0) (.int .i64 0) (.int .i64 0))
  obtain ⟨z0, z1, z2, z3⟩ := K2.cells
  obtain ⟨f0, f1, f2, f3⟩ := K2.free
  have hgl := K2.lt
  unfold setO at HL HS
  clear HF hB K1 K2
  go_wp2
  refine bodyPost_ret (v := .tuple #[.slice none 0 0, .agg #[.int .i64 0, .int .i64 0, .int .i64 0, .int .i64 0], .int .i64 C]) ?_ rfl ⟨_, rfl, GotO.nil HS.out⟩
  rw [results_tmp_cell_tmp rfl]
  simp [asAddr, Result.andThen, HL.out]
end Go.Proofs.YtjhdhfokhkcamaaGreat
namespace Go.Proofs.YtjhdhfokhkcamaaGreat
open Go.RowKit
set_option linter.unusedVariables false
set_option maxRecDepth 100000
set_option maxRecDepth 100000
theorem aft_take (l : List StM) (t : Int) (j : Nat) (h : j < l.length) : aftS (l.take (j + 1)) t = aftS (l.take j) t ++ (if t < l[j].t then [l[j]] else []) := by
 unfold aftS
 rw [List.take_succ_eq_append_getElem h, List.filter_append, List.filter_cons, List.filter_nil]
 by_cases h1 : t < l[j].t <;> simp [h1]
theorem aft_len (l : List StM) (t : Int) (j : Nat) : (aftS (l.take j) t).length ≤ j := by
 unfold aftS
 exact Nat.le_trans (List.length_filter_le _ _) (by simp; omega)
set_option maxHeartbeats 2000000 in
theorem after_any (a : Option Addr) (c : Nat) (l : List StM) (t : Int) (w : World) (hr : StSl w a l) (hl : l.length ≤ 1000000) :
  Calls Tryz.prog 76 #[.slice a l.length c, .int .i64 t] w fun e w' => ∃ (v : Value), e = .returned v ∧ w'.ownsRow w.heap.size 86 4 v (aftS l t).length (sts (aftS l t)) ∧ Below w.heap.size w w' := by
 obtain ⟨i0, hi, hz0, hz1, hz2⟩ := info_parts infoStay
 have HR := Lib.hid hr
 clear hr
 go_enter Tryz.func76, Tryz.ntmps76
 go_wp2
 go_loopw [5, 10] (fun v i wr => ∃ (j : Nat), j ≤ l.length ∧ i = .int .i64 j ∧ Hid (wr.ownsRow w.heap.size 86 4 v (aftS (l.take j) t).length (sts (aftS (l.take j) t))) ∧ Hid (Below w.heap.size w wr)) (fun _ i _ => l.length - (intOf i).toNat)
 case atStart => exact ⟨0, by omega, rfl, ⟨rfl, .inl ⟨rfl, rfl⟩⟩, Below.refl _ _⟩
 case round =>
  obtain ⟨j, hj, rfl, HO, HB⟩ := hrel
  by_cases hjl : j < l.length
  ·obtain ⟨b, off, rfl, hbl, hc0, hc1, hc2, hc3⟩ := (HR.out.below HB.out).at_ hjl
   have HC := Lib.hid (aft_take l t j hjl)
   have HLN : Hid ((aftS (l.take j) t).length ≤ j) := aft_len l t j
   generalize l[j] = x at *
   generalize aftS (l.take j) t = m at *
   by_cases h : t < x.t
   ·have hd := decide_eq_true h
    have HC2 : Hid (aftS (l.take (j + 1)) t = m ++ [x]) := by have := HC.out; rwa [if_pos h] at this
    have HO2 := Lib.hid (own_below HO.out (below_two wr (.cells #[.int .i64 x.f, .int .i64 x.t, .int .i64 x.n, .int .i64 x.s] 86) (.cells #[.int .i64 x.f, .int .i64 x.t, .int .i64 x.n, .int .i64 x.s] 86)))
    have HB2 : Hid (Below w.heap.size w ((wr.alloc (.cells #[.int .i64 x.f, .int .i64 x.t, .int .i64 x.n, .int .i64 x.s] 86)).alloc (.cells #[.int .i64 x.f, .int .i64 x.t, .int .i64 x.n, .int .i64 x.s] 86))) := HB.out.trans ((below_two wr (.cells #[.int .i64 x.f, .int .i64 x.t, .int .i64 x.n, .int .i64 x.s] 86) (.cells #[.int .i64 x.f, .int .i64 x.t, .int .i64 x.n, .int .i64 x.s] 86)).mono HB.out.size)
    have HS2 := Lib.hid HB2.out.size
    have hlm := HLN.out
    go_wp2_with (at_builtin; refine wpList_append_own _ rfl (.tmp 19) (.tmp 21) 60 rfl w.heap.size 86 i0 _ 4 32 Tryz.underlying60 hi hz0 hz1 hz2 rfl (by decide) _ _ _ rfl HO2.out ⟨wr.heap.size + 1, 0, none⟩ 1 1 [.int .i64 x.f, .int .i64 x.t, .int .i64 x.n, .int .i64 x.s] rfl rfl (news_at _ _ _ _ (size1 _ _).symm) (four_one _ _ _ _) (by unfold maxLen; omega) (by omega) HS2.out ?_; intro v' w3 hown' hgrow hiff)
    have HB3 := Lib.hid (app_below HB2.out HS2.out HO2.out hgrow)
    have HO3 := Lib.hid hown'
    clear hown' hgrow hiff HB2 HS2 HO2
    go_wp2
    go_roundw
    case rel => exact ⟨j + 1, by omega, by go_num, (by unfold Hid; rw [HC2.out, List.length_append, sts_snoc]; exact HO3.out), HB3⟩
    case measure => simp [intOf]; omega
   ·have hd := decide_eq_false h
    have HC2 : Hid (aftS (l.take (j + 1)) t = m) := by have := HC.out; rwa [if_neg h, List.append_nil] at this
    go_wp2
    go_roundw
    case rel => exact ⟨j + 1, by omega, by go_num, (by unfold Hid; rw [HC2.out]; exact (own_below HO.out (below_one wr (.cells #[.int .i64 x.f, .int .i64 x.t, .int .i64 x.n, .int .i64 x.s] 86)))), (HB.out.trans ((below_one wr (.cells #[.int .i64 x.f, .int .i64 x.t, .int .i64 x.n, .int .i64 x.s] 86)).mono HB.out.size))⟩
    case measure => simp [intOf]; omega
  ·obtain rfl : j = l.length := by omega
   rw [List.take_of_length_le (Nat.le_refl _)] at HO
   go_wp2
   go_ret
   exact ⟨_, rfl, HO.out, HB.out⟩
end Go.Proofs.YtjhdhfokhkcamaaGreat
namespace Go.Proofs.YtjhdhfokhkcamaaGreat
open Go.RowKit Go.Proofs
set_option linter.unusedVariables false
set_option maxRecDepth 100000
def OwnStR (W : World) (B : Nat) (y : UsL) : Prop := W.ownsRow B 135 4 (.slice y.a y.l.length y.c) y.l.length (sts y.l)
theorem OwnStR.at_ {W : World} {B : Nat} {y : UsL} (h : OwnStR W B y) : UsAt W y := by
 obtain ⟨x, q, h1, h2, h3, h4, h5⟩ := own_st h
 injection h1 with k1 k2 k3
 subst k1 k3
 exact ⟨h4, h2, h3, h5⟩
end Go.Proofs.YtjhdhfokhkcamaaGreat
