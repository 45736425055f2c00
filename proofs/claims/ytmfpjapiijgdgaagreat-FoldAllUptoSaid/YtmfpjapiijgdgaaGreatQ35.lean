/- Texts of mine, one behind the other, of each what is wanted. -/
import Derived.Test.YtmfpjapiijgdgaaGreatQ00
import Derived.Test.YtmfpjapiijgdgaaGreatShelf
import Derived.Test.YtmfpjapiijgdgaaGreatRows
import Derived.Test.YtmfpjapiijgdgaaGreatQ01
import Derived.Test.YtmfpjapiijgdgaaGreatQ04
import Derived.Test.YtmfpjapiijgdgaaGreatQ05
import Derived.Test.YtmfpjapiijgdgaaGreatQ06
import Derived.Test.YtmfpjapiijgdgaaGreatQ12
import Derived.Test.YtmfpjapiijgdgaaGreatQ17
import Derived.Test.YtmfpjapiijgdgaaGreatQ20
import Derived.Test.YtmfpjapiijgdgaaGreatQ22
import Derived.Test.YtmfpjapiijgdgaaGreatQ23
import Derived.Test.YtmfpjapiijgdgaaGreatQ27
import Derived.Test.YtmfpjapiijgdgaaGreatQ31
import Derived.Test.YtmfpjapiijgdgaaGreatQ32
import Derived.Test.YtmfpjapiijgdgaaGreatQ34
namespace Go.Proofs.YtmfpjapiijgdgaaGreat
open Go.RowKit Go.Proofs
set_option linter.unusedVariables false
set_option maxRecDepth 100000
set_option maxRecDepth 100000
theorem ocut_snoc (m : List OpM) (x : OpM) (k : Nat) : cutAt (m ++ [x]) k = if m.length = k then cutAt m k else cutAt m k ++ [x] := by
 unfold cutAt
 rw [List.take_append, List.drop_append]
 rcases Nat.lt_trichotomy m.length k with h | h | h
 ·rw [if_neg (by omega), List.take_of_length_le (show [x].length ≤ k - m.length by simp; omega), List.drop_of_length_le (show [x].length ≤ k + 1 - m.length by simp; omega), List.drop_of_length_le (show m.length ≤ k + 1 by omega)]
  simp
 ·rw [if_pos h]
  have e1 : k - m.length = 0 := by omega
  rw [e1, List.drop_of_length_le (show [x].length ≤ k + 1 - m.length by simp; omega), List.drop_of_length_le (show m.length ≤ k + 1 by omega)]
  simp
 ·rw [if_neg (by omega)]
  have e1 : k - m.length = 0 := by omega
  have e2 : k + 1 - m.length = 0 := by omega
  rw [e1, e2]
  simp
theorem cut_next (l : List OpM) (k j : Nat) (h : j < l.length) : cutAt (l.take (j + 1)) k = if j = k then cutAt (l.take j) k else cutAt (l.take j) k ++ [l[j]] := by
 have hl : (l.take j).length = j := by rw [List.length_take]; omega
 rw [List.take_succ_eq_append_getElem h, ocut_snoc, hl]
theorem cut_tlen (l : List OpM) (k j : Nat) : (cutAt (l.take j) k).length ≤ j := by
 have h1 := cutAt_len (l.take j) k
 have h2 : (l.take j).length ≤ j := by simp; omega
 omega
set_option maxHeartbeats 4000000 in
theorem rclose_any (a : Option Addr) (c : Nat) (l : List OpM) (n : Int) (u : ByteArray) (t : Int) (w : World) (hr : OpSl w a l) (hl : l.length ≤ 500) :
  Calls Tryz.prog 205 #[.slice a l.length c, .int .i64 n, .string u, .int .i64 t] w fun e w' => ∃ v, e = .returned (.tuple #[v, stV (fndS l n u t), .int .i64 (findC l n u)]) ∧ GotO w w' (cloR l n u) v := by
 obtain ⟨i0, hi, hz0, hz1, hz2⟩ := info_parts infoOpR
 have HF := Lib.hid (fun W (h : OpSl W a l) => rFind_any a c l n u W h (by omega))
 have HZ := Lib.hid (Zb.new w (.int .i64 0) (.int .i64 0) (.int .i64 0) (.int .i64 0) 104)
 have HR := Lib.hid hr
 have hCR : cloR l n u = if findC l n u = 0 then cutAt l (findP l n u) else [] := rfl
 have hFS : fndS l n u t = if findC l n u = 0 then stayO (findE l n u) t else stZ := rfl
 clear hr
 rcases fc_three l n u with ⟨hc0, k, hk, hfst, -, -, he, hp⟩ | ⟨hc0, he, hp⟩
 ·rw [hc0, he] at HF
  rw [hc0, if_pos rfl, hp] at hCR
  rw [hc0, if_pos rfl, he] at hFS
  rw [hc0, hCR, hFS]
  have HAT := Lib.hid (fun W (h : OpSl W a l) => rat_any a c l n W h (by omega))
  rw [idx_three (u := u) hk hfst] at HAT
  have HST := Lib.hid (fun W => rstay_any l[k] t W)
  unfold opV stV stayO at HST
  unfold opV at HF
  unfold stV stayO
  dsimp only at *
  have d1 : ((0 : Int) != 0) = false := rfl
  obtain ⟨x, hx⟩ : ∃ x, x = l[k] := ⟨_, rfl⟩
  rw [← hx] at HF HST ⊢
  clear hCR hFS hc0 he hp hfst hx
  have HLK := Lib.hid hk
  clear hk
  go_enter Tryz.func205, Tryz.ntmps205
  go_wp2_with fail
  refine (HF.out _ (HR.out.below HZ.out.frame)).mono ?_
  rintro e w1 ⟨rfl, hB⟩
  have K1 := HZ.out.below hB
  have KX := Zb.new w1 (.int .i64 x.n) (.string x.u) (.int .i64 x.s) (.int .i64 x.f) 129
  have K2 := K1.alloc (.cells #[.int .i64 x.n, .string x.u, .int .i64 x.s, .int .i64 x.f] 129)
  have HRW := HR.out.below K2.frame
  clear hB HF HZ K1 HR
  go_wp2
  generalize w1.alloc (.cells #[.int .i64 x.n, .string x.u, .int .i64 x.s, .int .i64 x.f] 129) = W2 at *
  generalize w1.heap.size = g1 at *
  have HGL := Lib.hid K2.lt
  have HKX := Lib.hid KX.blk
  have HK2 := Lib.hid K2
  have HRW2 := Lib.hid HRW
  clear K2 KX HRW
  go_loopw [13, 14] (fun v i wr => ∃ (j : Nat), j ≤ l.length ∧ i = .int .i64 j ∧ Hid (wr.ownsRow W2.heap.size 129 4 v (cutAt (l.take j) k).length (oes (cutAt (l.take j) k))) ∧ Hid (Below W2.heap.size W2 wr)) (fun _ i _ => l.length - (intOf i).toNat)
  case atStart => exact ⟨0, by omega, rfl, (by unfold Hid cutAt; rw [List.take_zero, List.take_nil, List.drop_nil]; exact ⟨rfl, .inl ⟨rfl, rfl⟩⟩), Below.refl _ _⟩
  case round =>
   obtain ⟨j, hj, rfl, HO, HB⟩ := hrel
   by_cases hjl : j < l.length
   ·have HN := Lib.hid (cut_next l k j hjl)
    have HLN := Lib.hid (cut_tlen l k j)
    obtain ⟨b, off, rfl, -, -, -, -, -⟩ := HRW2.out.at_ hjl
    generalize cutAt (l.take j) k = m at *
    by_cases hjk : j = k
    ·have HN2 : Hid (cutAt (l.take (j + 1)) k = m) := by
      have := HN.out
      rwa [if_pos hjk] at this
     have q1 : ((j : Int) != (k : Int)) = false := by rw [hjk]; simp
     have q2 : ((j : Int) == (k : Int)) = true := by rw [hjk]; simp
     clear HN hjk HST HLN
     go_wp2_with fail
     refine (HAT.out _ (HRW2.out.below HB.out)).mono ?_
     rintro e w3 ⟨rfl, hB⟩
     have HO3 := Lib.hid (own_below HO.out hB)
     have HB3 := Lib.hid (HB.out.trans (hB.mono HB.out.size))
     clear hB HAT
     go_wp2
     go_roundw
     case rel => exact ⟨j + 1, by omega, by go_num, (by unfold Hid; rw [HN2.out]; exact HO3.out), HB3.out⟩
     case measure => simp [intOf]; omega
    ·have HN2 : Hid (cutAt (l.take (j + 1)) k = m ++ [l[j]]) := by
      have := HN.out
      rwa [if_neg hjk] at this
     have q1 : ((j : Int) != (k : Int)) = true := by simp; omega
     have q2 : ((j : Int) == (k : Int)) = false := beq_eq_false_iff_ne.2 (by omega)
     clear HN hjk HST
     go_wp2_with fail
     refine (HAT.out _ (HRW2.out.below HB.out)).mono ?_
     rintro e w3 ⟨rfl, hB⟩
     have hB3 := HB.out.trans (hB.mono HB.out.size)
     obtain ⟨_, _, e0, hbl, hc0, hc1, hc2, hc3⟩ := (HRW2.out.below hB3).at_ hjl
     cases e0
     generalize l[j] = y at *
     have HO3 := Lib.hid (own_below HO.out (hB.trans ((below_one w3 (.cells #[.int .i64 y.n, .string y.u, .int .i64 y.s, .int .i64 y.f] 129)).mono hB.size)))
     have HB3 : Hid (Below W2.heap.size W2 (w3.alloc (.cells #[.int .i64 y.n, .string y.u, .int .i64 y.s, .int .i64 y.f] 129))) := hB3.trans ((below_one w3 _).mono hB3.size)
     have HS3 := Lib.hid HB3.out.size
     have hlm := HLN.out
     clear hB HAT hB3
     go_wp2_with (at_builtin; refine wpList_append_own _ rfl (.tmp 37) (.tmp 42) 22 rfl W2.heap.size 129 i0 _ 4 40 Tryz.underlying22 hi hz0 hz1 hz2 rfl (by decide) _ _ _ rfl HO3.out ⟨w3.heap.size, 0, none⟩ 1 1 [.int .i64 y.n, .string y.u, .int .i64 y.s, .int .i64 y.f] rfl rfl (news_at _ _ _ _ rfl) (four_o _ _ _ _) (by unfold maxLen; omega) (by omega) HS3.out ?_; intro v' w5 hown' hgrow hiff)
     have HB5 := Lib.hid (app_below HB3.out HS3.out HO3.out hgrow)
     have HO5 := Lib.hid hown'
     clear hown' hgrow hiff HB3 HS3 HO3
     go_wp2
     go_roundw
     case rel => exact ⟨j + 1, by omega, by go_num, (by unfold Hid; rw [HN2.out, List.length_append, oes_snoc]; exact HO5.out), HB5⟩
     case measure => simp [intOf]; omega
   ·obtain rfl : j = l.length := by omega
    rw [List.take_of_length_le (Nat.le_refl _)] at HO
    have KE := Lib.hid (HK2.out.below HB.out)
    have hx := (HB.out.block _ (heap_lt HKX.out)).trans HKX.out
    obtain ⟨c0, c1, c2, c3⟩ := cells4 hx
    clear hx HAT
    go_wp2_with fail
    refine (HST.out _).mono ?_
    rintro e w6 ⟨rfl, hB6⟩
    have K6 := KE.out.below hB6
    obtain ⟨z0, z1, z2, z3⟩ := K6.cells
    obtain ⟨y0, y1, y2, y3⟩ := K6.free
    have hgl := K6.lt
    have HL := Lib.hid (K6.loadT (.int .i64 x.f) (.int .i64 t) (.int .i64 x.n) (.int .i64 x.s))
    have hgo := GotO.far (own_below HO.out hB6) HGL.out (.int .i64 x.f) (.int .i64 t) (.int .i64 x.n) (.int .i64 x.s) (K6.set (.int .i64 x.f) (.int .i64 t) (.int .i64 x.n) (.int .i64 x.s))
    have HGO := Lib.hid hgo
    unfold setO at HL HGO
    clear hgo hB6 K6 HST KE c0 c1 c2 c3
    go_wp2
    refine bodyPost_ret (v := .tuple #[_, .agg #[.int .i64 x.f, .int .i64 t, .int .i64 x.n, .int .i64 x.s], .int .i64 0]) ?_ rfl ⟨_, rfl, HGO.out⟩
    rw [results_tmp_cell_tmp rfl]
    simp [asAddr, Result.andThen, HL.out]
 ·rw [he] at HF
  have hne : ¬ findC l n u = 0 := by rcases hc0 with h | h <;> rw [h] <;> decide
  rw [if_neg hne] at hCR hFS
  rw [hCR, hFS]
  have d1 : (findC l n u != 0) = true := by rcases hc0 with h | h <;> rw [h] <;> rfl
  generalize findC l n u = C at *
  unfold stV stZ
  unfold opV opZ at HF
  dsimp only at *
  clear hCR hFS hc0 he hp hne
  go_enter Tryz.func205, Tryz.ntmps205
  go_wp2_with fail
  refine (HF.out _ (HR.out.below HZ.out.frame)).mono ?_
  rintro e w1 ⟨rfl, hB⟩
  have K1 := HZ.out.below hB
  have K2 := K1.alloc (.cells #[.int .i64 0, .string ⟨#[]⟩, .int .i64 0, .int .i64 0] 129)
  have HL := Lib.hid (K2.loadT (.int .i64 0) (.int .i64 0) (.int .i64 0) (.int .i64 0))
  have HS := Lib.hid (K2.set (.int .i64 0) (.int .i64 0) (.int .i64 0) (.int .i64 0))
  obtain ⟨z0, z1, z2, z3⟩ := K2.cells
  obtain ⟨f0, f1, f2, f3⟩ := K2.free
  have hgl := K2.lt
  unfold setO at HL HS
  clear HF hB K1 K2
  go_wp2
  refine bodyPost_ret (v := .tuple #[.slice none 0 0, .agg #[.int .i64 0, .int .i64 0, .int .i64 0, .int .i64 0], .int .i64 C]) ?_ rfl ⟨_, rfl, GotO.nil HS.out⟩
  rw [results_tmp_cell_tmp rfl]
  simp [asAddr, Result.andThen, HL.out]
end Go.Proofs.YtmfpjapiijgdgaaGreat
namespace Go.Proofs.YtmfpjapiijgdgaaGreat
open Go.RowKit
set_option linter.unusedVariables false
set_option maxRecDepth 100000
set_option maxRecDepth 100000
theorem o_rwithout (a : Option Addr) (c : Nat) (l : List OpM) (s : ByteArray) (W : World) (h : OpSl W a l) (hl : l.length ≤ 1000) : Calls Tryz.prog 148 #[.slice a l.length c, .string s] W fun e w' => ∃ x q, e = .returned (.slice x (l.filter (notU s)).length q) ∧ (l.filter (notU s)).length ≤ q ∧ q ≤ maxLen ∧ (x = none → q = 0) ∧ OpSl w' x (l.filter (notU s)) ∧ Below W.heap.size W w' := by
 refine (orwithout_any a c l s W h (by omega)).mono ?_
 rintro e w' ⟨v, rfl, ho, hb⟩
 obtain ⟨x, q, rfl, h1, h2, h3, h4⟩ := own_op ho
 exact ⟨x, q, rfl, h1, h2, h4, h3, hb⟩
theorem o_ropen (a : Option Addr) (c : Nat) (l : List OpM) (e0 : OpM) (W : World) (h : OpSl W a l) (hn : a = none → c = 0) (hl : l.length ≤ 500) (hc : l.length ≤ c) (hcm : c ≤ maxLen) : Calls Tryz.prog 204 #[.slice a l.length c, .agg #[.int .i64 e0.n, .string e0.u, .int .i64 e0.s, .int .i64 e0.f]] W fun e w' => ∃ x q, e = .returned (.tuple #[.slice x (openR l e0).length q, .int .i64 (openC l e0)]) ∧ (openR l e0).length ≤ q ∧ q ≤ maxLen ∧ (x = none → q = 0) ∧ OpSl w' x (openR l e0) ∧ Below W.heap.size W w' := by
 refine (ropen_any a c l e0 W h hn hl hc hcm).mono ?_
 rintro e w' ⟨v, rfl, x, q, rfl, h1, h2, h3, h4, h5⟩
 exact ⟨x, q, rfl, h1, h2, h3, h4, h5⟩
theorem o_rchange (a : Option Addr) (c : Nat) (l : List OpM) (n : Int) (u : ByteArray) (s t : Int) (W : World) (h : OpSl W a l) (hl : l.length ≤ 500) (hc : l.length ≤ c) (hcm : c ≤ maxLen) : Calls Tryz.prog 206 #[.slice a l.length c, .int .i64 n, .string u, .int .i64 s, .int .i64 t] W fun e w' => ∃ x q, e = .returned (.tuple #[.slice x (chgR l n u s t).length q, .agg #[.int .i64 (fndS l n u t).f, .int .i64 (fndS l n u t).t, .int .i64 (fndS l n u t).n, .int .i64 (fndS l n u t).s], .int .i64 (findC l n u)]) ∧ (chgR l n u s t).length ≤ q ∧ q ≤ maxLen ∧ (x = none → q = 0) ∧ OpSl w' x (chgR l n u s t) ∧ Below W.heap.size W w' := by
 refine (rchange_any a c l n u s t W h hl hc hcm).mono ?_
 rintro e w' ⟨v, rfl, x, q, rfl, h1, h2, h3, h4, h5⟩
 exact ⟨x, q, rfl, h1, h2, h3, h4, h5⟩
theorem o_rclose (a : Option Addr) (c : Nat) (l : List OpM) (n : Int) (u : ByteArray) (t : Int) (W : World) (h : OpSl W a l) (hl : l.length ≤ 500) : Calls Tryz.prog 205 #[.slice a l.length c, .int .i64 n, .string u, .int .i64 t] W fun e w' => ∃ x q, e = .returned (.tuple #[.slice x (cloR l n u).length q, .agg #[.int .i64 (fndS l n u t).f, .int .i64 (fndS l n u t).t, .int .i64 (fndS l n u t).n, .int .i64 (fndS l n u t).s], .int .i64 (findC l n u)]) ∧ (cloR l n u).length ≤ q ∧ q ≤ maxLen ∧ (x = none → q = 0) ∧ OpSl w' x (cloR l n u) ∧ Below W.heap.size W w' := by
 refine (rclose_any a c l n u t W h hl).mono ?_
 rintro e w' ⟨v, rfl, x, q, rfl, h1, h2, h3, h4, h5⟩
 exact ⟨x, q, rfl, h1, h2, h3, h4, h5⟩
theorem e_rwithout (a : Option Addr) (c : Nat) (l : List EnM) (s : ByteArray) (W : World) (h : EnSl W a l) (hl : l.length ≤ 1000) : Calls Tryz.prog 149 #[.slice a l.length c, .string s] W fun e w' => ∃ x q, e = .returned (.slice x (l.filter (wiE s)).length q) ∧ (l.filter (wiE s)).length ≤ q ∧ q ≤ maxLen ∧ (x = none → q = 0) ∧ EnSl w' x (l.filter (wiE s)) ∧ Below W.heap.size W w' := by
 refine (rwithout_any a c l s W h (by omega)).mono ?_
 rintro e w' ⟨v, rfl, ho, hb⟩
 obtain ⟨x, q, rfl, h1, h2, h3, h4⟩ := own_en ho
 exact ⟨x, q, rfl, h1, h2, h4, h3, hb⟩
theorem e_rgrant (a : Option Addr) (c : Nat) (l : List EnM) (p u : ByteArray) (n : Int) (W : World) (h : EnSl W a l) (hsz : SzE l) (hp : p.size ≤ maxLen) (hu : u.size ≤ maxLen) (hn : a = none → c = 0) (hl : l.length ≤ 500) (hc : l.length ≤ c) (hcm : c ≤ maxLen) (hi : l.any (infE p u) = false) : Calls Tryz.prog 146 #[.slice a l.length c, .agg #[.string p, .string u], .int .i64 n] W fun e w' => ∃ x q, e = .returned (.tuple #[.slice x (grantS l (mkE p u n)).length q, .int .i64 0]) ∧ (grantS l (mkE p u n)).length ≤ q ∧ q ≤ maxLen ∧ (x = none → q = 0) ∧ EnSl w' x (grantS l (mkE p u n)) ∧ Below W.heap.size W w' := by
 refine Calls.mono (P := Tryz.prog) (refGrant_any a c l p u n W h hsz hp hu hn hl hc hcm) ?_
 rintro e w' (⟨k, _, _⟩ | ⟨_, v, rfl, ho, hb⟩)
 ·rw [hi] at k; cases k
 ·obtain ⟨x, q, rfl, h1, h2, h3, h4⟩ := own_en ho
  exact ⟨x, q, rfl, h1, h2, h4, h3, hb⟩
theorem e_rgrant_no (a : Option Addr) (c : Nat) (l : List EnM) (p u : ByteArray) (n : Int) (W : World) (h : EnSl W a l) (hsz : SzE l) (hp : p.size ≤ maxLen) (hu : u.size ≤ maxLen) (hn : a = none → c = 0) (hl : l.length ≤ 500) (hc : l.length ≤ c) (hcm : c ≤ maxLen) (hi : l.any (infE p u) = true) : Calls Tryz.prog 146 #[.slice a l.length c, .agg #[.string p, .string u], .int .i64 n] W fun e w' => e = .returned (.tuple #[.slice none 0 0, .int .i64 90]) ∧ Below W.heap.size W w' := by
 refine Calls.mono (P := Tryz.prog) (refGrant_any a c l p u n W h hsz hp hu hn hl hc hcm) ?_
 rintro e w' (⟨_, rfl, hb⟩ | ⟨k, _⟩)
 ·exact ⟨rfl, hb⟩
 ·rw [hi] at k; cases k
theorem e_rrevoke (a : Option Addr) (c : Nat) (l : List EnM) (p u : ByteArray) (n : Int) (W : World) (h : EnSl W a l) (hl : l.length ≤ 500) (hi : l.any (infE p u) = true) : Calls Tryz.prog 147 #[.slice a l.length c, .agg #[.string p, .string u], .int .i64 n] W fun e w' => ∃ x q, e = .returned (.tuple #[.slice x (revokeS l p u n).length q, .int .i64 0]) ∧ (revokeS l p u n).length ≤ q ∧ q ≤ maxLen ∧ (x = none → q = 0) ∧ EnSl w' x (revokeS l p u n) ∧ Below W.heap.size W w' := by
 refine Calls.mono (P := Tryz.prog) (refRevoke_any a c l p u n W h hl) ?_
 rintro e w' (⟨k, _, _⟩ | ⟨_, v, rfl, ho, hb⟩)
 ·rw [hi] at k; cases k
 ·obtain ⟨x, q, rfl, h1, h2, h3, h4⟩ := own_en ho
  exact ⟨x, q, rfl, h1, h2, h4, h3, hb⟩
theorem e_rrevoke_no (a : Option Addr) (c : Nat) (l : List EnM) (p u : ByteArray) (n : Int) (W : World) (h : EnSl W a l) (hl : l.length ≤ 500) (hi : l.any (infE p u) = false) : Calls Tryz.prog 147 #[.slice a l.length c, .agg #[.string p, .string u], .int .i64 n] W fun e w' => e = .returned (.tuple #[.slice none 0 0, .int .i64 91]) ∧ Below W.heap.size W w' := by
 refine Calls.mono (P := Tryz.prog) (refRevoke_any a c l p u n W h hl) ?_
 rintro e w' (⟨_, rfl, hb⟩ | ⟨k, _⟩)
 ·exact ⟨rfl, hb⟩
 ·rw [hi] at k; cases k
end Go.Proofs.YtmfpjapiijgdgaaGreat
namespace Go.Proofs.YtmfpjapiijgdgaaGreat
open Go.RowKit Go.Proofs
set_option linter.unusedVariables false
set_option maxRecDepth 100000
set_option maxRecDepth 100000
theorem SB.finR {w T : World} {g r : Nat} {t t' : TypeId} {y z : SaL} (hK : SB w g t y T) (hZ : SB w r t' z T) : (loadVar 27 ⟨r, 0, none⟩).run Tryz.prog (setS T r y) = .ok (saV y) (setS T r y) ∧ SaAt (setS T r y) y ∧ Below w.heap.size w (setS T r y) := by
 have hF := hZ.set hK.at_
 exact ⟨loadR6 hF.blk, hF.at_, hF.frame⟩
theorem SB.finVR {w T : World} {r : Nat} {t' : TypeId} {y z : SaL} (hy : SaAt T y) (hZ : SB w r t' z T) : (loadVar 27 ⟨r, 0, none⟩).run Tryz.prog (setS T r y) = .ok (saV y) (setS T r y) ∧ SaAt (setS T r y) y ∧ Below w.heap.size w (setS T r y) := by
 have hF := hZ.set hy
 exact ⟨loadR6 hF.blk, hF.at_, hF.frame⟩
theorem EB.set {w W : World} {g g' : Nat} {t : TypeId} {e : EvM} {y : SaL} (h : EB w g t e W) (hne : g ≠ g') : EB w g t e (setS W g' y) := (((((h.far hne).far hne).far hne).far hne).far hne).far hne
structure AddK (w : World) (g : Nat) (x : SaL) (st : StM) (W : World) : Prop where
 s : SB w g 27 x W
 t : RB w (g + 1) #[.int .i64 st.f, .int .i64 st.t, .int .i64 st.n, .int .i64 st.s] 104 W
 z : SB w (g + 2) 27 saO W
theorem AddK.below {w W W' : World} {g : Nat} {x : SaL} {st : StM} (h : AddK w g x st W) (q : Below W.heap.size W W') : AddK w g x st W' := ⟨h.s.below q, h.t.below q, h.z.below q⟩
theorem AddK.new {w : World} {x : SaL} (h : SaAt w x) (st : StM) : AddK w w.heap.size x st (((w.alloc (.cells (saC x) 27)).alloc (.cells #[.int .i64 st.f, .int .i64 st.t, .int .i64 st.n, .int .i64 st.s] 104)).alloc (.cells #[.int .i64 0, .int .i64 0, .slice none 0 0, .slice none 0 0, .slice none 0 0, .slice none 0 0] 27)) := by
 have S0 := SB.new (Below.refl w.heap.size w) h 27
 have hb := below_one (w.alloc (.cells (saC x) 27)) (.cells #[.int .i64 st.f, .int .i64 st.t, .int .i64 st.n, .int .i64 st.s] 104)
 have S1 := S0.below hb
 have R1 := RB.new w (w.alloc (.cells (saC x) 27)) #[.int .i64 st.f, .int .i64 st.t, .int .i64 st.n, .int .i64 st.s] 104
 have Z0 := SB.new S1.frame (SaAt.zero ((w.alloc (.cells (saC x) 27)).alloc (.cells #[.int .i64 st.f, .int .i64 st.t, .int .i64 st.n, .int .i64 st.s] 104))) 27
 have hb2 := below_one ((w.alloc (.cells (saC x) 27)).alloc (.cells #[.int .i64 st.f, .int .i64 st.t, .int .i64 st.n, .int .i64 st.s] 104)) (.cells (saC saO) 27)
 rw [size1, size1] at Z0
 rw [size1] at R1
 exact ⟨S1.below hb2, R1.below hb2, Z0⟩
theorem fin_newR {w : World} {y : SaL} (h : SaAt w y) (o1 o2 : Obj) (t : TypeId) : (loadVar 27 ⟨w.heap.size + 2, 0, none⟩).run Tryz.prog (((w.alloc o1).alloc o2).alloc (.cells (saC y) t)) = .ok (saV y) (((w.alloc o1).alloc o2).alloc (.cells (saC y) t)) ∧ SaAt (((w.alloc o1).alloc o2).alloc (.cells (saC y) t)) y ∧ Below w.heap.size w (((w.alloc o1).alloc o2).alloc (.cells (saC y) t)) := by
 have h1 := below_one w o1
 have h2 := h1.trans ((below_one (w.alloc o1) o2).mono h1.size)
 have h3 := h2.trans ((below_one ((w.alloc o1).alloc o2) (.cells (saC y) t)).mono h2.size)
 have h4 := heap_alloc_new ((w.alloc o1).alloc o2) (.cells (saC y) t)
 rw [size1, size1] at h4
 exact ⟨loadR6 h4, h.below h3, h3⟩
set_option maxHeartbeats 1000000 in
theorem radd_any (x : SaL) (u : ByteArray) (st : StM) (w : World) (h : SaAt w x) (hf : Few x.m 450) (hk : RiseK UsM.u (umS x.us)) (hu : u.size ≤ maxLen) (hs : ∀ y ∈ x.us, y.u.size ≤ maxLen) :
  Calls Tryz.prog 207 #[saV x, .string u, stV st] w (Is w { x.m with us := addU x.m.us u st }) := by
 have K0 := AddK.new h st
 have hun := few_us hf
 have hol : (ofU x.m.us u).length ≤ 450 := ofU_few hf u
 have HOF := Lib.hid (fun V (h : SaAt V x) => rof_any x u V h (by omega))
 have HAD := Lib.hid (fun a c V (h : StSl V a (ofU x.m.us u)) (k : Cp a (ofU x.m.us u).length c) => refAdd_more a c (ofU x.m.us u) st V h k.nil (by omega) k.le k.mx)
 have HPU := Lib.hid (fun a c (l : List StM) V (h : UsSl V x.ua x.us) (k : UsAt V ⟨u, a, l, c⟩) => rput_any x.ua x.uc x.us u a c l V h k hk (by omega) hu hs)
 have HA : Hid (st.f < st.t → addU x.m.us u st = putU x.m.us u (addS (ofU x.m.us u) st)) := fun h => if_pos h
 have HN : Hid (¬ st.f < st.t → x.m = { x.m with us := addU x.m.us u st }) := fun h => by unfold addU; rw [if_neg h]
 have HM : Hid (x.m.us = umS x.us) := rfl
 have HSC : Hid (∀ V, AddK w w.heap.size x st V → V.cell? ⟨w.heap.size, 0, none⟩ = some (.int .i64 x.now) ∧ V.cell? ⟨w.heap.size, 1, none⟩ = some (.int .i64 x.hor) ∧ V.cell? ⟨w.heap.size, 2, none⟩ = some (.slice x.oa x.op.length x.oc) ∧ V.cell? ⟨w.heap.size, 3, none⟩ = some (.slice x.ua x.us.length x.uc) ∧ V.cell? ⟨w.heap.size, 4, none⟩ = some (.slice x.sa x.su.length x.sc) ∧ V.cell? ⟨w.heap.size, 5, none⟩ = some (.slice x.ta x.tb.length x.tc) ∧ V.cell? ⟨w.heap.size + 1, 0, none⟩ = some (.int .i64 st.f) ∧ V.cell? ⟨w.heap.size + 1, 1, none⟩ = some (.int .i64 st.t) ∧ V.cell? ⟨w.heap.size + 1, 2, none⟩ = some (.int .i64 st.n) ∧ V.cell? ⟨w.heap.size + 1, 3, none⟩ = some (.int .i64 st.s)) := fun V h => by
  obtain ⟨c0, c1, c2, c3, c4, c5⟩ := h.s.cells
  exact ⟨c0, c1, c2, c3, c4, c5, (h.t.cell 0).trans rfl, (h.t.cell 1).trans rfl, (h.t.cell 2).trans rfl, (h.t.cell 3).trans rfl⟩
 obtain ⟨c0, c1, c2, c3, c4, c5, s0, s1, s2, s3⟩ := HSC.out _ K0
 have HST : Hid (∀ V, RB w (w.heap.size + 1) #[.int .i64 st.f, .int .i64 st.t, .int .i64 st.n, .int .i64 st.s] 104 V → V.cell? ⟨w.heap.size + 1, 0, none⟩ = some (.int .i64 st.f) ∧ V.cell? ⟨w.heap.size + 1, 1, none⟩ = some (.int .i64 st.t) ∧ V.cell? ⟨w.heap.size + 1, 2, none⟩ = some (.int .i64 st.n) ∧ V.cell? ⟨w.heap.size + 1, 3, none⟩ = some (.int .i64 st.s)) := fun V h => ⟨(h.cell 0).trans rfl, (h.cell 1).trans rfl, (h.cell 2).trans rfl, (h.cell 3).trans rfl⟩
 have HK := Lib.hid K0
 have h0 := h
 clear h hf hk hs
 by_cases hlt : st.f < st.t
 ·have HE := Lib.hid (HA.out hlt)
  clear h0
  have K1 := K0.below (Below.refl _ _).drew
  clear HA HN K0 c0 c1 c2 c3 c4 c5 s0 s1 s2 s3
  obtain ⟨c0, c1, c2, c3, c4, c5, s0, s1, s2, s3⟩ := HSC.out _ HK.out
  obtain ⟨n0, n1, n2, n3, n4, n5, r0, r1, r2, r3⟩ := HSC.out _ K1
  generalize hO : ofU x.m.us u = o at *
  obtain ⟨now, hor, oa, op, oc, ua, us, uc, sa, su, sc, ta, tb, tc⟩ := x
  unfold saV saC stV at *
  dsimp only at *
  clear hol hO
  go_enter Tryz.func207, Tryz.ntmps207
  go_wp2_with fail
  go_region_law (first | (have hseen := K3; clear hseen; go_simp; go_at_call 150; refine (HPU.out x3 q3 _ _ K3.s.at_.us ⟨z3, d3.le, d3.max, d3.nil⟩).mono ?_; rintro e w4 ⟨x4, q4, L, rfl, l4, p4, m4, h4⟩; have K4 := K3.below h4; obtain ⟨c0, c1, c2, c3, c4, c5⟩ := K4.s.cells; obtain ⟨g0, g1, g2, g3, g4, g5⟩ := K4.s.free; have hgl := K4.s.lt) | (have hseen := K2; clear hseen; go_simp; go_at_call 93; refine (HAD.out x2 q2 _ z2 p2).mono ?_; rintro e w3 ⟨x3, q3, rfl, z3, h3, d3⟩; have K3 := K2.below h3; obtain ⟨c0, c1, c2, c3, c4, c5, s0, s1, s2, s3⟩ := HSC.out _ K3) | (have hseen := K1; clear hseen; go_simp; go_at_call 97; refine (HOF.out _ K1.s.at_).mono ?_; rintro e w2 ⟨x2, q2, rfl, z2, p2, h2⟩; have K2 := K1.below h2; obtain ⟨c0, c1, c2, c3, c4, c5, s0, s1, s2, s3⟩ := HSC.out _ K2))
  all_goals
   have A2 := K4.s.setUs rfl l4 p4
   have B2 := K4.z.far K4.s (by omega) 3 (.slice x4 L.length q4)
   have hfin := A2.finR B2
   obtain ⟨d0, d1, d2, d3, d4, d5⟩ := A2.cells
   obtain ⟨z0, z1, z2, z3, z4, z5⟩ := B2.cells
   obtain ⟨y0, y1, y2, y3, y4, y5⟩ := B2.free
   have hzl := B2.lt
   have HL := Lib.hid hfin.1
   have HFN := Lib.hid (And.intro hfin.2.1 (And.intro (show SaL.m ⟨now, hor, oa, op, oc, x4, L, q4, sa, su, sc, ta, tb, tc⟩ = { SaL.m ⟨now, hor, oa, op, oc, ua, us, uc, sa, su, sc, ta, tb, tc⟩ with us := addU (SaL.m ⟨now, hor, oa, op, oc, ua, us, uc, sa, su, sc, ta, tb, tc⟩).us u st } by rw [HE.out]; unfold SaL.m; simp only; rw [m4]; rfl) hfin.2.2))
   unfold setS saV saC at HL
   unfold saO at z0 z1 z2 z3 z4 z5
   dsimp only at *
   clear A2 B2 hfin K1 K2 K3 K4 l4 p4 m4 h4 HPU HAD HOF HSC HST
   go_wp2
   refine bodyPost_ret (v := saV ⟨now, hor, oa, op, oc, x4, L, q4, sa, su, sc, ta, tb, tc⟩) ?_ rfl ⟨_, rfl, HFN.out⟩
   rw [results_cell1 rfl]
   unfold saV saC
   simp [asAddr, Result.andThen, HL.out]
 ·have HE := Lib.hid (HN.out hlt)
  have HFN := Lib.hid (fun o1 o2 => fin_newR h0 o1 o2 27)
  clear HA HN HOF HAD HPU h0
  obtain ⟨z0, z1, z2, z3, z4, z5⟩ := K0.z.cells
  obtain ⟨y0, y1, y2, y3, y4, y5⟩ := K0.z.free
  have hzl := K0.z.lt
  obtain ⟨now, hor, oa, op, oc, ua, us, uc, sa, su, sc, ta, tb, tc⟩ := x
  unfold saV saC stV at *
  unfold saO at z0 z1 z2 z3 z4 z5
  dsimp only at *
  clear K0 HSC HST HK hol HM
  go_enter Tryz.func207, Tryz.ntmps207
  go_wp2
  refine bodyPost_ret (v := saV ⟨now, hor, oa, op, oc, ua, us, uc, sa, su, sc, ta, tb, tc⟩) ?_ rfl ⟨_, rfl, (HFN.out _ _).2.1, HE.out, (HFN.out _ _).2.2⟩
  rw [results_cell1 rfl]
  unfold saV saC
  simp [asAddr, Result.andThen, (HFN.out _ _).1]
end Go.Proofs.YtmfpjapiijgdgaaGreat
