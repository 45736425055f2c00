/- Texts of mine, one behind the other, of each what is wanted. -/
import Derived.Test.YtmfpjapiijgdgaaGreatV00
import Derived.Test.YtmfpjapiijgdgaaGreatShelf
import Derived.Test.YtmfpjapiijgdgaaGreatV01
import Derived.Test.YtmfpjapiijgdgaaGreatV05
import Derived.Test.YtmfpjapiijgdgaaGreatV06
import Derived.Test.YtmfpjapiijgdgaaGreatV07
import Derived.Test.YtmfpjapiijgdgaaGreatV09
namespace Go.Proofs.YtmfpjapiijgdgaaGreat
open Go.RowKit Go.Sort Go.Proofs
set_option linter.unusedVariables false
set_option maxRecDepth 100000
set_option maxRecDepth 100000
theorem st_one (f t n s : Int) : ∀ u ∈ [Value.int .i64 f, .int .i64 t, .int .i64 n, .int .i64 s], u.oneCell' = true := by
 intro u hu
 simp only [List.mem_cons, List.mem_nil_iff, or_false] at hu
 rcases hu with rfl | rfl | rfl | rfl <;> rfl
set_option maxHeartbeats 4000000 in
theorem ostays_any (a : Option Addr) (c : Nat) (l : List OpM) (u : ByteArray) (t : Int) (w : World) (hr : OpSl w a l) (hl : l.length ≤ 1000) :
  Calls Tryz.prog 91 #[.slice a l.length c, .string u, .int .i64 t] w fun e w' => ∃ v, e = .returned v ∧ w'.ownsRow w.heap.size 111 4 v (staysO l u t).length (sts (staysO l u t)) ∧ Below w.heap.size w w' := by
 obtain ⟨i0, hi, hz0, hz1, hz2⟩ := info_parts infoStay
 have HR := Lib.hid hr
 have HST := Lib.hid (fun (x : OpM) W => stay_any x t W)
 have HNO := Lib.hid none_any
 have HSO := Lib.hid sort8_any
 have HFIN := Lib.hid (fun (m : List StM) (hp : m.Perm (rawO l u t)) (hs : m.Pairwise fun a b => ¬ ltSt b a) => stays_only hp hs)
 unfold opV stV stayO at HST
 clear hr
 generalize staysO l u t = G at *
 go_enter Tryz.func91, Tryz.ntmps91
 go_wp2
 go_loopw [7, 13] (fun v i wr => ∃ (j : Nat), j ≤ l.length ∧ i = .int .i64 j ∧ Hid (wr.ownsRow w.heap.size 111 4 v (rawO (l.take j) u t).length (sts (rawO (l.take j) u t))) ∧ Hid (Below w.heap.size w wr)) (fun _ i _ => l.length - (intOf i).toNat)
 case atStart => exact ⟨0, by omega, rfl, ⟨rfl, .inl ⟨rfl, rfl⟩⟩, Below.refl _ _⟩
 case round =>
  obtain ⟨j, hj, rfl, HO, HB⟩ := hrel
  by_cases hjl : j < l.length
  ·obtain ⟨b, off, rfl, hbl, hc0, hc1, hc2, hc3⟩ := (HR.out.below HB.out).at_ hjl
   have HN := Lib.hid (rawO_next l u t j hjl)
   have hln : (rawO (l.take j) u t).length ≤ 1000 := by
    have h1 := rawO_len (l.take j) u t
    have h2 : (l.take j).length ≤ j := by simp; omega
    omega
   generalize rawO (l.take j) u t = M at *
   generalize l[j] = x at *
   have HX := Lib.hid (heap_alloc_new wr (.cells #[.int .i64 x.n, .string x.u, .int .i64 x.s, .int .i64 x.f] 184))
   have HSTX := 0; clear HSTX
   clear HSO HFIN
   by_cases hu : x.u = u
   ·have q1 : (x.u.toList == u.toList) = true := by rw [hu]; exact txt_eq u
    have q2 : decide (x.u = u) = true := decide_eq_true hu
    by_cases hw : x.f < t
    ·have HN2 : Hid (rawO (l.take (j + 1)) u t = M ++ [stayO x t]) := by
      have := HN.out
      rwa [if_pos (show stU u t x = true by unfold stU; rw [q2, decide_eq_true hw]; rfl)] at this
     have q3 : decide (t ≤ x.f) = false := decide_eq_false (by omega)
     have HNN : Hid (∀ W, Calls Tryz.prog 108 #[.agg #[.int .i64 x.f, .int .i64 t]] W fun e w' => e = .returned (.bool false) ∧ Below W.heap.size W w') := fun W => by
      have := HNO.out x.f t W
      rwa [q3] at this
     clear HN hu q2 hw q3 HNO
     go_wp2_with fail
     refine (HST.out x _).mono ?_
     rintro r w2 ⟨rfl, hB⟩
     have hb2 : Below wr.heap.size wr w2 := (below_one wr (.cells #[.int .i64 x.n, .string x.u, .int .i64 x.s, .int .i64 x.f] 184)).trans (hB.mono (by rw [size1]; omega))
     obtain ⟨d0, d1, d2, d3⟩ := cells4 ((hB.block _ (heap_lt HX.out)).trans HX.out)
     have hlt : wr.heap.size < w2.heap.size := by have := hB.size; rw [size1] at this; omega
     have HY := Lib.hid (heap_alloc_new w2 (.cells #[.int .i64 x.f, .int .i64 t, .int .i64 x.n, .int .i64 x.s] 111))
     obtain ⟨e0, e1, e2, e3⟩ := cells4 HY.out
     have hb3 := below_one w2 (.cells #[.int .i64 x.f, .int .i64 t, .int .i64 x.n, .int .i64 x.s] 111)
     have g1 : (w2.alloc (.cells #[.int .i64 x.f, .int .i64 t, .int .i64 x.n, .int .i64 x.s] 111)).cell? ⟨wr.heap.size, 1, none⟩ = some (.string x.u) := (hb3.cell (p := ⟨wr.heap.size, 1, none⟩) hlt).trans d1
     have HB3 : Hid (Below wr.heap.size wr (w2.alloc (.cells #[.int .i64 x.f, .int .i64 t, .int .i64 x.n, .int .i64 x.s] 111))) := hb2.trans (hb3.mono hb2.size)
     clear hB hb2 hb3 d0 d1 d2 d3 hc0 hc1 hc2 hc3
     go_wp2_with fail
     refine (HNN.out _).mono ?_
     rintro r w4 ⟨rfl, hB4⟩
     have hb4 : Below wr.heap.size wr w4 := HB3.out.trans (hB4.mono HB3.out.size)
     obtain ⟨m0, m1, m2, m3⟩ := cells4 ((hB4.block _ (heap_lt HY.out)).trans HY.out)
     have HO2 := Lib.hid (own_below HO.out (hb4.trans ((below_one w4 (.cells #[.int .i64 x.f, .int .i64 t, .int .i64 x.n, .int .i64 x.s] 111)).mono hb4.size)))
     have HB2 : Hid (Below w.heap.size w (w4.alloc (.cells #[.int .i64 x.f, .int .i64 t, .int .i64 x.n, .int .i64 x.s] 111))) := HB.out.trans ((hb4.trans ((below_one w4 _).mono hb4.size)).mono HB.out.size)
     have HS2 := Lib.hid HB2.out.size
     clear hB4 hb4 HX HY HB3 e0 e1 e2 e3 g1 hlt
     go_wp2_with (at_builtin; refine wpList_append_own _ rfl (.tmp 30) (.tmp 32) 69 rfl w.heap.size 111 i0 _ 4 32 Tryz.underlying69 hi hz0 hz1 hz2 rfl (by decide) _ _ _ rfl HO2.out ⟨w4.heap.size, 0, none⟩ 1 1 [.int .i64 x.f, .int .i64 t, .int .i64 x.n, .int .i64 x.s] rfl rfl (news_at _ _ _ _ rfl) (st_one _ _ _ _) (by unfold maxLen; omega) (by omega) HS2.out ?_; intro v' w5 hown' hgrow hiff)
     have HB5 := Lib.hid (app_below HB2.out HS2.out HO2.out hgrow)
     have HO5 := Lib.hid hown'
     clear hown' hgrow hiff HB2 HS2 HO2
     go_wp2
     go_roundw
     case rel => exact ⟨j + 1, by omega, by go_num, (by unfold Hid; rw [HN2.out, List.length_append, sts_snoc]; exact HO5.out), HB5⟩
     case measure => simp [intOf]; omega
    ·have HN2 : Hid (rawO (l.take (j + 1)) u t = M) := by
      have := HN.out
      rwa [if_neg (show ¬ stU u t x = true by unfold stU; rw [decide_eq_false hw, Bool.and_false]; exact Bool.false_ne_true)] at this
     have q3 : decide (t ≤ x.f) = true := decide_eq_true (by omega)
     have HNN : Hid (∀ W, Calls Tryz.prog 108 #[.agg #[.int .i64 x.f, .int .i64 t]] W fun e w' => e = .returned (.bool true) ∧ Below W.heap.size W w') := fun W => by
      have := HNO.out x.f t W
      rwa [q3] at this
     clear HN hu q2 hw q3 HNO
     go_wp2_with fail
     refine (HST.out x _).mono ?_
     rintro r w2 ⟨rfl, hB⟩
     have hb2 : Below wr.heap.size wr w2 := (below_one wr (.cells #[.int .i64 x.n, .string x.u, .int .i64 x.s, .int .i64 x.f] 184)).trans (hB.mono (by rw [size1]; omega))
     obtain ⟨d0, d1, d2, d3⟩ := cells4 ((hB.block _ (heap_lt HX.out)).trans HX.out)
     have hlt : wr.heap.size < w2.heap.size := by have := hB.size; rw [size1] at this; omega
     have HY := Lib.hid (heap_alloc_new w2 (.cells #[.int .i64 x.f, .int .i64 t, .int .i64 x.n, .int .i64 x.s] 111))
     obtain ⟨e0, e1, e2, e3⟩ := cells4 HY.out
     have hb3 := below_one w2 (.cells #[.int .i64 x.f, .int .i64 t, .int .i64 x.n, .int .i64 x.s] 111)
     have g1 : (w2.alloc (.cells #[.int .i64 x.f, .int .i64 t, .int .i64 x.n, .int .i64 x.s] 111)).cell? ⟨wr.heap.size, 1, none⟩ = some (.string x.u) := (hb3.cell (p := ⟨wr.heap.size, 1, none⟩) hlt).trans d1
     have HB3 : Hid (Below wr.heap.size wr (w2.alloc (.cells #[.int .i64 x.f, .int .i64 t, .int .i64 x.n, .int .i64 x.s] 111))) := hb2.trans (hb3.mono hb2.size)
     clear hB hb2 hb3 d0 d1 d2 d3 hc0 hc1 hc2 hc3
     go_wp2_with fail
     refine (HNN.out _).mono ?_
     rintro r w4 ⟨rfl, hB4⟩
     have hb4 : Below wr.heap.size wr w4 := HB3.out.trans (hB4.mono HB3.out.size)
     have HO2 := Lib.hid (own_below HO.out hb4)
     have HB2 := Lib.hid (HB.out.trans (hb4.mono HB.out.size))
     clear hB4 hb4 HX HY HB3 e0 e1 e2 e3 g1 hlt
     go_wp2
     go_roundw
     case rel => exact ⟨j + 1, by omega, by go_num, (by unfold Hid; rw [HN2.out]; exact HO2.out), HB2⟩
     case measure => simp [intOf]; omega
   ·have q1 := txt_ne hu
    have HN2 : Hid (rawO (l.take (j + 1)) u t = M) := by
     have := HN.out
     rwa [if_neg (show ¬ stU u t x = true by unfold stU; rw [decide_eq_false hu]; exact Bool.false_ne_true)] at this
    clear HN hu HNO
    go_wp2_with fail
    refine (HST.out x _).mono ?_
    rintro r w2 ⟨rfl, hB⟩
    have hb2 : Below wr.heap.size wr w2 := (below_one wr (.cells #[.int .i64 x.n, .string x.u, .int .i64 x.s, .int .i64 x.f] 184)).trans (hB.mono (by rw [size1]; omega))
    obtain ⟨d0, d1, d2, d3⟩ := cells4 ((hB.block _ (heap_lt HX.out)).trans HX.out)
    have hlt : wr.heap.size < w2.heap.size := by have := hB.size; rw [size1] at this; omega
    have HY := Lib.hid (heap_alloc_new w2 (.cells #[.int .i64 x.f, .int .i64 t, .int .i64 x.n, .int .i64 x.s] 111))
    obtain ⟨e0, e1, e2, e3⟩ := cells4 HY.out
    have hb3 := below_one w2 (.cells #[.int .i64 x.f, .int .i64 t, .int .i64 x.n, .int .i64 x.s] 111)
    have g1 : (w2.alloc (.cells #[.int .i64 x.f, .int .i64 t, .int .i64 x.n, .int .i64 x.s] 111)).cell? ⟨wr.heap.size, 1, none⟩ = some (.string x.u) := (hb3.cell (p := ⟨wr.heap.size, 1, none⟩) hlt).trans d1
    have HB3 : Hid (Below wr.heap.size wr (w2.alloc (.cells #[.int .i64 x.f, .int .i64 t, .int .i64 x.n, .int .i64 x.s] 111))) := hb2.trans (hb3.mono hb2.size)
    clear hB hb2 hb3 d0 d1 d2 d3 hc0 hc1 hc2 hc3
    have HO2 := Lib.hid (own_below HO.out HB3.out)
    have HB2 := Lib.hid (HB.out.trans (HB3.out.mono HB.out.size))
    clear HX HY HB3 e0 e1 e2 e3 hlt
    go_wp2
    go_roundw
    case rel => exact ⟨j + 1, by omega, by go_num, (by unfold Hid; rw [HN2.out]; exact HO2.out), HB2⟩
    case measure => simp [intOf]; omega
  ·obtain rfl : j = l.length := by omega
   rw [List.take_of_length_le (Nat.le_refl _)] at HO
   have hrl := rawO_len l u t
   have HS := Lib.hid (HSO.out w.heap.size _ (rawO l u t) wr HB.out.size HO.out (by omega))
   clear HST HNO HSO
   go_wp2_with fail
   refine HS.out.mono ?_
   rintro e w5 ⟨rfl, m, hperm, hsort, ho5, hb5⟩
   have hm := HFIN.out m hperm hsort
   subst hm
   go_wp2
   go_ret
   exact ⟨_, rfl, ho5, HB.out.trans hb5⟩
theorem ofil_take (q : OpM → Bool) (l : List OpM) (j : Nat) (h : j < l.length) : (l.take (j + 1)).filter q = (l.take j).filter q ++ (if q l[j] = true then [l[j]] else []) := by
 rw [List.take_succ_eq_append_getElem h, List.filter_append, List.filter_cons, List.filter_nil]
theorem ofil_len (q : OpM → Bool) (l : List OpM) (j : Nat) : ((l.take j).filter q).length ≤ j := Nat.le_trans (List.length_filter_le _ _) (by simp; omega)
def SzO (l : List OpM) : Prop := ∀ e ∈ l, e.u.size ≤ maxLen
set_option maxHeartbeats 2000000 in
theorem owithout_any (a : Option Addr) (c : Nat) (l : List OpM) (u : ByteArray) (w : World) (hr : OpSl w a l) (hl : l.length ≤ 100000) :
  Calls Tryz.prog 235 #[.slice a l.length c, .string u] w fun e w' => ∃ v, e = .returned v ∧ w'.ownsRow w.heap.size 184 4 v (l.filter (notU u)).length (oes (l.filter (notU u))) ∧ Below w.heap.size w w' := by
 obtain ⟨i0, hi, hz0, hz1, hz2⟩ := info_parts infoOp
 have HR := Lib.hid hr
 clear hr
 go_enter Tryz.func235, Tryz.ntmps235
 go_wp2
 go_loopw [5, 10] (fun v i wr => ∃ (j : Nat), j ≤ l.length ∧ i = .int .i64 j ∧ Hid (wr.ownsRow w.heap.size 184 4 v ((l.take j).filter (notU u)).length (oes ((l.take j).filter (notU u)))) ∧ Hid (Below w.heap.size w wr)) (fun _ i _ => l.length - (intOf i).toNat)
 case atStart => exact ⟨0, by omega, rfl, ⟨rfl, .inl ⟨rfl, rfl⟩⟩, Below.refl _ _⟩
 case round =>
  obtain ⟨j, hj, rfl, HO, HB⟩ := hrel
  by_cases hjl : j < l.length
  ·obtain ⟨b, off, rfl, hbl, hc0, hc1, hc2, hc3⟩ := (HR.out.below HB.out).at_ hjl
   have HT := Lib.hid (ofil_take (notU u) l j hjl)
   have HLN := Lib.hid (ofil_len (notU u) l j)
   generalize l[j] = x at *
   generalize (l.take j).filter (notU u) = m at *
   have HX := heap_alloc_new wr (.cells #[.int .i64 x.n, .string x.u, .int .i64 x.s, .int .i64 x.f] 184)
   obtain ⟨d0, d1, d2, d3⟩ := cells4 HX
   have hb1 := below_one wr (.cells #[.int .i64 x.n, .string x.u, .int .i64 x.s, .int .i64 x.f] 184)
   by_cases hu : x.u = u
   ·have HC2 : Hid ((l.take (j + 1)).filter (notU u) = m) := by
     have := HT.out
     rwa [if_neg (by unfold notU; rw [decide_eq_false (fun h => h hu)]; exact Bool.false_ne_true), List.append_nil] at this
    have q1 : (x.u.toList != u.toList) = false := by rw [hu]; exact txt_ns u
    have q2 : (x.u.toList == u.toList) = true := by rw [hu]; exact txt_eq u
    have HO2 := Lib.hid (own_below HO.out hb1)
    have HB2 := Lib.hid (HB.out.trans (hb1.mono HB.out.size))
    clear HT HLN hu hb1
    go_wp2
    go_roundw
    case rel => exact ⟨j + 1, by omega, by go_num, (by unfold Hid; rw [HC2.out]; exact HO2.out), HB2.out⟩
    case measure => simp [intOf]; omega
   ·have HC2 : Hid ((l.take (j + 1)).filter (notU u) = m ++ [x]) := by
     have := HT.out
     rwa [if_pos (show notU u x = true from decide_eq_true hu)] at this
    have q1 := txt_nt hu
    have q2 := txt_ne hu
    have hb2 : Below wr.heap.size wr ((wr.alloc (.cells #[.int .i64 x.n, .string x.u, .int .i64 x.s, .int .i64 x.f] 184)).alloc (.cells #[.int .i64 x.n, .string x.u, .int .i64 x.s, .int .i64 x.f] 184)) := hb1.trans ((below_one (wr.alloc (.cells #[.int .i64 x.n, .string x.u, .int .i64 x.s, .int .i64 x.f] 184)) (.cells #[.int .i64 x.n, .string x.u, .int .i64 x.s, .int .i64 x.f] 184)).mono hb1.size)
    have HO2 := Lib.hid (own_below HO.out hb2)
    have HB2 := Lib.hid (HB.out.trans (hb2.mono HB.out.size))
    have HS2 := Lib.hid HB2.out.size
    have hlm := HLN.out
    clear HT hu hb1 hb2
    go_wp2_with (at_builtin; refine wpList_append_own _ rfl (.tmp 18) (.tmp 20) 34 rfl w.heap.size 184 i0 _ 4 40 Tryz.underlying34 hi hz0 hz1 hz2 rfl (by decide) _ _ _ rfl HO2.out ⟨wr.heap.size + 1, 0, none⟩ 1 1 [.int .i64 x.n, .string x.u, .int .i64 x.s, .int .i64 x.f] rfl rfl (news_at _ _ _ _ (size1 _ _).symm) (four_o _ _ _ _) (by unfold maxLen; omega) (by omega) HS2.out ?_; intro v' w3 hown' hgrow hiff)
    have HB3 := Lib.hid (app_below HB2.out HS2.out HO2.out hgrow)
    have HO3 := Lib.hid hown'
    clear hown' hgrow hiff HB2 HS2 HO2
    go_wp2
    go_roundw
    case rel => exact ⟨j + 1, by omega, by go_num, (by unfold Hid; rw [HC2.out, List.length_append, oes_snoc]; exact HO3.out), HB3⟩
    case measure => simp [intOf]; omega
  ·obtain rfl : j = l.length := by omega
   rw [List.take_of_length_le (Nat.le_refl _)] at HO
   go_wp2
   go_ret
   exact ⟨_, rfl, HO.out, HB.out⟩
theorem own_last {w : World} {B e n N cap g : Nat} {fr : List SpM} {u : SpM} (h : w.ownsRow B e 2 (.slice (some ⟨g, 0, none⟩) N cap) N (sps (fr ++ [u]))) (hn : n = fr.length) (hN : N = n + 1) :
  w.cell? ⟨g, n * 2, none⟩ = some (.int .i64 u.f) ∧ w.cell? ⟨g, n * 2 + 1, none⟩ = some (.int .i64 u.t) ∧ w.frozen? ⟨g, n * 2 + 1, none⟩ = false := by
 subst hN
 have hl : (fr ++ [u]).length = n + 1 := by rw [hn]; simp
 obtain ⟨g1, g2⟩ := sps_get (fr ++ [u]) n (by omega)
 have hx : (fr ++ [u])[n]'(by omega) = u := by subst hn; simp
 rw [hx] at g1 g2
 exact ⟨by rw [h.cellAt _ (by omega)]; exact g1, by rw [h.cellAt _ (by omega)]; exact g2, h.frozenAt _⟩
theorem sps_set (fr : List SpM) (u : SpM) (n : Nat) (hn : n = fr.length) (x : Int) : (sps (fr ++ [u])).set (n * 2 + 1) (.int .i64 x) = sps (fr ++ [(⟨u.f, x⟩ : SpM)]) := by
 rw [sps_snoc, sps_snoc, List.set_append_right _ _ (by rw [sps_len]; omega), sps_len]
 have : n * 2 + 1 - fr.length * 2 = 1 := by omega
 rw [this]
 rfl
theorem own_end {w : World} {B e n N cap g : Nat} {fr : List SpM} {u : SpM} (h : w.ownsRow B e 2 (.slice (some ⟨g, 0, none⟩) N cap) N (sps (fr ++ [u]))) (hn : n = fr.length) (hN : N = n + 1) (hB : B ≤ g) (x : Int) :
  (w.setCell ⟨g, n * 2 + 1, none⟩ (.int .i64 x)).ownsRow B e 2 (.slice (some ⟨g, 0, none⟩) N cap) (fr ++ [(⟨u.f, x⟩ : SpM)]).length (sps (fr ++ [(⟨u.f, x⟩ : SpM)])) := by
 subst hN
 have hl2 : (fr ++ [(⟨u.f, x⟩ : SpM)]).length = n + 1 := by rw [hn]; simp
 have := (h.stored (n * 2 + 1) (.int .i64 x)).1
 rw [sps_set fr u n hn x] at this
 rw [hl2]
 exact this
theorem mergeS_le (r : List SpM) (s : SpM) : (mergeS r s).length ≤ r.length + 1 := by
 rcases List.eq_nil_or_concat r with rfl | ⟨fr, u, hfu⟩
 ·rw [mergeS_nil]; simp
 ·rw [hfu, List.concat_eq_append, mergeS_snoc]
  split <;> simp
theorem merged_perm {m l r : List SpM} (hp : m.Perm (l.filter hasS)) (h : Merged m r) : IsSet (HasL l) r :=
 h.set.congr fun x => ⟨fun ⟨s, hs, h1⟩ => ⟨s, (List.mem_filter.1 (hp.mem_iff.1 hs)).1, h1⟩, fun ⟨s, hs, h1⟩ => ⟨s, hp.mem_iff.2 (List.mem_filter.2 ⟨hs, decide_eq_true (by omega)⟩), h1⟩⟩
set_option maxHeartbeats 4000000 in
theorem norm_any (a : Option Addr) (c : Nat) (l : List SpM) (w : World) (hr : SpSl w a l) (hl : l.length ≤ 100000) (hc : l.length ≤ c) (hcm : c ≤ maxLen) :
  Calls Tryz.prog 95 #[.slice a l.length c] w fun e w' => ∃ (v : Value) (r : List SpM), e = .returned v ∧ IsSet (HasL l) r ∧ r.length ≤ l.length ∧ w'.ownsRow w.heap.size 90 2 v r.length (sps r) ∧ Below w.heap.size w w' := by
 obtain ⟨i0, hi, hz0, hz1, hz2⟩ := info_parts infoSpan
 have HRI := Lib.hid (rising_any a c l w hr hl hc hcm)
 clear hr hc hcm
 go_enter Tryz.func95, Tryz.ntmps95
 go_wp2_with fail
 refine HRI.out.mono ?_
 rintro e w1 ⟨x, q, m, rfl, hp, hs, hsp, hB1⟩
 have hml : m.length ≤ l.length := by rw [hp.length_eq]; exact List.length_filter_le _ _
 have HP := Lib.hid hp
 have HS := Lib.hid hs
 have HSP := Lib.hid hsp
 have HB1 := Lib.hid hB1
 have HT : Hid (∀ s ∈ m, s.f < s.t) := fun s hs => of_decide_eq_true (List.mem_filter.1 (hp.mem_iff.1 hs)).2
 clear hp hs hsp hB1 HRI
 go_wp2
 go_loopw [3, 10] (fun v i wr => ∃ (j : Nat) (r : List SpM), j ≤ m.length ∧ i = .int .i64 j ∧ r.length ≤ j ∧ Hid (Merged (m.take j) r) ∧ Hid (wr.ownsRow w1.heap.size 90 2 v r.length (sps r)) ∧ Hid (Below w1.heap.size w1 wr)) (fun _ i _ => m.length - (intOf i).toNat)
 case atStart => exact ⟨0, [], by omega, rfl, by simp, Merged.nil, ⟨rfl, .inl ⟨rfl, rfl⟩⟩, Below.refl _ _⟩
 case round =>
  obtain ⟨j, r, hj, rfl, hrj, HM, HO, HB⟩ := hrel
  by_cases hjl : j < m.length
  ·obtain ⟨b, off, rfl, hbl, hc0, hc1⟩ := (HSP.out.below HB.out).at_ hjl
   have HM2 : Hid (Merged (m.take (j + 1)) (mergeS r m[j])) := by
    unfold Hid
    rw [List.take_succ_eq_append_getElem hjl]
    refine HM.out.step (HT.out _ (List.getElem_mem hjl)) fun u hu => ?_
    obtain ⟨k, hk, rfl⟩ := List.getElem_of_mem hu
    rw [List.getElem_take]
    exact (List.pairwise_iff_getElem.1 HS.out) k j _ hjl (by simp at hk; omega)
   generalize m[j] = s at *
   have hle := mergeS_le r s
   have HA := Lib.hid ((Below.refl wr.heap.size wr).alloc (Nat.le_refl _) (.cells #[.int .i64 s.f, .int .i64 s.t] 90))
   have HBX : Hid ((wr.alloc (.cells #[.int .i64 s.f, .int .i64 s.t] 90)).heap[wr.heap.size]? = some (.cells #[.int .i64 s.f, .int .i64 s.t] 90 (0, 0))) := heap_alloc_new _ _
   have HAN : ∀ q, Hid (Below wr.heap.size wr (((wr.alloc (.cells #[.int .i64 s.f, .int .i64 s.t] 90)).drewN q).alloc (.cells #[.int .i64 s.f, .int .i64 s.t] 90))) := fun q => (HA.out.trans (Drew.below ⟨q, rfl⟩ _)).alloc (by show _ ≤ (wr.alloc _).heap.size; rw [size1]; omega) _
   have HON := fun q => Lib.hid (own_below HO.out (HAN q).out)
   have HBN := fun q => Lib.hid (HB.out.trans ((HAN q).out.mono HB.out.size))
   have HSN := fun q => Lib.hid (HBN q).out.size
   rcases List.eq_nil_or_concat r with hr0 | ⟨fr, u, hfu⟩
   ·subst hr0
    rw [mergeS_nil] at HM2
    obtain ⟨av, cv, rfl, _, _⟩ := own_sp HO.out
    simp only [List.length_nil] at *
    go_wp2
    go_quiet (fail)
    go_wp2_with (at_builtin; refine wpList_append_own _ rfl (.tmp 41) (.tmp 43) 76 rfl w1.heap.size 90 i0 _ 2 16 Tryz.underlying76 hi hz0 hz1 hz2 rfl (by decide) _ _ _ rfl (HON _).out ⟨wr.heap.size + 1, 0, none⟩ 1 1 [.int .i64 s.f, .int .i64 s.t] rfl rfl (news_at _ _ _ _ (by show _ = (wr.alloc _).heap.size; rw [size1])) (two_one _ _) (by unfold maxLen; omega) (by omega) (HSN _).out ?_; intro v' w2 hown' hgrow hiff)
    have HB3 := Lib.hid (app_below (HBN _).out (HSN _).out (HON _).out hgrow)
    have HO3 : Hid (w2.ownsRow w1.heap.size 90 2 v' [s].length (sps [s])) := hown'
    clear hown' hgrow hiff
    go_wp2
    go_roundw
    case rel => exact ⟨j + 1, [s], by omega, by go_num, by simp, HM2, HO3, HB3⟩
    case measure => simp [intOf]; omega
   ·obtain rfl : r = fr ++ [u] := by rw [hfu, List.concat_eq_append]
    clear hfu
    rw [mergeS_snoc] at HM2 hle
    obtain ⟨n, hn⟩ : ∃ n, n = fr.length := ⟨_, rfl⟩
    obtain ⟨N, hN⟩ : ∃ N, N = (fr ++ [u]).length := ⟨_, rfl⟩
    have hNn : N = n + 1 := by rw [hN, hn]; simp
    obtain ⟨ga, cap, rfl, hcN, hsp⟩ := own_sp HO.out
    obtain ⟨g, rfl, hcm⟩ : ∃ g, ga = some ⟨g, 0, none⟩ ∧ cap ≤ 9223372036854775807 := by
     rcases HO.out.2 with ⟨h0, _⟩ | ⟨g, cap', _, h0, _, _, _, h1, _⟩
     ·injection h0 with e1 e2 e3
      simp at e2
     ·injection h0 with e1 e2 e3
      exact ⟨g, e1, by rw [e3]; exact h1⟩
    have hgB : w1.heap.size ≤ g := (HO.out.lt g rfl).1
    rw [← hN] at HO hrj hle hcN HON
    rw [← hN]
    have HNL := Lib.hid hn
    have HNN := Lib.hid hN
    have HN1 := Lib.hid hNn
    have hwr : IntKind.i64.wrap ((N : Int) - 1) = (n : Int) := by rw [IntWalk.i64_in] <;> omega
    have hb1 : (n : Int) < (N : Int) := by omega
    have hb2 : (0 : Int) ≤ (n : Int) := Int.natCast_nonneg _
    have HHB := Lib.hid hgB
    have HOD := fun q => Lib.hid (own_below HO.out (HA.out.trans (Drew.below ⟨q, rfl⟩ wr.heap.size)))
    have HBD := fun q => Lib.hid (HB.out.trans ((HA.out.trans (Drew.below ⟨q, rfl⟩ wr.heap.size)).mono HB.out.size))
    obtain ⟨c0, c1, c2⟩ := own_last (own_below HO.out HA.out) hn hNn
    have hjN : N ≤ j := hrj
    have hN0 : 0 < N := by omega
    clear hN hn hNn hsp hgB
    by_cases hsu : s.f ≤ u.t
    ·rw [if_pos hsu] at HM2 hle
     have hd0 : decide (s.f ≤ u.t) = true := decide_eq_true hsu
     have hd1 : decide ((0 : Int) ≤ (n : Int)) = true := decide_eq_true hb2
     obtain ⟨mx, hmx⟩ : ∃ mx, mx = max u.t s.t := ⟨_, rfl⟩
     rw [← hmx] at HM2 hle
     have p1 := (cells2 (W := (wr.alloc (.cells #[.int .i64 s.f, .int .i64 s.t] 90))) HBX.out).2
     rcases Int.lt_or_le u.t s.t with hm | hm
     ·have e1 : max u.t s.t = s.t := by omega
      rw [e1] at hmx
      subst hmx
      go_wp2
      go_quiet (fail)
      go_wp2_with fail
      go_region
      have HO5 := Lib.hid (own_end (HOD nq).out.drew HNL.out HN1.out HHB.out s.t)
      have HB5 := Lib.hid ((HBD nq).out.drew.setCell (p := ⟨g, n * 2 + 1, none⟩) HHB.out (.int .i64 s.t))
      clear HOD HBD HON HBN HSN
      go_wp2
      go_roundw
      case rel => exact ⟨j + 1, fr ++ [(⟨u.f, s.t⟩ : SpM)], by omega, by go_num, by omega, HM2, HO5, HB5⟩
      case measure => simp [intOf]; omega
     ·have e1 : max u.t s.t = u.t := by omega
      rw [e1] at hmx
      subst hmx
      go_wp2
      go_quiet (fail)
      go_wp2_with fail
      go_region
      have HO5 := Lib.hid (own_end (HOD nq).out.drew HNL.out HN1.out HHB.out u.t)
      have HB5 := Lib.hid ((HBD nq).out.drew.setCell (p := ⟨g, n * 2 + 1, none⟩) HHB.out (.int .i64 u.t))
      clear HOD HBD HON HBN HSN
      go_wp2
      go_roundw
      case rel => exact ⟨j + 1, fr ++ [(⟨u.f, u.t⟩ : SpM)], by omega, by go_num, by omega, HM2, HO5, HB5⟩
      case measure => simp [intOf]; omega
    ·rw [if_neg hsu] at HM2 hle
     have hd0 : decide (s.f ≤ u.t) = false := decide_eq_false hsu
     have hd1 : decide ((0 : Int) ≤ (n : Int)) = true := decide_eq_true hb2
     clear HOD HBD
     go_wp2
     go_quiet (fail)
     go_wp2_with (at_builtin; refine wpList_append_own _ rfl (.tmp 41) (.tmp 43) 76 rfl w1.heap.size 90 i0 _ 2 16 Tryz.underlying76 hi hz0 hz1 hz2 rfl (by decide) _ _ _ rfl (HON _).out ⟨wr.heap.size + 1, 0, none⟩ 1 1 [.int .i64 s.f, .int .i64 s.t] rfl rfl (news_at _ _ _ _ (by show _ = (wr.alloc _).heap.size; rw [size1])) (two_one _ _) (by unfold maxLen; omega) (by omega) (HSN _).out ?_; intro v' w2 hown' hgrow hiff)
     have HB3 := Lib.hid (app_below (HBN _).out (HSN _).out (HON _).out hgrow)
     have HO3 : Hid (w2.ownsRow w1.heap.size 90 2 v' (fr ++ [u] ++ [s]).length (sps (fr ++ [u] ++ [s]))) := by
      unfold Hid
      rw [sps_snoc, List.length_append, ← HNN.out]
      exact hown'
     clear hown' hgrow hiff
     go_wp2
     go_roundw
     case rel => exact ⟨j + 1, fr ++ [u] ++ [s], by omega, by go_num, by omega, HM2, HO3, HB3⟩
     case measure => simp [intOf]; omega
  ·obtain rfl : j = m.length := by omega
   rw [List.take_of_length_le (Nat.le_refl _)] at HM
   have HD := Lib.hid (merged_perm HP.out HM.out)
   go_wp2
   go_ret
   first | exact ⟨_, r, rfl, HD.out, by omega, own_low HO.out HB1.out.size, HB1.out.trans (HB.out.mono HB1.out.size)⟩ | exact ⟨_, rfl, r, HD.out, by omega, own_low HO.out HB1.out.size, HB1.out.trans (HB.out.mono HB1.out.size)⟩
end Go.Proofs.YtmfpjapiijgdgaaGreat
