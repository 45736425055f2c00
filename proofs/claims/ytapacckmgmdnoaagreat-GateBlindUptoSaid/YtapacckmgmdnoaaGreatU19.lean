/- Texts of mine, one behind the other, of each what is wanted. -/
import Derived.Test.YtapacckmgmdnoaaGreatU00
import Derived.Test.YtapacckmgmdnoaaGreatShelf
import Derived.Test.YtapacckmgmdnoaaGreatU01
import Derived.Test.YtapacckmgmdnoaaGreatU02
import Derived.Test.YtapacckmgmdnoaaGreatU04
import Derived.Test.YtapacckmgmdnoaaGreatU07
import Derived.Test.YtapacckmgmdnoaaGreatU09
import Derived.Test.YtapacckmgmdnoaaGreatU14
import Derived.Test.YtapacckmgmdnoaaGreatU15
namespace Go.Proofs.YtapacckmgmdnoaaGreat
open Go.RowKit Go.Sort Go.Proofs
set_option linter.unusedVariables false
set_option maxRecDepth 100000
set_option maxRecDepth 100000
theorem st_one (f t n s : Int) : ∀ u ∈ [Value.int .i64 f, .int .i64 t, .int .i64 n, .int .i64 s], u.oneCell' = true := by
 intro u hu
 simp only [List.mem_cons, List.mem_nil_iff, or_false] at hu
 rcases hu with rfl | rfl | rfl | rfl <;> rfl
set_option maxHeartbeats 4000000 in
theorem ostays_any (a : Option Addr) (c : Nat) (l : List OpM) (u : ByteArray) (t : Int) (w : World) (hr : OpSl w a l) (hl : l.length ≤ 1000) :
  Calls Tryz.prog 91 #[.slice a l.length c, .string u, .int .i64 t] w fun e w' => ∃ v, e = .returned v ∧ w'.ownsRow w.heap.size 111 4 v (staysO l u t).length (sts (staysO l u t)) ∧ Below w.heap.size w w' := by
 obtain ⟨i0, hi, hz0, hz1, hz2⟩ := info_parts infoStay
 have HR := Lib.hid hr
 have HST := Lib.hid (fun (x : OpM) W => stay_any x t W)
 have HNO := Lib.hid none_any
 have HSO := Lib.hid sort8_any
 have HFIN := Lib.hid (fun (m : List StM) (hp : m.Perm (rawO l u t)) (hs : m.Pairwise fun a b => ¬ ltSt b a) => stays_only hp hs)
 unfold opV stV stayO at HST
 clear hr
 generalize staysO l u t = G at *
 go_enter Tryz.func91, Tryz.ntmps91
 go_wp2
 go_loopw [7, 13] (fun v i wr => ∃ (j : Nat), j ≤ l.length ∧ i = .int .i64 j ∧ Hid (wr.ownsRow w.heap.size 111 4 v (rawO (l.take j) u t).length (sts (rawO (l.take j) u t))) ∧ Hid (Below w.heap.size w wr)) (fun _ i _ => l.length - (intOf i).toNat)
 case atStart => exact ⟨0, by omega, rfl, ⟨rfl, .inl ⟨rfl, rfl⟩⟩, Below.refl _ _⟩
 case round =>
  obtain ⟨j, hj, rfl, HO, HB⟩ := hrel
  by_cases hjl : j < l.length
  ·obtain ⟨b, off, rfl, hbl, hc0, hc1, hc2, hc3⟩ := (HR.out.below HB.out).at_ hjl
   have HN := Lib.hid (rawO_next l u t j hjl)
   have hln : (rawO (l.take j) u t).length ≤ 1000 := by
    have h1 := rawO_len (l.take j) u t
    have h2 : (l.take j).length ≤ j := by simp; omega
    omega
   generalize rawO (l.take j) u t = M at *
   generalize l[j] = x at *
   have HX := Lib.hid (heap_alloc_new wr (.cells #[.int .i64 x.n, .string x.u, .int .i64 x.s, .int .i64 x.f] 184))
   have HSTX := 0; clear HSTX
   clear HSO HFIN
   by_cases hu : x.u = u
   ·have q1 : (x.u.toList == u.toList) = true := by rw [hu]; exact txt_eq u
    have q2 : decide (x.u = u) = true := decide_eq_true hu
    by_cases hw : x.f < t
    ·have HN2 : Hid (rawO (l.take (j + 1)) u t = M ++ [stayO x t]) := by
      have := HN.out
      rwa [if_pos (show stU u t x = true by unfold stU; rw [q2, decide_eq_true hw]; rfl)] at this
     have q3 : decide (t ≤ x.f) = false := decide_eq_false (by omega)
     have HNN : Hid (∀ W, Calls Tryz.prog 108 #[.agg #[.int .i64 x.f, .int .i64 t]] W fun e w' => e = .returned (.bool false) ∧ Below W.heap.size W w') := fun W => by
      have := HNO.out x.f t W
      rwa [q3] at this
     clear HN hu q2 hw q3 HNO
     go_wp2_with fail
     refine (HST.out x _).mono ?_
     rintro r w2 ⟨rfl, hB⟩
     have hb2 : Below wr.heap.size wr w2 := (below_one wr (.cells #[.int .i64 x.n, .string x.u, .int .i64 x.s, .int .i64 x.f] 184)).trans (hB.mono (by rw [size1]; omega))
     obtain ⟨d0, d1, d2, d3⟩ := cells4 ((hB.block _ (heap_lt HX.out)).trans HX.out)
     have hlt : wr.heap.size < w2.heap.size := by have := hB.size; rw [size1] at this; omega
     have HY := Lib.hid (heap_alloc_new w2 (.cells #[.int .i64 x.f, .int .i64 t, .int .i64 x.n, .int .i64 x.s] 111))
     obtain ⟨e0, e1, e2, e3⟩ := cells4 HY.out
     have hb3 := below_one w2 (.cells #[.int .i64 x.f, .int .i64 t, .int .i64 x.n, .int .i64 x.s] 111)
     have g1 : (w2.alloc (.cells #[.int .i64 x.f, .int .i64 t, .int .i64 x.n, .int .i64 x.s] 111)).cell? ⟨wr.heap.size, 1, none⟩ = some (.string x.u) := (hb3.cell (p := ⟨wr.heap.size, 1, none⟩) hlt).trans d1
     have HB3 : Hid (Below wr.heap.size wr (w2.alloc (.cells #[.int .i64 x.f, .int .i64 t, .int .i64 x.n, .int .i64 x.s] 111))) := hb2.trans (hb3.mono hb2.size)
     clear hB hb2 hb3 d0 d1 d2 d3 hc0 hc1 hc2 hc3
     go_wp2_with fail
     refine (HNN.out _).mono ?_
     rintro r w4 ⟨rfl, hB4⟩
     have hb4 : Below wr.heap.size wr w4 := HB3.out.trans (hB4.mono HB3.out.size)
     obtain ⟨m0, m1, m2, m3⟩ := cells4 ((hB4.block _ (heap_lt HY.out)).trans HY.out)
     have HO2 := Lib.hid (own_below HO.out (hb4.trans ((below_one w4 (.cells #[.int .i64 x.f, .int .i64 t, .int .i64 x.n, .int .i64 x.s] 111)).mono hb4.size)))
     have HB2 : Hid (Below w.heap.size w (w4.alloc (.cells #[.int .i64 x.f, .int .i64 t, .int .i64 x.n, .int .i64 x.s] 111))) := HB.out.trans ((hb4.trans ((below_one w4 _).mono hb4.size)).mono HB.out.size)
     have HS2 := Lib.hid HB2.out.size
     clear hB4 hb4 HX HY HB3 e0 e1 e2 e3 g1 hlt
     go_wp2_with (at_builtin; refine wpList_append_own _ rfl (.tmp 30) (.tmp 32) 69 rfl w.heap.size 111 i0 _ 4 32 Tryz.underlying69 hi hz0 hz1 hz2 rfl (by decide) _ _ _ rfl HO2.out ⟨w4.heap.size, 0, none⟩ 1 1 [.int .i64 x.f, .int .i64 t, .int .i64 x.n, .int .i64 x.s] rfl rfl (news_at _ _ _ _ rfl) (st_one _ _ _ _) (by unfold maxLen; omega) (by omega) HS2.out ?_; intro v' w5 hown' hgrow hiff)
     have HB5 := Lib.hid (app_below HB2.out HS2.out HO2.out hgrow)
     have HO5 := Lib.hid hown'
     clear hown' hgrow hiff HB2 HS2 HO2
     go_wp2
     go_roundw
     case rel => exact ⟨j + 1, by omega, by go_num, (by unfold Hid; rw [HN2.out, List.length_append, sts_snoc]; exact HO5.out), HB5⟩
     case measure => simp [intOf]; omega
    ·have HN2 : Hid (rawO (l.take (j + 1)) u t = M) := by
      have := HN.out
      rwa [if_neg (show ¬ stU u t x = true by unfold stU; rw [decide_eq_false hw, Bool.and_false]; exact Bool.false_ne_true)] at this
     have q3 : decide (t ≤ x.f) = true := decide_eq_true (by omega)
     have HNN : Hid (∀ W, Calls Tryz.prog 108 #[.agg #[.int .i64 x.f, .int .i64 t]] W fun e w' => e = .returned (.bool true) ∧ Below W.heap.size W w') := fun W => by
      have := HNO.out x.f t W
      rwa [q3] at this
     clear HN hu q2 hw q3 HNO
     go_wp2_with fail
     refine (HST.out x _).mono ?_
     rintro r w2 ⟨rfl, hB⟩
     have hb2 : Below wr.heap.size wr w2 := (below_one wr (.cells #[.int .i64 x.n, .string x.u, .int .i64 x.s, .int .i64 x.f] 184)).trans (hB.mono (by rw [size1]; omega))
     obtain ⟨d0, d1, d2, d3⟩ := cells4 ((hB.block _ (heap_lt HX.out)).trans HX.out)
     have hlt : wr.heap.size < w2.heap.size := by have := hB.size; rw [size1] at this; omega
     have HY := Lib.hid (heap_alloc_new w2 (.cells #[.int .i64 x.f, .int .i64 t, .int .i64 x.n, .int .i64 x.s] 111))
     obtain ⟨e0, e1, e2, e3⟩ := cells4 HY.out
     have hb3 := below_one w2 (.cells #[.int .i64 x.f, .int .i64 t, .int .i64 x.n, .int .i64 x.s] 111)
     have g1 : (w2.alloc (.cells #[.int .i64 x.f, .int .i64 t, .int .i64 x.n, .int .i64 x.s] 111)).cell? ⟨wr.heap.size, 1, none⟩ = some (.string x.u) := (hb3.cell (p := ⟨wr.heap.size, 1, none⟩) hlt).trans d1
     have HB3 : Hid (Below wr.heap.size wr (w2.alloc (.cells #[.int .i64 x.f, .int .i64 t, .int .i64 x.n, .int .i64 x.s] 111))) := hb2.trans (hb3.mono hb2.size)
     clear hB hb2 hb3 d0 d1 d2 d3 hc0 hc1 hc2 hc3
     go_wp2_with fail
     refine (HNN.out _).mono ?_
     rintro r w4 ⟨rfl, hB4⟩
     have hb4 : Below wr.heap.size wr w4 := HB3.out.trans (hB4.mono HB3.out.size)
     have HO2 := Lib.hid (own_below HO.out hb4)
     have HB2 := Lib.hid (HB.out.trans (hb4.mono HB.out.size))
     clear hB4 hb4 HX HY HB3 e0 e1 e2 e3 g1 hlt
     go_wp2
     go_roundw
     case rel => exact ⟨j + 1, by omega, by go_num, (by unfold Hid; rw [HN2.out]; exact HO2.out), HB2⟩
     case measure => simp [intOf]; omega
   ·have q1 := txt_ne hu
    have HN2 : Hid (rawO (l.take (j + 1)) u t = M) := by
     have := HN.out
     rwa [if_neg (show ¬ stU u t x = true by unfold stU; rw [decide_eq_false hu]; exact Bool.false_ne_true)] at this
    clear HN hu HNO
    go_wp2_with fail
    refine (HST.out x _).mono ?_
    rintro r w2 ⟨rfl, hB⟩
    have hb2 : Below wr.heap.size wr w2 := (below_one wr (.cells #[.int .i64 x.n, .string x.u, .int .i64 x.s, .int .i64 x.f] 184)).trans (hB.mono (by rw [size1]; omega))
    obtain ⟨d0, d1, d2, d3⟩ := cells4 ((hB.block _ (heap_lt HX.out)).trans HX.out)
    have hlt : wr.heap.size < w2.heap.size := by have := hB.size; rw [size1] at this; omega
    have HY := Lib.hid (heap_alloc_new w2 (.cells #[.int .i64 x.f, .int .i64 t, .int .i64 x.n, .int .i64 x.s] 111))
    obtain ⟨e0, e1, e2, e3⟩ := cells4 HY.out
    have hb3 := below_one w2 (.cells #[.int .i64 x.f, .int .i64 t, .int .i64 x.n, .int .i64 x.s] 111)
    have g1 : (w2.alloc (.cells #[.int .i64 x.f, .int .i64 t, .int .i64 x.n, .int .i64 x.s] 111)).cell? ⟨wr.heap.size, 1, none⟩ = some (.string x.u) := (hb3.cell (p := ⟨wr.heap.size, 1, none⟩) hlt).trans d1
    have HB3 : Hid (Below wr.heap.size wr (w2.alloc (.cells #[.int .i64 x.f, .int .i64 t, .int .i64 x.n, .int .i64 x.s] 111))) := hb2.trans (hb3.mono hb2.size)
    clear hB hb2 hb3 d0 d1 d2 d3 hc0 hc1 hc2 hc3
    have HO2 := Lib.hid (own_below HO.out HB3.out)
    have HB2 := Lib.hid (HB.out.trans (HB3.out.mono HB.out.size))
    clear HX HY HB3 e0 e1 e2 e3 hlt
    go_wp2
    go_roundw
    case rel => exact ⟨j + 1, by omega, by go_num, (by unfold Hid; rw [HN2.out]; exact HO2.out), HB2⟩
    case measure => simp [intOf]; omega
  ·obtain rfl : j = l.length := by omega
   rw [List.take_of_length_le (Nat.le_refl _)] at HO
   have hrl := rawO_len l u t
   have HS := Lib.hid (HSO.out w.heap.size _ (rawO l u t) wr HB.out.size HO.out (by omega))
   clear HST HNO HSO
   go_wp2_with fail
   refine HS.out.mono ?_
   rintro e w5 ⟨rfl, m, hperm, hsort, ho5, hb5⟩
   have hm := HFIN.out m hperm hsort
   subst hm
   go_wp2
   go_ret
   exact ⟨_, rfl, ho5, HB.out.trans hb5⟩
end Go.Proofs.YtapacckmgmdnoaaGreat
namespace Go.Proofs.YtapacckmgmdnoaaGreat
open Go.RowKit
set_option linter.unusedVariables false
set_option maxRecDepth 100000
set_option maxRecDepth 100000
theorem infoEn4 : (Tryz.prog.info? 165).map (·.size) = some 4 := by kernel_rfl
theorem loadEn {W : World} {g : Nat} {a b c d : Value} {t : TypeId} (h : W.heap[g]? = some (.cells #[a, b, c, d] t (0, 0))) :
  (loadVar 165 ⟨g, 0, none⟩).run Tryz.prog W = .ok (.agg #[a, b, c, d]) W :=
 run_loadVar_mid (P := Tryz.prog) W g 0 165 [a, b, c, d] _ (fun j v hv => by
  rw [Nat.zero_add, cell_of_row _ _ _ _ _ (0, 0) h]
  simpa using hv) Tryz.underlying165 rfl infoEn4
set_option maxHeartbeats 1000000 in
theorem eone_any (p u : ByteArray) (f t : Int) (w : World) : Calls Tryz.prog 143 #[.string p, .string u, .int .i64 f, .int .i64 t] w fun e w' => e = .returned (.agg #[.string p, .string u, .int .i64 f, .int .i64 t]) ∧ w' = w.alloc (.cells #[.string p, .string u, .int .i64 f, .int .i64 t] 165) := by
 have HL := Lib.hid (loadEn (heap_alloc_new w (.cells #[.string p, .string u, .int .i64 f, .int .i64 t] 165)))
 go_enter Tryz.func143, Tryz.ntmps143
 go_wp2
 refine bodyPost_ret (v := .agg #[.string p, .string u, .int .i64 f, .int .i64 t]) ?_ rfl ?_
 ·rw [results_cell1 rfl]
  simp [asAddr, Result.andThen, HL.out]
 ·exact ⟨rfl, rfl⟩
set_option maxHeartbeats 2000000 in
theorem enews_any (a : Option Addr) (c : Nat) (l : List EnM) (w : World) (hr : EnSl w a l) (hl : l.length ≤ 1000000) :
  Calls Tryz.prog 72 #[.slice a l.length c] w fun e w' => ∃ (v : Value), e = .returned v ∧ w'.ownsRow w.heap.size 165 4 v l.length (ens l) ∧ Below w.heap.size w w' := by
 obtain ⟨i0, hi, hz0, hz1, hz2⟩ := info_parts infoEn
 have HR := Lib.hid hr
 have HN := Lib.hid eone_any
 clear hr
 go_enter Tryz.func72, Tryz.ntmps72
 go_wp2
 go_loopw [3, 8] (fun v i wr => ∃ (j : Nat), j ≤ l.length ∧ i = .int .i64 j ∧ Hid (wr.ownsRow w.heap.size 165 4 v j (ens (l.take j))) ∧ Hid (Below w.heap.size w wr)) (fun _ i _ => l.length - (intOf i).toNat)
 case atStart => exact ⟨0, by omega, rfl, ⟨rfl, .inl ⟨rfl, rfl⟩⟩, Below.refl _ _⟩
 case round =>
  obtain ⟨j, hj, rfl, HO, HB⟩ := hrel
  by_cases hjl : j < l.length
  ·obtain ⟨b, off, rfl, hbl, hc0, hc1, hc2, hc3⟩ := (HR.out.below HB.out).at_ hjl
   have HC := Lib.hid (ens_take l j hjl)
   generalize l[j] = x at *
   go_wp2_with fail
   refine (HN.out _ _ _ _ _).mono ?_
   rintro e w2 ⟨rfl, hw⟩
   have hb2 : Below wr.heap.size wr w2 := by rw [hw]; exact below_2 wr (.cells #[.string x.w, .string x.u, .int .i64 x.f, .int .i64 x.t] 135) (.cells #[.string x.w, .string x.u, .int .i64 x.f, .int .i64 x.t] 165)
   have HO2 := Lib.hid (own_below HO.out (hb2.trans ((ebelow_one w2 (.cells #[.string x.w, .string x.u, .int .i64 x.f, .int .i64 x.t] 165)).mono hb2.size)))
   have HB2 : Hid (Below w.heap.size w (w2.alloc (.cells #[.string x.w, .string x.u, .int .i64 x.f, .int .i64 x.t] 165))) := HB.out.trans ((hb2.trans ((ebelow_one w2 _).mono hb2.size)).mono HB.out.size)
   have HS2 := Lib.hid HB2.out.size
   clear hw hb2 hc0 hc1 hc2 hc3
   go_wp2_with (at_builtin; refine wpList_append_own _ rfl (.tmp 12) (.tmp 22) 36 rfl w.heap.size 165 i0 _ 4 48 Tryz.underlying36 hi hz0 hz1 hz2 rfl (by decide) _ _ _ rfl HO2.out ⟨w2.heap.size, 0, none⟩ 1 1 [.string x.w, .string x.u, .int .i64 x.f, .int .i64 x.t] rfl rfl (news_at _ _ _ _ rfl) (four_e _ _ _ _) (by unfold maxLen; omega) (by omega) HS2.out ?_; intro v' w3 hown' hgrow hiff)
   have HB3 := Lib.hid (app_below HB2.out HS2.out HO2.out hgrow)
   have HO3 := Lib.hid hown'
   clear hown' hgrow hiff HB2 HS2 HO2
   go_wp2
   go_roundw
   case rel => exact ⟨j + 1, by omega, by go_num, (by unfold Hid; rw [HC.out]; exact HO3.out), HB3⟩
   case measure => simp [intOf]; omega
  ·obtain rfl : j = l.length := by omega
   rw [List.take_of_length_le (Nat.le_refl _)] at HO
   go_wp2
   go_ret
   exact ⟨_, rfl, HO.out, HB.out⟩
def CapAt (W : World) (g : Nat) (v : Value) : Prop := W.cell? ⟨g, 0, none⟩ = some v ∧ g < W.heap.size
theorem CapAt.below {W W' : World} {g : Nat} {v : Value} (h : CapAt W g v) (q : Below W.heap.size W W') : CapAt W' g v :=
 ⟨(q.cell (p := ⟨g, 0, none⟩) h.2).trans h.1, Nat.lt_of_lt_of_le h.2 q.size⟩
theorem CapAt.new (W : World) (v : Value) (t : TypeId) : CapAt (W.alloc (.cells #[v] t)) W.heap.size v :=
 ⟨cell_of_row _ _ _ _ _ _ (heap_alloc_new W _), by rw [size1]; omega⟩
def wiE (s : ByteArray) (e : EnM) : Bool := decide (e.w ≠ s) && decide (e.u ≠ s)
theorem wi_eq (s : ByteArray) (e : EnM) : wiE s e = !(eqS s e.w || eqS s e.u) := by
 have h1 := eqS_iff s e.w
 have h2 := eqS_iff s e.u
 unfold wiE
 rw [Bool.eq_iff_iff]
 simp only [Bool.and_eq_true, decide_eq_true_eq, Bool.not_eq_true', Bool.or_eq_false_iff]
 rw [← Bool.not_eq_true, ← Bool.not_eq_true, h1, h2]
 exact ⟨fun h => ⟨fun e => h.1 e.symm, fun e => h.2 e.symm⟩, fun h => ⟨fun e => h.1 e.symm, fun e => h.2 e.symm⟩⟩
theorem fil_take (q : EnM → Bool) (l : List EnM) (j : Nat) (h : j < l.length) : (l.take (j + 1)).filter q = (l.take j).filter q ++ (if q l[j] = true then [l[j]] else []) := by
 rw [List.take_succ_eq_append_getElem h, List.filter_append, List.filter_cons, List.filter_nil]
theorem fil_len (q : EnM → Bool) (l : List EnM) (j : Nat) : ((l.take j).filter q).length ≤ j := Nat.le_trans (List.length_filter_le _ _) (by simp; omega)
set_option maxHeartbeats 1000000 in
theorem wic_any (e : EnM) (s : ByteArray) (g : Nat) (W : World) (h : CapAt W g (.string s)) :
  Calls Tryz.prog 264 #[enV e, .pointer (some ⟨g, 0, none⟩)] W fun r w' => r = .returned (.bool (wiE s e)) ∧ Below W.heap.size W w' := by
 have hb := ebelow_one W (.cells #[.string e.w, .string e.u, .int .i64 e.f, .int .i64 e.t] 165)
 obtain ⟨c0, hg⟩ := h.below hb
 have HB := Lib.hid hb
 have HE := Lib.hid (wi_eq s e)
 have HC := Lib.hid (fun W => pairHas_any e.w e.u s W)
 unfold pr at HC
 unfold enV
 generalize (eqS s e.w || eqS s e.u) = r at *
 clear hb hg h
 go_enter Tryz.func264, Tryz.ntmps264
 go_wp2_with fail
 refine (HC.out _).mono ?_
 rintro r w2 ⟨rfl, hB⟩
 go_wp2
 go_ret
 exact ⟨by rw [HE.out]; rfl, HB.out.trans (hB.mono HB.out.size)⟩
set_option maxHeartbeats 2000000 in
theorem thosew_any (a : Option Addr) (c : Nat) (l : List EnM) (s : ByteArray) (g : Nat) (w : World) (hr : EnSl w a l) (h : CapAt w g (.string s)) (hl : l.length ≤ 100000) :
  Calls Tryz.prog 186 #[.slice a l.length c, .func (.func 264) #[] #[.pointer (some ⟨g, 0, none⟩)]] w fun e w' => ∃ v, e = .returned v ∧ w'.ownsRow w.heap.size 165 4 v (l.filter (wiE s)).length (ens (l.filter (wiE s))) ∧ Below w.heap.size w w' := by
 obtain ⟨i0, hi, hz0, hz1, hz2⟩ := info_parts infoEn
 have HR := Lib.hid hr
 have HP := Lib.hid h
 have HC := Lib.hid (fun e V k => wic_any e s g V k)
 unfold enV at HC
 clear hr h
 go_enter Tryz.func186, Tryz.ntmps186
 go_wp2
 go_loopw [5, 10] (fun v i wr => ∃ (j : Nat), j ≤ l.length ∧ i = .int .i64 j ∧ Hid (wr.ownsRow w.heap.size 165 4 v ((l.take j).filter (wiE s)).length (ens ((l.take j).filter (wiE s)))) ∧ Hid (Below w.heap.size w wr)) (fun _ i _ => l.length - (intOf i).toNat)
 case atStart => exact ⟨0, by omega, rfl, ⟨rfl, .inl ⟨rfl, rfl⟩⟩, Below.refl _ _⟩
 case round =>
  obtain ⟨j, hj, rfl, HO, HB⟩ := hrel
  by_cases hjl : j < l.length
  ·obtain ⟨b, off, rfl, hbl, hc0, hc1, hc2, hc3⟩ := (HR.out.below HB.out).at_ hjl
   have HT := Lib.hid (fil_take (wiE s) l j hjl)
   have HLN := Lib.hid (fil_len (wiE s) l j)
   generalize l[j] = x at *
   generalize (l.take j).filter (wiE s) = m at *
   have hb0 := ebelow_one wr (.cells #[.string x.w, .string x.u, .int .i64 x.f, .int .i64 x.t] 165)
   have HX := Lib.hid (heap_alloc_new wr (.cells #[.string x.w, .string x.u, .int .i64 x.f, .int .i64 x.t] 165))
   have HPW := Lib.hid ((HP.out.below HB.out).below hb0)
   have HB0 := Lib.hid hb0
   have HCC := Lib.hid (HC.out x _ HPW.out)
   have HZ := Lib.hid (size1 wr (.cells #[.string x.w, .string x.u, .int .i64 x.f, .int .i64 x.t] 165))
   clear hb0 HC HPW
   cases hq : (wiE s) x with
   | true =>
    have HC2 : Hid ((l.take (j + 1)).filter (wiE s) = m ++ [x]) := by have := HT.out; rwa [if_pos hq] at this
    rw [hq] at HCC
    clear HT hq
    go_wp2_with fail
    refine HCC.out.mono ?_
    rintro r w2 ⟨rfl, hB⟩
    have hb2 : Below wr.heap.size wr w2 := HB0.out.trans (hB.mono (by rw [HZ.out]; omega))
    obtain ⟨d0, d1, d2, d3⟩ := ecells4 ((hB.block _ (heap_lt HX.out)).trans HX.out)
    have HO2 := Lib.hid (own_below HO.out (hb2.trans ((ebelow_one w2 (.cells #[.string x.w, .string x.u, .int .i64 x.f, .int .i64 x.t] 165)).mono hb2.size)))
    have HB2 : Hid (Below w.heap.size w (w2.alloc (.cells #[.string x.w, .string x.u, .int .i64 x.f, .int .i64 x.t] 165))) := HB.out.trans ((hb2.trans ((ebelow_one w2 _).mono hb2.size)).mono HB.out.size)
    have HS2 := Lib.hid HB2.out.size
    have hlm := HLN.out
    clear hB hb2 hc0 hc1 hc2 hc3 HX HZ HB0 HCC
    go_wp2_with (at_builtin; refine wpList_append_own _ rfl (.tmp 17) (.tmp 19) 36 rfl w.heap.size 165 i0 _ 4 48 Tryz.underlying36 hi hz0 hz1 hz2 rfl (by decide) _ _ _ rfl HO2.out ⟨w2.heap.size, 0, none⟩ 1 1 [.string x.w, .string x.u, .int .i64 x.f, .int .i64 x.t] rfl rfl (news_at _ _ _ _ rfl) (four_e _ _ _ _) (by unfold maxLen; omega) (by omega) HS2.out ?_; intro v' w3 hown' hgrow hiff)
    have HB3 := Lib.hid (app_below HB2.out HS2.out HO2.out hgrow)
    have HO3 := Lib.hid hown'
    clear hown' hgrow hiff HB2 HS2 HO2
    go_wp2
    go_roundw
    case rel => exact ⟨j + 1, by omega, by go_num, (by unfold Hid; rw [HC2.out, List.length_append, ens_snoc]; exact HO3.out), HB3⟩
    case measure => simp [intOf]; omega
   | false =>
    have HC2 : Hid ((l.take (j + 1)).filter (wiE s) = m) := by have := HT.out; rwa [if_neg (by rw [hq]; exact Bool.false_ne_true), List.append_nil] at this
    rw [hq] at HCC
    clear HT hq
    go_wp2_with fail
    refine HCC.out.mono ?_
    rintro r w2 ⟨rfl, hB⟩
    have hb2 : Below wr.heap.size wr w2 := HB0.out.trans (hB.mono (by rw [HZ.out]; omega))
    have HO2 := Lib.hid (own_below HO.out hb2)
    have HB2 : Hid (Below w.heap.size w w2) := HB.out.trans (hb2.mono HB.out.size)
    clear hB hb2 hc0 hc1 hc2 hc3 HX HZ HB0 HCC
    go_wp2
    go_roundw
    case rel => exact ⟨j + 1, by omega, by go_num, (by unfold Hid; rw [HC2.out]; exact HO2.out), HB2⟩
    case measure => simp [intOf]; omega
  ·obtain rfl : j = l.length := by omega
   rw [List.take_of_length_le (Nat.le_refl _)] at HO
   go_wp2
   go_ret
   exact ⟨_, rfl, HO.out, HB.out⟩
set_option maxHeartbeats 1000000 in
theorem without_any (a : Option Addr) (c : Nat) (l : List EnM) (s : ByteArray) (w : World) (hr : EnSl w a l) (hl : l.length ≤ 100000) :
  Calls Tryz.prog 238 #[.slice a l.length c, (.string s)] w fun e w' => ∃ v, e = .returned v ∧ w'.ownsRow w.heap.size 165 4 v (l.filter (wiE s)).length (ens (l.filter (wiE s))) ∧ Below w.heap.size w w' := by
 have hb := ebelow_one w (.cells #[.string s] 9)
 have HC := Lib.hid (thosew_any a c l s w.heap.size (w.alloc (.cells #[.string s] 9)) (hr.below hb) (CapAt.new _ _ _) hl)
 have HB := Lib.hid hb
 clear hr hb
 go_enter Tryz.func238, Tryz.ntmps238
 go_wp2_with fail
 refine HC.out.mono ?_
 rintro r w2 ⟨v, rfl, ho, hB⟩
 go_wp2
 go_ret
 exact ⟨v, rfl, own_low ho HB.out.size, HB.out.trans (hB.mono HB.out.size)⟩
end Go.Proofs.YtapacckmgmdnoaaGreat
