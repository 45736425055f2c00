/- Texts of mine, one behind the other, of each what is wanted. -/
import Derived.Test.YtapacckmgmdnoaaGreatR00
import Derived.Test.YtapacckmgmdnoaaGreatShelf
import Derived.Test.YtapacckmgmdnoaaGreatRows
import Derived.Test.YtapacckmgmdnoaaGreatR01
import Derived.Test.YtapacckmgmdnoaaGreatR03
import Derived.Test.YtapacckmgmdnoaaGreatR04
import Derived.Test.YtapacckmgmdnoaaGreatR05
import Derived.Test.YtapacckmgmdnoaaGreatR07
import Derived.Test.YtapacckmgmdnoaaGreatR10
import Derived.Test.YtapacckmgmdnoaaGreatR14
import Derived.Test.YtapacckmgmdnoaaGreatR18
import Derived.Test.YtapacckmgmdnoaaGreatR19
import Derived.Test.YtapacckmgmdnoaaGreatR20
namespace Go.Proofs.YtapacckmgmdnoaaGreat
open Go.RowKit Go.Sort Go.Proofs
set_option linter.unusedVariables false
set_option maxRecDepth 100000
set_option maxRecDepth 100000
theorem st_one (f t n s : Int) : ∀ u ∈ [Value.int .i64 f, .int .i64 t, .int .i64 n, .int .i64 s], u.oneCell' = true := by
 intro u hu
 simp only [List.mem_cons, List.mem_nil_iff, or_false] at hu
 rcases hu with rfl | rfl | rfl | rfl <;> rfl
set_option maxHeartbeats 4000000 in
theorem ostays_any (a : Option Addr) (c : Nat) (l : List OpM) (u : ByteArray) (t : Int) (w : World) (hr : OpSl w a l) (hl : l.length ≤ 1000) :
  Calls Tryz.prog 91 #[.slice a l.length c, .string u, .int .i64 t] w fun e w' => ∃ v, e = .returned v ∧ w'.ownsRow w.heap.size 111 4 v (staysO l u t).length (sts (staysO l u t)) ∧ Below w.heap.size w w' := by
 obtain ⟨i0, hi, hz0, hz1, hz2⟩ := info_parts infoStay
 have HR := Lib.hid hr
 have HST := Lib.hid (fun (x : OpM) W => stay_any x t W)
 have HNO := Lib.hid none_any
 have HSO := Lib.hid sort8_any
 have HFIN := Lib.hid (fun (m : List StM) (hp : m.Perm (rawO l u t)) (hs : m.Pairwise fun a b => ¬ ltSt b a) => stays_only hp hs)
 unfold opV stV stayO at HST
 clear hr
 generalize staysO l u t = G at *
 go_enter Tryz.func91, Tryz.ntmps91
 go_wp2
 go_loopw [7, 13] (fun v i wr => ∃ (j : Nat), j ≤ l.length ∧ i = .int .i64 j ∧ Hid (wr.ownsRow w.heap.size 111 4 v (rawO (l.take j) u t).length (sts (rawO (l.take j) u t))) ∧ Hid (Below w.heap.size w wr)) (fun _ i _ => l.length - (intOf i).toNat)
 case atStart => exact ⟨0, by omega, rfl, ⟨rfl, .inl ⟨rfl, rfl⟩⟩, Below.refl _ _⟩
 case round =>
  obtain ⟨j, hj, rfl, HO, HB⟩ := hrel
  by_cases hjl : j < l.length
  ·obtain ⟨b, off, rfl, hbl, hc0, hc1, hc2, hc3⟩ := (HR.out.below HB.out).at_ hjl
   have HN := Lib.hid (rawO_next l u t j hjl)
   have hln : (rawO (l.take j) u t).length ≤ 1000 := by
    have h1 := rawO_len (l.take j) u t
    have h2 : (l.take j).length ≤ j := by simp; omega
    omega
   generalize rawO (l.take j) u t = M at *
   generalize l[j] = x at *
   have HX := Lib.hid (heap_alloc_new wr (.cells #[.int .i64 x.n, .string x.u, .int .i64 x.s, .int .i64 x.f] 184))
   have HSTX := 0; clear HSTX
   clear HSO HFIN
   by_cases hu : x.u = u
   ·have q1 : (x.u.toList == u.toList) = true := by rw [hu]; exact txt_eq u
    have q2 : decide (x.u = u) = true := decide_eq_true hu
    by_cases hw : x.f < t
    ·have HN2 : Hid (rawO (l.take (j + 1)) u t = M ++ [stayO x t]) := by
      have := HN.out
      rwa [if_pos (show stU u t x = true by unfold stU; rw [q2, decide_eq_true hw]; rfl)] at this
     have q3 : decide (t ≤ x.f) = false := decide_eq_false (by omega)
     have HNN : Hid (∀ W, Calls Tryz.prog 108 #[.agg #[.int .i64 x.f, .int .i64 t]] W fun e w' => e = .returned (.bool false) ∧ Below W.heap.size W w') := fun W => by
      have := HNO.out x.f t W
      rwa [q3] at this
     clear HN hu q2 hw q3 HNO
     go_wp2_with fail
     refine (HST.out x _).mono ?_
     rintro r w2 ⟨rfl, hB⟩
     have hb2 : Below wr.heap.size wr w2 := (below_one wr (.cells #[.int .i64 x.n, .string x.u, .int .i64 x.s, .int .i64 x.f] 184)).trans (hB.mono (by rw [size1]; omega))
     obtain ⟨d0, d1, d2, d3⟩ := cells4 ((hB.block _ (heap_lt HX.out)).trans HX.out)
     have hlt : wr.heap.size < w2.heap.size := by have := hB.size; rw [size1] at this; omega
     have HY := Lib.hid (heap_alloc_new w2 (.cells #[.int .i64 x.f, .int .i64 t, .int .i64 x.n, .int .i64 x.s] 111))
     obtain ⟨e0, e1, e2, e3⟩ := cells4 HY.out
     have hb3 := below_one w2 (.cells #[.int .i64 x.f, .int .i64 t, .int .i64 x.n, .int .i64 x.s] 111)
     have g1 : (w2.alloc (.cells #[.int .i64 x.f, .int .i64 t, .int .i64 x.n, .int .i64 x.s] 111)).cell? ⟨wr.heap.size, 1, none⟩ = some (.string x.u) := (hb3.cell (p := ⟨wr.heap.size, 1, none⟩) hlt).trans d1
     have HB3 : Hid (Below wr.heap.size wr (w2.alloc (.cells #[.int .i64 x.f, .int .i64 t, .int .i64 x.n, .int .i64 x.s] 111))) := hb2.trans (hb3.mono hb2.size)
     clear hB hb2 hb3 d0 d1 d2 d3 hc0 hc1 hc2 hc3
     go_wp2_with fail
     refine (HNN.out _).mono ?_
     rintro r w4 ⟨rfl, hB4⟩
     have hb4 : Below wr.heap.size wr w4 := HB3.out.trans (hB4.mono HB3.out.size)
     obtain ⟨m0, m1, m2, m3⟩ := cells4 ((hB4.block _ (heap_lt HY.out)).trans HY.out)
     have HO2 := Lib.hid (own_below HO.out (hb4.trans ((below_one w4 (.cells #[.int .i64 x.f, .int .i64 t, .int .i64 x.n, .int .i64 x.s] 111)).mono hb4.size)))
     have HB2 : Hid (Below w.heap.size w (w4.alloc (.cells #[.int .i64 x.f, .int .i64 t, .int .i64 x.n, .int .i64 x.s] 111))) := HB.out.trans ((hb4.trans ((below_one w4 _).mono hb4.size)).mono HB.out.size)
     have HS2 := Lib.hid HB2.out.size
     clear hB4 hb4 HX HY HB3 e0 e1 e2 e3 g1 hlt
     go_wp2_with (at_builtin; refine wpList_append_own _ rfl (.tmp 30) (.tmp 32) 69 rfl w.heap.size 111 i0 _ 4 32 Tryz.underlying69 hi hz0 hz1 hz2 rfl (by decide) _ _ _ rfl HO2.out ⟨w4.heap.size, 0, none⟩ 1 1 [.int .i64 x.f, .int .i64 t, .int .i64 x.n, .int .i64 x.s] rfl rfl (news_at _ _ _ _ rfl) (st_one _ _ _ _) (by unfold maxLen; omega) (by omega) HS2.out ?_; intro v' w5 hown' hgrow hiff)
     have HB5 := Lib.hid (app_below HB2.out HS2.out HO2.out hgrow)
     have HO5 := Lib.hid hown'
     clear hown' hgrow hiff HB2 HS2 HO2
     go_wp2
     go_roundw
     case rel => exact ⟨j + 1, by omega, by go_num, (by unfold Hid; rw [HN2.out, List.length_append, sts_snoc]; exact HO5.out), HB5⟩
     case measure => simp [intOf]; omega
    ·have HN2 : Hid (rawO (l.take (j + 1)) u t = M) := by
      have := HN.out
      rwa [if_neg (show ¬ stU u t x = true by unfold stU; rw [decide_eq_false hw, Bool.and_false]; exact Bool.false_ne_true)] at this
     have q3 : decide (t ≤ x.f) = true := decide_eq_true (by omega)
     have HNN : Hid (∀ W, Calls Tryz.prog 108 #[.agg #[.int .i64 x.f, .int .i64 t]] W fun e w' => e = .returned (.bool true) ∧ Below W.heap.size W w') := fun W => by
      have := HNO.out x.f t W
      rwa [q3] at this
     clear HN hu q2 hw q3 HNO
     go_wp2_with fail
     refine (HST.out x _).mono ?_
     rintro r w2 ⟨rfl, hB⟩
     have hb2 : Below wr.heap.size wr w2 := (below_one wr (.cells #[.int .i64 x.n, .string x.u, .int .i64 x.s, .int .i64 x.f] 184)).trans (hB.mono (by rw [size1]; omega))
     obtain ⟨d0, d1, d2, d3⟩ := cells4 ((hB.block _ (heap_lt HX.out)).trans HX.out)
     have hlt : wr.heap.size < w2.heap.size := by have := hB.size; rw [size1] at this; omega
     have HY := Lib.hid (heap_alloc_new w2 (.cells #[.int .i64 x.f, .int .i64 t, .int .i64 x.n, .int .i64 x.s] 111))
     obtain ⟨e0, e1, e2, e3⟩ := cells4 HY.out
     have hb3 := below_one w2 (.cells #[.int .i64 x.f, .int .i64 t, .int .i64 x.n, .int .i64 x.s] 111)
     have g1 : (w2.alloc (.cells #[.int .i64 x.f, .int .i64 t, .int .i64 x.n, .int .i64 x.s] 111)).cell? ⟨wr.heap.size, 1, none⟩ = some (.string x.u) := (hb3.cell (p := ⟨wr.heap.size, 1, none⟩) hlt).trans d1
     have HB3 : Hid (Below wr.heap.size wr (w2.alloc (.cells #[.int .i64 x.f, .int .i64 t, .int .i64 x.n, .int .i64 x.s] 111))) := hb2.trans (hb3.mono hb2.size)
     clear hB hb2 hb3 d0 d1 d2 d3 hc0 hc1 hc2 hc3
     go_wp2_with fail
     refine (HNN.out _).mono ?_
     rintro r w4 ⟨rfl, hB4⟩
     have hb4 : Below wr.heap.size wr w4 := HB3.out.trans (hB4.mono HB3.out.size)
     have HO2 := Lib.hid (own_below HO.out hb4)
     have HB2 := Lib.hid (HB.out.trans (hb4.mono HB.out.size))
     clear hB4 hb4 HX HY HB3 e0 e1 e2 e3 g1 hlt
     go_wp2
     go_roundw
     case rel => exact ⟨j + 1, by omega, by go_num, (by unfold Hid; rw [HN2.out]; exact HO2.out), HB2⟩
     case measure => simp [intOf]; omega
   ·have q1 := txt_ne hu
    have HN2 : Hid (rawO (l.take (j + 1)) u t = M) := by
     have := HN.out
     rwa [if_neg (show ¬ stU u t x = true by unfold stU; rw [decide_eq_false hu]; exact Bool.false_ne_true)] at this
    clear HN hu HNO
    go_wp2_with fail
    refine (HST.out x _).mono ?_
    rintro r w2 ⟨rfl, hB⟩
    have hb2 : Below wr.heap.size wr w2 := (below_one wr (.cells #[.int .i64 x.n, .string x.u, .int .i64 x.s, .int .i64 x.f] 184)).trans (hB.mono (by rw [size1]; omega))
    obtain ⟨d0, d1, d2, d3⟩ := cells4 ((hB.block _ (heap_lt HX.out)).trans HX.out)
    have hlt : wr.heap.size < w2.heap.size := by have := hB.size; rw [size1] at this; omega
    have HY := Lib.hid (heap_alloc_new w2 (.cells #[.int .i64 x.f, .int .i64 t, .int .i64 x.n, .int .i64 x.s] 111))
    obtain ⟨e0, e1, e2, e3⟩ := cells4 HY.out
    have hb3 := below_one w2 (.cells #[.int .i64 x.f, .int .i64 t, .int .i64 x.n, .int .i64 x.s] 111)
    have g1 : (w2.alloc (.cells #[.int .i64 x.f, .int .i64 t, .int .i64 x.n, .int .i64 x.s] 111)).cell? ⟨wr.heap.size, 1, none⟩ = some (.string x.u) := (hb3.cell (p := ⟨wr.heap.size, 1, none⟩) hlt).trans d1
    have HB3 : Hid (Below wr.heap.size wr (w2.alloc (.cells #[.int .i64 x.f, .int .i64 t, .int .i64 x.n, .int .i64 x.s] 111))) := hb2.trans (hb3.mono hb2.size)
    clear hB hb2 hb3 d0 d1 d2 d3 hc0 hc1 hc2 hc3
    have HO2 := Lib.hid (own_below HO.out HB3.out)
    have HB2 := Lib.hid (HB.out.trans (HB3.out.mono HB.out.size))
    clear HX HY HB3 e0 e1 e2 e3 hlt
    go_wp2
    go_roundw
    case rel => exact ⟨j + 1, by omega, by go_num, (by unfold Hid; rw [HN2.out]; exact HO2.out), HB2⟩
    case measure => simp [intOf]; omega
  ·obtain rfl : j = l.length := by omega
   rw [List.take_of_length_le (Nat.le_refl _)] at HO
   have hrl := rawO_len l u t
   have HS := Lib.hid (HSO.out w.heap.size _ (rawO l u t) wr HB.out.size HO.out (by omega))
   clear HST HNO HSO
   go_wp2_with fail
   refine HS.out.mono ?_
   rintro e w5 ⟨rfl, m, hperm, hsort, ho5, hb5⟩
   have hm := HFIN.out m hperm hsort
   subst hm
   go_wp2
   go_ret
   exact ⟨_, rfl, ho5, HB.out.trans hb5⟩
end Go.Proofs.YtapacckmgmdnoaaGreat
namespace Go.Proofs.YtapacckmgmdnoaaGreat
open Go.RowKit Go.Proofs
set_option linter.unusedVariables false
set_option maxRecDepth 100000
def ers (l : List Int) : List Value := l.map (.int .i64)
theorem ers_len (l : List Int) : (ers l).length = l.length := List.length_map _
theorem ers_snoc (l : List Int) (n : Int) : ers (l ++ [n]) = ers l ++ [.int .i64 n] := by simp [ers]
def ErSl (w : World) (a : Option Addr) (l : List Int) : Prop := Sl w a (ers l)
theorem ErSl.below {w w' : World} {a : Option Addr} {l : List Int} (h : ErSl w a l) (q : Below w.heap.size w w') : ErSl w' a l := Sl.below h q
theorem ErSl.nil (w : World) (a : Option Addr) : ErSl w a [] := Sl.nil _ _
theorem ErSl.at_ {w : World} {a : Option Addr} {l : List Int} (h : ErSl w a l) {k : Nat} (hk : k < l.length) : ∃ b off, a = some ⟨b, off, none⟩ ∧ b < w.heap.size ∧ w.cell? ⟨b, off + k, none⟩ = some (.int .i64 l[k]) := by
 obtain ⟨b, off, e, hlt, hc⟩ := h k (by rw [ers_len]; exact hk)
 exact ⟨b, off, e, hlt, by rw [hc]; simp [ers]⟩
theorem evsl_setB {W : World} {g : Nat} {x : SaL} {t : TypeId} (h : W.heap[g]? = some (.cells (saC x) t (0, 0))) {a : Option Addr} {l : List EvM} (ho : EvSl W a l) (i : Nat) (v : Value) : EvSl (W.setCell ⟨g, i, none⟩ v) a l := fun k hk => by
 obtain ⟨b, off, e, hlt, h0⟩ := ho k hk
 have hne : b ≠ g := fun e => by
  subst e
  have h2 : W.cell? ⟨b, off + k * 6 + 2, none⟩ = some (.string l[k].user) := h0 2 (by decide)
  exact six_string h h2
 exact ⟨b, off, e, by rw [size_set]; exact hlt, fun i hi => (cell_far (p := ⟨b, off + k * 6 + i, none⟩) hne).trans (h0 i hi)⟩
theorem evsl_setS {w W : World} {g : Nat} {x y : SaL} {t : TypeId} (h : SB w g t x W) (hy : SaAt W y) {a : Option Addr} {l : List EvM} (ho : EvSl W a l) : EvSl (setS W g y) a l := by
 have h0 := SB.setNow h y.now
 have y0 := SaAt.setB h.blk hy 0 (.int .i64 y.now)
 have o0 := evsl_setB h.blk ho 0 (.int .i64 y.now)
 have h1 := SB.setHor h0 y.hor
 have y1 := SaAt.setB h0.blk y0 1 (.int .i64 y.hor)
 have o1 := evsl_setB h0.blk o0 1 (.int .i64 y.hor)
 have h2 := SB.setOp h1 rfl y1.op y1.oc
 have y2 := SaAt.setB h1.blk y1 2 (.slice y.oa y.op.length y.oc)
 have o2 := evsl_setB h1.blk o1 2 (.slice y.oa y.op.length y.oc)
 have h3 := SB.setUs h2 rfl y2.us y2.uc
 have y3 := SaAt.setB h2.blk y2 3 (.slice y.ua y.us.length y.uc)
 have o3 := evsl_setB h2.blk o2 3 (.slice y.ua y.us.length y.uc)
 have h4 := SB.setSu h3 rfl y3.su y3.sc
 have o4 := evsl_setB h3.blk o3 4 (.slice y.sa y.su.length y.sc)
 exact evsl_setB h4.blk o4 5 (.slice y.ta y.tb.length y.tc)
theorem taken_next (s : SaM) (l : List EvM) (j : Nat) (h : j < l.length) : takenE s (l.take (j + 1)) = takenE s (l.take j) ++ (if errE (foldE s (l.take j)) l[j] = 0 then [l[j]] else []) := by
 rw [List.take_succ_eq_append_getElem h, takenE_append]
 rfl
theorem taken_told (s : SaM) (l : List EvM) (j : Nat) (h : j < l.length) : takenE s (l.take (j + 1)) = takenE s (l.take j) ++ (if (errsE s l)[j]'(by rw [errsE_len]; exact h) = 0 then [l[j]] else []) := by
 rw [taken_next s l j h, errsE_at l s j h]
theorem EvSl.drop {w : World} {b off : Nat} {l : List EvM} (h : EvSl w (some ⟨b, off, none⟩) l) (n : Nat) : EvSl w (some ⟨b, off + n * 6, none⟩) (l.drop n) := fun k hk => by
 have hk2 : n + k < l.length := by rw [List.length_drop] at hk; omega
 obtain ⟨b', off', e, hlt, h0⟩ := h (n + k) hk2
 cases e
 refine ⟨b, off + n * 6, rfl, hlt, fun i hi => ?_⟩
 rw [List.getElem_drop, show off + n * 6 + k * 6 + i = off + (n + k) * 6 + i by omega]
 exact h0 i hi
def latT (m : Int) (l : List EvM) : Int := l.foldl (fun m x => max m x.at_) m
theorem latT_next (m : Int) (l : List EvM) (j : Nat) (h : j < l.length) : latT m (l.take (j + 1)) = max (latT m (l.take j)) l[j].at_ := by
 rw [List.take_succ_eq_append_getElem h]
 unfold latT
 rw [List.foldl_append]
 rfl
set_option maxHeartbeats 2000000 in
theorem platest_any (a : Option Addr) (c : Nat) (l : List EvM) (w : World) (hs : EvSl w a l) (hl : l.length ≤ 1000) (hc : l.length ≤ c) (hcm : c ≤ maxLen) :
  Calls Tryz.prog 25 #[.slice a l.length c] w fun e w' => e = .returned (.tuple #[.int .i64 (latA l), .bool (decide (0 < l.length))]) ∧ Below w.heap.size w w' := by
 cases l with
 | nil =>
  clear hs
  simp only [List.length_nil]
  go_enter Tryz.func25, Tryz.ntmps25
  go_wp2
  go_ret2
  exact ⟨rfl, Below.refl _ _⟩
 | cons e0 tl =>
  obtain ⟨b, off, rfl, hbl, r0, r1, r2, r3, r4, r5⟩ := hs.at_ (k := 0) (by simp)
  have HD : Hid (EvSl w (some ⟨b, off + 6, none⟩) tl) := Lib.hid (by have := hs.drop 1; simpa using this)
  have e1 : (e0 :: tl).length = tl.length + 1 := rfl
  rw [e1] at hl hc ⊢
  simp only [Nat.zero_mul, Nat.add_zero, List.getElem_cons_zero] at r0 r1 r2 r3 r4 r5
  have hm : c ≤ 9223372036854775807 := by unfold maxLen at hcm; exact hcm
  have g1 : ((((tl.length + 1 : Nat)) : Int) == 0) = false := beq_false_of_ne (by omega)
  have g2 : (0 : Int) < ((tl.length + 1 : Nat) : Int) := by omega
  have g3 : (1 : Int) ≤ ((tl.length + 1 : Nat) : Int) := by omega
  have g4 : ((tl.length + 1 : Nat) : Int) ≤ (c : Int) := by omega
  have g5 : (1 : Int) ≤ (c : Int) := by omega
  obtain ⟨a0, ha0⟩ : ∃ m, m = e0.at_ := ⟨_, rfl⟩
  have HFIN : Hid (latT a0 tl = latA (e0 :: tl)) := Lib.hid (by rw [ha0]; rfl)
  rw [← ha0] at r1
  have hd : decide (0 < tl.length + 1) = true := decide_eq_true (by omega)
  rw [hd]
  clear hs hcm r0 r2 r3 r4 r5 ha0 e1 hd
  generalize latA (e0 :: tl) = LA at *
  by_cases hc1 : c = 1
  ·have hk0 : tl.length = 0 := by omega
   subst hc1
   have HE : Hid (a0 = LA) := Lib.hid (by rw [← HFIN.out, List.eq_nil_of_length_eq_zero hk0]; rfl)
   clear hk0 HFIN
   go_enter Tryz.func25, Tryz.ntmps25
   go_wp2
   go_loopw [4, 17] (fun lv iv wr => lv = .int .i64 a0 ∧ iv = .int .i64 0 ∧ Hid (Below w.heap.size w wr)) (fun _ iv _ => 0)
   case atStart => exact ⟨rfl, rfl, Lib.hid (Below.refl _ _)⟩
   case round =>
    obtain ⟨rfl, rfl, HB⟩ := hrel
    have hz : decide ((0 : Int) < 0) = false := by decide
    have hz2 : ¬ (0 : Int) < 0 := by decide
    go_wp2
    go_ret2
    exact ⟨by rw [HE.out]; rfl, HB.out⟩
  ·skip
   go_enter Tryz.func25, Tryz.ntmps25
   go_wp2
   go_loopw [4, 17] (fun lv iv wr => ∃ (j : Nat) (m : Int), j ≤ tl.length ∧ iv = .int .i64 j ∧ lv = .int .i64 m ∧ Hid (m = latT a0 (tl.take j)) ∧ Hid (Below w.heap.size w wr)) (fun _ iv _ => tl.length - (intOf iv).toNat)
   case atStart => exact ⟨0, a0, by omega, rfl, rfl, Lib.hid rfl, Lib.hid (Below.refl _ _)⟩
   case round =>
    obtain ⟨j, m, hj, rfl, rfl, HM, HB⟩ := hrel
    by_cases hjl : j < tl.length
    ·have hw1 : IntKind.i64.wrap ((j : Int) + 1) = (j : Int) + 1 := IntWalk.i64_in _ (by omega)
     obtain ⟨b', off', eb, hbl, r0, r1, r2, r3, r4, r5⟩ := (HD.out.below HB.out).at_ hjl
     cases eb
     have HN := Lib.hid (latT_next a0 tl j hjl)
     have HB1 : Hid (Below w.heap.size w (wr.alloc (.cells #[.int .i64 tl[j].kind, .int .i64 tl[j].at_, .string tl[j].user, .string tl[j].other, .int .i64 tl[j].n, .int .i64 tl[j].status] 64))) := Lib.hid (HB.out.trans ((below_one _ _).mono HB.out.size))
     generalize tl[j] = x at *
     go_wp2
     go_roundw
     case rel => exact ⟨j + 1, max m x.at_, by omega, by go_num, by first | rfl | (congr 1), Lib.hid (by rw [HN.out, HM.out]), HB1⟩
     case measure => simp [intOf]; omega
    ·obtain rfl : j = tl.length := by omega
     rw [List.take_length] at HM
     have HE : Hid (m = LA) := Lib.hid (HM.out.trans HFIN.out)
     go_wp2
     go_ret2
     exact ⟨by rw [HE.out]; rfl, HB.out⟩
set_option maxHeartbeats 2000000 in
theorem dtold_any (a b : Option Addr) (c d : Nat) (E : List Int) (w : World) (ha : ErSl w a E) (hb : ErSl w b E) (hl : E.length ≤ 1000) :
  Calls Tryz.prog 28 #[.slice a E.length c, .slice b E.length d] w fun e w' => e = .returned (.bool true) ∧ Below w.heap.size w w' := by
 have HA := Lib.hid ha
 have HB := Lib.hid hb
 clear ha hb
 have hne : ((E.length : Int) != (E.length : Int)) = false := by simp
 go_enter Tryz.func28, Tryz.ntmps28
 go_wp2
 go_loopw [13] (fun i wr => ∃ k : Nat, k ≤ E.length ∧ i = .int .i64 k ∧ Hid (Drew w wr)) (fun i _ => E.length - (intOf i).toNat)
 case atStart => exact ⟨0, by omega, rfl, Drew.refl _⟩
 case round =>
  obtain ⟨k, hk, rfl, HD⟩ := hrel
  by_cases hlt : k < E.length
  ·have hw1 : IntKind.i64.wrap ((k : Int) + 1) = (k : Int) + 1 := IntWalk.i64_in _ (by omega)
   obtain ⟨b1, o1, rfl, _, hc1⟩ := HA.out.at_ hlt
   obtain ⟨b2, o2, rfl, _, hc2⟩ := HB.out.at_ hlt
   have hc1 := (HD.out.cell _).trans hc1
   have hc2 := (HD.out.cell _).trans hc2
   generalize E[k] = x at *
   have hx : (x != x) = false := by simp
   go_wp2
   go_quiet (fail)
   go_wp2
   go_roundw
   case rel => exact ⟨k + 1, by omega, by go_num, HD.out.trans ⟨_, rfl⟩⟩
   case measure => simp [intOf]; omega
  ·go_wp2
   go_ret
   exact ⟨rfl, HD.out.below _⟩
def bo11 : ByteArray := ⟨#[98, 111, 98]⟩
theorem bo_name : nameB bo11 = true := by decide
def eV1 : EvM := ⟨1, 3, an11, no11, 1, 1⟩
def eV2 : EvM := ⟨1, 4, bo11, no11, 1, 1⟩
def eV3 : EvM := ⟨3, 5, an11, no11, 1, 0⟩
def sB3 : SaM := ⟨5, 0, [], [⟨an11, [⟨3, 5, 1, 1⟩]⟩], [], []⟩
theorem rvb2 : RightV 1 4 1 1 bo11 no11 := ⟨by decide, by decide, .inl ⟨.inl rfl, by decide, by decide, bo_name, rfl, by decide, by decide⟩⟩
theorem rvb3 : RightV 3 5 1 0 an11 no11 := ⟨by decide, by decide, .inr (.inl ⟨rfl, by decide, by decide, an_name, rfl, rfl⟩)⟩
theorem bE1 : errE saZ eV1 = 0 := aE1
theorem bG1 : goE saZ eV1 = sA1 := by have h := aT1; unfold tellS at h; rw [aE1, if_pos rfl] at h; exact h
theorem bE2 : errE sA1 eV2 = 100 := by
 show errS sA1 1 4 1 1 bo11 no11 = 100
 unfold errS
 rw [if_pos rvb2, if_neg (by decide)]
 show openC [⟨1, an11, 1, 3⟩] ⟨1, bo11, 1, 4⟩ = 100
 unfold openC
 rw [if_pos]
 rfl
theorem bE3 : errE sA1 eV3 = 0 := by
 show errS sA1 3 5 1 0 an11 no11 = 0
 unfold errS
 rw [if_pos rvb3, if_neg (by decide)]
 exact aF.1
theorem bC3 : cloR [⟨1, an11, 1, 3⟩] 1 an11 = [] := by unfold cloR; rw [if_pos aF.1, aF.2.2]; rfl
theorem bS3 : fndS [⟨1, an11, 1, 3⟩] 1 an11 5 = ⟨3, 5, 1, 1⟩ := by unfold fndS; rw [if_pos aF.1, aF.2.1]; rfl
theorem bG3 : goE sA1 eV3 = sB3 := by
 show SaM.mk 5 0 (cloR [⟨1, an11, 1, 3⟩] 1 an11) (addU [] an11 (fndS [⟨1, an11, 1, 3⟩] 1 an11 5)) [] [] = sB3
 rw [bC3, bS3]
 rfl
def l12 : List EvM := [eV1, eV2, eV3]
theorem l12_fold : foldE saZ l12 = sB3 := by
 show nxE (nxE (nxE saZ eV1) eV2) eV3 = sB3
 rw [nxE_ok bE1, bG1, nxE_no (s := sA1) (e := eV2) (by rw [bE2]; decide), nxE_ok bE3, bG3]
theorem l12_errs : errsE saZ l12 = [0, 100, 0] := by
 show [errE saZ eV1, errE (nxE saZ eV1) eV2, errE (nxE (nxE saZ eV1) eV2) eV3] = _
 rw [nxE_ok bE1, bG1, nxE_no (by rw [bE2]; decide), bE1, bE2, bE3]
theorem l12_taken : takenE saZ l12 = [eV1, eV3] := by
 show (if errE saZ eV1 = 0 then eV1 :: takenE (goE saZ eV1) [eV2, eV3] else takenE saZ [eV2, eV3]) = _
 rw [if_pos bE1, bG1]
 show eV1 :: (if errE sA1 eV2 = 0 then eV2 :: takenE (goE sA1 eV2) [eV3] else takenE sA1 [eV3]) = _
 rw [if_neg (by rw [bE2]; decide)]
 show eV1 :: (if errE sA1 eV3 = 0 then eV3 :: [] else []) = _
 rw [if_pos bE3]
theorem l12_without : withoutV an11 l12 = [eV2] := by
 have h1 : bearB an11 eV1 = true := by unfold bearB; rw [decide_eq_true (show eV1.user = an11 from rfl)]; rfl
 have h3 : bearB an11 eV3 = true := by unfold bearB; rw [decide_eq_true (show eV3.user = an11 from rfl)]; rfl
 have h2 : bearB an11 eV2 = false := bear_no.2 ⟨fun h => absurd (congrArg (fun b : ByteArray => b.data.toList) h) (by decide), fun h => absurd (congrArg (fun b : ByteArray => b.data.toList) h) (by decide)⟩
 unfold withoutV l12
 simp only [List.filter_cons, h1, h2, h3, List.filter_nil, Bool.not_true, Bool.not_false, if_true]
 rfl
theorem sB3_right : RightS sB3 := by have h := right_fold l12 RightS.zero; rw [l12_fold] at h; exact h
theorem sB3_stays : staysS sB3 an11 9 = [⟨3, 5, 1, 1⟩] := by
 have h := ofU_mem (l := [⟨an11, [⟨3, 5, 1, 1⟩]⟩]) sB3_right.ur (x := ⟨an11, [⟨3, 5, 1, 1⟩]⟩) (List.mem_singleton.2 rfl)
 show addsS (staysO [] an11 9) (ofU [⟨an11, [⟨3, 5, 1, 1⟩]⟩] an11) = _
 rw [h]
 rfl
theorem l12_fits : FitsV l12 := fun e he => by
 unfold l12 at he
 simp only [List.mem_cons, List.mem_nil_iff, or_false] at he
 rcases he with rfl | rfl | rfl <;> exact ⟨show _ ≤ _ by decide, show _ ≤ _ by decide⟩
theorem evsl_lit (W : World) (l : List EvM) (xs : Array Value) (t : TypeId) (g : Nat) (hg : g = W.heap.size) (hx : xs.toList = evs l) : EvSl (W.alloc (.cells xs t)) (some ⟨g, 0, none⟩) l := fun k hk => by
 subst hg
 refine ⟨W.heap.size, 0, rfl, by rw [size1]; omega, fun i hi => ?_⟩
 have h := evs_get l k i hk hi
 rw [← hx, Array.getElem?_toList] at h
 rw [cell_of_row _ _ _ xs t (0, 0) (heap_alloc_new W _), show 0 + k * 6 + i = k * 6 + i by omega]
 exact h
end Go.Proofs.YtapacckmgmdnoaaGreat
