/- StateResets: a state that may be, reset, and pruned, is what the document says, and may be; reset, or pruned, again it is the same; for all states of at most 1048576 things. -/
import Derived.JoinedCond
import Derived.Deep.RegionHeld3
import Derived.OrdersHeld
import Derived.Test.YtjhdhfokhkcamaaGreatS00
import Derived.Test.YtjhdhfokhkcamaaGreatRows
import Derived.Test.YtjhdhfokhkcamaaGreatTQ
import Derived.Test.YtjhdhfokhkcamaaGreatS02
import Derived.Test.YtjhdhfokhkcamaaGreatS06
import Derived.Test.YtjhdhfokhkcamaaGreatS07
import Derived.Test.YtjhdhfokhkcamaaGreatS09
import Derived.Test.YtjhdhfokhkcamaaGreatS13
import Derived.Test.YtjhdhfokhkcamaaGreatS14
import Derived.Test.YtjhdhfokhkcamaaGreatS17
import Derived.Test.YtjhdhfokhkcamaaGreatS23
import Derived.Test.YtjhdhfokhkcamaaGreatS29
import Derived.Test.YtjhdhfokhkcamaaGreatS32
import Derived.Test.YtjhdhfokhkcamaaGreatS41
import Derived.Test.YtjhdhfokhkcamaaGreatS47
import Derived.Test.YtjhdhfokhkcamaaGreatS51
import Derived.Test.YtjhdhfokhkcamaaGreatS53
namespace Go.Proofs.YtjhdhfokhkcamaaGreat.stateResets
open Go.ChangeShapes Go.WideShapes Go.ChangeAt Go.RowKit Go.Proofs
open Go.ChangeMaps (open_string shut_string)
set_option linter.unusedVariables false
set_option maxRecDepth 100000

structure RsK (w : World) (g1 : Nat) (x : SaL) (y : SaL) (W : World) : Prop where
 s : SB w w.heap.size 27 x W
 y : SB w g1 38 y W
theorem RsK.below {w W W' : World} {g1 : Nat} {x : SaL} {y : SaL} (h : RsK w g1 x y W) (qB : Below W.heap.size W W') : RsK w g1 x y W' := ⟨h.s.below qB, h.y.below qB⟩
structure RqK (w : World) (g1 : Nat) (ga : Nat) (gb : Nat) (x : SaL) (y : SaL) (ya : SaL) (yb : SaL) (W : World) : Prop where
 s : SB w w.heap.size 27 x W
 y : SB w g1 38 y W
 a : SB w ga 38 ya W
 b : SB w gb 38 yb W
theorem RqK.below {w W W' : World} {g1 : Nat} {ga : Nat} {gb : Nat} {x : SaL} {y : SaL} {ya : SaL} {yb : SaL} (h : RqK w g1 ga gb x y ya yb W) (qB : Below W.heap.size W W') : RqK w g1 ga gb x y ya yb W' := ⟨h.s.below qB, h.y.below qB, h.a.below qB, h.b.below qB⟩
structure FkK (w : World) (g1 : Nat) (x y : SaL) (M : SaM) (ga gb : Nat) (ya yb : SaL) (T : World) : Prop where
 k : RsK w g1 x y T
 za : SB w ga 38 saO T
 zb : SB w gb 38 saO T
 la : SaAt T ya
 ma : ya.m = resetS M
 lb : SaAt T yb
 mb : yb.m = pruneS M
 n1 : w.heap.size ≠ ga
 n2 : w.heap.size ≠ gb
 n3 : g1 ≠ ga
 n4 : g1 ≠ gb
 n5 : ga ≠ gb
/-- many ways, one end -/
theorem funnel {G : Prop} {F P : World → Nat → Nat → SaL → SaL → Prop} (tree : (∀ T ga gb ya yb, F T ga gb ya yb → P T ga gb ya yb) → G) (main : ∀ T ga gb ya yb, F T ga gb ya yb → P T ga gb ya yb) : G := tree main
set_option maxHeartbeats 16000000 in
theorem walk (w : World) (x : SaL) (h : SaAt w x) (z : SzS x.m) (b : stCnt x.m + x.us.length ≤ 1048576) :
  Calls Tryz.prog 5 #[saV x] w fun e w' => e = .returned (.bool true) ∧ Below w.heap.size w w' := by
 have S := SB.new (Below.refl w.heap.size w) h 27
 unfold saC at S
 replace S := Lib.hid S
 have HAL := Lib.hid alive11
 have HMA := Lib.hid (fun V (h : SaAt V x) => many_any x V h b)
 by_cases g1 : 100 < stCnt x.m + x.us.length
 ·have d1 : decide ((100 : Int) < (stCnt x.m : Int) + (x.us.length : Int)) = true := decide_eq_true (by omega)
  clear h z b g1 
  unfold saV saC
  obtain ⟨cS0, cS1, cS2, cS3, cS4, cS5⟩ := S.out.cells
  go_enter Tryz.func5, Tryz.ntmps5
  go_wp2_with fail
  refine (HMA.out _ S.out.at_).mono ?_
  rintro r1 w1 ⟨rfl, h1⟩
  clear cS0 cS1 cS2 cS3 cS4 cS5
  replace S := Lib.hid (S.out.below h1)
  clear h1
  obtain ⟨cS0, cS1, cS2, cS3, cS4, cS5⟩ := S.out.cells
  go_wp2_with fail
  refine (HAL.out _).mono ?_
  rintro r2 w2 ⟨rfl, h2⟩
  clear cS0 cS1 cS2 cS3 cS4 cS5
  replace S := Lib.hid (S.out.below h2)
  clear h2
  go_wp2
  go_ret
  exact ⟨rfl, S.out.frame⟩
 have d1 : decide ((100 : Int) < (stCnt x.m : Int) + (x.us.length : Int)) = false := decide_eq_false (by omega)
 have hf0 : Few x.m 100 := few_cnt (by omega)
 by_cases hr0 : RightS x.m
 case neg =>
  have HRR := Lib.hid (fun V (h : SaAt V x) => g_rwrong x V h rfl z (hf0.mono (by decide)) hr0)
  clear h z b g1 hf0 hr0 
  unfold saV saC
  obtain ⟨cS0, cS1, cS2, cS3, cS4, cS5⟩ := S.out.cells
  go_enter Tryz.func5, Tryz.ntmps5
  go_wp2_with fail
  refine (HMA.out _ S.out.at_).mono ?_
  rintro r1 w1 ⟨rfl, h1⟩
  clear cS0 cS1 cS2 cS3 cS4 cS5
  replace S := Lib.hid (S.out.below h1)
  clear h1
  obtain ⟨cS0, cS1, cS2, cS3, cS4, cS5⟩ := S.out.cells
  go_wp2_with fail
  refine (HRR.out _ S.out.at_).mono ?_
  rintro r2 w2 ⟨rfl, h2⟩
  clear cS0 cS1 cS2 cS3 cS4 cS5
  replace S := Lib.hid (S.out.below h2)
  clear h2
  obtain ⟨cS0, cS1, cS2, cS3, cS4, cS5⟩ := S.out.cells
  go_wp2_with fail
  refine (HAL.out _).mono ?_
  rintro r3 w3 ⟨rfl, h3⟩
  clear cS0 cS1 cS2 cS3 cS4 cS5
  replace S := Lib.hid (S.out.below h3)
  clear h3
  go_wp2
  go_ret
  exact ⟨rfl, S.out.frame⟩
 have HRR := Lib.hid (fun V (h : SaAt V x) => g_rright x V h rfl z (hf0.mono (by decide)) hr0)
 have hc0 : stCnt x.m ≤ 100 := by omega
 clear b g1
 obtain ⟨M, hM⟩ : ∃ M, x.m = M := ⟨_, rfl⟩
 have hr : RightS M := hM ▸ hr0
 have hf : Few M 100 := hM ▸ hf0
 have hz : SzS M := hM ▸ z
 have hc : stCnt M ≤ 100 := hM ▸ hc0
 have HNW := Lib.hid (fun V (h : SaAt V x) => g_new x V h hM (hf.mono (by decide)))
 have hc2 : stCnt M ≤ 220 := Nat.le_trans hc (by decide)
 have hrr := right_reset hr
 have hrp := right_prune hr
 have hcr : stCnt (resetS M) ≤ 220 := Nat.le_trans (cnt_reset M) hc2
 have hcp : stCnt (pruneS M) ≤ 220 := Nat.le_trans (cnt_prune M) hc2
 have hfr : Few (resetS M) 900 := (few_of hrr hcr).mono (by decide)
 have hfp : Few (pruneS M) 900 := (few_of hrp hcp).mono (by decide)
 have HRE : Hid (∀ y V, SaAt V y → y.m = M → Calls Tryz.prog 22 #[saV y] V (fun r w' => ∃ z, r = .returned (.agg #[.int .i64 z.now, .int .i64 z.hor, .slice z.oa z.op.length z.oc, .slice z.ua z.us.length z.uc, .slice z.sa z.su.length z.sc, .slice z.ta z.tb.length z.tc]) ∧ SaAt w' z ∧ z.m = resetS M ∧ Below V.heap.size V w')) := Lib.hid (fun y V h hm => g_reset (M := M) y V h hm hr hc2)
 have HPR : Hid (∀ y V, SaAt V y → y.m = M → Calls Tryz.prog 23 #[saV y] V (fun r w' => ∃ z, r = .returned (.agg #[.int .i64 z.now, .int .i64 z.hor, .slice z.oa z.op.length z.oc, .slice z.ua z.us.length z.uc, .slice z.sa z.su.length z.sc, .slice z.ta z.tb.length z.tc]) ∧ SaAt w' z ∧ z.m = pruneS M ∧ Below V.heap.size V w')) := Lib.hid (fun y V h hm => g_prune (M := M) y V h hm hr hc2)
 have HDR := Lib.hid (fun V (h : SaAt V x) => g_rreset (M := M) x V h hM hr hc2)
 have HDP := Lib.hid (fun V (h : SaAt V x) => g_rprune (M := M) x V h hM hr hc2)
 have HO0 := Lib.hid (fun y V (h : SaAt V y) hm => g_old (M := M) y V h hm (hf.mono (by decide)))
 have HS0 := Lib.hid (fun p V (h : SaAt V p) (k : SaAt V x) hm => g_rsame (M := M) p x V h k hm hM (hf.mono (by decide)))
 have HOR := Lib.hid (fun y V (h : SaAt V y) hm => g_old (M := resetS M) y V h hm hfr)
 have HSR := Lib.hid (fun p q V (h : SaAt V p) (k : SaAt V q) hm km => g_rsame (M := resetS M) p q V h k hm km hfr)
 have HOP := Lib.hid (fun y V (h : SaAt V y) hm => g_old (M := pruneS M) y V h hm hfp)
 have HSP := Lib.hid (fun p q V (h : SaAt V p) (k : SaAt V q) hm km => g_rsame (M := pruneS M) p q V h k hm km hfp)
 have HTR := Lib.hid (fun p V (h : SaAt V p) hm => g_right (M := resetS M) p V h hm (sz_right hrr) hfr hrr)
 have HTP := Lib.hid (fun p V (h : SaAt V p) hm => g_right (M := pruneS M) p V h hm (sz_right hrp) hfp hrp)
 have HRR2 := Lib.hid (fun y V (h : SaAt V y) hm => g_reset (M := resetS M) y V h hm hrr hcr)
 have HPP2 := Lib.hid (fun y V (h : SaAt V y) hm => g_prune (M := pruneS M) y V h hm hrp hcp)
 have HSSR := Lib.hid (fun p q V (h : SaAt V p) (k : SaAt V q) hm km => g_same (M := resetS M) p q V h k hm km hfr)
 have HSSP := Lib.hid (fun p q V (h : SaAt V p) (k : SaAt V q) hm km => g_same (M := pruneS M) p q V h k hm km hfp)
 rw [reset_again] at HRR2
 rw [prune_again M hr.ur] at HPP2
 have hop : (resetS M).op = [] := rfl
 have HOPN : Hid (∀ z : SaL, z.m = resetS M → z.op = []) := Lib.hid (fun z hz => (show z.m.op = [] by rw [hz]; rfl))
 replace hM := Lib.hid hM
 clear h z hf0 hr0 hc0 hr hf hz hc hc2 hrr hrp hcr hcp hfr hfp hop
 unfold saV saC
 obtain ⟨cS0, cS1, cS2, cS3, cS4, cS5⟩ := S.out.cells
 go_enter Tryz.func5, Tryz.ntmps5
 go_wp2_with fail
 refine (HMA.out _ S.out.at_).mono ?_
 rintro r1 w1 ⟨rfl, h1⟩
 clear cS0 cS1 cS2 cS3 cS4 cS5
 replace S := Lib.hid (S.out.below h1)
 clear h1
 obtain ⟨cS0, cS1, cS2, cS3, cS4, cS5⟩ := S.out.cells
 go_wp2_with fail
 refine (HRR.out _ S.out.at_).mono ?_
 rintro r2 w2 ⟨rfl, h2⟩
 clear cS0 cS1 cS2 cS3 cS4 cS5
 replace S := Lib.hid (S.out.below h2)
 clear h2
 obtain ⟨cS0, cS1, cS2, cS3, cS4, cS5⟩ := S.out.cells
 go_wp2_with fail
 refine (HNW.out _ S.out.at_).mono ?_
 rintro r3 w3 ⟨y, rfl, hy, hm, h3⟩
 clear cS0 cS1 cS2 cS3 cS4 cS5
 unfold saV saC
 have hb3 := below_one w3 (.cells #[.int .i64 y.now, .int .i64 y.hor, .slice y.oa y.op.length y.oc, .slice y.ua y.us.length y.uc, .slice y.sa y.su.length y.sc, .slice y.ta y.tb.length y.tc] 38)
 have hc3 := h3.trans (hb3.mono h3.size)
 have Y : Hid (SB w w3.heap.size 38 y (w3.alloc (.cells #[.int .i64 y.now, .int .i64 y.hor, .slice y.oa y.op.length y.oc, .slice y.ua y.us.length y.uc, .slice y.sa y.su.length y.sc, .slice y.ta y.tb.length y.tc] 38))) := Lib.hid (SB.new (S.out.frame.trans (h3.mono S.out.frame.size)) hy 38)
 replace S := Lib.hid (S.out.below hc3)
 clear hb3 hc3 h3 hy
 clear HMA HRR HNW
 have KK : RsK w w3.heap.size x y _ := ⟨S.out, Y.out⟩
 clear S Y
 go_wp2_with fail
 generalize w3.alloc (.cells #[.int .i64 y.now, .int .i64 y.hor, .slice y.oa y.op.length y.oc, .slice y.ua y.us.length y.uc, .slice y.sa y.su.length y.sc, .slice y.ta y.tb.length y.tc] 38) = w4 at *
 generalize w3.heap.size = g1 at *
 have HSC : Hid (∀ V, RsK w g1 x y V → V.cell? ⟨g1, 0, none⟩ = some (.int .i64 y.now) ∧ V.cell? ⟨g1, 1, none⟩ = some (.int .i64 y.hor) ∧ V.cell? ⟨g1, 2, none⟩ = some (.slice y.oa y.op.length y.oc) ∧ V.cell? ⟨g1, 3, none⟩ = some (.slice y.ua y.us.length y.uc) ∧ V.cell? ⟨g1, 4, none⟩ = some (.slice y.sa y.su.length y.sc) ∧ V.cell? ⟨g1, 5, none⟩ = some (.slice y.ta y.tb.length y.tc)) := fun V h => h.y.cells
 refine wp_region_held_drew (S := (fun V => V.cell? ⟨g1, 0, none⟩ = some (.int .i64 y.now) ∧ V.cell? ⟨g1, 1, none⟩ = some (.int .i64 y.hor) ∧ V.cell? ⟨g1, 2, none⟩ = some (.slice y.oa y.op.length y.oc) ∧ V.cell? ⟨g1, 3, none⟩ = some (.slice y.ua y.us.length y.uc) ∧ V.cell? ⟨g1, 4, none⟩ = some (.slice y.sa y.su.length y.sc) ∧ V.cell? ⟨g1, 5, none⟩ = some (.slice y.ta y.tb.length y.tc))) (by kernel_rfl) ?_ (fun hHeld => ?_)
 ·exact HSC.out _ (KK.below (Below.refl _ _).drew)
 have K0 := KK.below (Below.refl w4.heap.size w4).drew
 clear KK
 generalize w4.drew = V0 at *
 refine tV 0 17 ?_
 refine tV 2 19 ?_
 clear hHeld
 apply funnel (F := fun T ga gb ya yb => FkK w g1 x y M ga gb ya yb T)
 ·intro main
  refine wpAnyH_ready (rs := [1, 4, 5]) (by kernel_rfl) (by simp) ?_
  refine AllReadyH.cons (o := ⟨some 18, _, _, _, _, _⟩) rfl (fun K hK => ?_) (AllReadyH.cons (o := ⟨some 4, _, _, _, _, _⟩) rfl (fun K hK => ?_) (AllReadyH.cons (o := ⟨some 5, _, _, _, _, _⟩) rfl (fun K hK => ?_) AllReadyH.nil))
  ·go_simp
   refine (HRE.out y _ K0.y.at_ hm).mono ?_
   rintro r10 V1 ⟨ya, rfl, LA, MA, h0⟩
   have K1 := K0.below h0
   go_wp2_with fail
   refine hK.out _ _ ?_ (fun hH0 => ?_)
   ·exact HSC.out _ K1
   clear hK K hH0 h0
   (try simp only [Act.put, List.setIfInBounds_toArray, List.set_cons_zero, List.set_cons_succ])
   refine wpAnyH_ready (rs := [3, 4, 5]) (by kernel_rfl) (by simp) ?_
   refine AllReadyH.cons (o := ⟨some 20, _, _, _, _, _⟩) rfl (fun K hK => ?_) (AllReadyH.cons (o := ⟨some 4, _, _, _, _, _⟩) rfl (fun K hK => ?_) (AllReadyH.cons (o := ⟨some 5, _, _, _, _, _⟩) rfl (fun K hK => ?_) AllReadyH.nil))
   ·go_simp
    refine (HPR.out y _ K1.y.at_ hm).mono ?_
    rintro r11 V2 ⟨yb, rfl, LB, MB, h1⟩
    have K2 := K1.below h1
    replace LA := LA.below h1
    go_wp2_with fail
    refine hK.out _ _ ?_ (fun hH1 => ?_)
    ·exact HSC.out _ K2
    clear hK K hH1 h1 K1
    (try simp only [Act.put, List.setIfInBounds_toArray, List.set_cons_zero, List.set_cons_succ])
    refine wpAnyH_ready (rs := [4, 5]) (by kernel_rfl) (by simp) ?_
    refine AllReadyH.cons (o := ⟨some 4, _, _, _, _, _⟩) rfl (fun K hK => ?_) (AllReadyH.cons (o := ⟨some 5, _, _, _, _, _⟩) rfl (fun K hK => ?_) AllReadyH.nil)
    ·go_simp
     refine hK.out _ _ ?_ (fun hH2 => ?_)
     ·exact HSC.out _ (K2.below (below_one _ (.cells #[.int .i64 0, .int .i64 0, .slice none 0 0, .slice none 0 0, .slice none 0 0, .slice none 0 0] 38)))
     clear hK K hH2
     (try simp only [Act.put, List.setIfInBounds_toArray, List.set_cons_zero, List.set_cons_succ])
     have Z4 : SB w V2.heap.size 38 saO (V2.alloc (.cells #[.int .i64 0, .int .i64 0, .slice none 0 0, .slice none 0 0, .slice none 0 0, .slice none 0 0] 38)) := SB.new K2.s.frame (SaAt.zero V2) 38
     have NG4 : w.heap.size ≠ V2.heap.size ∧ g1 ≠ V2.heap.size := ⟨Nat.ne_of_lt K2.s.lt, Nat.ne_of_lt K2.y.lt⟩
     have K3 := K2.below (below_one V2 (.cells #[.int .i64 0, .int .i64 0, .slice none 0 0, .slice none 0 0, .slice none 0 0, .slice none 0 0] 38))
     replace LA := LA.below (below_one V2 (.cells #[.int .i64 0, .int .i64 0, .slice none 0 0, .slice none 0 0, .slice none 0 0, .slice none 0 0] 38))
     replace LB := LB.below (below_one V2 (.cells #[.int .i64 0, .int .i64 0, .slice none 0 0, .slice none 0 0, .slice none 0 0, .slice none 0 0] 38))
     clear K2
     generalize V2.alloc (.cells #[.int .i64 0, .int .i64 0, .slice none 0 0, .slice none 0 0, .slice none 0 0, .slice none 0 0] 38) = V3 at *
     generalize V2.heap.size = ga2 at *
     refine wpAnyH_ready (rs := [5]) (by kernel_rfl) (by simp) ?_
     refine AllReadyH.cons (o := ⟨some 5, _, _, _, _, _⟩) rfl (fun K hK => ?_) AllReadyH.nil
     go_simp
     refine hK.out _ _ ?_ (fun hH3 => ?_)
     ·exact HSC.out _ (K3.below (below_one _ (.cells #[.int .i64 0, .int .i64 0, .slice none 0 0, .slice none 0 0, .slice none 0 0, .slice none 0 0] 38)))
     clear hK K hH3
     (try simp only [Act.put, List.setIfInBounds_toArray, List.set_cons_zero, List.set_cons_succ])
     have Z5 : SB w V3.heap.size 38 saO (V3.alloc (.cells #[.int .i64 0, .int .i64 0, .slice none 0 0, .slice none 0 0, .slice none 0 0, .slice none 0 0] 38)) := SB.new K3.s.frame (SaAt.zero V3) 38
     have NG5 : w.heap.size ≠ V3.heap.size ∧ g1 ≠ V3.heap.size ∧ ga2 ≠ V3.heap.size := ⟨Nat.ne_of_lt K3.s.lt, Nat.ne_of_lt K3.y.lt, Nat.ne_of_lt Z4.lt⟩
     have K4 := K3.below (below_one V3 (.cells #[.int .i64 0, .int .i64 0, .slice none 0 0, .slice none 0 0, .slice none 0 0, .slice none 0 0] 38))
     replace Z4 := Z4.below (below_one V3 (.cells #[.int .i64 0, .int .i64 0, .slice none 0 0, .slice none 0 0, .slice none 0 0, .slice none 0 0] 38))
     replace LA := LA.below (below_one V3 (.cells #[.int .i64 0, .int .i64 0, .slice none 0 0, .slice none 0 0, .slice none 0 0, .slice none 0 0] 38))
     replace LB := LB.below (below_one V3 (.cells #[.int .i64 0, .int .i64 0, .slice none 0 0, .slice none 0 0, .slice none 0 0, .slice none 0 0] 38))
     clear K3
     generalize V3.alloc (.cells #[.int .i64 0, .int .i64 0, .slice none 0 0, .slice none 0 0, .slice none 0 0, .slice none 0 0] 38) = V4 at *
     generalize V3.heap.size = gb3 at *
     exact main _ _ _ _ _ ⟨K4, Z4, Z5, LA, MA, LB, MB, NG4.1, NG5.1, NG4.2, NG5.2.1, NG5.2.2⟩
    ·go_simp
     refine hK.out _ _ ?_ (fun hH2 => ?_)
     ·exact HSC.out _ (K2.below (below_one _ (.cells #[.int .i64 0, .int .i64 0, .slice none 0 0, .slice none 0 0, .slice none 0 0, .slice none 0 0] 38)))
     clear hK K hH2
     (try simp only [Act.put, List.setIfInBounds_toArray, List.set_cons_zero, List.set_cons_succ])
     have Z5 : SB w V2.heap.size 38 saO (V2.alloc (.cells #[.int .i64 0, .int .i64 0, .slice none 0 0, .slice none 0 0, .slice none 0 0, .slice none 0 0] 38)) := SB.new K2.s.frame (SaAt.zero V2) 38
     have NG5 : w.heap.size ≠ V2.heap.size ∧ g1 ≠ V2.heap.size := ⟨Nat.ne_of_lt K2.s.lt, Nat.ne_of_lt K2.y.lt⟩
     have K3 := K2.below (below_one V2 (.cells #[.int .i64 0, .int .i64 0, .slice none 0 0, .slice none 0 0, .slice none 0 0, .slice none 0 0] 38))
     replace LA := LA.below (below_one V2 (.cells #[.int .i64 0, .int .i64 0, .slice none 0 0, .slice none 0 0, .slice none 0 0, .slice none 0 0] 38))
     replace LB := LB.below (below_one V2 (.cells #[.int .i64 0, .int .i64 0, .slice none 0 0, .slice none 0 0, .slice none 0 0, .slice none 0 0] 38))
     clear K2
     generalize V2.alloc (.cells #[.int .i64 0, .int .i64 0, .slice none 0 0, .slice none 0 0, .slice none 0 0, .slice none 0 0] 38) = V3 at *
     generalize V2.heap.size = gb2 at *
     refine wpAnyH_ready (rs := [4]) (by kernel_rfl) (by simp) ?_
     refine AllReadyH.cons (o := ⟨some 4, _, _, _, _, _⟩) rfl (fun K hK => ?_) AllReadyH.nil
     go_simp
     refine hK.out _ _ ?_ (fun hH3 => ?_)
     ·exact HSC.out _ (K3.below (below_one _ (.cells #[.int .i64 0, .int .i64 0, .slice none 0 0, .slice none 0 0, .slice none 0 0, .slice none 0 0] 38)))
     clear hK K hH3
     (try simp only [Act.put, List.setIfInBounds_toArray, List.set_cons_zero, List.set_cons_succ])
     have Z4 : SB w V3.heap.size 38 saO (V3.alloc (.cells #[.int .i64 0, .int .i64 0, .slice none 0 0, .slice none 0 0, .slice none 0 0, .slice none 0 0] 38)) := SB.new K3.s.frame (SaAt.zero V3) 38
     have NG4 : w.heap.size ≠ V3.heap.size ∧ g1 ≠ V3.heap.size ∧ gb2 ≠ V3.heap.size := ⟨Nat.ne_of_lt K3.s.lt, Nat.ne_of_lt K3.y.lt, Nat.ne_of_lt Z5.lt⟩
     have K4 := K3.below (below_one V3 (.cells #[.int .i64 0, .int .i64 0, .slice none 0 0, .slice none 0 0, .slice none 0 0, .slice none 0 0] 38))
     replace Z5 := Z5.below (below_one V3 (.cells #[.int .i64 0, .int .i64 0, .slice none 0 0, .slice none 0 0, .slice none 0 0, .slice none 0 0] 38))
     replace LA := LA.below (below_one V3 (.cells #[.int .i64 0, .int .i64 0, .slice none 0 0, .slice none 0 0, .slice none 0 0, .slice none 0 0] 38))
     replace LB := LB.below (below_one V3 (.cells #[.int .i64 0, .int .i64 0, .slice none 0 0, .slice none 0 0, .slice none 0 0, .slice none 0 0] 38))
     clear K3
     generalize V3.alloc (.cells #[.int .i64 0, .int .i64 0, .slice none 0 0, .slice none 0 0, .slice none 0 0, .slice none 0 0] 38) = V4 at *
     generalize V3.heap.size = ga3 at *
     exact main _ _ _ _ _ ⟨K4, Z4, Z5, LA, MA, LB, MB, NG4.1, NG5.1, NG4.2.1, NG5.2, NG4.2.2.symm⟩
   ·go_simp
    refine hK.out _ _ ?_ (fun hH1 => ?_)
    ·exact HSC.out _ (K1.below (below_one _ (.cells #[.int .i64 0, .int .i64 0, .slice none 0 0, .slice none 0 0, .slice none 0 0, .slice none 0 0] 38)))
    clear hK K hH1
    (try simp only [Act.put, List.setIfInBounds_toArray, List.set_cons_zero, List.set_cons_succ])
    have Z4 : SB w V1.heap.size 38 saO (V1.alloc (.cells #[.int .i64 0, .int .i64 0, .slice none 0 0, .slice none 0 0, .slice none 0 0, .slice none 0 0] 38)) := SB.new K1.s.frame (SaAt.zero V1) 38
    have NG4 : w.heap.size ≠ V1.heap.size ∧ g1 ≠ V1.heap.size := ⟨Nat.ne_of_lt K1.s.lt, Nat.ne_of_lt K1.y.lt⟩
    have K2 := K1.below (below_one V1 (.cells #[.int .i64 0, .int .i64 0, .slice none 0 0, .slice none 0 0, .slice none 0 0, .slice none 0 0] 38))
    replace LA := LA.below (below_one V1 (.cells #[.int .i64 0, .int .i64 0, .slice none 0 0, .slice none 0 0, .slice none 0 0, .slice none 0 0] 38))
    clear K1
    generalize V1.alloc (.cells #[.int .i64 0, .int .i64 0, .slice none 0 0, .slice none 0 0, .slice none 0 0, .slice none 0 0] 38) = V2 at *
    generalize V1.heap.size = ga1 at *
    refine wpAnyH_ready (rs := [3, 5]) (by kernel_rfl) (by simp) ?_
    refine AllReadyH.cons (o := ⟨some 20, _, _, _, _, _⟩) rfl (fun K hK => ?_) (AllReadyH.cons (o := ⟨some 5, _, _, _, _, _⟩) rfl (fun K hK => ?_) AllReadyH.nil)
    ·go_simp
     refine (HPR.out y _ K2.y.at_ hm).mono ?_
     rintro r12 V3 ⟨yb, rfl, LB, MB, h2⟩
     have K3 := K2.below h2
     replace Z4 := Z4.below h2
     replace LA := LA.below h2
     go_wp2_with fail
     refine hK.out _ _ ?_ (fun hH2 => ?_)
     ·exact HSC.out _ K3
     clear hK K hH2 h2 K2
     (try simp only [Act.put, List.setIfInBounds_toArray, List.set_cons_zero, List.set_cons_succ])
     refine wpAnyH_ready (rs := [5]) (by kernel_rfl) (by simp) ?_
     refine AllReadyH.cons (o := ⟨some 5, _, _, _, _, _⟩) rfl (fun K hK => ?_) AllReadyH.nil
     go_simp
     refine hK.out _ _ ?_ (fun hH3 => ?_)
     ·exact HSC.out _ (K3.below (below_one _ (.cells #[.int .i64 0, .int .i64 0, .slice none 0 0, .slice none 0 0, .slice none 0 0, .slice none 0 0] 38)))
     clear hK K hH3
     (try simp only [Act.put, List.setIfInBounds_toArray, List.set_cons_zero, List.set_cons_succ])
     have Z5 : SB w V3.heap.size 38 saO (V3.alloc (.cells #[.int .i64 0, .int .i64 0, .slice none 0 0, .slice none 0 0, .slice none 0 0, .slice none 0 0] 38)) := SB.new K3.s.frame (SaAt.zero V3) 38
     have NG5 : w.heap.size ≠ V3.heap.size ∧ g1 ≠ V3.heap.size ∧ ga1 ≠ V3.heap.size := ⟨Nat.ne_of_lt K3.s.lt, Nat.ne_of_lt K3.y.lt, Nat.ne_of_lt Z4.lt⟩
     have K4 := K3.below (below_one V3 (.cells #[.int .i64 0, .int .i64 0, .slice none 0 0, .slice none 0 0, .slice none 0 0, .slice none 0 0] 38))
     replace Z4 := Z4.below (below_one V3 (.cells #[.int .i64 0, .int .i64 0, .slice none 0 0, .slice none 0 0, .slice none 0 0, .slice none 0 0] 38))
     replace LA := LA.below (below_one V3 (.cells #[.int .i64 0, .int .i64 0, .slice none 0 0, .slice none 0 0, .slice none 0 0, .slice none 0 0] 38))
     replace LB := LB.below (below_one V3 (.cells #[.int .i64 0, .int .i64 0, .slice none 0 0, .slice none 0 0, .slice none 0 0, .slice none 0 0] 38))
     clear K3
     generalize V3.alloc (.cells #[.int .i64 0, .int .i64 0, .slice none 0 0, .slice none 0 0, .slice none 0 0, .slice none 0 0] 38) = V4 at *
     generalize V3.heap.size = gb3 at *
     exact main _ _ _ _ _ ⟨K4, Z4, Z5, LA, MA, LB, MB, NG4.1, NG5.1, NG4.2, NG5.2.1, NG5.2.2⟩
    ·go_simp
     refine hK.out _ _ ?_ (fun hH2 => ?_)
     ·exact HSC.out _ (K2.below (below_one _ (.cells #[.int .i64 0, .int .i64 0, .slice none 0 0, .slice none 0 0, .slice none 0 0, .slice none 0 0] 38)))
     clear hK K hH2
     (try simp only [Act.put, List.setIfInBounds_toArray, List.set_cons_zero, List.set_cons_succ])
     have Z5 : SB w V2.heap.size 38 saO (V2.alloc (.cells #[.int .i64 0, .int .i64 0, .slice none 0 0, .slice none 0 0, .slice none 0 0, .slice none 0 0] 38)) := SB.new K2.s.frame (SaAt.zero V2) 38
     have NG5 : w.heap.size ≠ V2.heap.size ∧ g1 ≠ V2.heap.size ∧ ga1 ≠ V2.heap.size := ⟨Nat.ne_of_lt K2.s.lt, Nat.ne_of_lt K2.y.lt, Nat.ne_of_lt Z4.lt⟩
     have K3 := K2.below (below_one V2 (.cells #[.int .i64 0, .int .i64 0, .slice none 0 0, .slice none 0 0, .slice none 0 0, .slice none 0 0] 38))
     replace Z4 := Z4.below (below_one V2 (.cells #[.int .i64 0, .int .i64 0, .slice none 0 0, .slice none 0 0, .slice none 0 0, .slice none 0 0] 38))
     replace LA := LA.below (below_one V2 (.cells #[.int .i64 0, .int .i64 0, .slice none 0 0, .slice none 0 0, .slice none 0 0, .slice none 0 0] 38))
     clear K2
     generalize V2.alloc (.cells #[.int .i64 0, .int .i64 0, .slice none 0 0, .slice none 0 0, .slice none 0 0, .slice none 0 0] 38) = V3 at *
     generalize V2.heap.size = gb2 at *
     refine wpAnyH_ready (rs := [3]) (by kernel_rfl) (by simp) ?_
     refine AllReadyH.cons (o := ⟨some 20, _, _, _, _, _⟩) rfl (fun K hK => ?_) AllReadyH.nil
     go_simp
     refine (HPR.out y _ K3.y.at_ hm).mono ?_
     rintro r13 V4 ⟨yb, rfl, LB, MB, h3⟩
     have K4 := K3.below h3
     replace Z4 := Z4.below h3
     replace Z5 := Z5.below h3
     replace LA := LA.below h3
     go_wp2_with fail
     refine hK.out _ _ ?_ (fun hH3 => ?_)
     ·exact HSC.out _ K4
     clear hK K hH3 h3 K3
     (try simp only [Act.put, List.setIfInBounds_toArray, List.set_cons_zero, List.set_cons_succ])
     exact main _ _ _ _ _ ⟨K4, Z4, Z5, LA, MA, LB, MB, NG4.1, NG5.1, NG4.2, NG5.2.1, NG5.2.2⟩
   ·go_simp
    refine hK.out _ _ ?_ (fun hH1 => ?_)
    ·exact HSC.out _ (K1.below (below_one _ (.cells #[.int .i64 0, .int .i64 0, .slice none 0 0, .slice none 0 0, .slice none 0 0, .slice none 0 0] 38)))
    clear hK K hH1
    (try simp only [Act.put, List.setIfInBounds_toArray, List.set_cons_zero, List.set_cons_succ])
    have Z5 : SB w V1.heap.size 38 saO (V1.alloc (.cells #[.int .i64 0, .int .i64 0, .slice none 0 0, .slice none 0 0, .slice none 0 0, .slice none 0 0] 38)) := SB.new K1.s.frame (SaAt.zero V1) 38
    have NG5 : w.heap.size ≠ V1.heap.size ∧ g1 ≠ V1.heap.size := ⟨Nat.ne_of_lt K1.s.lt, Nat.ne_of_lt K1.y.lt⟩
    have K2 := K1.below (below_one V1 (.cells #[.int .i64 0, .int .i64 0, .slice none 0 0, .slice none 0 0, .slice none 0 0, .slice none 0 0] 38))
    replace LA := LA.below (below_one V1 (.cells #[.int .i64 0, .int .i64 0, .slice none 0 0, .slice none 0 0, .slice none 0 0, .slice none 0 0] 38))
    clear K1
    generalize V1.alloc (.cells #[.int .i64 0, .int .i64 0, .slice none 0 0, .slice none 0 0, .slice none 0 0, .slice none 0 0] 38) = V2 at *
    generalize V1.heap.size = gb1 at *
    refine wpAnyH_ready (rs := [3, 4]) (by kernel_rfl) (by simp) ?_
    refine AllReadyH.cons (o := ⟨some 20, _, _, _, _, _⟩) rfl (fun K hK => ?_) (AllReadyH.cons (o := ⟨some 4, _, _, _, _, _⟩) rfl (fun K hK => ?_) AllReadyH.nil)
    ·go_simp
     refine (HPR.out y _ K2.y.at_ hm).mono ?_
     rintro r12 V3 ⟨yb, rfl, LB, MB, h2⟩
     have K3 := K2.below h2
     replace Z5 := Z5.below h2
     replace LA := LA.below h2
     go_wp2_with fail
     refine hK.out _ _ ?_ (fun hH2 => ?_)
     ·exact HSC.out _ K3
     clear hK K hH2 h2 K2
     (try simp only [Act.put, List.setIfInBounds_toArray, List.set_cons_zero, List.set_cons_succ])
     refine wpAnyH_ready (rs := [4]) (by kernel_rfl) (by simp) ?_
     refine AllReadyH.cons (o := ⟨some 4, _, _, _, _, _⟩) rfl (fun K hK => ?_) AllReadyH.nil
     go_simp
     refine hK.out _ _ ?_ (fun hH3 => ?_)
     ·exact HSC.out _ (K3.below (below_one _ (.cells #[.int .i64 0, .int .i64 0, .slice none 0 0, .slice none 0 0, .slice none 0 0, .slice none 0 0] 38)))
     clear hK K hH3
     (try simp only [Act.put, List.setIfInBounds_toArray, List.set_cons_zero, List.set_cons_succ])
     have Z4 : SB w V3.heap.size 38 saO (V3.alloc (.cells #[.int .i64 0, .int .i64 0, .slice none 0 0, .slice none 0 0, .slice none 0 0, .slice none 0 0] 38)) := SB.new K3.s.frame (SaAt.zero V3) 38
     have NG4 : w.heap.size ≠ V3.heap.size ∧ g1 ≠ V3.heap.size ∧ gb1 ≠ V3.heap.size := ⟨Nat.ne_of_lt K3.s.lt, Nat.ne_of_lt K3.y.lt, Nat.ne_of_lt Z5.lt⟩
     have K4 := K3.below (below_one V3 (.cells #[.int .i64 0, .int .i64 0, .slice none 0 0, .slice none 0 0, .slice none 0 0, .slice none 0 0] 38))
     replace Z5 := Z5.below (below_one V3 (.cells #[.int .i64 0, .int .i64 0, .slice none 0 0, .slice none 0 0, .slice none 0 0, .slice none 0 0] 38))
     replace LA := LA.below (below_one V3 (.cells #[.int .i64 0, .int .i64 0, .slice none 0 0, .slice none 0 0, .slice none 0 0, .slice none 0 0] 38))
     replace LB := LB.below (below_one V3 (.cells #[.int .i64 0, .int .i64 0, .slice none 0 0, .slice none 0 0, .slice none 0 0, .slice none 0 0] 38))
     clear K3
     generalize V3.alloc (.cells #[.int .i64 0, .int .i64 0, .slice none 0 0, .slice none 0 0, .slice none 0 0, .slice none 0 0] 38) = V4 at *
     generalize V3.heap.size = ga3 at *
     exact main _ _ _ _ _ ⟨K4, Z4, Z5, LA, MA, LB, MB, NG4.1, NG5.1, NG4.2.1, NG5.2, NG4.2.2.symm⟩
    ·go_simp
     refine hK.out _ _ ?_ (fun hH2 => ?_)
     ·exact HSC.out _ (K2.below (below_one _ (.cells #[.int .i64 0, .int .i64 0, .slice none 0 0, .slice none 0 0, .slice none 0 0, .slice none 0 0] 38)))
     clear hK K hH2
     (try simp only [Act.put, List.setIfInBounds_toArray, List.set_cons_zero, List.set_cons_succ])
     have Z4 : SB w V2.heap.size 38 saO (V2.alloc (.cells #[.int .i64 0, .int .i64 0, .slice none 0 0, .slice none 0 0, .slice none 0 0, .slice none 0 0] 38)) := SB.new K2.s.frame (SaAt.zero V2) 38
     have NG4 : w.heap.size ≠ V2.heap.size ∧ g1 ≠ V2.heap.size ∧ gb1 ≠ V2.heap.size := ⟨Nat.ne_of_lt K2.s.lt, Nat.ne_of_lt K2.y.lt, Nat.ne_of_lt Z5.lt⟩
     have K3 := K2.below (below_one V2 (.cells #[.int .i64 0, .int .i64 0, .slice none 0 0, .slice none 0 0, .slice none 0 0, .slice none 0 0] 38))
     replace Z5 := Z5.below (below_one V2 (.cells #[.int .i64 0, .int .i64 0, .slice none 0 0, .slice none 0 0, .slice none 0 0, .slice none 0 0] 38))
     replace LA := LA.below (below_one V2 (.cells #[.int .i64 0, .int .i64 0, .slice none 0 0, .slice none 0 0, .slice none 0 0, .slice none 0 0] 38))
     clear K2
     generalize V2.alloc (.cells #[.int .i64 0, .int .i64 0, .slice none 0 0, .slice none 0 0, .slice none 0 0, .slice none 0 0] 38) = V3 at *
     generalize V2.heap.size = ga2 at *
     refine wpAnyH_ready (rs := [3]) (by kernel_rfl) (by simp) ?_
     refine AllReadyH.cons (o := ⟨some 20, _, _, _, _, _⟩) rfl (fun K hK => ?_) AllReadyH.nil
     go_simp
     refine (HPR.out y _ K3.y.at_ hm).mono ?_
     rintro r13 V4 ⟨yb, rfl, LB, MB, h3⟩
     have K4 := K3.below h3
     replace Z4 := Z4.below h3
     replace Z5 := Z5.below h3
     replace LA := LA.below h3
     go_wp2_with fail
     refine hK.out _ _ ?_ (fun hH3 => ?_)
     ·exact HSC.out _ K4
     clear hK K hH3 h3 K3
     (try simp only [Act.put, List.setIfInBounds_toArray, List.set_cons_zero, List.set_cons_succ])
     exact main _ _ _ _ _ ⟨K4, Z4, Z5, LA, MA, LB, MB, NG4.1, NG5.1, NG4.2.1, NG5.2, NG4.2.2.symm⟩
  ·go_simp
   refine hK.out _ _ ?_ (fun hH0 => ?_)
   ·exact HSC.out _ (K0.below (below_one _ (.cells #[.int .i64 0, .int .i64 0, .slice none 0 0, .slice none 0 0, .slice none 0 0, .slice none 0 0] 38)))
   clear hK K hH0
   (try simp only [Act.put, List.setIfInBounds_toArray, List.set_cons_zero, List.set_cons_succ])
   have Z4 : SB w V0.heap.size 38 saO (V0.alloc (.cells #[.int .i64 0, .int .i64 0, .slice none 0 0, .slice none 0 0, .slice none 0 0, .slice none 0 0] 38)) := SB.new K0.s.frame (SaAt.zero V0) 38
   have NG4 : w.heap.size ≠ V0.heap.size ∧ g1 ≠ V0.heap.size := ⟨Nat.ne_of_lt K0.s.lt, Nat.ne_of_lt K0.y.lt⟩
   have K1 := K0.below (below_one V0 (.cells #[.int .i64 0, .int .i64 0, .slice none 0 0, .slice none 0 0, .slice none 0 0, .slice none 0 0] 38))
   generalize V0.alloc (.cells #[.int .i64 0, .int .i64 0, .slice none 0 0, .slice none 0 0, .slice none 0 0, .slice none 0 0] 38) = V1 at *
   generalize V0.heap.size = ga0 at *
   refine wpAnyH_ready (rs := [1, 5]) (by kernel_rfl) (by simp) ?_
   refine AllReadyH.cons (o := ⟨some 18, _, _, _, _, _⟩) rfl (fun K hK => ?_) (AllReadyH.cons (o := ⟨some 5, _, _, _, _, _⟩) rfl (fun K hK => ?_) AllReadyH.nil)
   ·go_simp
    refine (HRE.out y _ K1.y.at_ hm).mono ?_
    rintro r11 V2 ⟨ya, rfl, LA, MA, h1⟩
    have K2 := K1.below h1
    replace Z4 := Z4.below h1
    go_wp2_with fail
    refine hK.out _ _ ?_ (fun hH1 => ?_)
    ·exact HSC.out _ K2
    clear hK K hH1 h1 K1
    (try simp only [Act.put, List.setIfInBounds_toArray, List.set_cons_zero, List.set_cons_succ])
    refine wpAnyH_ready (rs := [3, 5]) (by kernel_rfl) (by simp) ?_
    refine AllReadyH.cons (o := ⟨some 20, _, _, _, _, _⟩) rfl (fun K hK => ?_) (AllReadyH.cons (o := ⟨some 5, _, _, _, _, _⟩) rfl (fun K hK => ?_) AllReadyH.nil)
    ·go_simp
     refine (HPR.out y _ K2.y.at_ hm).mono ?_
     rintro r12 V3 ⟨yb, rfl, LB, MB, h2⟩
     have K3 := K2.below h2
     replace Z4 := Z4.below h2
     replace LA := LA.below h2
     go_wp2_with fail
     refine hK.out _ _ ?_ (fun hH2 => ?_)
     ·exact HSC.out _ K3
     clear hK K hH2 h2 K2
     (try simp only [Act.put, List.setIfInBounds_toArray, List.set_cons_zero, List.set_cons_succ])
     refine wpAnyH_ready (rs := [5]) (by kernel_rfl) (by simp) ?_
     refine AllReadyH.cons (o := ⟨some 5, _, _, _, _, _⟩) rfl (fun K hK => ?_) AllReadyH.nil
     go_simp
     refine hK.out _ _ ?_ (fun hH3 => ?_)
     ·exact HSC.out _ (K3.below (below_one _ (.cells #[.int .i64 0, .int .i64 0, .slice none 0 0, .slice none 0 0, .slice none 0 0, .slice none 0 0] 38)))
     clear hK K hH3
     (try simp only [Act.put, List.setIfInBounds_toArray, List.set_cons_zero, List.set_cons_succ])
     have Z5 : SB w V3.heap.size 38 saO (V3.alloc (.cells #[.int .i64 0, .int .i64 0, .slice none 0 0, .slice none 0 0, .slice none 0 0, .slice none 0 0] 38)) := SB.new K3.s.frame (SaAt.zero V3) 38
     have NG5 : w.heap.size ≠ V3.heap.size ∧ g1 ≠ V3.heap.size ∧ ga0 ≠ V3.heap.size := ⟨Nat.ne_of_lt K3.s.lt, Nat.ne_of_lt K3.y.lt, Nat.ne_of_lt Z4.lt⟩
     have K4 := K3.below (below_one V3 (.cells #[.int .i64 0, .int .i64 0, .slice none 0 0, .slice none 0 0, .slice none 0 0, .slice none 0 0] 38))
     replace Z4 := Z4.below (below_one V3 (.cells #[.int .i64 0, .int .i64 0, .slice none 0 0, .slice none 0 0, .slice none 0 0, .slice none 0 0] 38))
     replace LA := LA.below (below_one V3 (.cells #[.int .i64 0, .int .i64 0, .slice none 0 0, .slice none 0 0, .slice none 0 0, .slice none 0 0] 38))
     replace LB := LB.below (below_one V3 (.cells #[.int .i64 0, .int .i64 0, .slice none 0 0, .slice none 0 0, .slice none 0 0, .slice none 0 0] 38))
     clear K3
     generalize V3.alloc (.cells #[.int .i64 0, .int .i64 0, .slice none 0 0, .slice none 0 0, .slice none 0 0, .slice none 0 0] 38) = V4 at *
     generalize V3.heap.size = gb3 at *
     exact main _ _ _ _ _ ⟨K4, Z4, Z5, LA, MA, LB, MB, NG4.1, NG5.1, NG4.2, NG5.2.1, NG5.2.2⟩
    ·go_simp
     refine hK.out _ _ ?_ (fun hH2 => ?_)
     ·exact HSC.out _ (K2.below (below_one _ (.cells #[.int .i64 0, .int .i64 0, .slice none 0 0, .slice none 0 0, .slice none 0 0, .slice none 0 0] 38)))
     clear hK K hH2
     (try simp only [Act.put, List.setIfInBounds_toArray, List.set_cons_zero, List.set_cons_succ])
     have Z5 : SB w V2.heap.size 38 saO (V2.alloc (.cells #[.int .i64 0, .int .i64 0, .slice none 0 0, .slice none 0 0, .slice none 0 0, .slice none 0 0] 38)) := SB.new K2.s.frame (SaAt.zero V2) 38
     have NG5 : w.heap.size ≠ V2.heap.size ∧ g1 ≠ V2.heap.size ∧ ga0 ≠ V2.heap.size := ⟨Nat.ne_of_lt K2.s.lt, Nat.ne_of_lt K2.y.lt, Nat.ne_of_lt Z4.lt⟩
     have K3 := K2.below (below_one V2 (.cells #[.int .i64 0, .int .i64 0, .slice none 0 0, .slice none 0 0, .slice none 0 0, .slice none 0 0] 38))
     replace Z4 := Z4.below (below_one V2 (.cells #[.int .i64 0, .int .i64 0, .slice none 0 0, .slice none 0 0, .slice none 0 0, .slice none 0 0] 38))
     replace LA := LA.below (below_one V2 (.cells #[.int .i64 0, .int .i64 0, .slice none 0 0, .slice none 0 0, .slice none 0 0, .slice none 0 0] 38))
     clear K2
     generalize V2.alloc (.cells #[.int .i64 0, .int .i64 0, .slice none 0 0, .slice none 0 0, .slice none 0 0, .slice none 0 0] 38) = V3 at *
     generalize V2.heap.size = gb2 at *
     refine wpAnyH_ready (rs := [3]) (by kernel_rfl) (by simp) ?_
     refine AllReadyH.cons (o := ⟨some 20, _, _, _, _, _⟩) rfl (fun K hK => ?_) AllReadyH.nil
     go_simp
     refine (HPR.out y _ K3.y.at_ hm).mono ?_
     rintro r13 V4 ⟨yb, rfl, LB, MB, h3⟩
     have K4 := K3.below h3
     replace Z4 := Z4.below h3
     replace Z5 := Z5.below h3
     replace LA := LA.below h3
     go_wp2_with fail
     refine hK.out _ _ ?_ (fun hH3 => ?_)
     ·exact HSC.out _ K4
     clear hK K hH3 h3 K3
     (try simp only [Act.put, List.setIfInBounds_toArray, List.set_cons_zero, List.set_cons_succ])
     exact main _ _ _ _ _ ⟨K4, Z4, Z5, LA, MA, LB, MB, NG4.1, NG5.1, NG4.2, NG5.2.1, NG5.2.2⟩
   ·go_simp
    refine hK.out _ _ ?_ (fun hH1 => ?_)
    ·exact HSC.out _ (K1.below (below_one _ (.cells #[.int .i64 0, .int .i64 0, .slice none 0 0, .slice none 0 0, .slice none 0 0, .slice none 0 0] 38)))
    clear hK K hH1
    (try simp only [Act.put, List.setIfInBounds_toArray, List.set_cons_zero, List.set_cons_succ])
    have Z5 : SB w V1.heap.size 38 saO (V1.alloc (.cells #[.int .i64 0, .int .i64 0, .slice none 0 0, .slice none 0 0, .slice none 0 0, .slice none 0 0] 38)) := SB.new K1.s.frame (SaAt.zero V1) 38
    have NG5 : w.heap.size ≠ V1.heap.size ∧ g1 ≠ V1.heap.size ∧ ga0 ≠ V1.heap.size := ⟨Nat.ne_of_lt K1.s.lt, Nat.ne_of_lt K1.y.lt, Nat.ne_of_lt Z4.lt⟩
    have K2 := K1.below (below_one V1 (.cells #[.int .i64 0, .int .i64 0, .slice none 0 0, .slice none 0 0, .slice none 0 0, .slice none 0 0] 38))
    replace Z4 := Z4.below (below_one V1 (.cells #[.int .i64 0, .int .i64 0, .slice none 0 0, .slice none 0 0, .slice none 0 0, .slice none 0 0] 38))
    clear K1
    generalize V1.alloc (.cells #[.int .i64 0, .int .i64 0, .slice none 0 0, .slice none 0 0, .slice none 0 0, .slice none 0 0] 38) = V2 at *
    generalize V1.heap.size = gb1 at *
    refine wpAnyH_ready (rs := [1]) (by kernel_rfl) (by simp) ?_
    refine AllReadyH.cons (o := ⟨some 18, _, _, _, _, _⟩) rfl (fun K hK => ?_) AllReadyH.nil
    go_simp
    refine (HRE.out y _ K2.y.at_ hm).mono ?_
    rintro r12 V3 ⟨ya, rfl, LA, MA, h2⟩
    have K3 := K2.below h2
    replace Z4 := Z4.below h2
    replace Z5 := Z5.below h2
    go_wp2_with fail
    refine hK.out _ _ ?_ (fun hH2 => ?_)
    ·exact HSC.out _ K3
    clear hK K hH2 h2 K2
    (try simp only [Act.put, List.setIfInBounds_toArray, List.set_cons_zero, List.set_cons_succ])
    refine wpAnyH_ready (rs := [3]) (by kernel_rfl) (by simp) ?_
    refine AllReadyH.cons (o := ⟨some 20, _, _, _, _, _⟩) rfl (fun K hK => ?_) AllReadyH.nil
    go_simp
    refine (HPR.out y _ K3.y.at_ hm).mono ?_
    rintro r13 V4 ⟨yb, rfl, LB, MB, h3⟩
    have K4 := K3.below h3
    replace Z4 := Z4.below h3
    replace Z5 := Z5.below h3
    replace LA := LA.below h3
    go_wp2_with fail
    refine hK.out _ _ ?_ (fun hH3 => ?_)
    ·exact HSC.out _ K4
    clear hK K hH3 h3 K3
    (try simp only [Act.put, List.setIfInBounds_toArray, List.set_cons_zero, List.set_cons_succ])
    exact main _ _ _ _ _ ⟨K4, Z4, Z5, LA, MA, LB, MB, NG4.1, NG5.1, NG4.2, NG5.2.1, NG5.2.2⟩
  ·go_simp
   refine hK.out _ _ ?_ (fun hH0 => ?_)
   ·exact HSC.out _ (K0.below (below_one _ (.cells #[.int .i64 0, .int .i64 0, .slice none 0 0, .slice none 0 0, .slice none 0 0, .slice none 0 0] 38)))
   clear hK K hH0
   (try simp only [Act.put, List.setIfInBounds_toArray, List.set_cons_zero, List.set_cons_succ])
   have Z5 : SB w V0.heap.size 38 saO (V0.alloc (.cells #[.int .i64 0, .int .i64 0, .slice none 0 0, .slice none 0 0, .slice none 0 0, .slice none 0 0] 38)) := SB.new K0.s.frame (SaAt.zero V0) 38
   have NG5 : w.heap.size ≠ V0.heap.size ∧ g1 ≠ V0.heap.size := ⟨Nat.ne_of_lt K0.s.lt, Nat.ne_of_lt K0.y.lt⟩
   have K1 := K0.below (below_one V0 (.cells #[.int .i64 0, .int .i64 0, .slice none 0 0, .slice none 0 0, .slice none 0 0, .slice none 0 0] 38))
   generalize V0.alloc (.cells #[.int .i64 0, .int .i64 0, .slice none 0 0, .slice none 0 0, .slice none 0 0, .slice none 0 0] 38) = V1 at *
   generalize V0.heap.size = gb0 at *
   refine wpAnyH_ready (rs := [1, 4]) (by kernel_rfl) (by simp) ?_
   refine AllReadyH.cons (o := ⟨some 18, _, _, _, _, _⟩) rfl (fun K hK => ?_) (AllReadyH.cons (o := ⟨some 4, _, _, _, _, _⟩) rfl (fun K hK => ?_) AllReadyH.nil)
   ·go_simp
    refine (HRE.out y _ K1.y.at_ hm).mono ?_
    rintro r11 V2 ⟨ya, rfl, LA, MA, h1⟩
    have K2 := K1.below h1
    replace Z5 := Z5.below h1
    go_wp2_with fail
    refine hK.out _ _ ?_ (fun hH1 => ?_)
    ·exact HSC.out _ K2
    clear hK K hH1 h1 K1
    (try simp only [Act.put, List.setIfInBounds_toArray, List.set_cons_zero, List.set_cons_succ])
    refine wpAnyH_ready (rs := [3, 4]) (by kernel_rfl) (by simp) ?_
    refine AllReadyH.cons (o := ⟨some 20, _, _, _, _, _⟩) rfl (fun K hK => ?_) (AllReadyH.cons (o := ⟨some 4, _, _, _, _, _⟩) rfl (fun K hK => ?_) AllReadyH.nil)
    ·go_simp
     refine (HPR.out y _ K2.y.at_ hm).mono ?_
     rintro r12 V3 ⟨yb, rfl, LB, MB, h2⟩
     have K3 := K2.below h2
     replace Z5 := Z5.below h2
     replace LA := LA.below h2
     go_wp2_with fail
     refine hK.out _ _ ?_ (fun hH2 => ?_)
     ·exact HSC.out _ K3
     clear hK K hH2 h2 K2
     (try simp only [Act.put, List.setIfInBounds_toArray, List.set_cons_zero, List.set_cons_succ])
     refine wpAnyH_ready (rs := [4]) (by kernel_rfl) (by simp) ?_
     refine AllReadyH.cons (o := ⟨some 4, _, _, _, _, _⟩) rfl (fun K hK => ?_) AllReadyH.nil
     go_simp
     refine hK.out _ _ ?_ (fun hH3 => ?_)
     ·exact HSC.out _ (K3.below (below_one _ (.cells #[.int .i64 0, .int .i64 0, .slice none 0 0, .slice none 0 0, .slice none 0 0, .slice none 0 0] 38)))
     clear hK K hH3
     (try simp only [Act.put, List.setIfInBounds_toArray, List.set_cons_zero, List.set_cons_succ])
     have Z4 : SB w V3.heap.size 38 saO (V3.alloc (.cells #[.int .i64 0, .int .i64 0, .slice none 0 0, .slice none 0 0, .slice none 0 0, .slice none 0 0] 38)) := SB.new K3.s.frame (SaAt.zero V3) 38
     have NG4 : w.heap.size ≠ V3.heap.size ∧ g1 ≠ V3.heap.size ∧ gb0 ≠ V3.heap.size := ⟨Nat.ne_of_lt K3.s.lt, Nat.ne_of_lt K3.y.lt, Nat.ne_of_lt Z5.lt⟩
     have K4 := K3.below (below_one V3 (.cells #[.int .i64 0, .int .i64 0, .slice none 0 0, .slice none 0 0, .slice none 0 0, .slice none 0 0] 38))
     replace Z5 := Z5.below (below_one V3 (.cells #[.int .i64 0, .int .i64 0, .slice none 0 0, .slice none 0 0, .slice none 0 0, .slice none 0 0] 38))
     replace LA := LA.below (below_one V3 (.cells #[.int .i64 0, .int .i64 0, .slice none 0 0, .slice none 0 0, .slice none 0 0, .slice none 0 0] 38))
     replace LB := LB.below (below_one V3 (.cells #[.int .i64 0, .int .i64 0, .slice none 0 0, .slice none 0 0, .slice none 0 0, .slice none 0 0] 38))
     clear K3
     generalize V3.alloc (.cells #[.int .i64 0, .int .i64 0, .slice none 0 0, .slice none 0 0, .slice none 0 0, .slice none 0 0] 38) = V4 at *
     generalize V3.heap.size = ga3 at *
     exact main _ _ _ _ _ ⟨K4, Z4, Z5, LA, MA, LB, MB, NG4.1, NG5.1, NG4.2.1, NG5.2, NG4.2.2.symm⟩
    ·go_simp
     refine hK.out _ _ ?_ (fun hH2 => ?_)
     ·exact HSC.out _ (K2.below (below_one _ (.cells #[.int .i64 0, .int .i64 0, .slice none 0 0, .slice none 0 0, .slice none 0 0, .slice none 0 0] 38)))
     clear hK K hH2
     (try simp only [Act.put, List.setIfInBounds_toArray, List.set_cons_zero, List.set_cons_succ])
     have Z4 : SB w V2.heap.size 38 saO (V2.alloc (.cells #[.int .i64 0, .int .i64 0, .slice none 0 0, .slice none 0 0, .slice none 0 0, .slice none 0 0] 38)) := SB.new K2.s.frame (SaAt.zero V2) 38
     have NG4 : w.heap.size ≠ V2.heap.size ∧ g1 ≠ V2.heap.size ∧ gb0 ≠ V2.heap.size := ⟨Nat.ne_of_lt K2.s.lt, Nat.ne_of_lt K2.y.lt, Nat.ne_of_lt Z5.lt⟩
     have K3 := K2.below (below_one V2 (.cells #[.int .i64 0, .int .i64 0, .slice none 0 0, .slice none 0 0, .slice none 0 0, .slice none 0 0] 38))
     replace Z5 := Z5.below (below_one V2 (.cells #[.int .i64 0, .int .i64 0, .slice none 0 0, .slice none 0 0, .slice none 0 0, .slice none 0 0] 38))
     replace LA := LA.below (below_one V2 (.cells #[.int .i64 0, .int .i64 0, .slice none 0 0, .slice none 0 0, .slice none 0 0, .slice none 0 0] 38))
     clear K2
     generalize V2.alloc (.cells #[.int .i64 0, .int .i64 0, .slice none 0 0, .slice none 0 0, .slice none 0 0, .slice none 0 0] 38) = V3 at *
     generalize V2.heap.size = ga2 at *
     refine wpAnyH_ready (rs := [3]) (by kernel_rfl) (by simp) ?_
     refine AllReadyH.cons (o := ⟨some 20, _, _, _, _, _⟩) rfl (fun K hK => ?_) AllReadyH.nil
     go_simp
     refine (HPR.out y _ K3.y.at_ hm).mono ?_
     rintro r13 V4 ⟨yb, rfl, LB, MB, h3⟩
     have K4 := K3.below h3
     replace Z4 := Z4.below h3
     replace Z5 := Z5.below h3
     replace LA := LA.below h3
     go_wp2_with fail
     refine hK.out _ _ ?_ (fun hH3 => ?_)
     ·exact HSC.out _ K4
     clear hK K hH3 h3 K3
     (try simp only [Act.put, List.setIfInBounds_toArray, List.set_cons_zero, List.set_cons_succ])
     exact main _ _ _ _ _ ⟨K4, Z4, Z5, LA, MA, LB, MB, NG4.1, NG5.1, NG4.2.1, NG5.2, NG4.2.2.symm⟩
   ·go_simp
    refine hK.out _ _ ?_ (fun hH1 => ?_)
    ·exact HSC.out _ (K1.below (below_one _ (.cells #[.int .i64 0, .int .i64 0, .slice none 0 0, .slice none 0 0, .slice none 0 0, .slice none 0 0] 38)))
    clear hK K hH1
    (try simp only [Act.put, List.setIfInBounds_toArray, List.set_cons_zero, List.set_cons_succ])
    have Z4 : SB w V1.heap.size 38 saO (V1.alloc (.cells #[.int .i64 0, .int .i64 0, .slice none 0 0, .slice none 0 0, .slice none 0 0, .slice none 0 0] 38)) := SB.new K1.s.frame (SaAt.zero V1) 38
    have NG4 : w.heap.size ≠ V1.heap.size ∧ g1 ≠ V1.heap.size ∧ gb0 ≠ V1.heap.size := ⟨Nat.ne_of_lt K1.s.lt, Nat.ne_of_lt K1.y.lt, Nat.ne_of_lt Z5.lt⟩
    have K2 := K1.below (below_one V1 (.cells #[.int .i64 0, .int .i64 0, .slice none 0 0, .slice none 0 0, .slice none 0 0, .slice none 0 0] 38))
    replace Z5 := Z5.below (below_one V1 (.cells #[.int .i64 0, .int .i64 0, .slice none 0 0, .slice none 0 0, .slice none 0 0, .slice none 0 0] 38))
    clear K1
    generalize V1.alloc (.cells #[.int .i64 0, .int .i64 0, .slice none 0 0, .slice none 0 0, .slice none 0 0, .slice none 0 0] 38) = V2 at *
    generalize V1.heap.size = ga1 at *
    refine wpAnyH_ready (rs := [1]) (by kernel_rfl) (by simp) ?_
    refine AllReadyH.cons (o := ⟨some 18, _, _, _, _, _⟩) rfl (fun K hK => ?_) AllReadyH.nil
    go_simp
    refine (HRE.out y _ K2.y.at_ hm).mono ?_
    rintro r12 V3 ⟨ya, rfl, LA, MA, h2⟩
    have K3 := K2.below h2
    replace Z4 := Z4.below h2
    replace Z5 := Z5.below h2
    go_wp2_with fail
    refine hK.out _ _ ?_ (fun hH2 => ?_)
    ·exact HSC.out _ K3
    clear hK K hH2 h2 K2
    (try simp only [Act.put, List.setIfInBounds_toArray, List.set_cons_zero, List.set_cons_succ])
    refine wpAnyH_ready (rs := [3]) (by kernel_rfl) (by simp) ?_
    refine AllReadyH.cons (o := ⟨some 20, _, _, _, _, _⟩) rfl (fun K hK => ?_) AllReadyH.nil
    go_simp
    refine (HPR.out y _ K3.y.at_ hm).mono ?_
    rintro r13 V4 ⟨yb, rfl, LB, MB, h3⟩
    have K4 := K3.below h3
    replace Z4 := Z4.below h3
    replace Z5 := Z5.below h3
    replace LA := LA.below h3
    go_wp2_with fail
    refine hK.out _ _ ?_ (fun hH3 => ?_)
    ·exact HSC.out _ K4
    clear hK K hH3 h3 K3
    (try simp only [Act.put, List.setIfInBounds_toArray, List.set_cons_zero, List.set_cons_succ])
    exact main _ _ _ _ _ ⟨K4, Z4, Z5, LA, MA, LB, MB, NG4.1, NG5.1, NG4.2.1, NG5.2, NG4.2.2.symm⟩
 ·intro T ga gb ya yb hF
  obtain ⟨K, ZA, ZB, la, ma, lb, mb, n1, n2, n3, n4, n5⟩ := hF
  have ZA2 := ZA
  unfold saO at ZA2
  obtain ⟨z0, z1, z2, z3, z4, z5⟩ := ZA2.cells
  obtain ⟨q0, q1, q2, q3, q4, q5⟩ := ZA2.free
  have zl := ZA2.lt
  dsimp only [List.length_nil] at z0 z1 z2 z3 z4 z5
  have A1 := SB.set ZA la
  have S1 := (SB.over ZA la K.s n1).2
  have Y1 := (SB.over ZA la K.y n3).2
  have B1 := (SB.over ZA la ZB (Ne.symm n5)).2
  have L1 := SB.keepAt ZA la lb
  unfold setS at A1 S1 Y1 B1 L1
  clear ZA2
  refine wpAnyH_ready (rs := [6]) (by kernel_rfl) (by simp) ?_
  refine AllReadyH.cons (o := ⟨none, _, _, _, _, _⟩) rfl (fun K hK => ?_) AllReadyH.nil
  go_simp
  refine hK.out _ _ ?_ (fun hH6 => ?_)
  ·exact HSC.out _ ⟨S1, Y1⟩
  clear hK K hH6 z0 z1 z2 z3 z4 z5 q0 q1 q2 q3 q4 q5 zl ZA ZB la lb
  (try simp only [Act.put, List.setIfInBounds_toArray, List.set_cons_zero, List.set_cons_succ])
  generalize ((((((T.setCell ⟨ga, 0, none⟩ (.int .i64 ya.now)).setCell ⟨ga, 1, none⟩ (.int .i64 ya.hor)).setCell ⟨ga, 2, none⟩ (.slice ya.oa ya.op.length ya.oc)).setCell ⟨ga, 3, none⟩ (.slice ya.ua ya.us.length ya.uc)).setCell ⟨ga, 4, none⟩ (.slice ya.sa ya.su.length ya.sc)).setCell ⟨ga, 5, none⟩ (.slice ya.ta ya.tb.length ya.tc)) = T1 at *
  have ZB2 := B1
  unfold saO at ZB2
  obtain ⟨z0, z1, z2, z3, z4, z5⟩ := ZB2.cells
  obtain ⟨q0, q1, q2, q3, q4, q5⟩ := ZB2.free
  have zl := ZB2.lt
  dsimp only [List.length_nil] at z0 z1 z2 z3 z4 z5
  have B2 := SB.set B1 L1
  have S2 := (SB.over B1 L1 S1 n2).2
  have Y2 := (SB.over B1 L1 Y1 n4).2
  have A2 := (SB.over B1 L1 A1 n5).2
  unfold setS at B2 S2 Y2 A2
  clear ZB2
  refine wpAnyH_ready (rs := [7]) (by kernel_rfl) (by simp) ?_
  refine AllReadyH.cons (o := ⟨none, _, _, _, _, _⟩) rfl (fun K hK => ?_) AllReadyH.nil
  go_simp
  refine hK.out _ _ ?_ (fun hH7 => ?_)
  ·exact HSC.out _ ⟨S2, Y2⟩
  clear hK K hH7 z0 z1 z2 z3 z4 z5 q0 q1 q2 q3 q4 q5 zl A1 S1 Y1 B1 L1
  (try simp only [Act.put, List.setIfInBounds_toArray, List.set_cons_zero, List.set_cons_succ])
  refine wpAnyH_done (by kernel_rfl) ?_ _
  have KQ : RqK w g1 ga gb x y ya yb _ := ⟨S2, Y2, A2, B2⟩
  clear S2 Y2 A2 B2 n1 n2 n3 n4 n5 HSC
  generalize ((((((T1.setCell ⟨gb, 0, none⟩ (.int .i64 yb.now)).setCell ⟨gb, 1, none⟩ (.int .i64 yb.hor)).setCell ⟨gb, 2, none⟩ (.slice yb.oa yb.op.length yb.oc)).setCell ⟨gb, 3, none⟩ (.slice yb.ua yb.us.length yb.uc)).setCell ⟨gb, 4, none⟩ (.slice yb.sa yb.su.length yb.sc)).setCell ⟨gb, 5, none⟩ (.slice yb.ta yb.tb.length yb.tc)) = T2 at *
  have hop : ((ya.op.length : Int) == 0) = true := by rw [HOPN.out ya ma]; rfl
  have hop2 : decide ((ya.op.length : Int) = 0) = true := decide_eq_true (beq_iff_eq.1 hop)
  clear HOPN
  have HSC : Hid (∀ V, RqK w g1 ga gb x y ya yb V → V.cell? ⟨w.heap.size, 0, none⟩ = some (.int .i64 x.now) ∧ V.cell? ⟨w.heap.size, 1, none⟩ = some (.int .i64 x.hor) ∧ V.cell? ⟨w.heap.size, 2, none⟩ = some (.slice x.oa x.op.length x.oc) ∧ V.cell? ⟨w.heap.size, 3, none⟩ = some (.slice x.ua x.us.length x.uc) ∧ V.cell? ⟨w.heap.size, 4, none⟩ = some (.slice x.sa x.su.length x.sc) ∧ V.cell? ⟨w.heap.size, 5, none⟩ = some (.slice x.ta x.tb.length x.tc) ∧ V.cell? ⟨g1, 0, none⟩ = some (.int .i64 y.now) ∧ V.cell? ⟨g1, 1, none⟩ = some (.int .i64 y.hor) ∧ V.cell? ⟨g1, 2, none⟩ = some (.slice y.oa y.op.length y.oc) ∧ V.cell? ⟨g1, 3, none⟩ = some (.slice y.ua y.us.length y.uc) ∧ V.cell? ⟨g1, 4, none⟩ = some (.slice y.sa y.su.length y.sc) ∧ V.cell? ⟨g1, 5, none⟩ = some (.slice y.ta y.tb.length y.tc) ∧ V.cell? ⟨ga, 0, none⟩ = some (.int .i64 ya.now) ∧ V.cell? ⟨ga, 1, none⟩ = some (.int .i64 ya.hor) ∧ V.cell? ⟨ga, 2, none⟩ = some (.slice ya.oa ya.op.length ya.oc) ∧ V.cell? ⟨ga, 3, none⟩ = some (.slice ya.ua ya.us.length ya.uc) ∧ V.cell? ⟨ga, 4, none⟩ = some (.slice ya.sa ya.su.length ya.sc) ∧ V.cell? ⟨ga, 5, none⟩ = some (.slice ya.ta ya.tb.length ya.tc) ∧ V.cell? ⟨gb, 0, none⟩ = some (.int .i64 yb.now) ∧ V.cell? ⟨gb, 1, none⟩ = some (.int .i64 yb.hor) ∧ V.cell? ⟨gb, 2, none⟩ = some (.slice yb.oa yb.op.length yb.oc) ∧ V.cell? ⟨gb, 3, none⟩ = some (.slice yb.ua yb.us.length yb.uc) ∧ V.cell? ⟨gb, 4, none⟩ = some (.slice yb.sa yb.su.length yb.sc) ∧ V.cell? ⟨gb, 5, none⟩ = some (.slice yb.ta yb.tb.length yb.tc)) := fun V h => by
   obtain ⟨s0, s1, s2, s3, s4, s5⟩ := h.s.cells
   obtain ⟨y0, y1, y2, y3, y4, y5⟩ := h.y.cells
   obtain ⟨a0, a1, a2, a3, a4, a5⟩ := h.a.cells
   obtain ⟨b0, b1, b2, b3, b4, b5⟩ := h.b.cells
   exact ⟨s0, s1, s2, s3, s4, s5, y0, y1, y2, y3, y4, y5, a0, a1, a2, a3, a4, a5, b0, b1, b2, b3, b4, b5⟩
  have HBL : Hid (∀ V V', RqK w g1 ga gb x y ya yb V → Below V.heap.size V V' → RqK w g1 ga gb x y ya yb V') := fun V V' h q => h.below q
  obtain ⟨k0, k1, k2, k3, k4, k5, k6, k7, k8, k9, k10, k11, k12, k13, k14, k15, k16, k17, k18, k19, k20, k21, k22, k23⟩ := HSC.out _ KQ
  have K0 := KQ.below (Below.refl _ _).drew
  go_wp2_with fail
  go_region_held3 (fun V => V.cell? ⟨w.heap.size, 0, none⟩ = some (.int .i64 x.now) ∧ V.cell? ⟨w.heap.size, 1, none⟩ = some (.int .i64 x.hor) ∧ V.cell? ⟨w.heap.size, 2, none⟩ = some (.slice x.oa x.op.length x.oc) ∧ V.cell? ⟨w.heap.size, 3, none⟩ = some (.slice x.ua x.us.length x.uc) ∧ V.cell? ⟨w.heap.size, 4, none⟩ = some (.slice x.sa x.su.length x.sc) ∧ V.cell? ⟨w.heap.size, 5, none⟩ = some (.slice x.ta x.tb.length x.tc) ∧ V.cell? ⟨g1, 0, none⟩ = some (.int .i64 y.now) ∧ V.cell? ⟨g1, 1, none⟩ = some (.int .i64 y.hor) ∧ V.cell? ⟨g1, 2, none⟩ = some (.slice y.oa y.op.length y.oc) ∧ V.cell? ⟨g1, 3, none⟩ = some (.slice y.ua y.us.length y.uc) ∧ V.cell? ⟨g1, 4, none⟩ = some (.slice y.sa y.su.length y.sc) ∧ V.cell? ⟨g1, 5, none⟩ = some (.slice y.ta y.tb.length y.tc) ∧ V.cell? ⟨ga, 0, none⟩ = some (.int .i64 ya.now) ∧ V.cell? ⟨ga, 1, none⟩ = some (.int .i64 ya.hor) ∧ V.cell? ⟨ga, 2, none⟩ = some (.slice ya.oa ya.op.length ya.oc) ∧ V.cell? ⟨ga, 3, none⟩ = some (.slice ya.ua ya.us.length ya.uc) ∧ V.cell? ⟨ga, 4, none⟩ = some (.slice ya.sa ya.su.length ya.sc) ∧ V.cell? ⟨ga, 5, none⟩ = some (.slice ya.ta ya.tb.length ya.tc) ∧ V.cell? ⟨gb, 0, none⟩ = some (.int .i64 yb.now) ∧ V.cell? ⟨gb, 1, none⟩ = some (.int .i64 yb.hor) ∧ V.cell? ⟨gb, 2, none⟩ = some (.slice yb.oa yb.op.length yb.oc) ∧ V.cell? ⟨gb, 3, none⟩ = some (.slice yb.ua yb.us.length yb.uc) ∧ V.cell? ⟨gb, 4, none⟩ = some (.slice yb.sa yb.su.length yb.sc) ∧ V.cell? ⟨gb, 5, none⟩ = some (.slice yb.ta yb.tb.length yb.tc))
   (first | with_reducible exact HSC.out _ K8 | with_reducible exact HSC.out _ K7 | with_reducible exact HSC.out _ K6 | with_reducible exact HSC.out _ K5 | with_reducible exact HSC.out _ K4 | with_reducible exact HSC.out _ K3 | with_reducible exact HSC.out _ K2 | with_reducible exact HSC.out _ K1 | with_reducible exact HSC.out _ K0)
   (first | (have hseen := K7; clear hseen; go_at_call 18; refine (HS0.out o7 _ p7 K7.s.at_ m7).mono ?_; rintro r v8 ⟨rfl, h8⟩; have K8 := HBL.out _ _ K7 h8) | (have hseen := K6; clear hseen; go_at_call 19; refine (HO0.out y _ K6.y.at_ hm).mono ?_; rintro r v7 ⟨o7, rfl, p7, m7, h7⟩; have K7 := HBL.out _ _ K6 h7) | (have hseen := K5; clear hseen; go_at_call 18; refine (HSP.out o4 o5 _ p6 p5 m4 m5).mono ?_; rintro r v6 ⟨rfl, h6⟩; have K6 := HBL.out _ _ K5 h6) | (have hseen := K4; clear hseen; go_at_call 25; refine (HDP.out _ K4.s.at_).mono ?_; rintro r v5 ⟨o5, rfl, p5, m5, h5⟩; have K5 := HBL.out _ _ K4 h5; have p6 := p4.below h5) | (have hseen := K3; clear hseen; go_at_call 19; refine (HOP.out yb _ K3.b.at_ mb).mono ?_; rintro r v4 ⟨o4, rfl, p4, m4, h4⟩; have K4 := HBL.out _ _ K3 h4) | (have hseen := K2; clear hseen; go_at_call 18; refine (HSR.out o1 o2 _ p3 p2 m1 m2).mono ?_; rintro r v3 ⟨rfl, h3⟩; have K3 := HBL.out _ _ K2 h3) | (have hseen := K1; clear hseen; go_at_call 24; refine (HDR.out _ K1.s.at_).mono ?_; rintro r v2 ⟨o2, rfl, p2, m2, h2⟩; have K2 := HBL.out _ _ K1 h2; have p3 := p1.below h2) | (have hseen := K0; clear hseen; go_at_call 19; refine (HOR.out ya _ K0.a.at_ ma).mono ?_; rintro r v1 ⟨o1, rfl, p1, m1, h1⟩; have K1 := HBL.out _ _ K0 h1))
  all_goals
   have KY := K8
   clear K0 K1 K2 K3 K4 K5 K6 K7 K8 KQ p1 p2 p3 p4 p5 p6 p7 h1 h2 h3 h4 h5 h6 h7 h8 k0 k1 k2 k3 k4 k5 k6 k7 k8 k9 k10 k11 k12 k13 k14 k15 k16 k17 k18 k19 k20 k21 k22 k23
   generalize v8 = u at *
   obtain ⟨k0, k1, k2, k3, k4, k5, k6, k7, k8, k9, k10, k11, k12, k13, k14, k15, k16, k17, k18, k19, k20, k21, k22, k23⟩ := HSC.out _ KY
   have K0 := KY.below (Below.refl _ _).drew
   go_wp2_with fail
   go_region_held3 (fun V => V.cell? ⟨w.heap.size, 0, none⟩ = some (.int .i64 x.now) ∧ V.cell? ⟨w.heap.size, 1, none⟩ = some (.int .i64 x.hor) ∧ V.cell? ⟨w.heap.size, 2, none⟩ = some (.slice x.oa x.op.length x.oc) ∧ V.cell? ⟨w.heap.size, 3, none⟩ = some (.slice x.ua x.us.length x.uc) ∧ V.cell? ⟨w.heap.size, 4, none⟩ = some (.slice x.sa x.su.length x.sc) ∧ V.cell? ⟨w.heap.size, 5, none⟩ = some (.slice x.ta x.tb.length x.tc) ∧ V.cell? ⟨g1, 0, none⟩ = some (.int .i64 y.now) ∧ V.cell? ⟨g1, 1, none⟩ = some (.int .i64 y.hor) ∧ V.cell? ⟨g1, 2, none⟩ = some (.slice y.oa y.op.length y.oc) ∧ V.cell? ⟨g1, 3, none⟩ = some (.slice y.ua y.us.length y.uc) ∧ V.cell? ⟨g1, 4, none⟩ = some (.slice y.sa y.su.length y.sc) ∧ V.cell? ⟨g1, 5, none⟩ = some (.slice y.ta y.tb.length y.tc) ∧ V.cell? ⟨ga, 0, none⟩ = some (.int .i64 ya.now) ∧ V.cell? ⟨ga, 1, none⟩ = some (.int .i64 ya.hor) ∧ V.cell? ⟨ga, 2, none⟩ = some (.slice ya.oa ya.op.length ya.oc) ∧ V.cell? ⟨ga, 3, none⟩ = some (.slice ya.ua ya.us.length ya.uc) ∧ V.cell? ⟨ga, 4, none⟩ = some (.slice ya.sa ya.su.length ya.sc) ∧ V.cell? ⟨ga, 5, none⟩ = some (.slice ya.ta ya.tb.length ya.tc) ∧ V.cell? ⟨gb, 0, none⟩ = some (.int .i64 yb.now) ∧ V.cell? ⟨gb, 1, none⟩ = some (.int .i64 yb.hor) ∧ V.cell? ⟨gb, 2, none⟩ = some (.slice yb.oa yb.op.length yb.oc) ∧ V.cell? ⟨gb, 3, none⟩ = some (.slice yb.ua yb.us.length yb.uc) ∧ V.cell? ⟨gb, 4, none⟩ = some (.slice yb.sa yb.su.length yb.sc) ∧ V.cell? ⟨gb, 5, none⟩ = some (.slice yb.ta yb.tb.length yb.tc))
    (first | with_reducible exact HSC.out _ K7 | with_reducible exact HSC.out _ K6 | with_reducible exact HSC.out _ K5 | with_reducible exact HSC.out _ K4 | with_reducible exact HSC.out _ K3 | with_reducible exact HSC.out _ K2 | with_reducible exact HSC.out _ K1 | with_reducible exact HSC.out _ K0)
    (first | (have hseen := K6; clear hseen; go_at_call 26; refine (HSSP.out o6 yb _ p6 K6.b.at_ m6 mb).mono ?_; rintro r v7 ⟨rfl, h7⟩; have K7 := HBL.out _ _ K6 h7) | (have hseen := K5; clear hseen; go_at_call 23; refine (HPP2.out yb _ K5.b.at_ mb).mono ?_; rintro r v6 ⟨o6, rfl, p6, m6, h6⟩; have K6 := HBL.out _ _ K5 h6) | (have hseen := K4; clear hseen; go_at_call 26; refine (HSSR.out o4 ya _ p4 K4.a.at_ m4 ma).mono ?_; rintro r v5 ⟨rfl, h5⟩; have K5 := HBL.out _ _ K4 h5) | (have hseen := K3; clear hseen; go_at_call 22; refine (HRR2.out ya _ K3.a.at_ ma).mono ?_; rintro r v4 ⟨o4, rfl, p4, m4, h4⟩; have K4 := HBL.out _ _ K3 h4) | (have hseen := K2; clear hseen; go_at_call 20; refine (HTP.out yb _ K2.b.at_ mb).mono ?_; rintro r v3 ⟨rfl, h3⟩; have K3 := HBL.out _ _ K2 h3) | (have hseen := K1; clear hseen; go_at_call 20; refine (HTR.out ya _ K1.a.at_ ma).mono ?_; rintro r v2 ⟨rfl, h2⟩; have K2 := HBL.out _ _ K1 h2) | (have hseen := K0; clear hseen; go_at_call 14; refine (HAL.out _).mono ?_; rintro r v1 ⟨rfl, h1⟩; have K1 := HBL.out _ _ K0 h1))
   all_goals
    have HF := Lib.hid K7.s.frame
    clear K0 K1 K2 K3 K4 K5 K6 K7
    go_wp2
    go_ret
    exact ⟨rfl, HF.out⟩
theorem contract (H : Type) (enc : TypeId × Value → H) (W : World) (base : Nat) (args : Array Value) (ds gs : List (DataW H)) (before : List MemPlace)
  (hval : ∀ (j : Nat) t v, Tryz.f5.params[j]? = some t → args[j]? = some v → Value.okWide Tryz.prog W .any base t v)
  (hW : DataW.Whole enc Tryz.prog Tryz.f5.params.toList Rows.stateResetsSpec.vars false W args.toList ds gs before) (hk : Rows.uptoSmall H (ds ++ gs) = true) :
  Calls Tryz.prog 5 args W fun e W' => ∃ v, e = .returned v ∧ Rows.stateResetsSpec.post enc Tryz.prog Tryz.f5 false true false false W args v W' := by
 have hW' := hW
 obtain ⟨p, q, hA0, hV, rfl, hfz, hnd⟩ := hW
 have hA : DataW.TrodAll enc Tryz.prog W 0 (fun _ => true) true Tryz.f5.params.toList args.toList ds p := hA0
 rw [Tryz.params5] at hA hval
 obtain ⟨v0, vs0, d0, ds0, p0, q0, hargs, rfl, rfl, h0, r0⟩ := trodAll_cons hA
 obtain ⟨rfl, rfl, rfl⟩ := trodAll_nil r0
 obtain rfl : args = #[v0] := by cases args; simp_all
 obtain ⟨rfl, rfl⟩ := trodVars_none hV
 have hbk : Rows.uptoBulkAll [d0] ≤ 1048576 := of_decide_eq_true hk
 simp only [Rows.uptoBulkAll] at hbk
 obtain ⟨a0, rfl, s0, z0, b0⟩ := open_state (hval 0 27 v0 rfl rfl) h0
 have u0 : stCnt a0.m + a0.us.length ≤ 1048576 := by omega
 refine (walk W a0 s0 z0 u0).mono fun e W' ⟨he, hb⟩ => ?_
 subst he
 exact ⟨_, rfl, law_post rfl hW' (fun ds h => by match ds, h with | [_], _ => rfl) (by kernel_rfl) (by kernel_rfl) (by kernel_rfl) hb⟩

set_option maxRecDepth 100000 in
theorem lifted (os : Os) (started : os.Started) (H : Type) (enc : TypeId × Value → H) (F : Stop.Interp) :
  ReturnsInHanded {} Tryz.checked os 5 .any ((Rows.OpenSpec.upto Rows.stateResetsSpec).pre6 enc Tryz.prog Tryz.f5 Rows.stateResetsUptoRow.domain false) (((Rows.OpenSpec.upto Rows.stateResetsSpec).at F).post enc Tryz.prog Tryz.f5 false true false false) := by
 refine returnsInHanded_of_cond (C := Tryz.checked) (s := (Rows.OpenSpec.upto Rows.stateResetsSpec)) (k := Rows.uptoSmall) rfl own started (by kernel_rfl) Tryz.func5
  (OpenSpec.witness (enc := enc) (C := Tryz.checked) (s := (Rows.OpenSpec.upto Rows.stateResetsSpec)) (k := Rows.uptoSmall) rfl false ⟨#[], #[.agg #[.int .i64 0, .int .i64 0, .slice none 0 0, .slice none 0 0, .slice none 0 0, .slice none 0 0]], []⟩ 8 (by kernel_rfl) (by kernel_rfl) (by kernel_rfl)
   (x := ([.agg [.lit (.int .i64 0), .lit (.int .i64 0), .nil, .nil, .nil, .nil]], [], [])) (by kernel_rfl) rfl (by kernel_rfl)) ?_
 intro W base args ds gs before hval hW _ hk _
 exact contract H enc W base args ds gs before hval hW hk

theorem proved : Rows.StateResetsUptoSaid :=
 OpenClaim.holds_of_cond 5 Tryz.f5 rfl rfl rfl rfl rfl rfl rfl ⟨rfl, rfl, rfl, rfl, rfl⟩ rfl rfl rfl rfl rfl (by kernel_rfl) Tryz.func5 (by kernel_rfl)
  (of_decide_eq_true (by kernel_rfl)) (by unfold Func.isWrapper; first | (rw [if_pos (by decide +kernel)]; kernel_rfl) | (rw [if_neg (by decide +kernel)]; exact ⟨rfl, rfl⟩))
  (fun os started H enc _ F => lifted os started H enc F)
end Go.Proofs.YtjhdhfokhkcamaaGreat.stateResets
