/- Texts of mine, one behind the other, of each what is wanted. -/
import Derived.Test.YtapacckmgmdnoaaGreatU00
import Derived.Test.YtapacckmgmdnoaaGreatShelf
import Derived.Test.YtapacckmgmdnoaaGreatRows
import Derived.Test.YtapacckmgmdnoaaGreatU01
import Derived.Test.YtapacckmgmdnoaaGreatU02
import Derived.Test.YtapacckmgmdnoaaGreatU04
import Derived.Test.YtapacckmgmdnoaaGreatU07
import Derived.Test.YtapacckmgmdnoaaGreatU09
import Derived.Test.YtapacckmgmdnoaaGreatU11
import Derived.Test.YtapacckmgmdnoaaGreatU16
import Derived.Test.YtapacckmgmdnoaaGreatU17
import Derived.Test.YtapacckmgmdnoaaGreatU21
import Derived.Test.YtapacckmgmdnoaaGreatU22
import Derived.Test.YtapacckmgmdnoaaGreatU23
import Derived.Test.YtapacckmgmdnoaaGreatU28
import Derived.Test.YtapacckmgmdnoaaGreatU31
import Derived.Test.YtapacckmgmdnoaaGreatU32
import Derived.Test.YtapacckmgmdnoaaGreatU33
import Derived.Test.YtapacckmgmdnoaaGreatU34
import Derived.Test.YtapacckmgmdnoaaGreatU35
import Derived.Test.YtapacckmgmdnoaaGreatU36
import Derived.Test.YtapacckmgmdnoaaGreatU39
import Derived.Test.YtapacckmgmdnoaaGreatU42
import Derived.Test.YtapacckmgmdnoaaGreatU43
namespace Go.Proofs.YtapacckmgmdnoaaGreat
open Go.RowKit Go.Proofs
set_option linter.unusedVariables false
set_option maxRecDepth 100000
set_option maxRecDepth 100000
theorem cntU_le : ∀ {l : List UsM}, ∀ x ∈ l, x.l.length ≤ cntU l
 | y :: l, x, hx => by
  rw [cntU_cons]
  rcases List.mem_cons.1 hx with rfl | hx
  ·omega
  ·have := cntU_le x hx
   omega
theorem few_cnt {x : SaL} {n : Nat} (h : stCnt x.m + x.us.length ≤ n) : Few x.m n := by
 have h0 : stCnt x.m = x.op.length + x.su.length + x.tb.length + cntU (umS x.us) := rfl
 have h1 : x.m.us.length = x.us.length := umS_len _
 refine ⟨?_, by omega, ?_, ?_, fun u hu => ?_⟩
 ·show x.op.length ≤ n; omega
 ·show x.su.length ≤ n; omega
 ·show x.tb.length ≤ n; omega
 ·have := cntU_le u hu
  show u.l.length ≤ n
  have h2 : cntU x.m.us = cntU (umS x.us) := rfl
  omega
section
variable {M : SaM} (x y : SaL) (V : World) (h : SaAt V x) (k : SaAt V y) (hm : x.m = M) (km : y.m = M)
include h hm
theorem g_new (hf : Few M 900) : Calls Tryz.prog 23 #[saV x] V (Is V M) := by subst hm; exact lnew_any x V h hf
theorem g_rrightB (hz : SzS M) (hf : Few M 900) : Calls Tryz.prog 19 #[saV x] V fun r w' => r = .returned (.bool (rightB M)) ∧ Below V.heap.size V w' := by
 subst hm
 have := rright_any11 x V h hz (Nat.le_trans hf.op (by decide)) (Nat.le_trans (few_us hf) (by decide)) (Nat.le_trans hf.su (by decide)) (Nat.le_trans hf.tb (by decide)) (fun z hz => Nat.le_trans (umS_st hf.st z hz) (by decide))
 refine this.mono fun r w' q => ?_
 cases hb : rightB x.m
 ·exact q.no (fun hr => by rw [(rightB_iff _).2 hr] at hb; cases hb)
 ·exact q.yes ((rightB_iff _).1 hb)
theorem g_rright (hz : SzS M) (hf : Few M 900) (hr : RightS M) : Calls Tryz.prog 19 #[saV x] V fun r w' => r = .returned (.bool true) ∧ Below V.heap.size V w' := by
 have := g_rrightB x V h hm hz hf
 rwa [(rightB_iff _).2 hr] at this
theorem g_rwrong (hz : SzS M) (hf : Few M 900) (hr : ¬ RightS M) : Calls Tryz.prog 19 #[saV x] V fun r w' => r = .returned (.bool false) ∧ Below V.heap.size V w' := by
 have := g_rrightB x V h hm hz hf
 rwa [Bool.eq_false_iff.2 fun hb => hr ((rightB_iff _).1 hb)] at this
include k km
end
def erV (s : SaM) (e : EvM) : Int := errS s e.kind e.at_ e.n e.status e.user e.other
def teV (s : SaM) (e : EvM) : SaM := tellS s e.kind e.at_ e.n e.status e.user e.other
theorem te_ok {s : SaM} {e : EvM} (h : RightS s) (he : erV s e = 0) : RightS (teV s e) ∧ stCnt (teV s e) ≤ stCnt s + 1 ∧ teV s e = goS s e.kind e.at_ e.n e.status e.user e.other := by
 have h1 : teV s e = goS s e.kind e.at_ e.n e.status e.user e.other := by unfold teV tellS; exact if_pos he
 rw [h1]
 exact ⟨right_go h he, cnt_go _ _ _ _ _ _ _, rfl⟩
theorem g_apply {M : SaM} (x : SaL) (e : EvM) (V : World) (h : SaAt V x) (hm : x.m = M) (hr : RightS M) (hc : stCnt M ≤ 200) (hw : EFits e) : Calls Tryz.prog 62 #[saV x, evV e] V (Tells V (teV M e) (erV M e)) := by
 subst hm
 exact apply_any x e.kind e.at_ e.n e.status e.user e.other V h hr hc hw.1 hw.2
end Go.Proofs.YtapacckmgmdnoaaGreat
namespace Go.Proofs.YtapacckmgmdnoaaGreat
open Go.RowKit Go.Proofs
set_option linter.unusedVariables false
set_option maxRecDepth 100000
theorem er_make (n : Nat) (hn : n ≤ 1000000) (W : World) : (Instr.makeSlice 40 (.int .i64 0) (.int .i64 (n : Int))).run Tryz.prog W = .ok (.slice (some ⟨W.heap.size, 0, none⟩) 0 n) (W.alloc (.cells (erc [] n).toArray 60)) := by
 obtain ⟨i0, hi, hz0, hz1, hz2⟩ := info_parts infoErr
 have hr := run_make (P := Tryz.prog) W 40 60 i0 _ Tryz.underlying40 hi hz0 .i64 .i64 0 (n : Int) (Int.le_refl _) (by omega) (by rw [hz2]; omega) (by omega)
 rw [hz1, Int.toNat_zero, Int.toNat_natCast, Nat.mul_one] at hr
 have e : madeCells (Value.int .i64 0).cells n = (erc [] n).toArray := by
  apply Array.toList_inj.1
  rw [made_cells]
  rfl
 rw [e] at hr
 exact hr
set_option maxHeartbeats 4000000 in
theorem pfold_more (x : SaL) (a : Option Addr) (c : Nat) (l : List EvM) (w : World) (h : SaAt w x) (hr : RightS x.m) (hs : EvSl w a l) (hf : FitsV l) (hc : stCnt x.m + l.length ≤ 200) :
  Calls Tryz.prog 22 #[saV x, .slice a l.length c] w (FoldsTo2 w (foldE x.m l) (errsE x.m l)) := by
 obtain ⟨X, Z⟩ := two_SB h 39 39
 have A0 := (hs.below (below_one w (.cells (saC x) 39))).below (below_one _ (.cells (saC saO) 39))
 have HOW : Hid (∀ V, SaAt V x → Calls Tryz.prog 70 #[saV x] V (fun r w' => ∃ y, r = .returned (.agg #[.int .i64 y.now, .int .i64 y.hor, .slice y.oa y.op.length y.oc, .slice y.ua y.us.length y.uc, .slice y.sa y.su.length y.sc, .slice y.ta y.tb.length y.tc]) ∧ SaAt w' y ∧ y.m = x.m ∧ Below V.heap.size V w')) := Lib.hid (fun V h => own_any x V h ((few_of hr (Nat.le_refl _)).mono (by omega)))
 have HMK := Lib.hid (fun W => er_make l.length (by omega) W)
 have HX := Lib.hid X
 have HZ := Lib.hid Z
 have HA := Lib.hid A0
 have HFV := Lib.hid hf
 have HRI := Lib.hid hr
 have HLE : Hid (stCnt x.m + l.length ≤ 200) := Lib.hid hc
 obtain ⟨c0, c1, c2, c3, c4, c5⟩ := X.cells
 unfold saO saV saC at *
 simp only [List.length_nil] at *
 clear h hr hs hf hc X Z A0
 go_enter Tryz.func22, Tryz.ntmps22
 go_wp2_with fail
 refine (HOW.out _ HX.out.at_).mono ?_
 rintro r w1 ⟨y, rfl, hy, hym, h1⟩
 clear c0 c1 c2 c3 c4 c5
 have X1 := HX.out.below h1
 have Z1 := HZ.out.below h1
 have A1 := HA.out.below h1
 obtain ⟨c0, c1, c2, c3, c4, c5⟩ := X1.cells
 obtain ⟨f0, f1, f2, f3, f4, f5⟩ := X1.free
 have hxl := X1.lt
 have X2 := X1.set hy
 have Z2 := (SB.over X1 hy Z1 (Nat.ne_of_gt (Nat.lt_succ_self _))).2
 have A2 := evsl_setS X1 hy A1
 unfold setS at X2 Z2 A2
 replace X2 := Lib.hid X2
 replace Z2 := Lib.hid Z2
 replace A2 := Lib.hid A2
 replace hym := Lib.hid hym
 clear X1 Z1 A1 HX HZ HA h1 hy HOW
 go_upto_region 2 with fail
 generalize ((((((w1.setCell ⟨w.heap.size, 0, none⟩ (.int .i64 y.now)).setCell ⟨w.heap.size, 1, none⟩ (.int .i64 y.hor)).setCell ⟨w.heap.size, 2, none⟩ (.slice y.oa y.op.length y.oc)).setCell ⟨w.heap.size, 3, none⟩ (.slice y.ua y.us.length y.uc)).setCell ⟨w.heap.size, 4, none⟩ (.slice y.sa y.su.length y.sc)).setCell ⟨w.heap.size, 5, none⟩ (.slice y.ta y.tb.length y.tc)) = U at *
 clear c0 c1 c2 c3 c4 c5 f0 f1 f2 f3 f4 f5 hxl
 have hmk := HMK.out U
 have hb := below_one U (.cells (erc [] l.length).toArray 60)
 have HF : Hid (FoK w 39 a l y [] (.slice (some ⟨U.heap.size, 0, none⟩) 0 l.length) (U.alloc (.cells (erc [] l.length).toArray 60))) := Lib.hid ⟨X2.out.below hb, Z2.out.below hb, .inr ⟨U.heap.size, l.length, by rw [List.length_nil, Nat.zero_add], X2.out.frame.size, heap_alloc_new _ _, by have := HLE.out; unfold maxLen; rw [List.length_nil]; omega⟩, A2.out.below hb⟩
 clear X2 Z2 A2 hb HMK
 go_upto_region 3 with fail
 clear hmk
 generalize (U.alloc (.cells (erc [] l.length).toArray 60)) = UB at *
 go_wp2
 go_loopw [6, 18] (fun ov iv wr => ∃ (j : Nat) (q : SaL), j ≤ l.length ∧ iv = .int .i64 j ∧ Hid (q.m = foldE x.m (l.take j)) ∧ Hid (FoK w 39 a l q (errsE x.m (l.take j)) ov wr)) (fun _ iv _ => l.length - (intOf iv).toNat)
 case atStart => exact ⟨0, y, by omega, rfl, hym, HF⟩
 case round =>
  clear HF hym
  obtain ⟨j, q, hj, rfl, HM, HG⟩ := hrel
  by_cases hjl : j < l.length
  ·have hw1 : IntKind.i64.wrap ((j : Int) + 1) = (j : Int) + 1 := IntWalk.i64_in _ (by have := HLE.out; omega)
   obtain ⟨ba, ao, ea, hal, u0, u1, u2, u3, u4, u5⟩ := HG.out.l.at_ hjl
   subst ea
   have hw : EFits l[j] := HFV.out _ (List.getElem_mem hjl)
   have hrq : RightS q.m := by rw [HM.out]; exact right_fold _ HRI.out
   have hcq : stCnt q.m ≤ 200 := by
    have h1 := cnt_fold (l.take j) x.m
    rw [← HM.out] at h1
    have h2 := HLE.out
    rw [List.length_take] at h1
    omega
   have HNX : Hid (∀ z : SaL, z.m = teV q.m l[j] → erV q.m l[j] = 0 → z.m = foldE x.m (l.take (j + 1))) := Lib.hid fun z hz h0 => by
    rw [foldE_take _ _ _ hjl, ← HM.out, nxE_ok h0, hz]
    exact (te_ok hrq h0).2.2
   have HST : Hid (¬ erV q.m l[j] = 0 → q.m = foldE x.m (l.take (j + 1))) := Lib.hid fun h0 => by
    rw [foldE_take _ _ _ hjl, ← HM.out, nxE_no h0]
   have HER : Hid (errsE x.m (l.take (j + 1)) = errsE x.m (l.take j) ++ [erV q.m l[j]]) := Lib.hid (by
    rw [errsE_take _ _ _ hjl, ← HM.out]
    rfl)
   have HRQ : Hid (∀ y : SaL, y.m = foldE x.m (l.take (j + 1)) → RightS y.m) := Lib.hid fun y hy => by rw [hy]; exact right_fold _ HRI.out
   have hel : (errsE x.m (l.take j)).length ≤ 1000000 := by have := HLE.out; rw [errsE_len, List.length_take]; omega
   generalize l[j] = e at *
   have HAP : Hid (∀ V, SaAt V q → Calls Tryz.prog 62 #[saV q, evV e] V (fun r w' => ∃ z, r = .returned (.tuple #[.agg #[.int .i64 z.now, .int .i64 z.hor, .slice z.oa z.op.length z.oc, .slice z.ua z.us.length z.uc, .slice z.sa z.su.length z.sc, .slice z.ta z.tb.length z.tc], .int .i64 (erV q.m e)]) ∧ SaAt w' z ∧ z.m = teV q.m e ∧ Below V.heap.size V w')) := Lib.hid (fun V h => g_apply (M := q.m) q e V h rfl hrq hcq hw)
   generalize errsE x.m (l.take j) = E at *
   clear hw hrq hcq HM
   generalize teV q.m e = M1 at *
   generalize erV q.m e = er at *
   unfold saV saC evV at HAP
   have hbE := below_one wr (.cells #[.int .i64 e.kind, .int .i64 e.at_, .string e.user, .string e.other, .int .i64 e.n, .int .i64 e.status] 64)
   have hnE := heap_alloc_new wr (.cells #[.int .i64 e.kind, .int .i64 e.at_, .string e.user, .string e.other, .int .i64 e.n, .int .i64 e.status] 64)
   have GE := Lib.hid (HG.out.below hbE)
   obtain ⟨k0, k1, k2, k3, k4, k5⟩ := GE.out.s.cells
   have e0 := cell_of_row _ _ 0 _ _ (0, 0) hnE
   have e1 := cell_of_row _ _ 1 _ _ (0, 0) hnE
   have e2 := cell_of_row _ _ 2 _ _ (0, 0) hnE
   have e3 := cell_of_row _ _ 3 _ _ (0, 0) hnE
   have e4 := cell_of_row _ _ 4 _ _ (0, 0) hnE
   have e5 := cell_of_row _ _ 5 _ _ (0, 0) hnE
   clear hbE hnE HG
   go_wp2_with fail
   refine (HAP.out _ GE.out.s.at_).mono ?_
   rintro r1 w2 ⟨z, rfl, hz, hzm, h2⟩
   clear u0 u1 u2 u3 u4 u5 k0 k1 k2 k3 k4 k5 e0 e1 e2 e3 e4 e5 HAP
   have hb2 := below_one w2 (.cells #[.int .i64 z.now, .int .i64 z.hor, .slice z.oa z.op.length z.oc, .slice z.ua z.us.length z.uc, .slice z.sa z.su.length z.sc, .slice z.ta z.tb.length z.tc] 39)
   have TK := Lib.hid ((GE.out.below h2).below hb2)
   have TO : Hid (SB w w2.heap.size 39 z (w2.alloc (.cells #[.int .i64 z.now, .int .i64 z.hor, .slice z.oa z.op.length z.oc, .slice z.ua z.us.length z.uc, .slice z.sa z.su.length z.sc, .slice z.ta z.tb.length z.tc] 39))) := Lib.hid (SB.new (GE.out.below h2).s.frame hz 39)
   clear hb2 h2 hz GE
   go_upto_region 7 with fail
   generalize w2.alloc (.cells #[.int .i64 z.now, .int .i64 z.hor, .slice z.oa z.op.length z.oc, .slice z.ua z.us.length z.uc, .slice z.sa z.su.length z.sc, .slice z.ta z.tb.length z.tc] 39) = U at *
   generalize w2.heap.size = g at *
   by_cases g0 : er = 0
   ·subst g0
    have z1 : ((0 : Int) == 0) = true := rfl
    have KA := TK.out.take TO.out (by decide)
    have KM := Lib.hid (HNX.out z hzm rfl)
    unfold setS at KA
    obtain ⟨x0, x1, x2, x3, x4, x5⟩ := TK.out.s.cells
    obtain ⟨f0, f1, f2, f3, f4, f5⟩ := TK.out.s.free
    obtain ⟨y0, y1, y2, y3, y4, y5⟩ := TO.out.cells
    have xl := TK.out.s.lt
    have KE := Lib.hid KA
    clear KA HNX HST hzm TK TO
    go_upto_region 9 with fail
    generalize ((((((U.setCell ⟨w.heap.size, 0, none⟩ (.int .i64 z.now)).setCell ⟨w.heap.size, 1, none⟩ (.int .i64 z.hor)).setCell ⟨w.heap.size, 2, none⟩ (.slice z.oa z.op.length z.oc)).setCell ⟨w.heap.size, 3, none⟩ (.slice z.ua z.us.length z.uc)).setCell ⟨w.heap.size, 4, none⟩ (.slice z.sa z.su.length z.sc)).setCell ⟨w.heap.size, 5, none⟩ (.slice z.ta z.tb.length z.tc)) = UA at *
    clear x0 x1 x2 x3 x4 x5 f0 f1 f2 f3 f4 f5 y0 y1 y2 y3 y4 y5 xl
    have HB1 := below_one UA (.cells #[.int .i64 0] 60)
    have KE1 := Lib.hid (KE.out.below HB1)
    have hcl : (UA.alloc (.cells #[.int .i64 0] 60)).cell? ⟨UA.heap.size, 0, none⟩ = some (.int .i64 0) := cell_of_row _ _ 0 _ _ (0, 0) (heap_alloc_new _ _)
    have HO1 := Lib.hid KE1.out.o
    have HS1 : Hid (w.heap.size ≤ (UA.alloc (.cells #[.int .i64 0] 60)).heap.size) := Lib.hid KE1.out.s.frame.size
    have HRR := Lib.hid (HRQ.out _ KM.out)
    clear HB1 KE
    go_wp2_with (at_builtin; refine wpList_append_er _ rfl (.tmp 31) (.tmp 33) rfl w.heap.size _ _ rfl HO1.out ⟨UA.heap.size, 0, none⟩ 1 0 rfl hcl (by omega) HS1.out ?_; intro v2 w2 ho2 hg2 hB2)
    have KN := Lib.hid (KE1.out.more HRR.out (by decide) ho2 hg2 hB2)
    clear KE1 hcl HO1 HS1 HRR ho2 hg2 hB2
    go_wp2
    go_roundw
    case rel => exact ⟨j + 1, z, by omega, by go_num, KM, Lib.hid (by rw [HER.out]; exact KN.out)⟩
    case measure => simp [intOf]; omega
   ·have z1 : (er == 0) = false := beq_false_of_ne g0
    have KM := Lib.hid (HST.out g0)
    have KE := TK
    clear HNX HST hzm TK TO g0
    have HB1 := below_one U (.cells #[.int .i64 er] 60)
    have KE1 := Lib.hid (KE.out.below HB1)
    have hcl : (U.alloc (.cells #[.int .i64 er] 60)).cell? ⟨U.heap.size, 0, none⟩ = some (.int .i64 er) := cell_of_row _ _ 0 _ _ (0, 0) (heap_alloc_new _ _)
    have HO1 := Lib.hid KE1.out.o
    have HS1 : Hid (w.heap.size ≤ (U.alloc (.cells #[.int .i64 er] 60)).heap.size) := Lib.hid KE1.out.s.frame.size
    have HRR := Lib.hid (HRQ.out _ KM.out)
    clear HB1 KE
    go_wp2_with (at_builtin; refine wpList_append_er _ rfl (.tmp 31) (.tmp 33) rfl w.heap.size _ _ rfl HO1.out ⟨U.heap.size, 0, none⟩ 1 er rfl hcl (by omega) HS1.out ?_; intro v2 w2 ho2 hg2 hB2)
    have KN := Lib.hid (KE1.out.more HRR.out (by decide) ho2 hg2 hB2)
    clear KE1 hcl HO1 HS1 HRR ho2 hg2 hB2
    go_wp2
    go_roundw
    case rel => exact ⟨j + 1, q, by omega, by go_num, KM, Lib.hid (by rw [HER.out]; exact KN.out)⟩
    case measure => simp [intOf]; omega
  ·obtain rfl : j = l.length := by omega
   rw [List.take_length] at HM HG
   obtain ⟨c0, c1, c2, c3, c4, c5⟩ := HG.out.s.cells
   obtain ⟨z0, z1, z2, z3, z4, z5⟩ := HG.out.z.cells
   obtain ⟨f0, f1, f2, f3, f4, f5⟩ := HG.out.z.free
   have hgl := HG.out.z.lt
   have hF := HG.out.z.set HG.out.s.at_
   have HL := Lib.hid (loadS6 hF.blk)
   have HO := ErO.setT HG.out.z HG.out.s.at_ HG.out.o (by decide)
   obtain ⟨b, c', rfl, i1, i2, i3, -⟩ := HO.row
   have i4 := HO.low
   have HFN := Lib.hid (show SaAt _ q ∧ q.m = foldE x.m l ∧ ErSl _ b (errsE x.m l) ∧ (errsE x.m l).length ≤ c' ∧ c' ≤ maxLen ∧ Below w.heap.size w _ ∧ ∀ k o, b = some ⟨k, o, none⟩ → w.heap.size ≤ k from ⟨hF.at_, HM.out, i3, i1, i2, hF.frame, fun k o e => i4 _ _ _ rfl k o e⟩)
   unfold setS saV saC at HL
   unfold saO at z0 z1 z2 z3 z4 z5
   dsimp only at z0 z1 z2 z3 z4 z5
   clear hF HG HM HO i1 i2 i3 i4
   go_wp2
   refine bodyPost_ret (v := .tuple #[saV q, .slice b (errsE x.m l).length c']) ?_ rfl ⟨q, b, c', rfl, HFN.out.1, HFN.out.2.1, HFN.out.2.2.1, HFN.out.2.2.2.1, HFN.out.2.2.2.2.1, HFN.out.2.2.2.2.2⟩
   rw [results_cellT rfl]
   unfold saV saC
   simp [asAddr, Result.andThen, HL.out]
theorem pfold_any (x : SaL) (a : Option Addr) (c : Nat) (l : List EvM) (w : World) (h : SaAt w x) (hr : RightS x.m) (hs : EvSl w a l) (hf : FitsV l) (hc : stCnt x.m + l.length ≤ 200) :
  Calls Tryz.prog 22 #[saV x, .slice a l.length c] w (FoldsTo w (foldE x.m l) (errsE x.m l)) :=
 (pfold_more x a c l w h hr hs hf hc).mono fun r w' q => q.one
structure Al13 (w : World) (g : Nat) (y : SaL) (V : World) : Prop where
 s : SB w g 39 y V
 p : V.heap[w.heap.size]? = some (.cells #[.string ⟨#[98, 111, 98]⟩, .string ⟨#[97, 110, 110]⟩] 79 (0, 0))
theorem Al13.below {w V V' : World} {g : Nat} {y : SaL} (h : Al13 w g y V) (q : Below V.heap.size V V') : Al13 w g y V' := ⟨h.s.below q, (q.block _ (heap_lt h.p)).trans h.p⟩
theorem Al13.cells {w V : World} {g : Nat} {y : SaL} (h : Al13 w g y V) : V.cell? ⟨w.heap.size, 0, none⟩ = some (.string ⟨#[98, 111, 98]⟩) ∧ V.cell? ⟨w.heap.size, 1, none⟩ = some (.string ⟨#[97, 110, 110]⟩) ∧ V.cell? ⟨g, 0, none⟩ = some (.int .i64 y.now) ∧ V.cell? ⟨g, 1, none⟩ = some (.int .i64 y.hor) ∧ V.cell? ⟨g, 2, none⟩ = some (.slice y.oa y.op.length y.oc) ∧ V.cell? ⟨g, 3, none⟩ = some (.slice y.ua y.us.length y.uc) ∧ V.cell? ⟨g, 4, none⟩ = some (.slice y.sa y.su.length y.sc) ∧ V.cell? ⟨g, 5, none⟩ = some (.slice y.ta y.tb.length y.tc) :=
 ⟨cell_of_row _ _ _ _ _ _ h.p, cell_of_row _ _ _ _ _ _ h.p, h.s.cells⟩
set_option maxHeartbeats 8000000 in
theorem alive13 (w : World) : Calls Tryz.prog 47 #[] w fun e w' => e = .returned (.bool true) ∧ Below w.heap.size w w' := by
 have HFO : Hid (∀ (a : Option Addr) c V, EvSl V a l13 → Calls Tryz.prog 22 #[.agg #[.int .i64 0, .int .i64 0, .slice none 0 0, .slice none 0 0, .slice none 0 0, .slice none 0 0], .slice a 3 c] V fun r w' => ∃ y b n q, r = .returned (.tuple #[.agg #[.int .i64 y.now, .int .i64 y.hor, .slice y.oa y.op.length y.oc, .slice y.ua y.us.length y.uc, .slice y.sa y.su.length y.sc, .slice y.ta y.tb.length y.tc], .slice b n q]) ∧ SaAt w' y ∧ y.m = sG3 ∧ Below V.heap.size V w') := Lib.hid fun a c V h => by
  have h1 := pfold_any saO a c l13 V (SaAt.zero V) RightS.zero h l13_fits (by decide)
  rw [show saO.m = saZ from rfl, l13_fold] at h1
  refine h1.mono ?_
  rintro r w' ⟨y, b, q, rfl, k1, k2, k3, -, -, k4⟩
  exact ⟨y, b, _, q, rfl, k1, k2, k4⟩
 have HR1 : Hid (∀ (y : SaL) V, SaAt V y → y.m = sG3 → Calls Tryz.prog 48 #[.agg #[.int .i64 y.now, .int .i64 y.hor, .slice y.oa y.op.length y.oc, .slice y.ua y.us.length y.uc, .slice y.sa y.su.length y.sc, .slice y.ta y.tb.length y.tc], .agg #[.string ⟨#[98, 111, 98]⟩, .string ⟨#[97, 110, 110]⟩, .int .i64 0, .int .i64 8, .int .i64 9]] V fun r w' => ∃ b q, r = .returned (.tuple #[.slice b 1 q, .int .i64 0]) ∧ StSl w' b [⟨5, 8, 1, 1⟩] ∧ Below V.heap.size V w') := Lib.hid fun y V h hm => by
  have h1 := range_any13 y ⟨bo11, an11, 0, 8, 9⟩ V h (hm ▸ (few_of sG3_right (n := 200) (by decide))) (by decide) (by decide)
  rw [hm] at h1
  refine h1.mono ?_
  rintro r w' ⟨b, q, m, rfl, k1, -, k3, k4⟩
  obtain rfl := g_told1 k1
  exact ⟨b, q, by rw [show whyV sG3 (AskM.w ⟨bo11, an11, 0, 8, 9⟩) (AskM.u ⟨bo11, an11, 0, 8, 9⟩) (AskM.n ⟨bo11, an11, 0, 8, 9⟩) = 0 from why_g 9 bo11 bo_name (by decide)]; rfl, k3, k4⟩
 have HR2 : Hid (∀ (y : SaL) V, SaAt V y → y.m = sG3 → Calls Tryz.prog 48 #[.agg #[.int .i64 y.now, .int .i64 y.hor, .slice y.oa y.op.length y.oc, .slice y.ua y.us.length y.uc, .slice y.sa y.su.length y.sc, .slice y.ta y.tb.length y.tc], .agg #[.string ⟨#[98, 111, 98]⟩, .string ⟨#[97, 110, 110]⟩, .int .i64 0, .int .i64 0, .int .i64 8]] V fun r w' => ∃ b q, r = .returned (.tuple #[.slice b 0 q, .int .i64 130]) ∧ Below V.heap.size V w') := Lib.hid fun y V h hm => by
  have h1 := range_any13 y ⟨bo11, an11, 0, 0, 8⟩ V h (hm ▸ (few_of sG3_right (n := 200) (by decide))) (by decide) (by decide)
  rw [hm] at h1
  refine h1.mono ?_
  rintro r w' ⟨b, q, m, rfl, k1, -, k3, k4⟩
  obtain rfl := k1.2 (by rw [show whyV sG3 (AskM.w ⟨bo11, an11, 0, 0, 8⟩) (AskM.u ⟨bo11, an11, 0, 0, 8⟩) (AskM.n ⟨bo11, an11, 0, 0, 8⟩) = 130 from g_why2]; decide)
  exact ⟨b, q, by rw [show whyV sG3 (AskM.w ⟨bo11, an11, 0, 0, 8⟩) (AskM.u ⟨bo11, an11, 0, 0, 8⟩) (AskM.n ⟨bo11, an11, 0, 0, 8⟩) = 130 from g_why2]; rfl, k4⟩
 have HR3 : Hid (∀ (y : SaL) V, SaAt V y → y.m = sG3 → Calls Tryz.prog 48 #[.agg #[.int .i64 y.now, .int .i64 y.hor, .slice y.oa y.op.length y.oc, .slice y.ua y.us.length y.uc, .slice y.sa y.su.length y.sc, .slice y.ta y.tb.length y.tc], .agg #[.string ⟨#[]⟩, .string ⟨#[]⟩, .int .i64 0, .int .i64 0, .int .i64 9]] V fun r w' => ∃ b q, r = .returned (.tuple #[.slice b 0 q, .int .i64 1]) ∧ Below V.heap.size V w') := Lib.hid fun y V h hm => by
  have h1 := range_any13 y ⟨no11, no11, 0, 0, 9⟩ V h (hm ▸ (few_of sG3_right (n := 200) (by decide))) (by decide) (by decide)
  rw [hm] at h1
  refine h1.mono ?_
  rintro r w' ⟨b, q, m, rfl, k1, -, k3, k4⟩
  obtain rfl := k1.2 (by rw [show whyV sG3 (AskM.w ⟨no11, no11, 0, 0, 9⟩) (AskM.u ⟨no11, no11, 0, 0, 9⟩) (AskM.n ⟨no11, no11, 0, 0, 9⟩) = 1 from g_why3]; decide)
  exact ⟨b, q, by rw [show whyV sG3 (AskM.w ⟨no11, no11, 0, 0, 9⟩) (AskM.u ⟨no11, no11, 0, 0, 9⟩) (AskM.n ⟨no11, no11, 0, 0, 9⟩) = 1 from g_why3]; rfl, k4⟩
 have HL1 : Hid (∀ (y : SaL) V, SaAt V y → y.m = sG3 → Calls Tryz.prog 51 #[.agg #[.int .i64 y.now, .int .i64 y.hor, .slice y.oa y.op.length y.oc, .slice y.ua y.us.length y.uc, .slice y.sa y.su.length y.sc, .slice y.ta y.tb.length y.tc], .agg #[.string ⟨#[98, 111, 98]⟩, .string ⟨#[97, 110, 110]⟩], .int .i64 20] V fun r w' => r = .returned (.tuple #[.int .i64 9, .bool true, .int .i64 0]) ∧ Below V.heap.size V w') := Lib.hid fun y V h hm => by
  have h1 := last_any13 y bo11 an11 20 V h (hm ▸ (few_of sG3_right (n := 200) (by decide))) (by decide) (by decide)
  rw [hm, why_g 20 bo11 bo_name (by decide)] at h1
  refine h1.mono ?_
  rintro r w' ⟨m, rfl, k1, k4⟩
  obtain rfl := g_last1 k1
  exact ⟨rfl, k4⟩
 have HL2 : Hid (∀ (y : SaL) V, SaAt V y → y.m = sG3 → Calls Tryz.prog 51 #[.agg #[.int .i64 y.now, .int .i64 y.hor, .slice y.oa y.op.length y.oc, .slice y.ua y.us.length y.uc, .slice y.sa y.su.length y.sc, .slice y.ta y.tb.length y.tc], .agg #[.string ⟨#[97, 110, 110]⟩, .string ⟨#[97, 110, 110]⟩], .int .i64 20] V fun r w' => r = .returned (.tuple #[.int .i64 0, .bool false, .int .i64 0]) ∧ Below V.heap.size V w') := Lib.hid fun y V h hm => by
  have h1 := last_any13 y an11 an11 20 V h (hm ▸ (few_of sG3_right (n := 200) (by decide))) (by decide) (by decide)
  rw [hm, why_g 20 an11 an_name (by decide)] at h1
  refine h1.mono ?_
  rintro r w' ⟨m, rfl, k1, k4⟩
  obtain rfl := g_last2 k1
  exact ⟨rfl, k4⟩
 have HS5 : Hid (∀ (y : SaL) V, SaAt V y → y.m = sG3 → Calls Tryz.prog 53 #[.agg #[.int .i64 y.now, .int .i64 y.hor, .slice y.oa y.op.length y.oc, .slice y.ua y.us.length y.uc, .slice y.sa y.su.length y.sc, .slice y.ta y.tb.length y.tc], .agg #[.string ⟨#[98, 111, 98]⟩, .string ⟨#[97, 110, 110]⟩], .int .i64 5] V fun r w' => r = .returned (.bool true) ∧ Below V.heap.size V w') := Lib.hid fun y V h hm => by
  have h1 := sees_any13 y bo11 an11 5 V h (by rw [hm]; decide)
  rw [hm, g_sees5] at h1
  exact h1
 have HS4 : Hid (∀ (y : SaL) V, SaAt V y → y.m = sG3 → Calls Tryz.prog 53 #[.agg #[.int .i64 y.now, .int .i64 y.hor, .slice y.oa y.op.length y.oc, .slice y.ua y.us.length y.uc, .slice y.sa y.su.length y.sc, .slice y.ta y.tb.length y.tc], .agg #[.string ⟨#[98, 111, 98]⟩, .string ⟨#[97, 110, 110]⟩], .int .i64 4] V fun r w' => r = .returned (.bool false) ∧ Below V.heap.size V w') := Lib.hid fun y V h hm => by
  have h1 := sees_any13 y bo11 an11 4 V h (by rw [hm]; decide)
  rw [hm, g_sees4] at h1
  exact h1
 have hb1 := below_one w (.cells #[.string ⟨#[98, 111, 98]⟩, .string ⟨#[97, 110, 110]⟩] 79)
 have hb2 := hb1.trans ((below_one (w.alloc (.cells #[.string ⟨#[98, 111, 98]⟩, .string ⟨#[97, 110, 110]⟩] 79)) (.cells #[.int .i64 1, .int .i64 3, .string ⟨#[97, 110, 110]⟩, .string ⟨#[]⟩, .int .i64 1, .int .i64 1, .int .i64 4, .int .i64 5, .string ⟨#[98, 111, 98]⟩, .string ⟨#[97, 110, 110]⟩, .int .i64 0, .int .i64 0, .int .i64 3, .int .i64 9, .string ⟨#[97, 110, 110]⟩, .string ⟨#[]⟩, .int .i64 1, .int .i64 0] 64)).mono hb1.size)
 have HB0 := Lib.hid hb2
 have HPP := Lib.hid ((below_one (w.alloc (.cells #[.string ⟨#[98, 111, 98]⟩, .string ⟨#[97, 110, 110]⟩] 79)) (.cells #[.int .i64 1, .int .i64 3, .string ⟨#[97, 110, 110]⟩, .string ⟨#[]⟩, .int .i64 1, .int .i64 1, .int .i64 4, .int .i64 5, .string ⟨#[98, 111, 98]⟩, .string ⟨#[97, 110, 110]⟩, .int .i64 0, .int .i64 0, .int .i64 3, .int .i64 9, .string ⟨#[97, 110, 110]⟩, .string ⟨#[]⟩, .int .i64 1, .int .i64 0] 64)).block w.heap.size (by rw [size1]; omega) |>.trans (heap_alloc_new w (.cells #[.string ⟨#[98, 111, 98]⟩, .string ⟨#[97, 110, 110]⟩] 79)))
 have HL := Lib.hid (evsl_lit (w.alloc (.cells #[.string ⟨#[98, 111, 98]⟩, .string ⟨#[97, 110, 110]⟩] 79)) l13 #[.int .i64 1, .int .i64 3, .string ⟨#[97, 110, 110]⟩, .string ⟨#[]⟩, .int .i64 1, .int .i64 1, .int .i64 4, .int .i64 5, .string ⟨#[98, 111, 98]⟩, .string ⟨#[97, 110, 110]⟩, .int .i64 0, .int .i64 0, .int .i64 3, .int .i64 9, .string ⟨#[97, 110, 110]⟩, .string ⟨#[]⟩, .int .i64 1, .int .i64 0] 64 (w.heap.size + 1) (size1 _ _).symm rfl)
 clear hb1 hb2
 go_enter Tryz.func47, Tryz.ntmps47
 go_wp2_with fail
 refine (HFO.out _ _ _ HL.out).mono ?_
 rintro r w2 ⟨y, b0, n0, q0, rfl, hy, hym, h2⟩
 have HK : Hid (Al13 w w2.heap.size y (w2.alloc (.cells #[.int .i64 y.now, .int .i64 y.hor, .slice y.oa y.op.length y.oc, .slice y.ua y.us.length y.uc, .slice y.sa y.su.length y.sc, .slice y.ta y.tb.length y.tc] 39))) := Lib.hid ⟨SB.new (HB0.out.trans (h2.mono HB0.out.size)) hy _, ((h2.trans ((below_one w2 _).mono h2.size)).block _ (heap_lt HPP.out)).trans HPP.out⟩
 have HYM := Lib.hid hym
 clear hy hym h2 HFO HL HB0 HPP
 obtain ⟨p0, p1, c0, c1, c2, c3, c4, c5⟩ := HK.out.cells
 dsimp only at *
 go_wp2_with fail
 refine (HR1.out _ _ HK.out.s.at_ HYM.out).mono ?_
 rintro r w3 ⟨b, q, rfl, hst, h3⟩
 replace HK := Lib.hid (HK.out.below h3)
 have HST := Lib.hid hst
 clear p0 p1 c0 c1 c2 c3 c4 c5 HR1 h3 hst
 obtain ⟨p0, p1, c0, c1, c2, c3, c4, c5⟩ := HK.out.cells
 dsimp only at *
 go_wp2_with fail
 refine (HR2.out _ _ HK.out.s.at_ HYM.out).mono ?_
 rintro r w4 ⟨b4, q4, rfl, h3⟩
 replace HK := Lib.hid (HK.out.below h3)
 replace HST := Lib.hid (HST.out.below h3)
 clear p0 p1 c0 c1 c2 c3 c4 c5 HR2 h3
 obtain ⟨p0, p1, c0, c1, c2, c3, c4, c5⟩ := HK.out.cells
 dsimp only at *
 go_wp2_with fail
 refine (HR3.out _ _ HK.out.s.at_ HYM.out).mono ?_
 rintro r w5 ⟨b5, q5, rfl, h3⟩
 replace HK := Lib.hid (HK.out.below h3)
 replace HST := Lib.hid (HST.out.below h3)
 clear p0 p1 c0 c1 c2 c3 c4 c5 HR3 h3
 obtain ⟨p0, p1, c0, c1, c2, c3, c4, c5⟩ := HK.out.cells
 dsimp only at *
 go_wp2_with fail
 refine (HL1.out _ _ HK.out.s.at_ HYM.out).mono ?_
 rintro r w6 ⟨rfl, h3⟩
 replace HK := Lib.hid (HK.out.below h3)
 replace HST := Lib.hid (HST.out.below h3)
 clear p0 p1 c0 c1 c2 c3 c4 c5 HL1 h3
 obtain ⟨p0, p1, c0, c1, c2, c3, c4, c5⟩ := HK.out.cells
 dsimp only at *
 go_wp2_with fail
 refine (HL2.out _ _ HK.out.s.at_ HYM.out).mono ?_
 rintro r w7 ⟨rfl, h3⟩
 replace HK := Lib.hid (HK.out.below h3)
 replace HST := Lib.hid (HST.out.below h3)
 clear p0 p1 c0 c1 c2 c3 c4 c5 HL2 h3
 obtain ⟨p0, p1, c0, c1, c2, c3, c4, c5⟩ := HK.out.cells
 dsimp only at *
 obtain ⟨b1, o1, rfl, -, r0, r1, r2, r3⟩ := HST.out 0 (by decide)
 simp only [List.getElem_cons_zero, Nat.zero_mul, Nat.add_zero] at r0 r1 r2 r3
 go_wp2_with fail
 refine (HS5.out _ _ HK.out.s.at_ HYM.out).mono ?_
 rintro r w8 ⟨rfl, h3⟩
 replace HK := Lib.hid (HK.out.below h3)
 clear p0 p1 c0 c1 c2 c3 c4 c5 HS5 h3 r0 r1 r2 r3 HST
 obtain ⟨p0, p1, c0, c1, c2, c3, c4, c5⟩ := HK.out.cells
 dsimp only at *
 go_wp2_with fail
 refine (HS4.out _ _ HK.out.s.at_ HYM.out).mono ?_
 rintro r w9 ⟨rfl, h3⟩
 replace HK := Lib.hid (HK.out.below h3)
 clear p0 p1 c0 c1 c2 c3 c4 c5 HS4 h3
 have HF := Lib.hid HK.out.s.frame
 clear HK
 go_wp2
 go_ret
 exact ⟨rfl, HF.out⟩
end Go.Proofs.YtapacckmgmdnoaaGreat
