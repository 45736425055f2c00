/- Texts of mine, one behind the other, of each what is wanted. -/
import Derived.Test.YtapacckmgmdnoaaGreatR00
import Derived.Test.YtapacckmgmdnoaaGreatShelf
import Derived.Test.YtapacckmgmdnoaaGreatRows
import Derived.Test.YtapacckmgmdnoaaGreatR01
import Derived.Test.YtapacckmgmdnoaaGreatR03
import Derived.Test.YtapacckmgmdnoaaGreatR04
import Derived.Test.YtapacckmgmdnoaaGreatR06
import Derived.Test.YtapacckmgmdnoaaGreatR07
import Derived.Test.YtapacckmgmdnoaaGreatR14
import Derived.Test.YtapacckmgmdnoaaGreatR18
import Derived.Test.YtapacckmgmdnoaaGreatR19
import Derived.Test.YtapacckmgmdnoaaGreatR20
import Derived.Test.YtapacckmgmdnoaaGreatR26
import Derived.Test.YtapacckmgmdnoaaGreatR27
import Derived.Test.YtapacckmgmdnoaaGreatR28
import Derived.Test.YtapacckmgmdnoaaGreatR29
import Derived.Test.YtapacckmgmdnoaaGreatR33
import Derived.Test.YtapacckmgmdnoaaGreatR39
namespace Go.Proofs.YtapacckmgmdnoaaGreat
open Go.RowKit Go.Proofs
set_option linter.unusedVariables false
set_option maxRecDepth 100000
theorem er_make (n : Nat) (hn : n ≤ 1000000) (W : World) : (Instr.makeSlice 40 (.int .i64 0) (.int .i64 (n : Int))).run Tryz.prog W = .ok (.slice (some ⟨W.heap.size, 0, none⟩) 0 n) (W.alloc (.cells (erc [] n).toArray 60)) := by
 obtain ⟨i0, hi, hz0, hz1, hz2⟩ := info_parts infoErr
 have hr := run_make (P := Tryz.prog) W 40 60 i0 _ Tryz.underlying40 hi hz0 .i64 .i64 0 (n : Int) (Int.le_refl _) (by omega) (by rw [hz2]; omega) (by omega)
 rw [hz1, Int.toNat_zero, Int.toNat_natCast, Nat.mul_one] at hr
 have e : madeCells (Value.int .i64 0).cells n = (erc [] n).toArray := by
  apply Array.toList_inj.1
  rw [made_cells]
  rfl
 rw [e] at hr
 exact hr
set_option maxHeartbeats 4000000 in
theorem pfold_more (x : SaL) (a : Option Addr) (c : Nat) (l : List EvM) (w : World) (h : SaAt w x) (hr : RightS x.m) (hs : EvSl w a l) (hf : FitsV l) (hc : stCnt x.m + l.length ≤ 200) :
  Calls Tryz.prog 22 #[saV x, .slice a l.length c] w (FoldsTo2 w (foldE x.m l) (errsE x.m l)) := by
 obtain ⟨X, Z⟩ := two_SB h 39 39
 have A0 := (hs.below (below_one w (.cells (saC x) 39))).below (below_one _ (.cells (saC saO) 39))
 have HOW : Hid (∀ V, SaAt V x → Calls Tryz.prog 70 #[saV x] V (fun r w' => ∃ y, r = .returned (.agg #[.int .i64 y.now, .int .i64 y.hor, .slice y.oa y.op.length y.oc, .slice y.ua y.us.length y.uc, .slice y.sa y.su.length y.sc, .slice y.ta y.tb.length y.tc]) ∧ SaAt w' y ∧ y.m = x.m ∧ Below V.heap.size V w')) := Lib.hid (fun V h => own_any x V h ((few_of hr (Nat.le_refl _)).mono (by omega)))
 have HMK := Lib.hid (fun W => er_make l.length (by omega) W)
 have HX := Lib.hid X
 have HZ := Lib.hid Z
 have HA := Lib.hid A0
 have HFV := Lib.hid hf
 have HRI := Lib.hid hr
 have HLE : Hid (stCnt x.m + l.length ≤ 200) := Lib.hid hc
 obtain ⟨c0, c1, c2, c3, c4, c5⟩ := X.cells
 unfold saO saV saC at *
 simp only [List.length_nil] at *
 clear h hr hs hf hc X Z A0
 go_enter Tryz.func22, Tryz.ntmps22
 go_wp2_with fail
 refine (HOW.out _ HX.out.at_).mono ?_
 rintro r w1 ⟨y, rfl, hy, hym, h1⟩
 clear c0 c1 c2 c3 c4 c5
 have X1 := HX.out.below h1
 have Z1 := HZ.out.below h1
 have A1 := HA.out.below h1
 obtain ⟨c0, c1, c2, c3, c4, c5⟩ := X1.cells
 obtain ⟨f0, f1, f2, f3, f4, f5⟩ := X1.free
 have hxl := X1.lt
 have X2 := X1.set hy
 have Z2 := (SB.over X1 hy Z1 (Nat.ne_of_gt (Nat.lt_succ_self _))).2
 have A2 := evsl_setS X1 hy A1
 unfold setS at X2 Z2 A2
 replace X2 := Lib.hid X2
 replace Z2 := Lib.hid Z2
 replace A2 := Lib.hid A2
 replace hym := Lib.hid hym
 clear X1 Z1 A1 HX HZ HA h1 hy HOW
 go_upto_region 2 with fail
 generalize ((((((w1.setCell ⟨w.heap.size, 0, none⟩ (.int .i64 y.now)).setCell ⟨w.heap.size, 1, none⟩ (.int .i64 y.hor)).setCell ⟨w.heap.size, 2, none⟩ (.slice y.oa y.op.length y.oc)).setCell ⟨w.heap.size, 3, none⟩ (.slice y.ua y.us.length y.uc)).setCell ⟨w.heap.size, 4, none⟩ (.slice y.sa y.su.length y.sc)).setCell ⟨w.heap.size, 5, none⟩ (.slice y.ta y.tb.length y.tc)) = U at *
 clear c0 c1 c2 c3 c4 c5 f0 f1 f2 f3 f4 f5 hxl
 have hmk := HMK.out U
 have hb := below_one U (.cells (erc [] l.length).toArray 60)
 have HF : Hid (FoK w 39 a l y [] (.slice (some ⟨U.heap.size, 0, none⟩) 0 l.length) (U.alloc (.cells (erc [] l.length).toArray 60))) := Lib.hid ⟨X2.out.below hb, Z2.out.below hb, .inr ⟨U.heap.size, l.length, by rw [List.length_nil, Nat.zero_add], X2.out.frame.size, heap_alloc_new _ _, by have := HLE.out; unfold maxLen; rw [List.length_nil]; omega⟩, A2.out.below hb⟩
 clear X2 Z2 A2 hb HMK
 go_upto_region 3 with fail
 clear hmk
 generalize (U.alloc (.cells (erc [] l.length).toArray 60)) = UB at *
 go_wp2
 go_loopw [6, 18] (fun ov iv wr => ∃ (j : Nat) (q : SaL), j ≤ l.length ∧ iv = .int .i64 j ∧ Hid (q.m = foldE x.m (l.take j)) ∧ Hid (FoK w 39 a l q (errsE x.m (l.take j)) ov wr)) (fun _ iv _ => l.length - (intOf iv).toNat)
 case atStart => exact ⟨0, y, by omega, rfl, hym, HF⟩
 case round =>
  clear HF hym
  obtain ⟨j, q, hj, rfl, HM, HG⟩ := hrel
  by_cases hjl : j < l.length
  ·have hw1 : IntKind.i64.wrap ((j : Int) + 1) = (j : Int) + 1 := IntWalk.i64_in _ (by have := HLE.out; omega)
   obtain ⟨ba, ao, ea, hal, u0, u1, u2, u3, u4, u5⟩ := HG.out.l.at_ hjl
   subst ea
   have hw : EFits l[j] := HFV.out _ (List.getElem_mem hjl)
   have hrq : RightS q.m := by rw [HM.out]; exact right_fold _ HRI.out
   have hcq : stCnt q.m ≤ 200 := by
    have h1 := cnt_fold (l.take j) x.m
    rw [← HM.out] at h1
    have h2 := HLE.out
    rw [List.length_take] at h1
    omega
   have HNX : Hid (∀ z : SaL, z.m = teV q.m l[j] → erV q.m l[j] = 0 → z.m = foldE x.m (l.take (j + 1))) := Lib.hid fun z hz h0 => by
    rw [foldE_take _ _ _ hjl, ← HM.out, nxE_ok h0, hz]
    exact (te_ok hrq h0).2.2
   have HST : Hid (¬ erV q.m l[j] = 0 → q.m = foldE x.m (l.take (j + 1))) := Lib.hid fun h0 => by
    rw [foldE_take _ _ _ hjl, ← HM.out, nxE_no h0]
   have HER : Hid (errsE x.m (l.take (j + 1)) = errsE x.m (l.take j) ++ [erV q.m l[j]]) := Lib.hid (by
    rw [errsE_take _ _ _ hjl, ← HM.out]
    rfl)
   have HRQ : Hid (∀ y : SaL, y.m = foldE x.m (l.take (j + 1)) → RightS y.m) := Lib.hid fun y hy => by rw [hy]; exact right_fold _ HRI.out
   have hel : (errsE x.m (l.take j)).length ≤ 1000000 := by have := HLE.out; rw [errsE_len, List.length_take]; omega
   generalize l[j] = e at *
   have HAP : Hid (∀ V, SaAt V q → Calls Tryz.prog 62 #[saV q, evV e] V (fun r w' => ∃ z, r = .returned (.tuple #[.agg #[.int .i64 z.now, .int .i64 z.hor, .slice z.oa z.op.length z.oc, .slice z.ua z.us.length z.uc, .slice z.sa z.su.length z.sc, .slice z.ta z.tb.length z.tc], .int .i64 (erV q.m e)]) ∧ SaAt w' z ∧ z.m = teV q.m e ∧ Below V.heap.size V w')) := Lib.hid (fun V h => g_apply (M := q.m) q e V h rfl hrq hcq hw)
   generalize errsE x.m (l.take j) = E at *
   clear hw hrq hcq HM
   generalize teV q.m e = M1 at *
   generalize erV q.m e = er at *
   unfold saV saC evV at HAP
   have hbE := below_one wr (.cells #[.int .i64 e.kind, .int .i64 e.at_, .string e.user, .string e.other, .int .i64 e.n, .int .i64 e.status] 64)
   have hnE := heap_alloc_new wr (.cells #[.int .i64 e.kind, .int .i64 e.at_, .string e.user, .string e.other, .int .i64 e.n, .int .i64 e.status] 64)
   have GE := Lib.hid (HG.out.below hbE)
   obtain ⟨k0, k1, k2, k3, k4, k5⟩ := GE.out.s.cells
   have e0 := cell_of_row _ _ 0 _ _ (0, 0) hnE
   have e1 := cell_of_row _ _ 1 _ _ (0, 0) hnE
   have e2 := cell_of_row _ _ 2 _ _ (0, 0) hnE
   have e3 := cell_of_row _ _ 3 _ _ (0, 0) hnE
   have e4 := cell_of_row _ _ 4 _ _ (0, 0) hnE
   have e5 := cell_of_row _ _ 5 _ _ (0, 0) hnE
   clear hbE hnE HG
   go_wp2_with fail
   refine (HAP.out _ GE.out.s.at_).mono ?_
   rintro r1 w2 ⟨z, rfl, hz, hzm, h2⟩
   clear u0 u1 u2 u3 u4 u5 k0 k1 k2 k3 k4 k5 e0 e1 e2 e3 e4 e5 HAP
   have hb2 := below_one w2 (.cells #[.int .i64 z.now, .int .i64 z.hor, .slice z.oa z.op.length z.oc, .slice z.ua z.us.length z.uc, .slice z.sa z.su.length z.sc, .slice z.ta z.tb.length z.tc] 39)
   have TK := Lib.hid ((GE.out.below h2).below hb2)
   have TO : Hid (SB w w2.heap.size 39 z (w2.alloc (.cells #[.int .i64 z.now, .int .i64 z.hor, .slice z.oa z.op.length z.oc, .slice z.ua z.us.length z.uc, .slice z.sa z.su.length z.sc, .slice z.ta z.tb.length z.tc] 39))) := Lib.hid (SB.new (GE.out.below h2).s.frame hz 39)
   clear hb2 h2 hz GE
   go_upto_region 7 with fail
   generalize w2.alloc (.cells #[.int .i64 z.now, .int .i64 z.hor, .slice z.oa z.op.length z.oc, .slice z.ua z.us.length z.uc, .slice z.sa z.su.length z.sc, .slice z.ta z.tb.length z.tc] 39) = U at *
   generalize w2.heap.size = g at *
   by_cases g0 : er = 0
   ·subst g0
    have z1 : ((0 : Int) == 0) = true := rfl
    have KA := TK.out.take TO.out (by decide)
    have KM := Lib.hid (HNX.out z hzm rfl)
    unfold setS at KA
    obtain ⟨x0, x1, x2, x3, x4, x5⟩ := TK.out.s.cells
    obtain ⟨f0, f1, f2, f3, f4, f5⟩ := TK.out.s.free
    obtain ⟨y0, y1, y2, y3, y4, y5⟩ := TO.out.cells
    have xl := TK.out.s.lt
    have KE := Lib.hid KA
    clear KA HNX HST hzm TK TO
    go_upto_region 9 with fail
    generalize ((((((U.setCell ⟨w.heap.size, 0, none⟩ (.int .i64 z.now)).setCell ⟨w.heap.size, 1, none⟩ (.int .i64 z.hor)).setCell ⟨w.heap.size, 2, none⟩ (.slice z.oa z.op.length z.oc)).setCell ⟨w.heap.size, 3, none⟩ (.slice z.ua z.us.length z.uc)).setCell ⟨w.heap.size, 4, none⟩ (.slice z.sa z.su.length z.sc)).setCell ⟨w.heap.size, 5, none⟩ (.slice z.ta z.tb.length z.tc)) = UA at *
    clear x0 x1 x2 x3 x4 x5 f0 f1 f2 f3 f4 f5 y0 y1 y2 y3 y4 y5 xl
    have HB1 := below_one UA (.cells #[.int .i64 0] 60)
    have KE1 := Lib.hid (KE.out.below HB1)
    have hcl : (UA.alloc (.cells #[.int .i64 0] 60)).cell? ⟨UA.heap.size, 0, none⟩ = some (.int .i64 0) := cell_of_row _ _ 0 _ _ (0, 0) (heap_alloc_new _ _)
    have HO1 := Lib.hid KE1.out.o
    have HS1 : Hid (w.heap.size ≤ (UA.alloc (.cells #[.int .i64 0] 60)).heap.size) := Lib.hid KE1.out.s.frame.size
    have HRR := Lib.hid (HRQ.out _ KM.out)
    clear HB1 KE
    go_wp2_with (at_builtin; refine wpList_append_er _ rfl (.tmp 31) (.tmp 33) rfl w.heap.size _ _ rfl HO1.out ⟨UA.heap.size, 0, none⟩ 1 0 rfl hcl (by omega) HS1.out ?_; intro v2 w2 ho2 hg2 hB2)
    have KN := Lib.hid (KE1.out.more HRR.out (by decide) ho2 hg2 hB2)
    clear KE1 hcl HO1 HS1 HRR ho2 hg2 hB2
    go_wp2
    go_roundw
    case rel => exact ⟨j + 1, z, by omega, by go_num, KM, Lib.hid (by rw [HER.out]; exact KN.out)⟩
    case measure => simp [intOf]; omega
   ·have z1 : (er == 0) = false := beq_false_of_ne g0
    have KM := Lib.hid (HST.out g0)
    have KE := TK
    clear HNX HST hzm TK TO g0
    have HB1 := below_one U (.cells #[.int .i64 er] 60)
    have KE1 := Lib.hid (KE.out.below HB1)
    have hcl : (U.alloc (.cells #[.int .i64 er] 60)).cell? ⟨U.heap.size, 0, none⟩ = some (.int .i64 er) := cell_of_row _ _ 0 _ _ (0, 0) (heap_alloc_new _ _)
    have HO1 := Lib.hid KE1.out.o
    have HS1 : Hid (w.heap.size ≤ (U.alloc (.cells #[.int .i64 er] 60)).heap.size) := Lib.hid KE1.out.s.frame.size
    have HRR := Lib.hid (HRQ.out _ KM.out)
    clear HB1 KE
    go_wp2_with (at_builtin; refine wpList_append_er _ rfl (.tmp 31) (.tmp 33) rfl w.heap.size _ _ rfl HO1.out ⟨U.heap.size, 0, none⟩ 1 er rfl hcl (by omega) HS1.out ?_; intro v2 w2 ho2 hg2 hB2)
    have KN := Lib.hid (KE1.out.more HRR.out (by decide) ho2 hg2 hB2)
    clear KE1 hcl HO1 HS1 HRR ho2 hg2 hB2
    go_wp2
    go_roundw
    case rel => exact ⟨j + 1, q, by omega, by go_num, KM, Lib.hid (by rw [HER.out]; exact KN.out)⟩
    case measure => simp [intOf]; omega
  ·obtain rfl : j = l.length := by omega
   rw [List.take_length] at HM HG
   obtain ⟨c0, c1, c2, c3, c4, c5⟩ := HG.out.s.cells
   obtain ⟨z0, z1, z2, z3, z4, z5⟩ := HG.out.z.cells
   obtain ⟨f0, f1, f2, f3, f4, f5⟩ := HG.out.z.free
   have hgl := HG.out.z.lt
   have hF := HG.out.z.set HG.out.s.at_
   have HL := Lib.hid (loadS6 hF.blk)
   have HO := ErO.setT HG.out.z HG.out.s.at_ HG.out.o (by decide)
   obtain ⟨b, c', rfl, i1, i2, i3, -⟩ := HO.row
   have i4 := HO.low
   have HFN := Lib.hid (show SaAt _ q ∧ q.m = foldE x.m l ∧ ErSl _ b (errsE x.m l) ∧ (errsE x.m l).length ≤ c' ∧ c' ≤ maxLen ∧ Below w.heap.size w _ ∧ ∀ k o, b = some ⟨k, o, none⟩ → w.heap.size ≤ k from ⟨hF.at_, HM.out, i3, i1, i2, hF.frame, fun k o e => i4 _ _ _ rfl k o e⟩)
   unfold setS saV saC at HL
   unfold saO at z0 z1 z2 z3 z4 z5
   dsimp only at z0 z1 z2 z3 z4 z5
   clear hF HG HM HO i1 i2 i3 i4
   go_wp2
   refine bodyPost_ret (v := .tuple #[saV q, .slice b (errsE x.m l).length c']) ?_ rfl ⟨q, b, c', rfl, HFN.out.1, HFN.out.2.1, HFN.out.2.2.1, HFN.out.2.2.2.1, HFN.out.2.2.2.2.1, HFN.out.2.2.2.2.2⟩
   rw [results_cellT rfl]
   unfold saV saC
   simp [asAddr, Result.andThen, HL.out]
theorem pfold_any (x : SaL) (a : Option Addr) (c : Nat) (l : List EvM) (w : World) (h : SaAt w x) (hr : RightS x.m) (hs : EvSl w a l) (hf : FitsV l) (hc : stCnt x.m + l.length ≤ 200) :
  Calls Tryz.prog 22 #[saV x, .slice a l.length c] w (FoldsTo w (foldE x.m l) (errsE x.m l)) :=
 (pfold_more x a c l w h hr hs hf hc).mono fun r w' q => q.one
def RowsTo (w : World) (l : List EvM) (r : Ending) (w' : World) : Prop := ∃ b q, r = .returned (.slice b l.length q) ∧ EvSl w' b l ∧ l.length ≤ q ∧ q ≤ maxLen ∧ (b = none → q = 0) ∧ Below w.heap.size w w'
theorem own_ev2 {w : World} {B e : Nat} {v : Value} {l : List EvM} (h : w.ownsRow B e 6 v l.length (evs l)) : ∃ a c, v = .slice a l.length c ∧ EvSl w a l ∧ l.length ≤ c ∧ c ≤ maxLen ∧ (a = none → c = 0) := by
 obtain ⟨a, c, rfl, h1, h2⟩ := own_ev h
 refine ⟨a, c, rfl, h2, h1, ?_⟩
 rcases h.2 with ⟨e1, hn⟩ | ⟨g, cap, cur, e1, hg, hh, hn, hc, hsz, ht⟩
 ·injection e1 with e1 e2 e3
  subst e1 e3
  exact ⟨by unfold maxLen; omega, fun _ => rfl⟩
 ·injection e1 with e1 e2 e3
  subst e1 e3
  exact ⟨hc, fun e => by cases e⟩
set_option maxHeartbeats 4000000 in
theorem ptaken_any (x : SaL) (a : Option Addr) (c : Nat) (l : List EvM) (w : World) (h : SaAt w x) (hr : RightS x.m) (hs : EvSl w a l) (hf : FitsV l) (hc : stCnt x.m + l.length ≤ 200) :
  Calls Tryz.prog 31 #[saV x, .slice a l.length c] w (RowsTo w (takenE x.m l)) := by
 have S0 := SB.new (Below.refl w.heap.size w) h 39
 have A0 := hs.below (below_one w (.cells (saC x) 39))
 have HFO := Lib.hid (fun V (h : SaAt V x) (k : EvSl V a l) => pfold_any x a c l V h hr k hf hc)
 have hln : l.length ≤ 1000 := by omega
 have htk : takenE x.m (l.take l.length) = takenE x.m l := by rw [List.take_length]
 have HT : Hid (∀ (g : Nat) (b : Option Addr) (q : Nat) (V : World), EvSl V a l → CapE V g b (errsE x.m l) q → Calls Tryz.prog 79 #[.func (.func 80) #[] #[.pointer (some ⟨g, 0, none⟩)], .slice a l.length c] V fun r w' => ∃ v, r = .returned v ∧ w'.ownsRow V.heap.size 64 6 v (takenE x.m l).length (evs (takenE x.m l)) ∧ Below V.heap.size V w') := Lib.hid fun g b q V hV hE => by
  have := those1_any 80 g a c l (fun j => decide ((errsE x.m l).getD j 1 = 0)) (fun j => takenE x.m (l.take j)) (fun V => CapE V g b (errsE x.m l) q) V hV hE hln rfl (fun j hj => by
   rw [taken_told x.m l j hj]
   have e : (errsE x.m l).getD j 1 = (errsE x.m l)[j]'(by rw [errsE_len]; exact hj) := by rw [List.getD_eq_getElem?_getD, List.getElem?_eq_getElem (by rw [errsE_len]; exact hj), Option.getD_some]
   simp only [e, decide_eq_true_eq]) (call_known Tryz.func80 rfl) (fun V V' h q => h.below q) (fun j V hj hE => by
   have e : (errsE x.m l).getD j 1 = (errsE x.m l)[j]'(by rw [errsE_len]; exact hj) := by rw [List.getD_eq_getElem?_getD, List.getElem?_eq_getElem (by rw [errsE_len]; exact hj), Option.getD_some]
   simp only [e]
   exact c_taken j g b (errsE x.m l) q V hE (by rw [errsE_len]; exact hj))
  simp only [htk] at this
  exact this
 have HS := Lib.hid S0
 have HA := Lib.hid A0
 obtain ⟨c0, c1, c2, c3, c4, c5⟩ := S0.cells
 unfold FoldsTo at HFO
 unfold saV saC at *
 clear h hr hs hf hc S0 A0 htk
 generalize takenE x.m l = T at *
 generalize errsE x.m l = E at *
 generalize foldE x.m l = M at *
 go_enter Tryz.func31, Tryz.ntmps31
 go_wp2_with fail
 refine (HFO.out _ HS.out.at_ HA.out).mono ?_
 rintro r w1 ⟨y, b, q, rfl, hy, -, hE, hEq, hqm, h1⟩
 clear c0 c1 c2 c3 c4 c5 HFO
 have hbb := below_two w1 (.cells #[.int .i64 y.now, .int .i64 y.hor, .slice y.oa y.op.length y.oc, .slice y.ua y.us.length y.uc, .slice y.sa y.su.length y.sc, .slice y.ta y.tb.length y.tc] 39) (.cells #[.slice b E.length q] 40)
 have hn := heap_alloc_new (w1.alloc (.cells #[.int .i64 y.now, .int .i64 y.hor, .slice y.oa y.op.length y.oc, .slice y.ua y.us.length y.uc, .slice y.sa y.su.length y.sc, .slice y.ta y.tb.length y.tc] 39)) (.cells #[.slice b E.length q] 40)
 have hsz := size1 w1 (.cells #[.int .i64 y.now, .int .i64 y.hor, .slice y.oa y.op.length y.oc, .slice y.ua y.us.length y.uc, .slice y.sa y.su.length y.sc, .slice y.ta y.tb.length y.tc] 39)
 rw [hsz] at hn
 have HK : Hid (CapE _ (w1.heap.size + 1) b E q) := Lib.hid ⟨cell_of_row _ _ 0 _ _ (0, 0) hn, heap_lt hn, hE.below hbb⟩
 have HAA := Lib.hid ((HA.out.below h1).below hbb)
 have HFR := Lib.hid ((HS.out.below h1).below hbb).frame
 clear hbb hn hsz hE hy h1 HS HA hEq hqm
 go_wp2_with fail
 refine (HT.out _ _ _ _ HAA.out HK.out).mono ?_
 rintro r w2 ⟨v, rfl, ho, h2⟩
 obtain ⟨b', q', rfl, k1, k2, k3, k4⟩ := own_ev2 ho
 have HH : Hid (EvSl w2 b' T ∧ T.length ≤ q' ∧ q' ≤ maxLen ∧ (b' = none → q' = 0) ∧ Below w.heap.size w w2) := Lib.hid ⟨k1, k2, k3, k4, HFR.out.trans (h2.mono HFR.out.size)⟩
 clear HT HAA HK HFR ho h2 k1 k2 k3 k4
 go_wp2
 go_ret
 exact ⟨b', q', rfl, HH.out⟩
set_option maxHeartbeats 4000000 in
theorem pwithout_any (u : ByteArray) (a : Option Addr) (c : Nat) (l : List EvM) (w : World) (hs : EvSl w a l) (hl : l.length ≤ 1000) :
  Calls Tryz.prog 33 #[.string u, .slice a l.length c] w (RowsTo w (withoutV u l)) := by
 have hbb := below_two w (.cells #[.string u] 9) (.cells #[.slice a l.length c] 32)
 have hn := heap_alloc_new (w.alloc (.cells #[.string u] 9)) (.cells #[.slice a l.length c] 32)
 have hsz := size1 w (.cells #[.string u] 9)
 rw [hsz] at hn
 have h0 := heap_alloc_new w (.cells #[.string u] 9)
 have h0' := (below_one (w.alloc (.cells #[.string u] 9)) (.cells #[.slice a l.length c] 32)).block w.heap.size (by rw [hsz]; omega)
 rw [h0] at h0'
 have HK : Hid (CapW ((w.alloc (.cells #[.string u] 9)).alloc (.cells #[.slice a l.length c] 32)) (w.heap.size + 1) w.heap.size a l c u) := Lib.hid ⟨cell_of_row _ _ 0 _ _ (0, 0) hn, heap_lt hn, cell_of_row _ _ 0 _ _ (0, 0) h0', heap_lt h0', hs.below hbb⟩
 have hwt : withoutV u (l.take l.length) = withoutV u l := by rw [List.take_length]
 have HT : Hid (∀ (g0 g1 : Nat) (V : World), CapW V g0 g1 a l c u → Calls Tryz.prog 79 #[.func (.func 81) #[] #[.pointer (some ⟨g0, 0, none⟩), .pointer (some ⟨g1, 0, none⟩)], .slice a l.length c] V fun r w' => ∃ v, r = .returned v ∧ w'.ownsRow V.heap.size 64 6 v (withoutV u l).length (evs (withoutV u l)) ∧ Below V.heap.size V w') := Lib.hid fun g0 g1 V hV => by
  have := those2_any 81 g0 g1 a c l (fun j => !bearB u (l.getD j ⟨0, 0, u, u, 0, 0⟩)) (fun j => withoutV u (l.take j)) (fun V => CapW V g0 g1 a l c u) V hV.row hV hl rfl (fun j hj => by
   rw [withoutV_next u l j hj]
   have e : l.getD j ⟨0, 0, u, u, 0, 0⟩ = l[j] := by rw [List.getD_eq_getElem?_getD, List.getElem?_eq_getElem hj, Option.getD_some]
   simp only [e]
   cases bearB u l[j] <;> rfl) (call_known Tryz.func81 rfl) (fun V V' h q => h.below q) (fun j V hj hE => by
   have e : l.getD j ⟨0, 0, u, u, 0, 0⟩ = l[j] := by rw [List.getD_eq_getElem?_getD, List.getElem?_eq_getElem hj, Option.getD_some]
   simp only [e]
   exact c_without j g0 g1 a l c u V hE hj)
  simp only [hwt] at this
  exact this
 have k0 := HK.out.cell
 have HFR := Lib.hid hbb
 clear hbb hn hsz h0 h0' hs hwt
 generalize withoutV u l = T at *
 go_enter Tryz.func33, Tryz.ntmps33
 go_wp2_with fail
 refine (HT.out _ _ _ HK.out).mono ?_
 rintro r w2 ⟨v, rfl, ho, h2⟩
 obtain ⟨b', q', rfl, k1, k2, k3, k4⟩ := own_ev2 ho
 have HH : Hid (EvSl w2 b' T ∧ T.length ≤ q' ∧ q' ≤ maxLen ∧ (b' = none → q' = 0) ∧ Below w.heap.size w w2) := Lib.hid ⟨k1, k2, k3, k4, HFR.out.trans (h2.mono HFR.out.size)⟩
 clear HT HK HFR ho h2 k0 k1 k2 k3 k4
 go_wp2
 go_ret
 exact ⟨b', q', rfl, HH.out⟩
end Go.Proofs.YtapacckmgmdnoaaGreat
