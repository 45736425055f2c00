/- StateGoes: any events, one behind the other, from nothing on, make just what the document says; each state may be; for all rows of events. No condition. -/
import Derived.JoinedCond
import Derived.Deep.RegionHeld3
import Derived.OrdersHeld
import Derived.Test.YtjhdhfokhkcamaaGreatS00
import Derived.Test.YtjhdhfokhkcamaaGreatRows
import Derived.Test.YtjhdhfokhkcamaaGreatTQ
import Derived.Test.YtjhdhfokhkcamaaGreatS02
import Derived.Test.YtjhdhfokhkcamaaGreatS06
import Derived.Test.YtjhdhfokhkcamaaGreatS07
import Derived.Test.YtjhdhfokhkcamaaGreatS09
import Derived.Test.YtjhdhfokhkcamaaGreatS11
import Derived.Test.YtjhdhfokhkcamaaGreatS13
import Derived.Test.YtjhdhfokhkcamaaGreatS14
import Derived.Test.YtjhdhfokhkcamaaGreatS17
import Derived.Test.YtjhdhfokhkcamaaGreatS21
import Derived.Test.YtjhdhfokhkcamaaGreatS29
import Derived.Test.YtjhdhfokhkcamaaGreatS32
import Derived.Test.YtjhdhfokhkcamaaGreatS33
import Derived.Test.YtjhdhfokhkcamaaGreatS37
import Derived.Test.YtjhdhfokhkcamaaGreatS47
import Derived.Test.YtjhdhfokhkcamaaGreatS51
import Derived.Test.YtjhdhfokhkcamaaGreatS52
namespace Go.Proofs.YtjhdhfokhkcamaaGreat.stateGoes
open Go.ChangeShapes Go.WideShapes Go.ChangeAt Go.RowKit Go.Proofs
open Go.ChangeMaps (open_string shut_string)
set_option linter.unusedVariables false
set_option maxRecDepth 100000

theorem evsl_setB {W : World} {g : Nat} {x : SaL} {t : TypeId} (h : W.heap[g]? = some (.cells (saC x) t (0, 0))) {a : Option Addr} {l : List EvM} (ho : EvSl W a l) (i : Nat) (v : Value) : EvSl (W.setCell ⟨g, i, none⟩ v) a l := fun k hk => by
 obtain ⟨b, off, e, hlt, h0⟩ := ho k hk
 have hne : b ≠ g := fun e => by
  subst e
  have h2 : W.cell? ⟨b, off + k * 6 + 2, none⟩ = some (.string l[k].user) := h0 2 (by decide)
  exact six_string h h2
 exact ⟨b, off, e, by rw [size_set]; exact hlt, fun i hi => (cell_far (p := ⟨b, off + k * 6 + i, none⟩) hne).trans (h0 i hi)⟩
theorem evsl_setS {w W : World} {g : Nat} {x y : SaL} {t : TypeId} (h : SB w g t x W) (hy : SaAt W y) {a : Option Addr} {l : List EvM} (ho : EvSl W a l) : EvSl (setS W g y) a l := by
 have h0 := SB.setNow h y.now
 have y0 := SaAt.setB h.blk hy 0 (.int .i64 y.now)
 have o0 := evsl_setB h.blk ho 0 (.int .i64 y.now)
 have h1 := SB.setHor h0 y.hor
 have y1 := SaAt.setB h0.blk y0 1 (.int .i64 y.hor)
 have o1 := evsl_setB h0.blk o0 1 (.int .i64 y.hor)
 have h2 := SB.setOp h1 rfl y1.op y1.oc
 have y2 := SaAt.setB h1.blk y1 2 (.slice y.oa y.op.length y.oc)
 have o2 := evsl_setB h1.blk o1 2 (.slice y.oa y.op.length y.oc)
 have h3 := SB.setUs h2 rfl y2.us y2.uc
 have y3 := SaAt.setB h2.blk y2 3 (.slice y.ua y.us.length y.uc)
 have o3 := evsl_setB h2.blk o2 3 (.slice y.ua y.us.length y.uc)
 have h4 := SB.setSu h3 rfl y3.su y3.sc
 have o4 := evsl_setB h3.blk o3 4 (.slice y.sa y.su.length y.sc)
 exact evsl_setB h4.blk o4 5 (.slice y.ta y.tb.length y.tc)
structure GoK (w : World) (a b : Option Addr) (l : List EvM) (p q : SaL) (W : World) : Prop where
 x : SB w w.heap.size 38 p W
 s : SB w (w.heap.size + 1) 27 q W
 a : EvSl W a l
 b : EvSl W b l
theorem GoK.below {w W W' : World} {a b : Option Addr} {l : List EvM} {p q : SaL} (h : GoK w a b l p q W) (qB : Below W.heap.size W W') : GoK w a b l p q W' := ⟨h.x.below qB, h.s.below qB, h.a.below qB, h.b.below qB⟩
structure GyK (w : World) (a b : Option Addr) (l : List EvM) (g1 : Nat) (p q y : SaL) (W : World) : Prop where
 x : SB w w.heap.size 38 p W
 s : SB w (w.heap.size + 1) 27 q W
 y : SB w g1 38 y W
 a : EvSl W a l
 b : EvSl W b l
theorem GyK.below {w W W' : World} {a b : Option Addr} {l : List EvM} {g1 : Nat} {p q y : SaL} (h : GyK w a b l g1 p q y W) (qB : Below W.heap.size W W') : GyK w a b l g1 p q y W' := ⟨h.x.below qB, h.s.below qB, h.y.below qB, h.a.below qB, h.b.below qB⟩
theorem GyK.over {w T : World} {a b : Option Addr} {l : List EvM} {g1 gz : Nat} {p q y zz : SaL} (h : GyK w a b l g1 p q y T) (hZ : SB w gz 27 saO T) (hy : SaAt T zz) (nx : w.heap.size ≠ gz) (ns : w.heap.size + 1 ≠ gz) (ny : g1 ≠ gz) : GyK w a b l g1 p q y (setS T gz zz) ∧ SB w gz 27 zz (setS T gz zz) :=
 ⟨⟨(SB.over hZ hy h.x nx).2, (SB.over hZ hy h.s ns).2, (SB.over hZ hy h.y ny).2, evsl_setS hZ hy h.a, evsl_setS hZ hy h.b⟩, SB.set hZ hy⟩
structure GvK (w : World) (a b : Option Addr) (l : List EvM) (g1 g2 : Nat) (p q y v : SaL) (W : World) : Prop where
 x : SB w w.heap.size 38 p W
 s : SB w (w.heap.size + 1) 27 q W
 y : SB w g1 38 y W
 v : SB w g2 27 v W
 a : EvSl W a l
 b : EvSl W b l
theorem GvK.below {w W W' : World} {a b : Option Addr} {l : List EvM} {g1 g2 : Nat} {p q y v : SaL} (h : GvK w a b l g1 g2 p q y v W) (qB : Below W.heap.size W W') : GvK w a b l g1 g2 p q y v W' := ⟨h.x.below qB, h.s.below qB, h.y.below qB, h.v.below qB, h.a.below qB, h.b.below qB⟩
/-- both kept states stored over: the program's first, or the document's -/
theorem GvK.one {w U : World} {a b : Option Addr} {l : List EvM} {g1 g2 : Nat} {p q y v : SaL} (h : GvK w a b l g1 g2 p q y v U) (n1 : g1 ≠ w.heap.size) (n2 : g2 ≠ w.heap.size) : GvK w a b l g1 g2 y q y v (setS U w.heap.size y) :=
 ⟨(SB.over h.x h.y.at_ h.y n1).1, (SB.over h.x h.y.at_ h.s (Nat.ne_of_gt (Nat.lt_succ_self _))).2, (SB.over h.x h.y.at_ h.y n1).2, (SB.over h.x h.y.at_ h.v n2).2, evsl_setS h.x h.y.at_ h.a, evsl_setS h.x h.y.at_ h.b⟩
theorem GvK.two {w U : World} {a b : Option Addr} {l : List EvM} {g1 g2 : Nat} {p q y v : SaL} (h : GvK w a b l g1 g2 p q y v U) (n1 : g1 ≠ w.heap.size + 1) (n2 : g2 ≠ w.heap.size + 1) : GvK w a b l g1 g2 p v y v (setS U (w.heap.size + 1) v) :=
 ⟨(SB.over h.s h.v.at_ h.x (Nat.ne_of_lt (Nat.lt_succ_self _))).2, (SB.over h.s h.v.at_ h.v n2).1, (SB.over h.s h.v.at_ h.y n1).2, (SB.over h.s h.v.at_ h.v n2).2, evsl_setS h.s h.v.at_ h.a, evsl_setS h.s h.v.at_ h.b⟩
set_option maxHeartbeats 16000000 in
theorem walk (w : World) (a : Option Addr) (c : Nat) (l : List EvM) (hs : EvSl w a l) (hf : FitsV l) (hc : l.length ≤ c) (hcm : c ≤ maxLen) (hn : a = none → c = 0) :
  Calls Tryz.prog 4 #[.slice a l.length c] w fun e w' => e = .returned (.bool true) ∧ Below w.heap.size w w' := by
 have HAL := Lib.hid alive11
 by_cases h1 : 60 < l.length
 ·have d1 : decide ((60 : Int) < (l.length : Int)) = true := decide_eq_true (by omega)
  clear hs hf hc hcm hn
  go_enter Tryz.func4, Tryz.ntmps4
  go_wp2_with fail
  refine (HAL.out _).mono ?_
  rintro r1 w1 ⟨rfl, h1⟩
  go_wp2
  go_ret
  exact ⟨rfl, h1⟩
 have d1 : decide ((60 : Int) < (l.length : Int)) = false := decide_eq_false (by omega)
 have HNV : Hid (∀ V, EvSl V a l → Calls Tryz.prog 21 #[.slice a l.length c] V fun r w' => ∃ b q, r = .returned (.slice b l.length q) ∧ EvSl w' b l ∧ Below V.heap.size V w') := Lib.hid fun V h => (evnews_any a c l V h (by omega)).mono (by
  rintro r w' ⟨v, rfl, ho, hb⟩
  obtain ⟨b, q, rfl, -, hr⟩ := own_ev ho
  exact ⟨b, q, rfl, hr, hb⟩)
 obtain ⟨X, Y⟩ := two_states (SaAt.zero w) (SaAt.zero w) 38 27
 have A0 := (hs.below (below_one w (.cells (saC saO) 38))).below (below_one _ (.cells (saC saO) 27))
 unfold saO saC at X Y A0
 simp only [List.length_nil] at X Y A0
 have HFV := Lib.hid hf
 have HLE : Hid (l.length ≤ 60) := Lib.hid (by omega)
 replace X := Lib.hid X
 replace Y := Lib.hid Y
 replace A0 := Lib.hid A0
 clear hs hf hc hcm hn h1
 go_enter Tryz.func4, Tryz.ntmps4
 go_wp2_with fail
 refine (HNV.out _ A0.out).mono ?_
 rintro r1 w1 ⟨b, q1, rfl, hb, h1⟩
 have HG : Hid (GoK w a b l saO saO w1) := Lib.hid ⟨X.out.below h1, Y.out.below h1, A0.out.below h1, hb⟩
 clear X Y A0 hb h1 HNV
 go_wp2
 go_loopw [18] (fun iv wr => ∃ (j : Nat) (M : SaM) (p q : SaL), j ≤ l.length ∧ iv = .int .i64 j ∧ Hid (p.m = M ∧ q.m = M ∧ RightS M ∧ stCnt M ≤ j) ∧ Hid (GoK w a b l p q wr)) (fun iv _ => l.length - (intOf iv).toNat)
 case atStart => exact ⟨0, saZ, saO, saO, by omega, rfl, Lib.hid ⟨saO_m, saO_m, RightS.zero, Nat.le_refl _⟩, HG⟩
 case round =>
  clear HG
  obtain ⟨j, M, p, q, hj, rfl, HM, HG⟩ := hrel
  by_cases hjl : j < l.length
  ·have hw1 : IntKind.i64.wrap ((j : Int) + 1) = (j : Int) + 1 := IntWalk.i64_in _ (by have := HLE.out; omega)
   obtain ⟨hp, hq, hr, hc⟩ := HM.out
   have hle := HLE.out
   have hw : EFits l[j] := HFV.out _ (List.getElem_mem hjl)
   obtain ⟨bb, bo, eb, hbl, r0, r1, r2, r3, r4, r5⟩ := HG.out.b.at_ hjl
   obtain ⟨ba, ao, ea, hal, u0, u1, u2, u3, u4, u5⟩ := HG.out.a.at_ hjl
   subst eb ea
   have HEJ : Hid (∀ V, EvSl V (some ⟨ba, ao, none⟩) l → V.cell? ⟨ba, ao + j * 6, none⟩ = some (.int .i64 l[j].kind) ∧ V.cell? ⟨ba, ao + j * 6 + 1, none⟩ = some (.int .i64 l[j].at_) ∧ V.cell? ⟨ba, ao + j * 6 + 2, none⟩ = some (.string l[j].user) ∧ V.cell? ⟨ba, ao + j * 6 + 3, none⟩ = some (.string l[j].other) ∧ V.cell? ⟨ba, ao + j * 6 + 4, none⟩ = some (.int .i64 l[j].n) ∧ V.cell? ⟨ba, ao + j * 6 + 5, none⟩ = some (.int .i64 l[j].status)) := fun V h => by
    obtain ⟨b', o', e', -, h0⟩ := h.at_ hjl
    cases e'
    exact h0
   generalize l[j] = e at *
   have hr1 := te_right hr e
   have hc1 := te_cnt hr e
   have hf1 : Few (teV M e) 900 := (few_of hr1 (Nat.le_refl _)).mono (by omega)
   have HAP : Hid (∀ V, SaAt V p → Calls Tryz.prog 16 #[saV p, evV e] V (fun r w' => ∃ z, r = .returned (.tuple #[.agg #[.int .i64 z.now, .int .i64 z.hor, .slice z.oa z.op.length z.oc, .slice z.ua z.us.length z.uc, .slice z.sa z.su.length z.sc, .slice z.ta z.tb.length z.tc], .int .i64 (erV M e)]) ∧ SaAt w' z ∧ z.m = teV M e ∧ Below V.heap.size V w')) := Lib.hid (fun V h => g_apply (M := M) p e V h hp hr (by omega) hw)
   have HRA : Hid (∀ V, SaAt V q → Calls Tryz.prog 17 #[saV q, evV e] V (fun r w' => ∃ z, r = .returned (.tuple #[.agg #[.int .i64 z.now, .int .i64 z.hor, .slice z.oa z.op.length z.oc, .slice z.ua z.us.length z.uc, .slice z.sa z.su.length z.sc, .slice z.ta z.tb.length z.tc], .int .i64 (erV M e)]) ∧ SaAt w' z ∧ z.m = teV M e ∧ Below V.heap.size V w')) := Lib.hid (fun V h => g_rapply (M := M) q e V h hq hr (by omega) hw)
   have HO1 := Lib.hid (fun y V (h : SaAt V y) hm => g_old (M := teV M e) y V h hm hf1)
   have HS1 := Lib.hid (fun p q V (h : SaAt V p) (k : SaAt V q) hm km => g_rsame (M := teV M e) p q V h k hm km hf1)
   have HRT := Lib.hid (fun p V (h : SaAt V p) hm => g_right (M := teV M e) p V h hm (sz_right hr1) hf1 hr1)
   have HR0 := Lib.hid (fun V (h : SaAt V p) => g_right (M := M) p V h hp (sz_right hr) ((few_of hr (Nat.le_refl _)).mono (by omega)) hr)
   have HK1 : Hid (RightS (teV M e) ∧ stCnt (teV M e) ≤ j + 1) := Lib.hid ⟨hr1, by omega⟩
   clear hp hq hr hc hw hr1 hc1 hf1 hle
   generalize teV M e = M1 at *
   generalize erV M e = er at *
   have hbE := below_one wr (.cells #[.int .i64 e.kind, .int .i64 e.at_, .string e.user, .string e.other, .int .i64 e.n, .int .i64 e.status] 43)
   have hnE := heap_alloc_new wr (.cells #[.int .i64 e.kind, .int .i64 e.at_, .string e.user, .string e.other, .int .i64 e.n, .int .i64 e.status] 43)
   have GE := Lib.hid (HG.out.below hbE)
   obtain ⟨c0, c1, c2, c3, c4, c5⟩ := GE.out.x.cells
   have e0 := cell_of_row _ _ 0 _ _ (0, 0) hnE
   have e1 := cell_of_row _ _ 1 _ _ (0, 0) hnE
   have e2 := cell_of_row _ _ 2 _ _ (0, 0) hnE
   have e3 := cell_of_row _ _ 3 _ _ (0, 0) hnE
   have e4 := cell_of_row _ _ 4 _ _ (0, 0) hnE
   have e5 := cell_of_row _ _ 5 _ _ (0, 0) hnE
   clear hbE hnE
   have hq1 : (er == er) = true := beq_self_eq_true _
   have hq2 : (er != er) = false := by rw [bne, hq1]; rfl
   go_wp2_with fail
   refine (HAP.out _ GE.out.x.at_).mono ?_
   rintro r6 w2 ⟨y, rfl, hy, hym, h2⟩
   clear r0 r1 r2 r3 r4 r5 u0 u1 u2 u3 u4 u5 c0 c1 c2 c3 c4 c5 e0 e1 e2 e3 e4 e5
   have hb2 := below_one w2 (.cells #[.int .i64 y.now, .int .i64 y.hor, .slice y.oa y.op.length y.oc, .slice y.ua y.us.length y.uc, .slice y.sa y.su.length y.sc, .slice y.ta y.tb.length y.tc] 38)
   have hc2 := h2.trans (hb2.mono h2.size)
   have KK : GyK w (some ⟨ba, ao, none⟩) (some ⟨bb, bo, none⟩) l w2.heap.size p q y (w2.alloc (.cells #[.int .i64 y.now, .int .i64 y.hor, .slice y.oa y.op.length y.oc, .slice y.ua y.us.length y.uc, .slice y.sa y.su.length y.sc, .slice y.ta y.tb.length y.tc] 38)) := ⟨GE.out.x.below hc2, GE.out.s.below hc2, SB.new (GE.out.x.frame.trans (h2.mono GE.out.x.frame.size)) hy 38, GE.out.a.below hc2, GE.out.b.below hc2⟩
   have N1 : w.heap.size < w2.heap.size := Nat.lt_of_lt_of_le GE.out.x.lt h2.size
   have N2 : w.heap.size + 1 < w2.heap.size := Nat.lt_of_lt_of_le GE.out.s.lt h2.size
   clear hb2 hc2 h2 hy GE HG HAP
   go_wp2_with fail
   generalize w2.alloc (.cells #[.int .i64 y.now, .int .i64 y.hor, .slice y.oa y.op.length y.oc, .slice y.ua y.us.length y.uc, .slice y.sa y.su.length y.sc, .slice y.ta y.tb.length y.tc] 38) = w3 at *
   generalize w2.heap.size = g1 at *
   have HSC : Hid (∀ V, GyK w (some ⟨ba, ao, none⟩) (some ⟨bb, bo, none⟩) l g1 p q y V → V.cell? ⟨w.heap.size + 1, 0, none⟩ = some (.int .i64 q.now) ∧ V.cell? ⟨w.heap.size + 1, 1, none⟩ = some (.int .i64 q.hor) ∧ V.cell? ⟨w.heap.size + 1, 2, none⟩ = some (.slice q.oa q.op.length q.oc) ∧ V.cell? ⟨w.heap.size + 1, 3, none⟩ = some (.slice q.ua q.us.length q.uc) ∧ V.cell? ⟨w.heap.size + 1, 4, none⟩ = some (.slice q.sa q.su.length q.sc) ∧ V.cell? ⟨w.heap.size + 1, 5, none⟩ = some (.slice q.ta q.tb.length q.tc) ∧ V.cell? ⟨ba, ao + j * 6, none⟩ = some (.int .i64 e.kind) ∧ V.cell? ⟨ba, ao + j * 6 + 1, none⟩ = some (.int .i64 e.at_) ∧ V.cell? ⟨ba, ao + j * 6 + 2, none⟩ = some (.string e.user) ∧ V.cell? ⟨ba, ao + j * 6 + 3, none⟩ = some (.string e.other) ∧ V.cell? ⟨ba, ao + j * 6 + 4, none⟩ = some (.int .i64 e.n) ∧ V.cell? ⟨ba, ao + j * 6 + 5, none⟩ = some (.int .i64 e.status)) := fun V h => by
    obtain ⟨c0, c1, c2, c3, c4, c5⟩ := h.s.cells
    exact ⟨c0, c1, c2, c3, c4, c5, HEJ.out V h.a⟩
   have HBL : Hid (∀ V V', GyK w (some ⟨ba, ao, none⟩) (some ⟨bb, bo, none⟩) l g1 p q y V → Below V.heap.size V V' → GyK w (some ⟨ba, ao, none⟩) (some ⟨bb, bo, none⟩) l g1 p q y V') := fun V V' h qB => h.below qB
   obtain ⟨k0, k1, k2, k3, k4, k5, k6, k7, k8, k9, k10, k11⟩ := HSC.out _ KK
   have K0 := KK.below (Below.refl w3.heap.size w3).drew
   have K0b := (KK.below (below_one w3 (.cells #[.int .i64 0, .int .i64 0, .slice none 0 0, .slice none 0 0, .slice none 0 0, .slice none 0 0] 27))).below (Below.refl _ _).drew
   have Z0b : SB w w3.heap.size 27 saO (w3.alloc (.cells #[.int .i64 0, .int .i64 0, .slice none 0 0, .slice none 0 0, .slice none 0 0, .slice none 0 0] 27)).drew := SB.drew (SB.new KK.s.frame (SaAt.zero w3) 27)
   have NG0 : w.heap.size ≠ w3.heap.size ∧ w.heap.size + 1 ≠ w3.heap.size ∧ g1 ≠ w3.heap.size := ⟨Nat.ne_of_lt KK.x.lt, Nat.ne_of_lt KK.s.lt, Nat.ne_of_lt KK.y.lt⟩
   go_region_held3 (fun V => V.cell? ⟨w.heap.size + 1, 0, none⟩ = some (.int .i64 q.now) ∧ V.cell? ⟨w.heap.size + 1, 1, none⟩ = some (.int .i64 q.hor) ∧ V.cell? ⟨w.heap.size + 1, 2, none⟩ = some (.slice q.oa q.op.length q.oc) ∧ V.cell? ⟨w.heap.size + 1, 3, none⟩ = some (.slice q.ua q.us.length q.uc) ∧ V.cell? ⟨w.heap.size + 1, 4, none⟩ = some (.slice q.sa q.su.length q.sc) ∧ V.cell? ⟨w.heap.size + 1, 5, none⟩ = some (.slice q.ta q.tb.length q.tc) ∧ V.cell? ⟨ba, ao + j * 6, none⟩ = some (.int .i64 e.kind) ∧ V.cell? ⟨ba, ao + j * 6 + 1, none⟩ = some (.int .i64 e.at_) ∧ V.cell? ⟨ba, ao + j * 6 + 2, none⟩ = some (.string e.user) ∧ V.cell? ⟨ba, ao + j * 6 + 3, none⟩ = some (.string e.other) ∧ V.cell? ⟨ba, ao + j * 6 + 4, none⟩ = some (.int .i64 e.n) ∧ V.cell? ⟨ba, ao + j * 6 + 5, none⟩ = some (.int .i64 e.status))
    (first | with_reducible exact HSC.out _ KT | with_reducible exact HSC.out _ K1b | with_reducible exact HSC.out _ K1 | with_reducible exact HSC.out _ K0b | with_reducible exact HSC.out _ K0)
    (first | (have hseen := K0; clear hseen; go_at_call 17; (first | (refine (HRA.out _ K0.s.at_).mono ?_; rintro r v1 ⟨v, rfl, hv, hvm, h1⟩; have K1 := HBL.out _ _ K0 h1; (try have Z1 := Z0.below h1)) | (refine (HRA.out _ K0b.s.at_).mono ?_; rintro r v1 ⟨v, rfl, hv, hvm, h1⟩; have K1 := HBL.out _ _ K0b h1; have Z1 := Z0b.below h1)); have NG1 : w.heap.size ≠ v1.heap.size ∧ w.heap.size + 1 ≠ v1.heap.size ∧ g1 ≠ v1.heap.size := ⟨Nat.ne_of_lt K1.x.lt, Nat.ne_of_lt K1.s.lt, Nat.ne_of_lt K1.y.lt⟩; (first | (have hzz := Z1; unfold saO at hzz; obtain ⟨z0, z1, z2, z3, z4, z5⟩ := hzz.cells; obtain ⟨f0, f1, f2, f3, f4, f5⟩ := hzz.free; have hzl := hzz.lt; dsimp only [List.length_nil] at z0 z1 z2 z3 z4 z5; clear hzz; (first | (have OV := K1.over Z1 hv NG0.1 NG0.2.1 NG0.2.2; have NE := Lib.hid NG0)); obtain ⟨KT, OB⟩ := OV; unfold setS at OB KT; (try dsimp only at OB KT)) | (have K1b := K1.below (below_one v1 (.cells #[.int .i64 0, .int .i64 0, .slice none 0 0, .slice none 0 0, .slice none 0 0, .slice none 0 0] 27)); have OB : SB w v1.heap.size 27 v (v1.alloc (.cells #[.int .i64 v.now, .int .i64 v.hor, .slice v.oa v.op.length v.oc, .slice v.ua v.us.length v.uc, .slice v.sa v.su.length v.sc, .slice v.ta v.tb.length v.tc] 27)) := SB.new K1.s.frame hv 27; have KT := K1.below (below_one v1 (.cells #[.int .i64 v.now, .int .i64 v.hor, .slice v.oa v.op.length v.oc, .slice v.ua v.us.length v.uc, .slice v.sa v.su.length v.sc, .slice v.ta v.tb.length v.tc] 27)); have NE := Lib.hid NG1))))
   all_goals
    have TK := Lib.hid KT
    have TO := Lib.hid OB
    clear KT OB K0 K0b Z0b NG0
    clear K1 NG1 h1
    (try clear K1b)
    (try clear Z1b)
    (try clear Z1)
    (try clear z0 z1 z2 z3 z4 z5 f0 f1 f2 f3 f4 f5 hzl)
    clear KK
    clear k0 k1 k2 k3 k4 k5 k6 k7 k8 k9 k10 k11
    clear HSC HBL HEJ HRA
    clear hv
    (first
     | (generalize ((((((v1.setCell ⟨w3.heap.size, 0, none⟩ (.int .i64 v.now)).setCell ⟨w3.heap.size, 1, none⟩ (.int .i64 v.hor)).setCell ⟨w3.heap.size, 2, none⟩ (.slice v.oa v.op.length v.oc)).setCell ⟨w3.heap.size, 3, none⟩ (.slice v.ua v.us.length v.uc)).setCell ⟨w3.heap.size, 4, none⟩ (.slice v.sa v.su.length v.sc)).setCell ⟨w3.heap.size, 5, none⟩ (.slice v.ta v.tb.length v.tc)) = T at *; generalize w3.heap.size = g at *; (have hseen : SB w g 27 v T := TO.out; clear hseen))
     | (generalize v1.alloc (.cells #[.int .i64 v.now, .int .i64 v.hor, .slice v.oa v.op.length v.oc, .slice v.ua v.us.length v.uc, .slice v.sa v.su.length v.sc, .slice v.ta v.tb.length v.tc] 27) = T at *; generalize v1.heap.size = g at *; (have hseen : SB w g 27 v T := TO.out; clear hseen)))
    have N3 := NE.out
    clear NE
    have KZ : GvK w (some ⟨ba, ao, none⟩) (some ⟨bb, bo, none⟩) l g1 g p q y v T := ⟨TK.out.x, TK.out.s, TK.out.y, TO.out, TK.out.a, TK.out.b⟩
    clear TK TO
    have HSC : Hid (∀ V, GvK w (some ⟨ba, ao, none⟩) (some ⟨bb, bo, none⟩) l g1 g p q y v V → V.cell? ⟨g1, 0, none⟩ = some (.int .i64 y.now) ∧ V.cell? ⟨g1, 1, none⟩ = some (.int .i64 y.hor) ∧ V.cell? ⟨g1, 2, none⟩ = some (.slice y.oa y.op.length y.oc) ∧ V.cell? ⟨g1, 3, none⟩ = some (.slice y.ua y.us.length y.uc) ∧ V.cell? ⟨g1, 4, none⟩ = some (.slice y.sa y.su.length y.sc) ∧ V.cell? ⟨g1, 5, none⟩ = some (.slice y.ta y.tb.length y.tc) ∧ V.cell? ⟨g, 0, none⟩ = some (.int .i64 v.now) ∧ V.cell? ⟨g, 1, none⟩ = some (.int .i64 v.hor) ∧ V.cell? ⟨g, 2, none⟩ = some (.slice v.oa v.op.length v.oc) ∧ V.cell? ⟨g, 3, none⟩ = some (.slice v.ua v.us.length v.uc) ∧ V.cell? ⟨g, 4, none⟩ = some (.slice v.sa v.su.length v.sc) ∧ V.cell? ⟨g, 5, none⟩ = some (.slice v.ta v.tb.length v.tc)) := fun V h => by
     obtain ⟨y0, y1, y2, y3, y4, y5⟩ := h.y.cells
     obtain ⟨v0, v1, v2, v3, v4, v5⟩ := h.v.cells
     exact ⟨y0, y1, y2, y3, y4, y5, v0, v1, v2, v3, v4, v5⟩
    have HBL : Hid (∀ V V', GvK w (some ⟨ba, ao, none⟩) (some ⟨bb, bo, none⟩) l g1 g p q y v V → Below V.heap.size V V' → GvK w (some ⟨ba, ao, none⟩) (some ⟨bb, bo, none⟩) l g1 g p q y v V') := fun V V' h q => h.below q
    obtain ⟨k0, k1, k2, k3, k4, k5, k6, k7, k8, k9, k10, k11⟩ := HSC.out _ KZ
    have K0 := KZ.below (Below.refl _ _).drew
    go_wp2_with fail
    go_region_held3 (fun V => V.cell? ⟨g1, 0, none⟩ = some (.int .i64 y.now) ∧ V.cell? ⟨g1, 1, none⟩ = some (.int .i64 y.hor) ∧ V.cell? ⟨g1, 2, none⟩ = some (.slice y.oa y.op.length y.oc) ∧ V.cell? ⟨g1, 3, none⟩ = some (.slice y.ua y.us.length y.uc) ∧ V.cell? ⟨g1, 4, none⟩ = some (.slice y.sa y.su.length y.sc) ∧ V.cell? ⟨g1, 5, none⟩ = some (.slice y.ta y.tb.length y.tc) ∧ V.cell? ⟨g, 0, none⟩ = some (.int .i64 v.now) ∧ V.cell? ⟨g, 1, none⟩ = some (.int .i64 v.hor) ∧ V.cell? ⟨g, 2, none⟩ = some (.slice v.oa v.op.length v.oc) ∧ V.cell? ⟨g, 3, none⟩ = some (.slice v.ua v.us.length v.uc) ∧ V.cell? ⟨g, 4, none⟩ = some (.slice v.sa v.su.length v.sc) ∧ V.cell? ⟨g, 5, none⟩ = some (.slice v.ta v.tb.length v.tc))
     (first | with_reducible exact HSC.out _ K2 | with_reducible exact HSC.out _ K1 | with_reducible exact HSC.out _ K0)
     (first | (have hseen := K1; clear hseen; go_at_call 18; refine (HS1.out o v _ p1 K1.v.at_ m1 hvm).mono ?_; rintro r v2 ⟨rfl, h2⟩; have K2 := HBL.out _ _ K1 h2) | (have hseen := K0; clear hseen; go_at_call 19; refine (HO1.out y _ K0.y.at_ hym).mono ?_; rintro r v1 ⟨o, rfl, p1, m1, h1⟩; have K1 := HBL.out _ _ K0 h1))
    all_goals
     have KY := K2
     clear K0 K1 K2 KZ p1 h1 h2 k0 k1 k2 k3 k4 k5 k6 k7 k8 k9 k10 k11 HSC HBL HO1 HS1
     generalize v2 = U0 at *
     by_cases g0 : er = 0
     case neg =>
      have z1 : (er == 0) = false := beq_false_of_ne g0
      have z2 : (er != 0) = true := bne_iff_ne.2 g0
      obtain ⟨c0, c1, c2, c3, c4, c5⟩ := KY.x.cells
      go_wp2_with fail
      refine (HR0.out _ KY.x.at_).mono ?_
      rintro r7 w7 ⟨rfl, h7⟩
      have KX := KY.below h7
      clear c0 c1 c2 c3 c4 c5 KY
      go_wp2
      go_roundw
      case rel =>
       have hle := HLE.out
       exact ⟨j + 1, M, p, q, by omega, by go_num, Lib.hid ⟨HM.out.1, HM.out.2.1, HM.out.2.2.1, Nat.le_succ_of_le HM.out.2.2.2⟩, Lib.hid ⟨KX.x, KX.s, KX.a, KX.b⟩⟩
      case measure => simp [intOf]; omega
     subst g0
     have z1 : ((0 : Int) == 0) = true := rfl
     have z2 : ((0 : Int) != 0) = false := rfl
     have KU := KY.below (Below.refl U0.heap.size U0).drew
     clear HR0 KY
     have HSY : Hid (∀ V, SB w g1 38 y V → SB w g 27 v V → V.cell? ⟨g1, 0, none⟩ = some (.int .i64 y.now) ∧ V.cell? ⟨g1, 1, none⟩ = some (.int .i64 y.hor) ∧ V.cell? ⟨g1, 2, none⟩ = some (.slice y.oa y.op.length y.oc) ∧ V.cell? ⟨g1, 3, none⟩ = some (.slice y.ua y.us.length y.uc) ∧ V.cell? ⟨g1, 4, none⟩ = some (.slice y.sa y.su.length y.sc) ∧ V.cell? ⟨g1, 5, none⟩ = some (.slice y.ta y.tb.length y.tc) ∧ V.cell? ⟨g, 0, none⟩ = some (.int .i64 v.now) ∧ V.cell? ⟨g, 1, none⟩ = some (.int .i64 v.hor) ∧ V.cell? ⟨g, 2, none⟩ = some (.slice v.oa v.op.length v.oc) ∧ V.cell? ⟨g, 3, none⟩ = some (.slice v.ua v.us.length v.uc) ∧ V.cell? ⟨g, 4, none⟩ = some (.slice v.sa v.su.length v.sc) ∧ V.cell? ⟨g, 5, none⟩ = some (.slice v.ta v.tb.length v.tc)) := Lib.hid fun V h k => by
      obtain ⟨y0, y1, y2, y3, y4, y5⟩ := h.cells
      obtain ⟨v0, v1, v2, v3, v4, v5⟩ := k.cells
      exact ⟨y0, y1, y2, y3, y4, y5, v0, v1, v2, v3, v4, v5⟩
     go_wp2_with fail
     refine wp_region_held_drew (S := (fun V => V.cell? ⟨g1, 0, none⟩ = some (.int .i64 y.now) ∧ V.cell? ⟨g1, 1, none⟩ = some (.int .i64 y.hor) ∧ V.cell? ⟨g1, 2, none⟩ = some (.slice y.oa y.op.length y.oc) ∧ V.cell? ⟨g1, 3, none⟩ = some (.slice y.ua y.us.length y.uc) ∧ V.cell? ⟨g1, 4, none⟩ = some (.slice y.sa y.su.length y.sc) ∧ V.cell? ⟨g1, 5, none⟩ = some (.slice y.ta y.tb.length y.tc) ∧ V.cell? ⟨g, 0, none⟩ = some (.int .i64 v.now) ∧ V.cell? ⟨g, 1, none⟩ = some (.int .i64 v.hor) ∧ V.cell? ⟨g, 2, none⟩ = some (.slice v.oa v.op.length v.oc) ∧ V.cell? ⟨g, 3, none⟩ = some (.slice v.ua v.us.length v.uc) ∧ V.cell? ⟨g, 4, none⟩ = some (.slice v.sa v.su.length v.sc) ∧ V.cell? ⟨g, 5, none⟩ = some (.slice v.ta v.tb.length v.tc))) (by kernel_rfl) ?_ (fun hHeld => ?_)
     ·exact HSY.out _ KU.y KU.v
     generalize U0.drew = U at *
     refine tV 0 50 ?_
     refine tV 1 51 ?_
     have KA := KU.one (Nat.ne_of_gt N1) (Ne.symm N3.1)
     have KAB := KA.two (Nat.ne_of_gt N2) (Ne.symm N3.2.1)
     unfold setS at KA KAB
     obtain ⟨x0, x1, x2, x3, x4, x5⟩ := KU.x.cells
     obtain ⟨s0, s1, s2, s3, s4, s5⟩ := KU.s.cells
     obtain ⟨f0, f1, f2, f3, f4, f5⟩ := KU.x.free
     obtain ⟨d0, d1, d2, d3, d4, d5⟩ := KU.s.free
     have xl := KU.x.lt
     have sl := KU.s.lt
     refine wpAnyH_ready (rs := [2]) (by kernel_rfl) (by simp) ?_
     refine AllReadyH.cons (o := ⟨none, _, _, _, _, _⟩) rfl (fun K hK => ?_) AllReadyH.nil
     clear hHeld
     go_simp
     refine hK.out _ _ ?_ (fun hH2 => ?_)
     ·exact HSY.out _ KA.y KA.v
     clear hK K x0 x1 x2 x3 x4 x5 s0 s1 s2 s3 s4 s5 f0 f1 f2 f3 f4 f5 d0 d1 d2 d3 d4 d5 xl sl
     (try simp only [Act.put, List.setIfInBounds_toArray, List.set_cons_zero, List.set_cons_succ])
     obtain ⟨c0, c1, c2, c3, c4, c5⟩ := KA.s.cells
     obtain ⟨f0, f1, f2, f3, f4, f5⟩ := KA.s.free
     have sl := KA.s.lt
     generalize ((((((U.setCell ⟨w.heap.size, 0, none⟩ (.int .i64 y.now)).setCell ⟨w.heap.size, 1, none⟩ (.int .i64 y.hor)).setCell ⟨w.heap.size, 2, none⟩ (.slice y.oa y.op.length y.oc)).setCell ⟨w.heap.size, 3, none⟩ (.slice y.ua y.us.length y.uc)).setCell ⟨w.heap.size, 4, none⟩ (.slice y.sa y.su.length y.sc)).setCell ⟨w.heap.size, 5, none⟩ (.slice y.ta y.tb.length y.tc)) = UA at *
     refine wpAnyH_ready (rs := [3]) (by kernel_rfl) (by simp) ?_
     refine AllReadyH.cons (o := ⟨none, _, _, _, _, _⟩) rfl (fun K hK => ?_) AllReadyH.nil
     go_simp
     refine hK.out _ _ ?_ (fun hH3 => ?_)
     ·exact HSY.out _ KAB.y KAB.v
     clear hK K c0 c1 c2 c3 c4 c5 f0 f1 f2 f3 f4 f5 sl hH2 hH3
     (try simp only [Act.put, List.setIfInBounds_toArray, List.set_cons_zero, List.set_cons_succ])
     refine wpAnyH_done (by kernel_rfl) ?_ _
     have KP := Lib.hid KAB
     clear KU KA KAB HSY
     generalize ((((((UA.setCell ⟨w.heap.size + 1, 0, none⟩ (.int .i64 v.now)).setCell ⟨w.heap.size + 1, 1, none⟩ (.int .i64 v.hor)).setCell ⟨w.heap.size + 1, 2, none⟩ (.slice v.oa v.op.length v.oc)).setCell ⟨w.heap.size + 1, 3, none⟩ (.slice v.ua v.us.length v.uc)).setCell ⟨w.heap.size + 1, 4, none⟩ (.slice v.sa v.su.length v.sc)).setCell ⟨w.heap.size + 1, 5, none⟩ (.slice v.ta v.tb.length v.tc)) = UZ at *
     have KX := KP.out
     clear KP
     obtain ⟨c0, c1, c2, c3, c4, c5⟩ := KX.x.cells
     go_wp2_with fail
     refine (HRT.out y _ KX.x.at_ hym).mono ?_
     rintro r7 w7 ⟨rfl, h7⟩
     have KW := KX.below h7
     clear c0 c1 c2 c3 c4 c5 KX
     go_wp2
     go_roundw
     case rel =>
      have hle := HLE.out
      exact ⟨j + 1, M1, y, v, by omega, by go_num, Lib.hid ⟨hym, hvm, HK1.out.1, HK1.out.2⟩, Lib.hid ⟨KW.x, KW.s, KW.a, KW.b⟩⟩
     case measure => simp [intOf]; omega
  ·obtain rfl : j = l.length := by omega
   clear HM
   go_wp2_with fail
   refine (HAL.out _).mono ?_
   rintro r7 w7 ⟨rfl, h7⟩
   go_wp2
   go_ret
   exact ⟨rfl, HG.out.x.frame.trans (h7.mono HG.out.x.frame.size)⟩
set_option maxRecDepth 100000 in
theorem lifted (os : Os) (started : os.Started) (H : Type) (enc : TypeId × Value → H) :
  ReturnsInHanded {} Tryz.checked os 4 .any (Rows.stateGoesSpec.pre6 enc Tryz.prog Tryz.f4 Rows.stateGoesRow.domain false) (Rows.stateGoesSpec.post enc Tryz.prog Tryz.f4 false true false false) := by
 refine returnsInHanded_of_change (C := Tryz.checked) own started (by kernel_rfl) Tryz.func4
  (ChangeSpec.witness6 (enc := enc) (C := Tryz.checked) false ⟨#[], #[.slice none 0 0], []⟩ 8 (by kernel_rfl) (by kernel_rfl) (by kernel_rfl) (by kernel_rfl)) ?_
 intro W base args ds gs before hval0 hW hcnd _
 have hval : ∀ (j : Nat) t v, Tryz.f4.params[j]? = some t → args[j]? = some v → Value.okWide Tryz.prog W .any base t v := hval0
 have hW' := hW
 have hlt := hW.lt
 obtain ⟨p, q, hA0, hV, rfl, hfz, hnd⟩ := hW
 have hA : DataW.TrodAll enc Tryz.prog W 0 (fun _ => true) true Tryz.f4.params.toList args.toList ds p := hA0
 rw [Tryz.params4] at hA hval
 obtain ⟨v0, vs0, d0, ds0, p0, q0, hargs, rfl, rfl, h0, r0⟩ := trodAll_cons hA
 obtain ⟨rfl, rfl, rfl⟩ := trodAll_nil r0
 obtain rfl : args = #[v0] := by cases args; simp_all
 obtain ⟨a0, c0, l0, rfl, s0, f0, m0, n0, o0⟩ := open_events (hval 0 50 v0 rfl rfl) h0
 refine (walk W a0 c0 l0 s0 f0 m0 n0 o0).mono fun e W' ⟨he, hb⟩ => ?_
 subst he
 exact ⟨_, rfl, law_post rfl hW' (fun ds h => by match ds, h with | [_], _ => rfl) (by kernel_rfl) (by kernel_rfl) (by kernel_rfl) hb⟩

theorem over : Rows.stateGoesRow.holds Tryz.pinned (OpenSpec.ofChange Rows.stateGoesSpec) :=
 OpenClaim.holds_of_wide 4 Tryz.f4 rfl rfl rfl rfl rfl rfl rfl ⟨rfl, rfl, rfl, rfl, rfl⟩ rfl rfl rfl rfl rfl (by kernel_rfl) Tryz.func4 (by kernel_rfl)
  (of_decide_eq_true (by kernel_rfl)) (by unfold Func.isWrapper; first | (rw [if_pos (by decide +kernel)]; kernel_rfl) | (rw [if_neg (by decide +kernel)]; exact ⟨rfl, rfl⟩))
  (fun os started H enc _ => lifted os started H enc)

theorem proved : Rows.StateGoesSaid := over
end Go.Proofs.YtjhdhfokhkcamaaGreat.stateGoes
