/- StatePrunes: whether a state is pruned ahead of an event, or a reset, is of no account: the same is told, and, pruned, the states are the same; for all states of at most 1048576 things and all events. -/
import Derived.Test.YtjhdhfokhkcamaaGreatP01
import Derived.Test.YtjhdhfokhkcamaaGreatP03
import Derived.Test.YtjhdhfokhkcamaaGreatP09
import Derived.Test.YtjhdhfokhkcamaaGreatP10
import Derived.Test.YtjhdhfokhkcamaaGreatP12
import Derived.Test.YtjhdhfokhkcamaaGreatP18
import Derived.Test.YtjhdhfokhkcamaaGreatP19
import Derived.Test.YtjhdhfokhkcamaaGreatP21
import Derived.Test.YtjhdhfokhkcamaaGreatP25
import Derived.Test.YtjhdhfokhkcamaaGreatP31
import Derived.Test.YtjhdhfokhkcamaaGreatP32
import Derived.Test.YtjhdhfokhkcamaaGreatP33
import Derived.Test.YtjhdhfokhkcamaaGreatP34
import Derived.Test.YtjhdhfokhkcamaaGreatP45
import Derived.JoinedCond
import Derived.Deep.RegionHeld3
import Derived.Test.YtjhdhfokhkcamaaGreatP48
namespace Go.Proofs.YtjhdhfokhkcamaaGreat.statePrunes
open Go.ChangeShapes Go.WideShapes Go.ChangeAt Go.RowKit Go.Proofs
open Go.ChangeMaps (open_string shut_string)
set_option linter.unusedVariables false
set_option maxRecDepth 100000

structure PuK (w : World) (g1 : Nat) (g2 : Nat) (x : SaL) (e : EvM) (y : SaL) (z1 : SaL) (W : World) : Prop where
  s : SB w w.heap.size 27 x W
  e : EB w (w.heap.size + 1) 29 e W
  y : SB w g1 38 y W
  z : SB w g2 38 z1 W
theorem PuK.below {w W W' : World} {g1 : Nat} {g2 : Nat} {x : SaL} {e : EvM} {y : SaL} {z1 : SaL} (h : PuK w g1 g2 x e y z1 W) (qB : Below W.heap.size W W') : PuK w g1 g2 x e y z1 W' := ⟨h.s.below qB, h.e.below qB, h.y.below qB, h.z.below qB⟩
theorem PuK.over {w T : World} {g1 : Nat} {g2 : Nat} {x : SaL} {e : EvM} {y : SaL} {z1 : SaL} {gz : Nat} {zz : SaL} (h : PuK w g1 g2 x e y z1 T) (hZ : SB w gz 38 saO T) (hy : SaAt T zz) (ns : w.heap.size ≠ gz) (ne : w.heap.size + 1 ≠ gz) (ny : g1 ≠ gz) (nz : g2 ≠ gz) : PuK w g1 g2 x e y z1 (setS T gz zz) ∧ SB w gz 38 zz (setS T gz zz) :=
  ⟨⟨(hZ.over hy h.s ns).2, h.e.set ne, (hZ.over hy h.y ny).2, (hZ.over hy h.z nz).2⟩, hZ.set hy⟩
structure PqK (w : World) (g1 : Nat) (g2 : Nat) (g3 : Nat) (x : SaL) (y : SaL) (z1 : SaL) (q : SaL) (W : World) : Prop where
  s : SB w w.heap.size 27 x W
  y : SB w g1 38 y W
  z : SB w g2 38 z1 W
  q : SB w g3 38 q W
theorem PqK.below {w W W' : World} {g1 : Nat} {g2 : Nat} {g3 : Nat} {x : SaL} {y : SaL} {z1 : SaL} {q : SaL} (h : PqK w g1 g2 g3 x y z1 q W) (qB : Below W.heap.size W W') : PqK w g1 g2 g3 x y z1 q W' := ⟨h.s.below qB, h.y.below qB, h.z.below qB, h.q.below qB⟩
set_option maxHeartbeats 16000000 in
theorem walk (w : World) (x : SaL) (h : SaAt w x) (z : SzS x.m) (b : stCnt x.m + x.us.length ≤ 1048576) (e : EvM) (he : EFits e) :
    Calls Tryz.prog 11 #[saV x, evV e] w fun e w' => e = .returned (.bool true) ∧ Below w.heap.size w w' := by
  obtain ⟨S, E⟩ := in_event h e 27 29
  unfold saC at S E
  replace S := Lib.hid S
  replace E := Lib.hid E
  unfold evV
  have HAL := Lib.hid alive11
  have HMA := Lib.hid (fun V (h : SaAt V x) => many_any x V h b)
  by_cases g1 : 100 < stCnt x.m + x.us.length
  · have d1 : decide ((100 : Int) < (stCnt x.m : Int) + (x.us.length : Int)) = true := decide_eq_true (by omega)
    clear h z b g1 he
    unfold saV saC
    obtain ⟨cS0, cS1, cS2, cS3, cS4, cS5⟩ := S.out.cells
    obtain ⟨cE0, cE1, cE2, cE3, cE4, cE5⟩ := E.out.cells
    go_enter Tryz.func11, Tryz.ntmps11
    go_wp2_with fail
    refine (HMA.out _ S.out.at_).mono ?_
    rintro r1 w1 ⟨rfl, h1⟩
    clear cS0 cS1 cS2 cS3 cS4 cS5 cE0 cE1 cE2 cE3 cE4 cE5
    replace S := Lib.hid (S.out.below h1)
    replace E := Lib.hid (E.out.below h1)
    clear h1
    obtain ⟨cS0, cS1, cS2, cS3, cS4, cS5⟩ := S.out.cells
    obtain ⟨cE0, cE1, cE2, cE3, cE4, cE5⟩ := E.out.cells
    go_wp2_with fail
    refine (HAL.out _).mono ?_
    rintro r2 w2 ⟨rfl, h2⟩
    clear cS0 cS1 cS2 cS3 cS4 cS5 cE0 cE1 cE2 cE3 cE4 cE5
    replace S := Lib.hid (S.out.below h2)
    replace E := Lib.hid (E.out.below h2)
    clear h2
    go_wp2
    go_ret
    exact ⟨rfl, S.out.frame⟩
  have d1 : decide ((100 : Int) < (stCnt x.m : Int) + (x.us.length : Int)) = false := decide_eq_false (by omega)
  have hf0 : Few x.m 100 := few_cnt (by omega)
  by_cases hr0 : RightS x.m
  case neg =>
    have HRR := Lib.hid (fun V (h : SaAt V x) => g_rwrong x V h rfl z (hf0.mono (by decide)) hr0)
    clear h z b g1 hf0 hr0 he
    unfold saV saC
    obtain ⟨cS0, cS1, cS2, cS3, cS4, cS5⟩ := S.out.cells
    obtain ⟨cE0, cE1, cE2, cE3, cE4, cE5⟩ := E.out.cells
    go_enter Tryz.func11, Tryz.ntmps11
    go_wp2_with fail
    refine (HMA.out _ S.out.at_).mono ?_
    rintro r1 w1 ⟨rfl, h1⟩
    clear cS0 cS1 cS2 cS3 cS4 cS5 cE0 cE1 cE2 cE3 cE4 cE5
    replace S := Lib.hid (S.out.below h1)
    replace E := Lib.hid (E.out.below h1)
    clear h1
    obtain ⟨cS0, cS1, cS2, cS3, cS4, cS5⟩ := S.out.cells
    obtain ⟨cE0, cE1, cE2, cE3, cE4, cE5⟩ := E.out.cells
    go_wp2_with fail
    refine (HRR.out _ S.out.at_).mono ?_
    rintro r2 w2 ⟨rfl, h2⟩
    clear cS0 cS1 cS2 cS3 cS4 cS5 cE0 cE1 cE2 cE3 cE4 cE5
    replace S := Lib.hid (S.out.below h2)
    replace E := Lib.hid (E.out.below h2)
    clear h2
    obtain ⟨cS0, cS1, cS2, cS3, cS4, cS5⟩ := S.out.cells
    obtain ⟨cE0, cE1, cE2, cE3, cE4, cE5⟩ := E.out.cells
    go_wp2_with fail
    refine (HAL.out _).mono ?_
    rintro r3 w3 ⟨rfl, h3⟩
    clear cS0 cS1 cS2 cS3 cS4 cS5 cE0 cE1 cE2 cE3 cE4 cE5
    replace S := Lib.hid (S.out.below h3)
    replace E := Lib.hid (E.out.below h3)
    clear h3
    go_wp2
    go_ret
    exact ⟨rfl, S.out.frame⟩
  have HRR := Lib.hid (fun V (h : SaAt V x) => g_rright x V h rfl z (hf0.mono (by decide)) hr0)
  have hc0 : stCnt x.m ≤ 100 := by omega
  clear b g1
  obtain ⟨M, hM⟩ : ∃ M, x.m = M := ⟨_, rfl⟩
  have hr : RightS M := hM ▸ hr0
  have hf : Few M 100 := hM ▸ hf0
  have hz : SzS M := hM ▸ z
  have hc : stCnt M ≤ 100 := hM ▸ hc0
  have HNW := Lib.hid (fun V (h : SaAt V x) => g_new x V h hM (hf.mono (by decide)))
  have hrp := right_prune hr
  have hcp := Nat.le_trans (cnt_prune M) hc
  have HAP := Lib.hid (fun y V (h : SaAt V y) hm => g_apply (M := M) y e V h hm hr (Nat.le_trans hc (by decide)) he)
  have HAQ : Hid (∀ y V, SaAt V y → y.m = pruneS M → Calls Tryz.prog 16 #[saV y, evV e] V (fun r w' => ∃ z, r = .returned (.tuple #[.agg #[.int .i64 z.now, .int .i64 z.hor, .slice z.oa z.op.length z.oc, .slice z.ua z.us.length z.uc, .slice z.sa z.su.length z.sc, .slice z.ta z.tb.length z.tc], .int .i64 (erV M e)]) ∧ SaAt w' z ∧ z.m = teV (pruneS M) e ∧ Below V.heap.size V w')) := Lib.hid (fun y V (h : SaAt V y) hm => by
    have q := g_apply (M := pruneS M) y e V h hm hrp (Nat.le_trans hcp (by decide)) he
    rw [show erV (pruneS M) e = erV M e from err_prune hr _ _ _ _ _ _] at q
    exact q)
  have hr1 := te_right hr e
  have hc1 : stCnt (teV M e) ≤ 101 := by have := te_cnt hr e; omega
  have hr2 := te_right hrp e
  have hc2 : stCnt (teV (pruneS M) e) ≤ 101 := by have := te_cnt hrp e; omega
  have HPR := Lib.hid (fun y V (h : SaAt V y) hm => g_prune (M := M) y V h hm hr (Nat.le_trans hc (by decide)))
  have HRE := Lib.hid (fun y V (h : SaAt V y) hm => g_reset (M := M) y V h hm hr (Nat.le_trans hc (by decide)))
  have HPA := Lib.hid (fun y V (h : SaAt V y) hm => g_prune (M := resetS M) y V h hm (right_reset hr) (Nat.le_trans (cnt_reset M) (Nat.le_trans hc (by decide))))
  have HRB := Lib.hid (fun y V (h : SaAt V y) hm => g_reset (M := pruneS M) y V h hm hrp (Nat.le_trans hcp (by decide)))
  have HPB := Lib.hid (fun y V (h : SaAt V y) hm => g_prune (M := resetS (pruneS M)) y V h hm (right_reset hrp) (Nat.le_trans (cnt_reset _) (Nat.le_trans hcp (by decide))))
  have HP1 := Lib.hid (fun y V (h : SaAt V y) hm => g_prune (M := teV M e) y V h hm hr1 (Nat.le_trans hc1 (by decide)))
  have HP2 := Lib.hid (fun y V (h : SaAt V y) hm => g_prune (M := teV (pruneS M) e) y V h hm hr2 (Nat.le_trans hc2 (by decide)))
  have HSA := Lib.hid (fun p q V (h : SaAt V p) (k : SaAt V q) hm km => g_same (M := pruneS (resetS M)) p q V h k hm km ((few_of (right_prune (right_reset hr)) (Nat.le_trans (cnt_prune _) (Nat.le_trans (cnt_reset M) hc))).mono (by decide)))
  have HSB := Lib.hid (fun p q V (h : SaAt V p) (k : SaAt V q) hm km => g_same (M := pruneS (teV M e)) p q V h k hm km ((few_of (right_prune hr1) (Nat.le_trans (cnt_prune _) hc1)).mono (by decide)))
  rw [← prune_reset hr] at HPB
  rw [show pruneS (teV (pruneS M) e) = pruneS (teV M e) from (prune_tell hr _ _ _ _ _ _).symm] at HP2
  replace hM := Lib.hid hM
  clear h z hf0 hr0 hc0 hr hf hz hc hr1 hc1 hr2 hc2 hrp hcp he
  generalize teV (pruneS M) e = M2 at *
  generalize teV M e = M1 at *
  generalize erV M e = er at *
  generalize pruneS (resetS M) = M3 at *
  generalize pruneS M1 = M4 at *
  generalize resetS (pruneS M) = M5 at *
  generalize pruneS M = M6 at *
  generalize resetS M = M7 at *
  have e1 : (er == er) = true := beq_self_eq_true _
  unfold saV saC
  obtain ⟨cS0, cS1, cS2, cS3, cS4, cS5⟩ := S.out.cells
  obtain ⟨cE0, cE1, cE2, cE3, cE4, cE5⟩ := E.out.cells
  go_enter Tryz.func11, Tryz.ntmps11
  go_wp2_with fail
  refine (HMA.out _ S.out.at_).mono ?_
  rintro r1 w1 ⟨rfl, h1⟩
  clear cS0 cS1 cS2 cS3 cS4 cS5 cE0 cE1 cE2 cE3 cE4 cE5
  replace S := Lib.hid (S.out.below h1)
  replace E := Lib.hid (E.out.below h1)
  clear h1
  obtain ⟨cS0, cS1, cS2, cS3, cS4, cS5⟩ := S.out.cells
  obtain ⟨cE0, cE1, cE2, cE3, cE4, cE5⟩ := E.out.cells
  go_wp2_with fail
  refine (HRR.out _ S.out.at_).mono ?_
  rintro r2 w2 ⟨rfl, h2⟩
  clear cS0 cS1 cS2 cS3 cS4 cS5 cE0 cE1 cE2 cE3 cE4 cE5
  replace S := Lib.hid (S.out.below h2)
  replace E := Lib.hid (E.out.below h2)
  clear h2
  obtain ⟨cS0, cS1, cS2, cS3, cS4, cS5⟩ := S.out.cells
  obtain ⟨cE0, cE1, cE2, cE3, cE4, cE5⟩ := E.out.cells
  go_wp2_with fail
  refine (HNW.out _ S.out.at_).mono ?_
  rintro r3 w3 ⟨y, rfl, hy, hm, h3⟩
  clear cS0 cS1 cS2 cS3 cS4 cS5 cE0 cE1 cE2 cE3 cE4 cE5
  unfold saV saC
  have hb3 := below_one w3 (.cells #[.int .i64 y.now, .int .i64 y.hor, .slice y.oa y.op.length y.oc, .slice y.ua y.us.length y.uc, .slice y.sa y.su.length y.sc, .slice y.ta y.tb.length y.tc] 38)
  have hc3 := h3.trans (hb3.mono h3.size)
  have Y : Hid (SB w w3.heap.size 38 y (w3.alloc (.cells #[.int .i64 y.now, .int .i64 y.hor, .slice y.oa y.op.length y.oc, .slice y.ua y.us.length y.uc, .slice y.sa y.su.length y.sc, .slice y.ta y.tb.length y.tc] 38))) := Lib.hid (SB.new (S.out.frame.trans (h3.mono S.out.frame.size)) hy 38)
  replace S := Lib.hid (S.out.below hc3)
  replace E := Lib.hid (E.out.below hc3)
  clear hb3 hc3 h3 hy
  obtain ⟨cS0, cS1, cS2, cS3, cS4, cS5⟩ := S.out.cells
  obtain ⟨cE0, cE1, cE2, cE3, cE4, cE5⟩ := E.out.cells
  obtain ⟨cY0, cY1, cY2, cY3, cY4, cY5⟩ := Y.out.cells
  go_wp2_with fail
  refine (HAP.out y _ Y.out.at_ hm).mono ?_
  rintro r4 w4 ⟨z1, rfl, hz1, hn1, h4⟩
  clear cS0 cS1 cS2 cS3 cS4 cS5 cE0 cE1 cE2 cE3 cE4 cE5 cY0 cY1 cY2 cY3 cY4 cY5
  unfold saV saC
  have hb4 := below_one w4 (.cells #[.int .i64 z1.now, .int .i64 z1.hor, .slice z1.oa z1.op.length z1.oc, .slice z1.ua z1.us.length z1.uc, .slice z1.sa z1.su.length z1.sc, .slice z1.ta z1.tb.length z1.tc] 38)
  have hc4 := h4.trans (hb4.mono h4.size)
  have Z : Hid (SB w w4.heap.size 38 z1 (w4.alloc (.cells #[.int .i64 z1.now, .int .i64 z1.hor, .slice z1.oa z1.op.length z1.oc, .slice z1.ua z1.us.length z1.uc, .slice z1.sa z1.su.length z1.sc, .slice z1.ta z1.tb.length z1.tc] 38))) := Lib.hid (SB.new (S.out.frame.trans (h4.mono S.out.frame.size)) hz1 38)
  replace S := Lib.hid (S.out.below hc4)
  replace E := Lib.hid (E.out.below hc4)
  replace Y := Lib.hid (Y.out.below hc4)
  clear hb4 hc4 h4 hz1
  clear HMA HRR HNW HAP
  have KK : PuK w w3.heap.size w4.heap.size x e y z1 _ := ⟨S.out, E.out, Y.out, Z.out⟩
  go_wp2_with fail
  generalize w4.alloc (.cells #[.int .i64 z1.now, .int .i64 z1.hor, .slice z1.oa z1.op.length z1.oc, .slice z1.ua z1.us.length z1.uc, .slice z1.sa z1.su.length z1.sc, .slice z1.ta z1.tb.length z1.tc] 38) = w5 at *
  generalize w3.heap.size = g1 at *
  generalize w4.heap.size = g2 at *
  have HSC : Hid (∀ V, PuK w g1 g2 x e y z1 V → V.cell? ⟨w.heap.size, 0, none⟩ = some (.int .i64 x.now) ∧ V.cell? ⟨w.heap.size, 1, none⟩ = some (.int .i64 x.hor) ∧ V.cell? ⟨w.heap.size, 2, none⟩ = some (.slice x.oa x.op.length x.oc) ∧ V.cell? ⟨w.heap.size, 3, none⟩ = some (.slice x.ua x.us.length x.uc) ∧ V.cell? ⟨w.heap.size, 4, none⟩ = some (.slice x.sa x.su.length x.sc) ∧ V.cell? ⟨w.heap.size, 5, none⟩ = some (.slice x.ta x.tb.length x.tc) ∧ V.cell? ⟨w.heap.size + 1, 0, none⟩ = some (.int .i64 e.kind) ∧ V.cell? ⟨w.heap.size + 1, 1, none⟩ = some (.int .i64 e.at_) ∧ V.cell? ⟨w.heap.size + 1, 2, none⟩ = some (.string e.user) ∧ V.cell? ⟨w.heap.size + 1, 3, none⟩ = some (.string e.other) ∧ V.cell? ⟨w.heap.size + 1, 4, none⟩ = some (.int .i64 e.n) ∧ V.cell? ⟨w.heap.size + 1, 5, none⟩ = some (.int .i64 e.status) ∧ V.cell? ⟨g1, 0, none⟩ = some (.int .i64 y.now) ∧ V.cell? ⟨g1, 1, none⟩ = some (.int .i64 y.hor) ∧ V.cell? ⟨g1, 2, none⟩ = some (.slice y.oa y.op.length y.oc) ∧ V.cell? ⟨g1, 3, none⟩ = some (.slice y.ua y.us.length y.uc) ∧ V.cell? ⟨g1, 4, none⟩ = some (.slice y.sa y.su.length y.sc) ∧ V.cell? ⟨g1, 5, none⟩ = some (.slice y.ta y.tb.length y.tc) ∧ V.cell? ⟨g2, 0, none⟩ = some (.int .i64 z1.now) ∧ V.cell? ⟨g2, 1, none⟩ = some (.int .i64 z1.hor) ∧ V.cell? ⟨g2, 2, none⟩ = some (.slice z1.oa z1.op.length z1.oc) ∧ V.cell? ⟨g2, 3, none⟩ = some (.slice z1.ua z1.us.length z1.uc) ∧ V.cell? ⟨g2, 4, none⟩ = some (.slice z1.sa z1.su.length z1.sc) ∧ V.cell? ⟨g2, 5, none⟩ = some (.slice z1.ta z1.tb.length z1.tc)) := fun V h => by
    obtain ⟨s0, s1, s2, s3, s4, s5⟩ := h.s.cells
    obtain ⟨e0, e1, e2, e3, e4, e5⟩ := h.e.cells
    obtain ⟨y0, y1, y2, y3, y4, y5⟩ := h.y.cells
    obtain ⟨z0, z1, z2, z3, z4, z5⟩ := h.z.cells
    exact ⟨s0, s1, s2, s3, s4, s5, e0, e1, e2, e3, e4, e5, y0, y1, y2, y3, y4, y5, z0, z1, z2, z3, z4, z5⟩
  have HBL : Hid (∀ V V', PuK w g1 g2 x e y z1 V → Below V.heap.size V V' → PuK w g1 g2 x e y z1 V') := fun V V' h q => h.below q
  obtain ⟨k0, k1, k2, k3, k4, k5, k6, k7, k8, k9, k10, k11, k12, k13, k14, k15, k16, k17, k18, k19, k20, k21, k22, k23⟩ := HSC.out _ KK
  clear S E Y Z
  have K0 := KK.below (Below.refl w5.heap.size w5).drew
  have K0b := (KK.below (below_one w5 (.cells #[.int .i64 0, .int .i64 0, .slice none 0 0, .slice none 0 0, .slice none 0 0, .slice none 0 0] 38))).below (Below.refl _ _).drew
  have Z0b : SB w w5.heap.size 38 saO (w5.alloc (.cells #[.int .i64 0, .int .i64 0, .slice none 0 0, .slice none 0 0, .slice none 0 0, .slice none 0 0] 38)).drew := SB.drew (SB.new KK.s.frame (SaAt.zero w5) 38)
  have NG0 : w.heap.size ≠ w5.heap.size ∧ w.heap.size + 1 ≠ w5.heap.size ∧ g1 ≠ w5.heap.size ∧ g2 ≠ w5.heap.size := ⟨Nat.ne_of_lt KK.s.lt, Nat.ne_of_lt KK.e.lt', Nat.ne_of_lt KK.y.lt, Nat.ne_of_lt KK.z.lt⟩
  go_region_held3 (fun V => V.cell? ⟨w.heap.size, 0, none⟩ = some (.int .i64 x.now) ∧ V.cell? ⟨w.heap.size, 1, none⟩ = some (.int .i64 x.hor) ∧ V.cell? ⟨w.heap.size, 2, none⟩ = some (.slice x.oa x.op.length x.oc) ∧ V.cell? ⟨w.heap.size, 3, none⟩ = some (.slice x.ua x.us.length x.uc) ∧ V.cell? ⟨w.heap.size, 4, none⟩ = some (.slice x.sa x.su.length x.sc) ∧ V.cell? ⟨w.heap.size, 5, none⟩ = some (.slice x.ta x.tb.length x.tc) ∧ V.cell? ⟨w.heap.size + 1, 0, none⟩ = some (.int .i64 e.kind) ∧ V.cell? ⟨w.heap.size + 1, 1, none⟩ = some (.int .i64 e.at_) ∧ V.cell? ⟨w.heap.size + 1, 2, none⟩ = some (.string e.user) ∧ V.cell? ⟨w.heap.size + 1, 3, none⟩ = some (.string e.other) ∧ V.cell? ⟨w.heap.size + 1, 4, none⟩ = some (.int .i64 e.n) ∧ V.cell? ⟨w.heap.size + 1, 5, none⟩ = some (.int .i64 e.status) ∧ V.cell? ⟨g1, 0, none⟩ = some (.int .i64 y.now) ∧ V.cell? ⟨g1, 1, none⟩ = some (.int .i64 y.hor) ∧ V.cell? ⟨g1, 2, none⟩ = some (.slice y.oa y.op.length y.oc) ∧ V.cell? ⟨g1, 3, none⟩ = some (.slice y.ua y.us.length y.uc) ∧ V.cell? ⟨g1, 4, none⟩ = some (.slice y.sa y.su.length y.sc) ∧ V.cell? ⟨g1, 5, none⟩ = some (.slice y.ta y.tb.length y.tc) ∧ V.cell? ⟨g2, 0, none⟩ = some (.int .i64 z1.now) ∧ V.cell? ⟨g2, 1, none⟩ = some (.int .i64 z1.hor) ∧ V.cell? ⟨g2, 2, none⟩ = some (.slice z1.oa z1.op.length z1.oc) ∧ V.cell? ⟨g2, 3, none⟩ = some (.slice z1.ua z1.us.length z1.uc) ∧ V.cell? ⟨g2, 4, none⟩ = some (.slice z1.sa z1.su.length z1.sc) ∧ V.cell? ⟨g2, 5, none⟩ = some (.slice z1.ta z1.tb.length z1.tc))
    (first | with_reducible exact HSC.out _ KT | with_reducible exact HSC.out _ K2b | with_reducible exact HSC.out _ K2 | with_reducible exact HSC.out _ K1b | with_reducible exact HSC.out _ K1 | with_reducible exact HSC.out _ K0b | with_reducible exact HSC.out _ K0)
    (first | (have hseen := K1; clear hseen; go_at_call 16; (first | (refine (HAQ.out p _ hp ho).mono ?_; rintro r v2 ⟨q, rfl, hq, hw, h2⟩; have K2 := HBL.out _ _ K1 h2; (try have Z2 := Z1.below h2)) | (refine (HAQ.out p _ hpb ho).mono ?_; rintro r v2 ⟨q, rfl, hq, hw, h2⟩; have K2 := HBL.out _ _ K1b h2; have Z2 := Z1b.below h2)); have NG2 : w.heap.size ≠ v2.heap.size ∧ w.heap.size + 1 ≠ v2.heap.size ∧ g1 ≠ v2.heap.size ∧ g2 ≠ v2.heap.size := ⟨Nat.ne_of_lt K2.s.lt, Nat.ne_of_lt K2.e.lt', Nat.ne_of_lt K2.y.lt, Nat.ne_of_lt K2.z.lt⟩; (first | (have hzz := Z2; unfold saO at hzz; obtain ⟨z0, z1, z2, z3, z4, z5⟩ := hzz.cells; obtain ⟨f0, f1, f2, f3, f4, f5⟩ := hzz.free; have hzl := hzz.lt; dsimp only [List.length_nil] at z0 z1 z2 z3 z4 z5; clear hzz; (first | (have OV := K2.over Z2 hq NG0.1 NG0.2.1 NG0.2.2.1 NG0.2.2.2; have NE := Lib.hid NG0) | (have OV := K2.over Z2 hq NG1.1 NG1.2.1 NG1.2.2.1 NG1.2.2.2; have NE := Lib.hid NG1)); obtain ⟨KT, OB⟩ := OV; unfold setS at OB KT; (try dsimp only at OB KT)) | (have K2b := K2.below (below_one v2 (.cells #[.int .i64 0, .int .i64 0, .slice none 0 0, .slice none 0 0, .slice none 0 0, .slice none 0 0] 38)); have OB : SB w v2.heap.size 38 q (v2.alloc (.cells #[.int .i64 q.now, .int .i64 q.hor, .slice q.oa q.op.length q.oc, .slice q.ua q.us.length q.uc, .slice q.sa q.su.length q.sc, .slice q.ta q.tb.length q.tc] 38)) := SB.new K2.s.frame hq 38; have KT := K2.below (below_one v2 (.cells #[.int .i64 q.now, .int .i64 q.hor, .slice q.oa q.op.length q.oc, .slice q.ua q.us.length q.uc, .slice q.sa q.su.length q.sc, .slice q.ta q.tb.length q.tc] 38)); have NE := Lib.hid NG2))) | (have hseen := K0; clear hseen; go_at_call 23; (first | (refine (HPR.out y _ K0.y.at_ hm).mono ?_; rintro r v1 ⟨p, rfl, hp, ho, h1⟩; have K1 := HBL.out _ _ K0 h1; (try have Z1 := Z0.below h1); have hpb := hp.below (below_one v1 (.cells #[.int .i64 0, .int .i64 0, .slice none 0 0, .slice none 0 0, .slice none 0 0, .slice none 0 0] 38))) | (refine (HPR.out y _ K0b.y.at_ hm).mono ?_; rintro r v1 ⟨p, rfl, hp, ho, h1⟩; have K1 := HBL.out _ _ K0b h1; have Z1 := Z0b.below h1; have hpb := hp.below (below_one v1 (.cells #[.int .i64 0, .int .i64 0, .slice none 0 0, .slice none 0 0, .slice none 0 0, .slice none 0 0] 38)))); have NG1 : w.heap.size ≠ v1.heap.size ∧ w.heap.size + 1 ≠ v1.heap.size ∧ g1 ≠ v1.heap.size ∧ g2 ≠ v1.heap.size := ⟨Nat.ne_of_lt K1.s.lt, Nat.ne_of_lt K1.e.lt', Nat.ne_of_lt K1.y.lt, Nat.ne_of_lt K1.z.lt⟩; (first | (have hzz := Z1; clear hzz) | (have K1b := K1.below (below_one v1 (.cells #[.int .i64 0, .int .i64 0, .slice none 0 0, .slice none 0 0, .slice none 0 0, .slice none 0 0] 38)); have Z1b : SB w v1.heap.size 38 saO (v1.alloc (.cells #[.int .i64 0, .int .i64 0, .slice none 0 0, .slice none 0 0, .slice none 0 0, .slice none 0 0] 38)) := SB.new K1.s.frame (SaAt.zero v1) 38))))
  all_goals
    have TK := Lib.hid KT
    have TO := Lib.hid OB
    clear KT OB K0 K0b Z0b NG0
    clear K1 NG1 h1
    (try clear K1b)
    (try clear Z1b)
    (try clear Z1)
    clear K2 NG2 h2
    (try clear K2b)
    (try clear Z2b)
    (try clear Z2)
    (try clear z0 z1 z2 z3 z4 z5 f0 f1 f2 f3 f4 f5 hzl)
    clear KK
    clear k0 k1 k2 k3 k4 k5 k6 k7 k8 k9 k10 k11 k12 k13 k14 k15 k16 k17 k18 k19 k20 k21 k22 k23
    clear HSC HBL HAQ
    clear hp hpb ho hq NE
    (first
      | (generalize ((((((v2.setCell ⟨w5.heap.size, 0, none⟩ (.int .i64 q.now)).setCell ⟨w5.heap.size, 1, none⟩ (.int .i64 q.hor)).setCell ⟨w5.heap.size, 2, none⟩ (.slice q.oa q.op.length q.oc)).setCell ⟨w5.heap.size, 3, none⟩ (.slice q.ua q.us.length q.uc)).setCell ⟨w5.heap.size, 4, none⟩ (.slice q.sa q.su.length q.sc)).setCell ⟨w5.heap.size, 5, none⟩ (.slice q.ta q.tb.length q.tc)) = T at *; generalize w5.heap.size = g at *; (have hseen : SB w g 38 q T := TO.out; clear hseen))
      | (generalize ((((((v2.setCell ⟨v1.heap.size, 0, none⟩ (.int .i64 q.now)).setCell ⟨v1.heap.size, 1, none⟩ (.int .i64 q.hor)).setCell ⟨v1.heap.size, 2, none⟩ (.slice q.oa q.op.length q.oc)).setCell ⟨v1.heap.size, 3, none⟩ (.slice q.ua q.us.length q.uc)).setCell ⟨v1.heap.size, 4, none⟩ (.slice q.sa q.su.length q.sc)).setCell ⟨v1.heap.size, 5, none⟩ (.slice q.ta q.tb.length q.tc)) = T at *; generalize v1.heap.size = g at *; (have hseen : SB w g 38 q T := TO.out; clear hseen))
      | (generalize v2.alloc (.cells #[.int .i64 q.now, .int .i64 q.hor, .slice q.oa q.op.length q.oc, .slice q.ua q.us.length q.uc, .slice q.sa q.su.length q.sc, .slice q.ta q.tb.length q.tc] 38) = T at *; generalize v2.heap.size = g at *; (have hseen : SB w g 38 q T := TO.out; clear hseen)))
    have KZ : PqK w g1 g2 g x y z1 q T := ⟨TK.out.s, TK.out.y, TK.out.z, TO.out⟩
    clear TK TO
    have HSC : Hid (∀ V, PqK w g1 g2 g x y z1 q V → V.cell? ⟨w.heap.size, 0, none⟩ = some (.int .i64 x.now) ∧ V.cell? ⟨w.heap.size, 1, none⟩ = some (.int .i64 x.hor) ∧ V.cell? ⟨w.heap.size, 2, none⟩ = some (.slice x.oa x.op.length x.oc) ∧ V.cell? ⟨w.heap.size, 3, none⟩ = some (.slice x.ua x.us.length x.uc) ∧ V.cell? ⟨w.heap.size, 4, none⟩ = some (.slice x.sa x.su.length x.sc) ∧ V.cell? ⟨w.heap.size, 5, none⟩ = some (.slice x.ta x.tb.length x.tc) ∧ V.cell? ⟨g1, 0, none⟩ = some (.int .i64 y.now) ∧ V.cell? ⟨g1, 1, none⟩ = some (.int .i64 y.hor) ∧ V.cell? ⟨g1, 2, none⟩ = some (.slice y.oa y.op.length y.oc) ∧ V.cell? ⟨g1, 3, none⟩ = some (.slice y.ua y.us.length y.uc) ∧ V.cell? ⟨g1, 4, none⟩ = some (.slice y.sa y.su.length y.sc) ∧ V.cell? ⟨g1, 5, none⟩ = some (.slice y.ta y.tb.length y.tc) ∧ V.cell? ⟨g2, 0, none⟩ = some (.int .i64 z1.now) ∧ V.cell? ⟨g2, 1, none⟩ = some (.int .i64 z1.hor) ∧ V.cell? ⟨g2, 2, none⟩ = some (.slice z1.oa z1.op.length z1.oc) ∧ V.cell? ⟨g2, 3, none⟩ = some (.slice z1.ua z1.us.length z1.uc) ∧ V.cell? ⟨g2, 4, none⟩ = some (.slice z1.sa z1.su.length z1.sc) ∧ V.cell? ⟨g2, 5, none⟩ = some (.slice z1.ta z1.tb.length z1.tc) ∧ V.cell? ⟨g, 0, none⟩ = some (.int .i64 q.now) ∧ V.cell? ⟨g, 1, none⟩ = some (.int .i64 q.hor) ∧ V.cell? ⟨g, 2, none⟩ = some (.slice q.oa q.op.length q.oc) ∧ V.cell? ⟨g, 3, none⟩ = some (.slice q.ua q.us.length q.uc) ∧ V.cell? ⟨g, 4, none⟩ = some (.slice q.sa q.su.length q.sc) ∧ V.cell? ⟨g, 5, none⟩ = some (.slice q.ta q.tb.length q.tc)) := fun V h => by
      obtain ⟨s0, s1, s2, s3, s4, s5⟩ := h.s.cells
      obtain ⟨y0, y1, y2, y3, y4, y5⟩ := h.y.cells
      obtain ⟨z0, z1, z2, z3, z4, z5⟩ := h.z.cells
      obtain ⟨q0, q1, q2, q3, q4, q5⟩ := h.q.cells
      exact ⟨s0, s1, s2, s3, s4, s5, y0, y1, y2, y3, y4, y5, z0, z1, z2, z3, z4, z5, q0, q1, q2, q3, q4, q5⟩
    have HBL : Hid (∀ V V', PqK w g1 g2 g x y z1 q V → Below V.heap.size V V' → PqK w g1 g2 g x y z1 q V') := fun V V' h q => h.below q
    obtain ⟨k0, k1, k2, k3, k4, k5, k6, k7, k8, k9, k10, k11, k12, k13, k14, k15, k16, k17, k18, k19, k20, k21, k22, k23⟩ := HSC.out _ KZ
    have K0 := KZ.below (Below.refl _ _).drew
    go_wp2_with fail
    go_region_held3 (fun V => V.cell? ⟨w.heap.size, 0, none⟩ = some (.int .i64 x.now) ∧ V.cell? ⟨w.heap.size, 1, none⟩ = some (.int .i64 x.hor) ∧ V.cell? ⟨w.heap.size, 2, none⟩ = some (.slice x.oa x.op.length x.oc) ∧ V.cell? ⟨w.heap.size, 3, none⟩ = some (.slice x.ua x.us.length x.uc) ∧ V.cell? ⟨w.heap.size, 4, none⟩ = some (.slice x.sa x.su.length x.sc) ∧ V.cell? ⟨w.heap.size, 5, none⟩ = some (.slice x.ta x.tb.length x.tc) ∧ V.cell? ⟨g1, 0, none⟩ = some (.int .i64 y.now) ∧ V.cell? ⟨g1, 1, none⟩ = some (.int .i64 y.hor) ∧ V.cell? ⟨g1, 2, none⟩ = some (.slice y.oa y.op.length y.oc) ∧ V.cell? ⟨g1, 3, none⟩ = some (.slice y.ua y.us.length y.uc) ∧ V.cell? ⟨g1, 4, none⟩ = some (.slice y.sa y.su.length y.sc) ∧ V.cell? ⟨g1, 5, none⟩ = some (.slice y.ta y.tb.length y.tc) ∧ V.cell? ⟨g2, 0, none⟩ = some (.int .i64 z1.now) ∧ V.cell? ⟨g2, 1, none⟩ = some (.int .i64 z1.hor) ∧ V.cell? ⟨g2, 2, none⟩ = some (.slice z1.oa z1.op.length z1.oc) ∧ V.cell? ⟨g2, 3, none⟩ = some (.slice z1.ua z1.us.length z1.uc) ∧ V.cell? ⟨g2, 4, none⟩ = some (.slice z1.sa z1.su.length z1.sc) ∧ V.cell? ⟨g2, 5, none⟩ = some (.slice z1.ta z1.tb.length z1.tc) ∧ V.cell? ⟨g, 0, none⟩ = some (.int .i64 q.now) ∧ V.cell? ⟨g, 1, none⟩ = some (.int .i64 q.hor) ∧ V.cell? ⟨g, 2, none⟩ = some (.slice q.oa q.op.length q.oc) ∧ V.cell? ⟨g, 3, none⟩ = some (.slice q.ua q.us.length q.uc) ∧ V.cell? ⟨g, 4, none⟩ = some (.slice q.sa q.su.length q.sc) ∧ V.cell? ⟨g, 5, none⟩ = some (.slice q.ta q.tb.length q.tc))
      (first | with_reducible exact HSC.out _ K6 | with_reducible exact HSC.out _ K5 | with_reducible exact HSC.out _ K4 | with_reducible exact HSC.out _ K3 | with_reducible exact HSC.out _ K2 | with_reducible exact HSC.out _ K1 | with_reducible exact HSC.out _ K0)
      (first | (have hseen := K5; clear hseen; go_at_call 26; refine (HSA.out a2 a5 _ p8 p7 m2 m5).mono ?_; rintro r v6 ⟨rfl, h6⟩; have K6 := HBL.out _ _ K5 h6) | (have hseen := K4; clear hseen; go_at_call 23; refine (HPB.out a4 _ p5 m4).mono ?_; rintro r v5 ⟨a5, rfl, p7, m5, h5⟩; have K5 := HBL.out _ _ K4 h5; have p8 := p6.below h5) | (have hseen := K3; clear hseen; go_at_call 22; refine (HRB.out a3 _ p3 m3).mono ?_; rintro r v4 ⟨a4, rfl, p5, m4, h4⟩; have K4 := HBL.out _ _ K3 h4; have p6 := p4.below h4) | (have hseen := K2; clear hseen; go_at_call 23; refine (HPR.out y _ K2.y.at_ hm).mono ?_; rintro r v3 ⟨a3, rfl, p3, m3, h3⟩; have K3 := HBL.out _ _ K2 h3; have p4 := p2.below h3) | (have hseen := K1; clear hseen; go_at_call 23; refine (HPA.out a1 _ p1 m1).mono ?_; rintro r v2 ⟨a2, rfl, p2, m2, h2⟩; have K2 := HBL.out _ _ K1 h2) | (have hseen := K0; clear hseen; go_at_call 22; refine (HRE.out y _ K0.y.at_ hm).mono ?_; rintro r v1 ⟨a1, rfl, p1, m1, h1⟩; have K1 := HBL.out _ _ K0 h1))
    all_goals
      have KY := K6
      clear K0 K1 K2 K3 K4 K5 K6 KZ p1 p2 p3 p4 p5 p6 p7 p8 h1 h2 h3 h4 h5 h6 k0 k1 k2 k3 k4 k5 k6 k7 k8 k9 k10 k11 k12 k13 k14 k15 k16 k17 k18 k19 k20 k21 k22 k23
      generalize v6 = u at *
      obtain ⟨k0, k1, k2, k3, k4, k5, k6, k7, k8, k9, k10, k11, k12, k13, k14, k15, k16, k17, k18, k19, k20, k21, k22, k23⟩ := HSC.out _ KY
      have K0 := KY.below (Below.refl _ _).drew
      go_wp2_with fail
      go_region_held3 (fun V => V.cell? ⟨w.heap.size, 0, none⟩ = some (.int .i64 x.now) ∧ V.cell? ⟨w.heap.size, 1, none⟩ = some (.int .i64 x.hor) ∧ V.cell? ⟨w.heap.size, 2, none⟩ = some (.slice x.oa x.op.length x.oc) ∧ V.cell? ⟨w.heap.size, 3, none⟩ = some (.slice x.ua x.us.length x.uc) ∧ V.cell? ⟨w.heap.size, 4, none⟩ = some (.slice x.sa x.su.length x.sc) ∧ V.cell? ⟨w.heap.size, 5, none⟩ = some (.slice x.ta x.tb.length x.tc) ∧ V.cell? ⟨g1, 0, none⟩ = some (.int .i64 y.now) ∧ V.cell? ⟨g1, 1, none⟩ = some (.int .i64 y.hor) ∧ V.cell? ⟨g1, 2, none⟩ = some (.slice y.oa y.op.length y.oc) ∧ V.cell? ⟨g1, 3, none⟩ = some (.slice y.ua y.us.length y.uc) ∧ V.cell? ⟨g1, 4, none⟩ = some (.slice y.sa y.su.length y.sc) ∧ V.cell? ⟨g1, 5, none⟩ = some (.slice y.ta y.tb.length y.tc) ∧ V.cell? ⟨g2, 0, none⟩ = some (.int .i64 z1.now) ∧ V.cell? ⟨g2, 1, none⟩ = some (.int .i64 z1.hor) ∧ V.cell? ⟨g2, 2, none⟩ = some (.slice z1.oa z1.op.length z1.oc) ∧ V.cell? ⟨g2, 3, none⟩ = some (.slice z1.ua z1.us.length z1.uc) ∧ V.cell? ⟨g2, 4, none⟩ = some (.slice z1.sa z1.su.length z1.sc) ∧ V.cell? ⟨g2, 5, none⟩ = some (.slice z1.ta z1.tb.length z1.tc) ∧ V.cell? ⟨g, 0, none⟩ = some (.int .i64 q.now) ∧ V.cell? ⟨g, 1, none⟩ = some (.int .i64 q.hor) ∧ V.cell? ⟨g, 2, none⟩ = some (.slice q.oa q.op.length q.oc) ∧ V.cell? ⟨g, 3, none⟩ = some (.slice q.ua q.us.length q.uc) ∧ V.cell? ⟨g, 4, none⟩ = some (.slice q.sa q.su.length q.sc) ∧ V.cell? ⟨g, 5, none⟩ = some (.slice q.ta q.tb.length q.tc))
        (first | with_reducible exact HSC.out _ K4 | with_reducible exact HSC.out _ K3 | with_reducible exact HSC.out _ K2 | with_reducible exact HSC.out _ K1 | with_reducible exact HSC.out _ K0)
        (first | (have hseen := K3; clear hseen; go_at_call 26; refine (HSB.out b1 b2 _ p3 p2 n1 n2).mono ?_; rintro r v4 ⟨rfl, h4⟩; have K4 := HBL.out _ _ K3 h4) | (have hseen := K2; clear hseen; go_at_call 23; refine (HP2.out q _ K2.q.at_ hw).mono ?_; rintro r v3 ⟨b2, rfl, p2, n2, h3⟩; have K3 := HBL.out _ _ K2 h3; have p3 := p1.below h3) | (have hseen := K1; clear hseen; go_at_call 23; refine (HP1.out z1 _ K1.z.at_ hn1).mono ?_; rintro r v2 ⟨b1, rfl, p1, n1, h2⟩; have K2 := HBL.out _ _ K1 h2) | (have hseen := K0; clear hseen; go_at_call 14; refine (HAL.out _).mono ?_; rintro r v1 ⟨rfl, h1⟩; have K1 := HBL.out _ _ K0 h1))
      all_goals
        have HF := Lib.hid K4.s.frame
        clear K0 K1 K2 K3 K4
        go_wp2
        go_ret
        exact ⟨rfl, HF.out⟩
theorem contract (H : Type) (enc : TypeId × Value → H) (W : World) (base : Nat) (args : Array Value) (ds gs : List (DataW H)) (before : List MemPlace)
    (hval : ∀ (j : Nat) t v, Tryz.f11.params[j]? = some t → args[j]? = some v → Value.okWide Tryz.prog W .any base t v)
    (hW : DataW.Whole enc Tryz.prog Tryz.f11.params.toList Rows.statePrunesSpec.vars false W args.toList ds gs before) (hk : Rows.uptoSmall H (ds ++ gs) = true) :
    Calls Tryz.prog 11 args W fun e W' => ∃ v, e = .returned v ∧ Rows.statePrunesSpec.post enc Tryz.prog Tryz.f11 false true false false W args v W' := by
  have hW' := hW
  obtain ⟨p, q, hA0, hV, rfl, hfz, hnd⟩ := hW
  have hA : DataW.TrodAll enc Tryz.prog W 0 (fun _ => true) true Tryz.f11.params.toList args.toList ds p := hA0
  rw [Tryz.params11] at hA hval
  obtain ⟨v0, vs0, d0, ds0, p0, q0, hargs, rfl, rfl, h0, r0⟩ := trodAll_cons hA
  obtain ⟨v1, vs1, d1, ds1, p1, q1, rfl, rfl, rfl, h1, r1⟩ := trodAll_cons r0
  obtain ⟨rfl, rfl, rfl⟩ := trodAll_nil r1
  obtain rfl : args = #[v0, v1] := by cases args; simp_all
  obtain ⟨rfl, rfl⟩ := trodVars_none hV
  have hbk : Rows.uptoBulkAll [d0, d1] ≤ 1048576 := of_decide_eq_true hk
  simp only [Rows.uptoBulkAll] at hbk
  obtain ⟨a0, rfl, s0, z0, b0⟩ := open_state (hval 0 27 v0 rfl rfl) h0
  have u0 : stCnt a0.m + a0.us.length ≤ 1048576 := by omega
  obtain ⟨a1, rfl, w1⟩ := open_event (hval 1 29 v1 rfl rfl) h1
  refine (walk W a0 s0 z0 u0 a1 w1).mono fun e W' ⟨he, hb⟩ => ?_
  subst he
  exact ⟨_, rfl, law_post rfl hW' (fun ds h => by match ds, h with | [_, _], _ => rfl) (by kernel_rfl) (by kernel_rfl) (by kernel_rfl) hb⟩

set_option maxRecDepth 100000 in
theorem lifted (os : Os) (started : os.Started) (H : Type) (enc : TypeId × Value → H) (F : Stop.Interp) :
    ReturnsInHanded {} Tryz.checked os 11 .any ((Rows.OpenSpec.upto Rows.statePrunesSpec).pre6 enc Tryz.prog Tryz.f11 Rows.statePrunesUptoRow.domain false) (((Rows.OpenSpec.upto Rows.statePrunesSpec).at F).post enc Tryz.prog Tryz.f11 false true false false) := by
  refine returnsInHanded_of_cond (C := Tryz.checked) (s := (Rows.OpenSpec.upto Rows.statePrunesSpec)) (k := Rows.uptoSmall) rfl own started (by kernel_rfl) Tryz.func11
    (OpenSpec.witness (enc := enc) (C := Tryz.checked) (s := (Rows.OpenSpec.upto Rows.statePrunesSpec)) (k := Rows.uptoSmall) rfl false ⟨#[], #[.agg #[.int .i64 0, .int .i64 0, .slice none 0 0, .slice none 0 0, .slice none 0 0, .slice none 0 0], .agg #[.int .i64 0, .int .i64 0, .string ByteArray.empty, .string ByteArray.empty, .int .i64 0, .int .i64 0]], []⟩ 8 (by kernel_rfl) (by kernel_rfl) (by kernel_rfl)
      (x := ([.agg [.lit (.int .i64 0), .lit (.int .i64 0), .nil, .nil, .nil, .nil], .agg [.lit (.int .i64 0), .lit (.int .i64 0), .lit (.string []), .lit (.string []), .lit (.int .i64 0), .lit (.int .i64 0)]], [], [])) (by kernel_rfl) rfl (by kernel_rfl)) ?_
  intro W base args ds gs before hval hW _ hk _
  exact contract H enc W base args ds gs before hval hW hk

theorem proved : Rows.StatePrunesUptoSaid :=
  OpenClaim.holds_of_cond 11 Tryz.f11 rfl rfl rfl rfl rfl rfl rfl ⟨rfl, rfl, rfl, rfl, rfl⟩ rfl rfl rfl rfl rfl (by kernel_rfl) Tryz.func11 (by kernel_rfl)
    (of_decide_eq_true (by kernel_rfl)) (by unfold Func.isWrapper; first | (rw [if_pos (by decide +kernel)]; kernel_rfl) | (rw [if_neg (by decide +kernel)]; exact ⟨rfl, rfl⟩))
    (fun os started H enc _ F => lifted os started H enc F)
end Go.Proofs.YtjhdhfokhkcamaaGreat.statePrunes
