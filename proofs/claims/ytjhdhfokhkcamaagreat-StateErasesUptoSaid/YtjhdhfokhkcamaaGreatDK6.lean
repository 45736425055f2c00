/- StateErases: behind an erasure there is nothing of the user but the tomb, and of the others all that there was; for all states of at most 1048576 things, all texts and times. -/
import Derived.Test.YtjhdhfokhkcamaaGreatP01
import Derived.Test.YtjhdhfokhkcamaaGreatP03
import Derived.Test.YtjhdhfokhkcamaaGreatP09
import Derived.Test.YtjhdhfokhkcamaaGreatP10
import Derived.Test.YtjhdhfokhkcamaaGreatP12
import Derived.Test.YtjhdhfokhkcamaaGreatP18
import Derived.Test.YtjhdhfokhkcamaaGreatP25
import Derived.Test.YtjhdhfokhkcamaaGreatP31
import Derived.Test.YtjhdhfokhkcamaaGreatP32
import Derived.Test.YtjhdhfokhkcamaaGreatP34
import Derived.Test.YtjhdhfokhkcamaaGreatP45
import Derived.JoinedCond
import Derived.Deep.RegionHeld3
import Derived.OrdersHeld
import Derived.Test.YtjhdhfokhkcamaaGreatP48
import Derived.Test.YtjhdhfokhkcamaaGreatTK
namespace Go.Proofs.YtjhdhfokhkcamaaGreat.stateErases
open Go.ChangeShapes Go.WideShapes Go.ChangeAt Go.RowKit Go.Proofs
open Go.ChangeMaps (open_string shut_string)
set_option linter.unusedVariables false
set_option maxRecDepth 100000

structure ErK (w : World) (g1 : Nat) (g2 : Nat) (x : SaL) (z : SaL) (o : SaL) (W : World) : Prop where
  s : SB w w.heap.size 27 x W
  g : SB w g1 38 z W
  o : SB w g2 27 o W
theorem ErK.below {w W W' : World} {g1 : Nat} {g2 : Nat} {x : SaL} {z : SaL} {o : SaL} (h : ErK w g1 g2 x z o W) (qB : Below W.heap.size W W') : ErK w g1 g2 x z o W' := ⟨h.s.below qB, h.g.below qB, h.o.below qB⟩
structure EzK (w : World) (g1 : Nat) (x : SaL) (z : SaL) (W : World) : Prop where
  s : SB w w.heap.size 27 x W
  g : SB w g1 38 z W
theorem EzK.below {w W W' : World} {g1 : Nat} {x : SaL} {z : SaL} (h : EzK w g1 x z W) (qB : Below W.heap.size W W') : EzK w g1 x z W' := ⟨h.s.below qB, h.g.below qB⟩
theorem beside_sb {w W : World} {g g2 : Nat} {t t2 : TypeId} {x o : SaL} (h : SB w g t x W) (k : SB w g2 t2 o W) (hne : g ≠ g2) (i : Nat) (v : Value) : SB w g t x (W.setCell ⟨g2, i, none⟩ v) :=
  ⟨(block_far hne).trans h.blk, h.ge, h.frame.setCell (p := ⟨g2, i, none⟩) k.ge v, h.at_.setB k.blk i v⟩
theorem er_tombs {M : SaM} {u : ByteArray} {t : Int} (h : erV M (⟨7, t, u, ⟨#[]⟩, 0, 0⟩ : EvM) = 0) (hr : RightS M) :
    (teV M (⟨7, t, u, ⟨#[]⟩, 0, 0⟩ : EvM)).tb.countP (isKy TbM.u u) = 1 ∧ stHas { teV M (⟨7, t, u, ⟨#[]⟩, 0, 0⟩ : EvM) with tb := [] } u = false ∧ stHas (teV M (⟨7, t, u, ⟨#[]⟩, 0, 0⟩ : EvM)) u = true ∧ staysS (teV M (⟨7, t, u, ⟨#[]⟩, 0, 0⟩ : EvM)) u t = [] ∧ ∀ v, v ≠ u → staysS (teV M (⟨7, t, u, ⟨#[]⟩, 0, 0⟩ : EvM)) v t = staysS M v t := by
  rw [(te_ok hr h).2.2]
  have e : (goS M 7 t 0 0 u ⟨#[]⟩).tb = tombU M.tb u t := rfl
  refine ⟨by rw [show (goS M 7 t 0 0 u ⟨#[]⟩).tb = tombU M.tb u t from rfl]; exact tomb_one _ _ _, ?_, ?_, erase_stays hr.ur, fun v hv => erase_other hr.ur hv⟩
  · show (hasT [] u || hasU (putU M.us u []) u || hasO (M.op.filter (notU u)) u || hasE (withoutS M.su u) u) = false
    rw [hasU_gone, hasO_gone, hasE_gone]
    rfl
  · show (hasT (tombU M.tb u t) u || hasU (putU M.us u []) u || hasO (M.op.filter (notU u)) u || hasE (withoutS M.su u) u) = true
    rw [hasT_tomb]
    rfl
theorem in_two {w : World} {x : SaL} (h : SaAt w x) (u v : ByteArray) (t t2 : TypeId) : SB w w.heap.size t x ((w.alloc (.cells (saC x) t)).alloc (.cells #[.string u, .string v] t2))
    ∧ ((w.alloc (.cells (saC x) t)).alloc (.cells #[.string u, .string v] t2)).cell? ⟨w.heap.size + 1, 0, none⟩ = some (.string u) ∧ ((w.alloc (.cells (saC x) t)).alloc (.cells #[.string u, .string v] t2)).cell? ⟨w.heap.size + 1, 1, none⟩ = some (.string v) := by
  have S0 := SB.new (Below.refl w.heap.size w) h t
  have hn := heap_alloc_new (w.alloc (.cells (saC x) t)) (.cells #[.string u, .string v] t2)
  rw [size1] at hn
  exact ⟨S0.alloc _, cell_of_row _ _ 0 _ _ (0, 0) hn, cell_of_row _ _ 1 _ _ (0, 0) hn⟩
theorem count_next (l : List TbM) (u : ByteArray) (j : Nat) (h : j < l.length) : (l.take (j + 1)).countP (isKy TbM.u u) = (l.take j).countP (isKy TbM.u u) + (if l[j].u = u then 1 else 0) := by
  rw [List.take_succ_eq_append_getElem h, List.countP_append, List.countP_singleton]
  congr 1
  by_cases he : l[j].u = u
  · rw [if_pos he, if_pos (isKy_iff.2 he)]
  · rw [if_neg he, if_neg (fun hk => he (isKy_iff.1 hk))]
set_option maxHeartbeats 8000000 in
theorem walk (w : World) (x : SaL) (h : SaAt w x) (z : SzS x.m) (b : stCnt x.m + x.us.length ≤ 1048576) (u v : ByteArray) (hu : u.size ≤ maxLen) (hv : v.size ≤ maxLen) (t : Int) (ht : (Lit.int .i64 t).wf = true) :
    Calls Tryz.prog 8 #[saV x, .agg #[.string u, .string v], .int .i64 t] w fun e w' => e = .returned (.bool true) ∧ Below w.heap.size w w' := by
  obtain ⟨S, x0, x1⟩ := in_two h u v 27 67
  unfold saC at S x0 x1
  replace S := Lib.hid S
  have HAL := Lib.hid alive11
  have HMA := Lib.hid (fun V (h : SaAt V x) => many_any x V h b)
  by_cases g1 : 100 < stCnt x.m + x.us.length
  · have d1 : decide ((100 : Int) < (stCnt x.m : Int) + (x.us.length : Int)) = true := decide_eq_true (by omega)
    clear h z b g1 hu hv ht
    unfold saV saC
    go_enter Tryz.func8, Tryz.ntmps8
    go_wp2
    go_quiet (fail)
    have hd := Drew.below (w := ((w.alloc (.cells #[.int .i64 x.now, .int .i64 x.hor, .slice x.oa x.op.length x.oc, .slice x.ua x.us.length x.uc, .slice x.sa x.su.length x.sc, .slice x.ta x.tb.length x.tc] 27)).alloc (.cells #[.string u, .string v] 67))) (w' := ((w.alloc (.cells #[.int .i64 x.now, .int .i64 x.hor, .slice x.oa x.op.length x.oc, .slice x.ua x.us.length x.uc, .slice x.sa x.su.length x.sc, .slice x.ta x.tb.length x.tc] 27)).alloc (.cells #[.string u, .string v] 67)).drewN nq) ⟨nq, rfl⟩ ((w.alloc (.cells #[.int .i64 x.now, .int .i64 x.hor, .slice x.oa x.op.length x.oc, .slice x.ua x.us.length x.uc, .slice x.sa x.su.length x.sc, .slice x.ta x.tb.length x.tc] 27)).alloc (.cells #[.string u, .string v] 67)).heap.size
    replace S := Lib.hid (S.out.below hd)
    clear hd x0 x1
    generalize ((w.alloc (.cells #[.int .i64 x.now, .int .i64 x.hor, .slice x.oa x.op.length x.oc, .slice x.ua x.us.length x.uc, .slice x.sa x.su.length x.sc, .slice x.ta x.tb.length x.tc] 27)).alloc (.cells #[.string u, .string v] 67)).drewN nq = wq at *
    obtain ⟨cS0, cS1, cS2, cS3, cS4, cS5⟩ := S.out.cells
    go_wp2_with fail
    refine (HMA.out _ S.out.at_).mono ?_
    rintro r1 w1 ⟨rfl, h1⟩
    clear cS0 cS1 cS2 cS3 cS4 cS5
    replace S := Lib.hid (S.out.below h1)
    clear h1
    obtain ⟨cS0, cS1, cS2, cS3, cS4, cS5⟩ := S.out.cells
    go_wp2_with fail
    refine (HAL.out _).mono ?_
    rintro r2 w2 ⟨rfl, h2⟩
    clear cS0 cS1 cS2 cS3 cS4 cS5
    replace S := Lib.hid (S.out.below h2)
    clear h2
    go_wp2
    go_ret
    exact ⟨rfl, S.out.frame⟩
  have d1 : decide ((100 : Int) < (stCnt x.m : Int) + (x.us.length : Int)) = false := decide_eq_false (by omega)
  have hf0 : Few x.m 100 := few_cnt (by omega)
  by_cases hr0 : RightS x.m
  case neg =>
    have HRR := Lib.hid (fun V (h : SaAt V x) => g_rwrong x V h rfl z (hf0.mono (by decide)) hr0)
    clear h z b g1 hf0 hr0 hu hv ht
    unfold saV saC
    go_enter Tryz.func8, Tryz.ntmps8
    go_wp2
    go_quiet (fail)
    have hd := Drew.below (w := ((w.alloc (.cells #[.int .i64 x.now, .int .i64 x.hor, .slice x.oa x.op.length x.oc, .slice x.ua x.us.length x.uc, .slice x.sa x.su.length x.sc, .slice x.ta x.tb.length x.tc] 27)).alloc (.cells #[.string u, .string v] 67))) (w' := ((w.alloc (.cells #[.int .i64 x.now, .int .i64 x.hor, .slice x.oa x.op.length x.oc, .slice x.ua x.us.length x.uc, .slice x.sa x.su.length x.sc, .slice x.ta x.tb.length x.tc] 27)).alloc (.cells #[.string u, .string v] 67)).drewN nq) ⟨nq, rfl⟩ ((w.alloc (.cells #[.int .i64 x.now, .int .i64 x.hor, .slice x.oa x.op.length x.oc, .slice x.ua x.us.length x.uc, .slice x.sa x.su.length x.sc, .slice x.ta x.tb.length x.tc] 27)).alloc (.cells #[.string u, .string v] 67)).heap.size
    replace S := Lib.hid (S.out.below hd)
    clear hd x0 x1
    generalize ((w.alloc (.cells #[.int .i64 x.now, .int .i64 x.hor, .slice x.oa x.op.length x.oc, .slice x.ua x.us.length x.uc, .slice x.sa x.su.length x.sc, .slice x.ta x.tb.length x.tc] 27)).alloc (.cells #[.string u, .string v] 67)).drewN nq = wq at *
    obtain ⟨cS0, cS1, cS2, cS3, cS4, cS5⟩ := S.out.cells
    go_wp2_with fail
    refine (HMA.out _ S.out.at_).mono ?_
    rintro r1 w1 ⟨rfl, h1⟩
    clear cS0 cS1 cS2 cS3 cS4 cS5
    replace S := Lib.hid (S.out.below h1)
    clear h1
    obtain ⟨cS0, cS1, cS2, cS3, cS4, cS5⟩ := S.out.cells
    go_wp2_with fail
    refine (HRR.out _ S.out.at_).mono ?_
    rintro r2 w2 ⟨rfl, h2⟩
    clear cS0 cS1 cS2 cS3 cS4 cS5
    replace S := Lib.hid (S.out.below h2)
    clear h2
    obtain ⟨cS0, cS1, cS2, cS3, cS4, cS5⟩ := S.out.cells
    go_wp2_with fail
    refine (HAL.out _).mono ?_
    rintro r3 w3 ⟨rfl, h3⟩
    clear cS0 cS1 cS2 cS3 cS4 cS5
    replace S := Lib.hid (S.out.below h3)
    clear h3
    go_wp2
    go_ret
    exact ⟨rfl, S.out.frame⟩
  have HRR := Lib.hid (fun V (h : SaAt V x) => g_rright x V h rfl z (hf0.mono (by decide)) hr0)
  have hc0 : stCnt x.m ≤ 100 := by omega
  clear b g1
  obtain ⟨M, hM⟩ : ∃ M, x.m = M := ⟨_, rfl⟩
  have hr : RightS M := hM ▸ hr0
  have hf : Few M 100 := hM ▸ hf0
  have hz : SzS M := hM ▸ z
  have hc : stCnt M ≤ 100 := hM ▸ hc0
  have HNW := Lib.hid (fun V (h : SaAt V x) => g_new x V h hM (hf.mono (by decide)))
  have HAP := Lib.hid (fun y V (h : SaAt V y) hm => g_apply (M := M) y (⟨7, t, u, ⟨#[]⟩, 0, 0⟩ : EvM) V h hm hr (Nat.le_trans hc (by decide)) ⟨hu, show (⟨#[]⟩ : ByteArray).size ≤ maxLen by decide⟩)
  by_cases g : erV M (⟨7, t, u, ⟨#[]⟩, 0, 0⟩ : EvM) = 0
  case neg =>
    have g1 : (erV M (⟨7, t, u, ⟨#[]⟩, 0, 0⟩ : EvM) == 0) = false := beq_false_of_ne g
    have g2 : (erV M (⟨7, t, u, ⟨#[]⟩, 0, 0⟩ : EvM) != 0) = true := bne_iff_ne.2 g
    replace hM := Lib.hid hM
    clear h z hf0 hr0 hc0 hr hf hz hc hu hv ht
    generalize erV M (⟨7, t, u, ⟨#[]⟩, 0, 0⟩ : EvM) = er at *
    generalize teV M (⟨7, t, u, ⟨#[]⟩, 0, 0⟩ : EvM) = M1 at *
    unfold saV saC
    go_enter Tryz.func8, Tryz.ntmps8
    go_wp2
    go_quiet (fail)
    have hd := Drew.below (w := ((w.alloc (.cells #[.int .i64 x.now, .int .i64 x.hor, .slice x.oa x.op.length x.oc, .slice x.ua x.us.length x.uc, .slice x.sa x.su.length x.sc, .slice x.ta x.tb.length x.tc] 27)).alloc (.cells #[.string u, .string v] 67))) (w' := ((w.alloc (.cells #[.int .i64 x.now, .int .i64 x.hor, .slice x.oa x.op.length x.oc, .slice x.ua x.us.length x.uc, .slice x.sa x.su.length x.sc, .slice x.ta x.tb.length x.tc] 27)).alloc (.cells #[.string u, .string v] 67)).drewN nq) ⟨nq, rfl⟩ ((w.alloc (.cells #[.int .i64 x.now, .int .i64 x.hor, .slice x.oa x.op.length x.oc, .slice x.ua x.us.length x.uc, .slice x.sa x.su.length x.sc, .slice x.ta x.tb.length x.tc] 27)).alloc (.cells #[.string u, .string v] 67)).heap.size
    replace S := Lib.hid (S.out.below hd)
    clear hd x0 x1
    generalize ((w.alloc (.cells #[.int .i64 x.now, .int .i64 x.hor, .slice x.oa x.op.length x.oc, .slice x.ua x.us.length x.uc, .slice x.sa x.su.length x.sc, .slice x.ta x.tb.length x.tc] 27)).alloc (.cells #[.string u, .string v] 67)).drewN nq = wq at *
    obtain ⟨cS0, cS1, cS2, cS3, cS4, cS5⟩ := S.out.cells
    go_wp2_with fail
    refine (HMA.out _ S.out.at_).mono ?_
    rintro r1 w1 ⟨rfl, h1⟩
    clear cS0 cS1 cS2 cS3 cS4 cS5
    replace S := Lib.hid (S.out.below h1)
    clear h1
    obtain ⟨cS0, cS1, cS2, cS3, cS4, cS5⟩ := S.out.cells
    go_wp2_with fail
    refine (HRR.out _ S.out.at_).mono ?_
    rintro r2 w2 ⟨rfl, h2⟩
    clear cS0 cS1 cS2 cS3 cS4 cS5
    replace S := Lib.hid (S.out.below h2)
    clear h2
    obtain ⟨cS0, cS1, cS2, cS3, cS4, cS5⟩ := S.out.cells
    go_wp2_with fail
    refine (HNW.out _ S.out.at_).mono ?_
    rintro r3 w3 ⟨y, rfl, hy, hm, h3⟩
    clear cS0 cS1 cS2 cS3 cS4 cS5
    replace S := Lib.hid (S.out.below h3)
    clear h3
    have Y := Lib.hid hy
    clear hy
    unfold saV saC
    go_wp2_with fail
    refine (HAP.out y _ Y.out hm).mono ?_
    rintro r4 w4 ⟨z, rfl, hz, hn, h4⟩
    unfold saV saC
    have hb4 := below_one w4 (.cells #[.int .i64 z.now, .int .i64 z.hor, .slice z.oa z.op.length z.oc, .slice z.ua z.us.length z.uc, .slice z.sa z.su.length z.sc, .slice z.ta z.tb.length z.tc] 38)
    have hc4 := h4.trans (hb4.mono h4.size)
    have Z : Hid (SB w w4.heap.size 38 z (w4.alloc (.cells #[.int .i64 z.now, .int .i64 z.hor, .slice z.oa z.op.length z.oc, .slice z.ua z.us.length z.uc, .slice z.sa z.su.length z.sc, .slice z.ta z.tb.length z.tc] 38))) := Lib.hid (SB.new (S.out.frame.trans (h4.mono S.out.frame.size)) hz 38)
    replace S := Lib.hid (S.out.below hc4)
    clear hb4 hc4 h4 hz
    obtain ⟨cS0, cS1, cS2, cS3, cS4, cS5⟩ := S.out.cells
    obtain ⟨cZ0, cZ1, cZ2, cZ3, cZ4, cZ5⟩ := Z.out.cells
    go_wp2_with fail
    refine (HAL.out _).mono ?_
    rintro r5 w5 ⟨rfl, h5⟩
    clear cS0 cS1 cS2 cS3 cS4 cS5 cZ0 cZ1 cZ2 cZ3 cZ4 cZ5
    replace S := Lib.hid (S.out.below h5)
    replace Z := Lib.hid (Z.out.below h5)
    clear h5
    go_wp2
    go_ret
    exact ⟨rfl, S.out.frame⟩
  have g1 : (erV M (⟨7, t, u, ⟨#[]⟩, 0, 0⟩ : EvM) == 0) = true := by rw [g]; rfl
  have g2 : (erV M (⟨7, t, u, ⟨#[]⟩, 0, 0⟩ : EvM) != 0) = false := by rw [g]; rfl
  obtain ⟨a1, a2, a3, a4, a5⟩ := er_tombs g hr
  have hr1 := te_right hr (⟨7, t, u, ⟨#[]⟩, 0, 0⟩ : EvM)
  have hc1 := te_cnt hr (⟨7, t, u, ⟨#[]⟩, 0, 0⟩ : EvM)
  have hf1 : Few (teV M (⟨7, t, u, ⟨#[]⟩, 0, 0⟩ : EvM)) 400 := (few_of hr1 (Nat.le_refl _)).mono (by omega)
  have hf2 : Few { teV M (⟨7, t, u, ⟨#[]⟩, 0, 0⟩ : EvM) with tb := [] } 400 := ⟨hf1.op, hf1.us, hf1.su, Nat.zero_le _, hf1.st⟩
  have htl : (teV M (⟨7, t, u, ⟨#[]⟩, 0, 0⟩ : EvM)).tb.length ≤ 400 := hf1.tb
  have HO1 := Lib.hid (fun y V (h : SaAt V y) hm => g_old (M := teV M (⟨7, t, u, ⟨#[]⟩, 0, 0⟩ : EvM)) y V h hm (hf1.mono (by decide)))
  have HRH := Lib.hid (fun y V (h : SaAt V y) hm => g_rhas (M := { teV M (⟨7, t, u, ⟨#[]⟩, 0, 0⟩ : EvM) with tb := [] }) y V h hm u (hf2.mono (by decide)))
  have HHA := Lib.hid (fun y V (h : SaAt V y) hm => g_has (M := teV M (⟨7, t, u, ⟨#[]⟩, 0, 0⟩ : EvM)) y V h hm u hr1 hf1)
  have HS0 := Lib.hid (fun y V (h : SaAt V y) hm => g_stays (M := teV M (⟨7, t, u, ⟨#[]⟩, 0, 0⟩ : EvM)) y V h hm u t hf1)
  rw [a2] at HRH
  rw [a3] at HHA
  rw [a4] at HS0
  simp only [List.length_nil] at HS0
  have HST := Lib.hid (fun y V (h : SaAt V y) hm => g_stays (M := teV M (⟨7, t, u, ⟨#[]⟩, 0, 0⟩ : EvM)) y V h hm v t hf1)
  have HRS := Lib.hid (fun V (h : SaAt V x) => g_rstays x V h hM v t (hf.mono (by decide)))
  have hl := stays_few (hf.mono (show 100 ≤ 400 by decide)) v t
  have HV : Hid (v ≠ u → staysS (teV M (⟨7, t, u, ⟨#[]⟩, 0, 0⟩ : EvM)) v t = staysS M v t) := a5 v
  have HA1 := Lib.hid a1
  have HTL := Lib.hid htl
  replace hM := Lib.hid hM
  clear h z hf0 hr0 hc0 hr hf hz hc hu hv ht hc1 hr1 hf1 hf2 htl a1 a2 a3 a4 a5 g
  generalize erV M (⟨7, t, u, ⟨#[]⟩, 0, 0⟩ : EvM) = er at *
  generalize teV M (⟨7, t, u, ⟨#[]⟩, 0, 0⟩ : EvM) = M1 at *
  unfold saV saC
  go_enter Tryz.func8, Tryz.ntmps8
  go_wp2
  go_quiet (fail)
  have hd := Drew.below (w := ((w.alloc (.cells #[.int .i64 x.now, .int .i64 x.hor, .slice x.oa x.op.length x.oc, .slice x.ua x.us.length x.uc, .slice x.sa x.su.length x.sc, .slice x.ta x.tb.length x.tc] 27)).alloc (.cells #[.string u, .string v] 67))) (w' := ((w.alloc (.cells #[.int .i64 x.now, .int .i64 x.hor, .slice x.oa x.op.length x.oc, .slice x.ua x.us.length x.uc, .slice x.sa x.su.length x.sc, .slice x.ta x.tb.length x.tc] 27)).alloc (.cells #[.string u, .string v] 67)).drewN nq) ⟨nq, rfl⟩ ((w.alloc (.cells #[.int .i64 x.now, .int .i64 x.hor, .slice x.oa x.op.length x.oc, .slice x.ua x.us.length x.uc, .slice x.sa x.su.length x.sc, .slice x.ta x.tb.length x.tc] 27)).alloc (.cells #[.string u, .string v] 67)).heap.size
  replace S := Lib.hid (S.out.below hd)
  clear hd x0 x1
  generalize ((w.alloc (.cells #[.int .i64 x.now, .int .i64 x.hor, .slice x.oa x.op.length x.oc, .slice x.ua x.us.length x.uc, .slice x.sa x.su.length x.sc, .slice x.ta x.tb.length x.tc] 27)).alloc (.cells #[.string u, .string v] 67)).drewN nq = wq at *
  obtain ⟨cS0, cS1, cS2, cS3, cS4, cS5⟩ := S.out.cells
  go_wp2_with fail
  refine (HMA.out _ S.out.at_).mono ?_
  rintro r1 w1 ⟨rfl, h1⟩
  clear cS0 cS1 cS2 cS3 cS4 cS5
  replace S := Lib.hid (S.out.below h1)
  clear h1
  obtain ⟨cS0, cS1, cS2, cS3, cS4, cS5⟩ := S.out.cells
  go_wp2_with fail
  refine (HRR.out _ S.out.at_).mono ?_
  rintro r2 w2 ⟨rfl, h2⟩
  clear cS0 cS1 cS2 cS3 cS4 cS5
  replace S := Lib.hid (S.out.below h2)
  clear h2
  obtain ⟨cS0, cS1, cS2, cS3, cS4, cS5⟩ := S.out.cells
  go_wp2_with fail
  refine (HNW.out _ S.out.at_).mono ?_
  rintro r3 w3 ⟨y, rfl, hy, hm, h3⟩
  clear cS0 cS1 cS2 cS3 cS4 cS5
  replace S := Lib.hid (S.out.below h3)
  clear h3
  have Y := Lib.hid hy
  clear hy
  unfold saV saC
  go_wp2_with fail
  refine (HAP.out y _ Y.out hm).mono ?_
  rintro r4 w4 ⟨z, rfl, hz, hn, h4⟩
  unfold saV saC
  have hb4 := below_one w4 (.cells #[.int .i64 z.now, .int .i64 z.hor, .slice z.oa z.op.length z.oc, .slice z.ua z.us.length z.uc, .slice z.sa z.su.length z.sc, .slice z.ta z.tb.length z.tc] 38)
  have hc4 := h4.trans (hb4.mono h4.size)
  have Z : Hid (SB w w4.heap.size 38 z (w4.alloc (.cells #[.int .i64 z.now, .int .i64 z.hor, .slice z.oa z.op.length z.oc, .slice z.ua z.us.length z.uc, .slice z.sa z.su.length z.sc, .slice z.ta z.tb.length z.tc] 38))) := Lib.hid (SB.new (S.out.frame.trans (h4.mono S.out.frame.size)) hz 38)
  replace S := Lib.hid (S.out.below hc4)
  clear hb4 hc4 h4 hz
  obtain ⟨cS0, cS1, cS2, cS3, cS4, cS5⟩ := S.out.cells
  obtain ⟨cZ0, cZ1, cZ2, cZ3, cZ4, cZ5⟩ := Z.out.cells
  go_wp2_with fail
  refine (HO1.out z _ Z.out.at_ hn).mono ?_
  rintro r5 w5 ⟨o, rfl, ho, hp, h5⟩
  clear cS0 cS1 cS2 cS3 cS4 cS5 cZ0 cZ1 cZ2 cZ3 cZ4 cZ5
  have N2 : w4.heap.size < w5.heap.size := Nat.lt_of_lt_of_le Z.out.lt h5.size
  unfold saV saC
  have hb5 := below_one w5 (.cells #[.int .i64 o.now, .int .i64 o.hor, .slice o.oa o.op.length o.oc, .slice o.ua o.us.length o.uc, .slice o.sa o.su.length o.sc, .slice o.ta o.tb.length o.tc] 27)
  have hc5 := h5.trans (hb5.mono h5.size)
  have O : Hid (SB w w5.heap.size 27 o (w5.alloc (.cells #[.int .i64 o.now, .int .i64 o.hor, .slice o.oa o.op.length o.oc, .slice o.ua o.us.length o.uc, .slice o.sa o.su.length o.sc, .slice o.ta o.tb.length o.tc] 27))) := Lib.hid (SB.new (S.out.frame.trans (h5.mono S.out.frame.size)) ho 27)
  replace S := Lib.hid (S.out.below hc5)
  replace Z := Lib.hid (Z.out.below hc5)
  clear hb5 hc5 h5 ho
  clear HMA HRR HNW HAP HO1 Y
  have N1 : w.heap.size < w5.heap.size := Nat.lt_of_le_of_lt Z.out.ge N2
  have HTB : Hid (o.tb = M1.tb) := by rw [← hp]; rfl
  have HK : Hid (ErK w w4.heap.size w5.heap.size x z o _) := Lib.hid ⟨S.out, Z.out, O.out⟩
  obtain ⟨k0, k1, k2, k3, k4, k5⟩ := O.out.cells
  have hol : o.tb.length ≤ 400 := by rw [HTB.out]; exact HTL.out
  clear S Z O
  go_wp2
  go_loopw [12, 45] (fun cv iv wr => ∃ (j c : Nat), j ≤ o.tb.length ∧ cv = .int .i64 c ∧ iv = .int .i64 j ∧ Hid (c = (o.tb.take j).countP (isKy TbM.u u)) ∧ Hid (ErK w w4.heap.size w5.heap.size x z o wr)) (fun _ iv _ => o.tb.length - (intOf iv).toNat)
  case atStart => exact ⟨0, 0, by omega, rfl, rfl, Lib.hid rfl, HK⟩
  case round =>
    obtain ⟨j, c, hj, rfl, rfl, HC, HE⟩ := hrel
    clear HK k0 k1 k2 k3 k4 k5
    by_cases hjl : j < o.tb.length
    · have hcl : c ≤ 400 := by have := List.countP_le_length (p := isKy TbM.u u) (l := o.tb.take j); rw [← HC.out, List.length_take] at this; omega
      have hw1 : IntKind.i64.wrap ((c : Int) + 1) = (c : Int) + 1 := IntWalk.i64_in _ (by omega)
      obtain ⟨bl, off, eta, hbl, r0, r1⟩ := HE.out.o.at_.tb.get hjl
      have HB := fun y : TbM => below_one wr (.cells #[.string y.u, .int .i64 y.a] 69)
      have HB1 := Lib.hid (HB (o.tb[j]))
      have HN := Lib.hid (HE.out.below HB1.out)
      have HCN := Lib.hid (count_next o.tb u j hjl)
      clear HB
      generalize hta : o.ta = ta at *
      subst eta
      by_cases he : (o.tb[j]).u = u
      · rw [if_pos he] at HCN
        have hq := txt_eq u
        generalize o.tb[j] = y at *
        obtain ⟨yu, ya⟩ := y
        dsimp only at *
        subst he
        go_wp2
        go_roundw
        case rel => exact ⟨j + 1, c + 1, by omega, by go_num, by go_num, Lib.hid (by rw [HC.out, HCN.out]), HN⟩
        case measure => simp [intOf]; omega
      · rw [if_neg he] at HCN
        have hq := txt_ne he
        generalize o.tb[j] = y at *
        obtain ⟨yu, ya⟩ := y
        dsimp only at *
        go_wp2
        go_roundw
        case rel => exact ⟨j + 1, c, by omega, by go_num, by go_num, Lib.hid (by rw [HC.out, HCN.out]; rfl), HN⟩
        case measure => simp [intOf]; omega
    · obtain rfl : j = o.tb.length := by omega
      have HC1 : Hid (c = 1) := by
        have := HC.out
        rw [List.take_length, HTB.out, HA1.out] at this
        exact this
      have q1 : ((c : Int) == 1) = true := by rw [HC1.out]; rfl
      have q2 : ((c : Int) != 1) = false := by rw [HC1.out]; rfl
      clear HC HC1 hjl hj hol HTB HA1 HTL
      have O1 := HE.out.o.setTb (a := none) (l := []) (n := 0) (c := 0) rfl (TbSl.nil _ _) Cp.none
      have S1 := beside_sb HE.out.s HE.out.o (Nat.ne_of_lt N1) 5 (.slice none 0 0)
      have Z1 := beside_sb HE.out.g HE.out.o (Nat.ne_of_lt N2) 5 (.slice none 0 0)
      obtain ⟨k0, k1, k2, k3, k4, k5⟩ := HE.out.o.cells
      obtain ⟨f0, f1, f2, f3, f4, f5⟩ := HE.out.o.free
      obtain ⟨e0, e1, e2, e3, e4, e5⟩ := O1.cells
      dsimp only at e0 e1 e2 e3 e4 e5
      simp only [List.length_nil] at e5
      have hOm : ({ o with ta := none, tb := [], tc := 0 } : SaL).m = { M1 with tb := [] } := by rw [← hp]; rfl
      have OO := Lib.hid O1
      have SS := Lib.hid S1
      have ZZ := Lib.hid Z1
      replace hOm := Lib.hid hOm
      clear O1 S1 Z1 HE
      go_wp2_with fail
      refine (HRH.out _ _ OO.out.at_ hOm.out).mono ?_
      rintro r6 w6 ⟨rfl, h6⟩
      clear e0 e1 e2 e3 e4 e5 k0 k1 k2 k3 k4 k5 f0 f1 f2 f3 f4 f5
      have S := Lib.hid (SS.out.below h6)
      have Z := Lib.hid (ZZ.out.below h6)
      clear SS ZZ OO h6 HRH hOm
      obtain ⟨cS0, cS1, cS2, cS3, cS4, cS5⟩ := S.out.cells
      obtain ⟨cZ0, cZ1, cZ2, cZ3, cZ4, cZ5⟩ := Z.out.cells
      go_wp2_with fail
      refine (HHA.out z _ Z.out.at_ hn).mono ?_
      rintro r7 w7 ⟨rfl, h7⟩
      clear cS0 cS1 cS2 cS3 cS4 cS5 cZ0 cZ1 cZ2 cZ3 cZ4 cZ5
      replace S := Lib.hid (S.out.below h7)
      replace Z := Lib.hid (Z.out.below h7)
      clear h7
      obtain ⟨cS0, cS1, cS2, cS3, cS4, cS5⟩ := S.out.cells
      obtain ⟨cZ0, cZ1, cZ2, cZ3, cZ4, cZ5⟩ := Z.out.cells
      go_wp2_with fail
      refine (HS0.out z _ Z.out.at_ hn).mono ?_
      rintro r8 w8 ⟨a0, b0, rfl, -, h8⟩
      clear cS0 cS1 cS2 cS3 cS4 cS5 cZ0 cZ1 cZ2 cZ3 cZ4 cZ5
      replace S := Lib.hid (S.out.below h8)
      replace Z := Lib.hid (Z.out.below h8)
      clear h8
      clear HHA HS0
      have KZ : EzK w w4.heap.size x z w8 := ⟨S.out, Z.out⟩
      clear S Z
      have HSC : Hid (∀ V, EzK w w4.heap.size x z V → V.cell? ⟨w.heap.size, 0, none⟩ = some (.int .i64 x.now) ∧ V.cell? ⟨w.heap.size, 1, none⟩ = some (.int .i64 x.hor) ∧ V.cell? ⟨w.heap.size, 2, none⟩ = some (.slice x.oa x.op.length x.oc) ∧ V.cell? ⟨w.heap.size, 3, none⟩ = some (.slice x.ua x.us.length x.uc) ∧ V.cell? ⟨w.heap.size, 4, none⟩ = some (.slice x.sa x.su.length x.sc) ∧ V.cell? ⟨w.heap.size, 5, none⟩ = some (.slice x.ta x.tb.length x.tc) ∧ V.cell? ⟨w4.heap.size, 0, none⟩ = some (.int .i64 z.now) ∧ V.cell? ⟨w4.heap.size, 1, none⟩ = some (.int .i64 z.hor) ∧ V.cell? ⟨w4.heap.size, 2, none⟩ = some (.slice z.oa z.op.length z.oc) ∧ V.cell? ⟨w4.heap.size, 3, none⟩ = some (.slice z.ua z.us.length z.uc) ∧ V.cell? ⟨w4.heap.size, 4, none⟩ = some (.slice z.sa z.su.length z.sc) ∧ V.cell? ⟨w4.heap.size, 5, none⟩ = some (.slice z.ta z.tb.length z.tc)) := fun V h => by
        obtain ⟨s0, s1, s2, s3, s4, s5⟩ := h.s.cells
        obtain ⟨g0, g1, g2, g3, g4, g5⟩ := h.g.cells
        exact ⟨s0, s1, s2, s3, s4, s5, g0, g1, g2, g3, g4, g5⟩
      have HBL : Hid (∀ V V', EzK w w4.heap.size x z V → Below V.heap.size V V' → EzK w w4.heap.size x z V') := fun V V' h q => h.below q
      obtain ⟨k0, k1, k2, k3, k4, k5, k6, k7, k8, k9, k10, k11⟩ := HSC.out _ KZ
      have K0 := KZ.below (Below.refl _ _).drew
      by_cases huv : v = u
      · subst huv
        have q3 := txt_eq v
        go_wp2_with fail
        refine wp_region_held_drew (S := (fun V => V.cell? ⟨w.heap.size, 0, none⟩ = some (.int .i64 x.now) ∧ V.cell? ⟨w.heap.size, 1, none⟩ = some (.int .i64 x.hor) ∧ V.cell? ⟨w.heap.size, 2, none⟩ = some (.slice x.oa x.op.length x.oc) ∧ V.cell? ⟨w.heap.size, 3, none⟩ = some (.slice x.ua x.us.length x.uc) ∧ V.cell? ⟨w.heap.size, 4, none⟩ = some (.slice x.sa x.su.length x.sc) ∧ V.cell? ⟨w.heap.size, 5, none⟩ = some (.slice x.ta x.tb.length x.tc) ∧ V.cell? ⟨w4.heap.size, 0, none⟩ = some (.int .i64 z.now) ∧ V.cell? ⟨w4.heap.size, 1, none⟩ = some (.int .i64 z.hor) ∧ V.cell? ⟨w4.heap.size, 2, none⟩ = some (.slice z.oa z.op.length z.oc) ∧ V.cell? ⟨w4.heap.size, 3, none⟩ = some (.slice z.ua z.us.length z.uc) ∧ V.cell? ⟨w4.heap.size, 4, none⟩ = some (.slice z.sa z.su.length z.sc) ∧ V.cell? ⟨w4.heap.size, 5, none⟩ = some (.slice z.ta z.tb.length z.tc))) (by kernel_rfl) ?_ (fun hHeld => ?_)
        · exact HSC.out _ K0
        refine wpAnyH_ready (rs := [0]) (by kernel_rfl) (by simp) ?_
        refine AllReadyH.cons (o := ⟨some 78, _, _, _, _, _⟩) rfl (fun K hK => ?_) AllReadyH.nil
        go_simp
        refine (HAL.out _).mono ?_
        rintro r v1 ⟨rfl, h1⟩
        have K1 := HBL.out _ _ K0 h1
        go_wp2_with fail
        refine hK.out _ _ ?_ (fun hH0 => ?_)
        · exact HSC.out _ K1
        clear hK K
        (try simp only [Act.put, List.setIfInBounds_toArray, List.set_cons_zero, List.set_cons_succ])
        refine tT 1 ⟨some 79, _, _, _, _, _⟩ rfl (h := ?_)
        refine tT 2 ⟨some 80, _, _, _, _, _⟩ rfl (h := ?_)
        refine tT 3 ⟨some 81, _, _, _, _, _⟩ rfl (h := ?_)
        refine tT 4 ⟨some 82, _, _, _, _, _⟩ rfl (h := ?_)
        refine tT 5 ⟨some 83, _, _, _, _, _⟩ rfl (h := ?_)
        refine tS 6 ⟨some 84, _, _, _, _, _⟩ rfl (h := ?_)
        refine tS 7 ⟨some 85, _, _, _, _, _⟩ rfl (h := ?_)
        refine tS 8 ⟨some 86, _, _, _, _, _⟩ rfl (h := ?_)
        refine tS 9 ⟨some 87, _, _, _, _, _⟩ rfl (h := ?_)
        refine tS 10 ⟨some 88, _, _, _, _, _⟩ rfl (h := ?_)
        refine tS 11 ⟨some 89, _, _, _, _, _⟩ rfl (h := ?_)
        refine tS 12 ⟨some 90, _, _, _, _, _⟩ rfl (h := ?_)
        refine tS 13 ⟨some 91, _, _, _, _, _⟩ rfl (h := ?_)
        refine tS 14 ⟨some 92, _, _, _, _, _⟩ rfl (h := ?_)
        refine tS 15 ⟨some 93, _, _, _, _, _⟩ rfl (h := ?_)
        refine tT 16 ⟨some 94, _, _, _, _, _⟩ rfl (h := ?_)
        refine tT 17 ⟨some 95, _, _, _, _, _⟩ rfl (h := ?_)
        refine tT 18 ⟨some 6, _, _, _, _, _⟩ rfl (h := ?_)
        refine wpAnyH_done (by kernel_rfl) ?_ _
        all_goals
          have HF := Lib.hid K1.s.frame
          clear K0 K1
          go_wp2
          go_ret
          exact ⟨rfl, HF.out⟩
      · have q3 := txt_ne (fun e : u = v => huv e.symm)
        have hlv := HV.out huv
        rw [hlv] at HST
        have HOL := Lib.hid (fun a q V (h : StSl V a (staysS M v t)) => g_olds a q (staysS M v t) V h hl)
        have HSA := Lib.hid (fun a b q r V (h : StSl V a (staysS M v t)) (k : StSl V b (staysS M v t)) => g_ssame a b q r (staysS M v t) V h k hl)
        clear hlv HV hl huv
        generalize staysS M v t = l at *
        go_wp2_with fail
        go_region_held3 (fun V => V.cell? ⟨w.heap.size, 0, none⟩ = some (.int .i64 x.now) ∧ V.cell? ⟨w.heap.size, 1, none⟩ = some (.int .i64 x.hor) ∧ V.cell? ⟨w.heap.size, 2, none⟩ = some (.slice x.oa x.op.length x.oc) ∧ V.cell? ⟨w.heap.size, 3, none⟩ = some (.slice x.ua x.us.length x.uc) ∧ V.cell? ⟨w.heap.size, 4, none⟩ = some (.slice x.sa x.su.length x.sc) ∧ V.cell? ⟨w.heap.size, 5, none⟩ = some (.slice x.ta x.tb.length x.tc) ∧ V.cell? ⟨w4.heap.size, 0, none⟩ = some (.int .i64 z.now) ∧ V.cell? ⟨w4.heap.size, 1, none⟩ = some (.int .i64 z.hor) ∧ V.cell? ⟨w4.heap.size, 2, none⟩ = some (.slice z.oa z.op.length z.oc) ∧ V.cell? ⟨w4.heap.size, 3, none⟩ = some (.slice z.ua z.us.length z.uc) ∧ V.cell? ⟨w4.heap.size, 4, none⟩ = some (.slice z.sa z.su.length z.sc) ∧ V.cell? ⟨w4.heap.size, 5, none⟩ = some (.slice z.ta z.tb.length z.tc))
          (first | with_reducible exact HSC.out _ K5 | with_reducible exact HSC.out _ K4 | with_reducible exact HSC.out _ K3 | with_reducible exact HSC.out _ K2 | with_reducible exact HSC.out _ K1 | with_reducible exact HSC.out _ K0)
          (first | (have hseen := K4; clear hseen; go_at_call 27; refine (HSA.out a3 a4 b3 b4 _ p5 p4).mono ?_; rintro r v5 ⟨rfl, h5⟩; have K5 := HBL.out _ _ K4 h5) | (have hseen := K3; clear hseen; go_at_call 30; refine (HRS.out _ K3.s.at_).mono ?_; rintro r v4 ⟨a4, b4, rfl, p4, h4⟩; have K4 := HBL.out _ _ K3 h4; have p5 := p3.below h4) | (have hseen := K2; clear hseen; go_at_call 28; refine (HOL.out a2 b2 _ p2).mono ?_; rintro r v3 ⟨a3, b3, rfl, p3, h3⟩; have K3 := HBL.out _ _ K2 h3) | (have hseen := K1; clear hseen; go_at_call 29; refine (HST.out z _ K1.g.at_ hn).mono ?_; rintro r v2 ⟨a2, b2, rfl, p2, h2⟩; have K2 := HBL.out _ _ K1 h2) | (have hseen := K0; clear hseen; go_at_call 14; refine (HAL.out _).mono ?_; rintro r v1 ⟨rfl, h1⟩; have K1 := HBL.out _ _ K0 h1))
        all_goals
          have HF := Lib.hid K5.s.frame
          clear K0 K1 K2 K3 K4 K5
          go_wp2
          go_ret
          exact ⟨rfl, HF.out⟩
theorem contract (H : Type) (enc : TypeId × Value → H) (W : World) (base : Nat) (args : Array Value) (ds gs : List (DataW H)) (before : List MemPlace)
    (hval : ∀ (j : Nat) t v, Tryz.f8.params[j]? = some t → args[j]? = some v → Value.okWide Tryz.prog W .any base t v)
    (hW : DataW.Whole enc Tryz.prog Tryz.f8.params.toList Rows.stateErasesSpec.vars false W args.toList ds gs before) (hk : Rows.uptoSmall H (ds ++ gs) = true) :
    Calls Tryz.prog 8 args W fun e W' => ∃ v, e = .returned v ∧ Rows.stateErasesSpec.post enc Tryz.prog Tryz.f8 false true false false W args v W' := by
  have hW' := hW
  obtain ⟨p, q, hA0, hV, rfl, hfz, hnd⟩ := hW
  have hA : DataW.TrodAll enc Tryz.prog W 0 (fun _ => true) true Tryz.f8.params.toList args.toList ds p := hA0
  rw [Tryz.params8] at hA hval
  obtain ⟨v0, vs0, d0, ds0, p0, q0, hargs, rfl, rfl, h0, r0⟩ := trodAll_cons hA
  obtain ⟨v1, vs1, d1, ds1, p1, q1, rfl, rfl, rfl, h1, r1⟩ := trodAll_cons r0
  obtain ⟨v2, vs2, d2, ds2, p2, q2, rfl, rfl, rfl, h2, r2⟩ := trodAll_cons r1
  obtain ⟨rfl, rfl, rfl⟩ := trodAll_nil r2
  obtain rfl : args = #[v0, v1, v2] := by cases args; simp_all
  obtain ⟨rfl, rfl⟩ := trodVars_none hV
  have hbk : Rows.uptoBulkAll [d0, d1, d2] ≤ 1048576 := of_decide_eq_true hk
  simp only [Rows.uptoBulkAll] at hbk
  obtain ⟨a0, rfl, s0, z0, b0⟩ := open_state (hval 0 27 v0 rfl rfl) h0
  have u0 : stCnt a0.m + a0.us.length ≤ 1048576 := by omega
  obtain ⟨a1, b1, rfl, w1, x1⟩ := open_two (hval 1 67 v1 rfl rfl) h1
  obtain ⟨a2, rfl, -, -, w2⟩ := open_int Tryz.underlying3 (hval 2 3 v2 rfl rfl) h2
  refine (walk W a0 s0 z0 u0 a1 b1 w1 x1 a2 w2).mono fun e W' ⟨he, hb⟩ => ?_
  subst he
  exact ⟨_, rfl, law_post rfl hW' (fun ds h => by match ds, h with | [_, _, _], _ => rfl) (by kernel_rfl) (by kernel_rfl) (by kernel_rfl) hb⟩

set_option maxRecDepth 100000 in
theorem lifted (os : Os) (started : os.Started) (H : Type) (enc : TypeId × Value → H) (F : Stop.Interp) :
    ReturnsInHanded {} Tryz.checked os 8 .any ((Rows.OpenSpec.upto Rows.stateErasesSpec).pre6 enc Tryz.prog Tryz.f8 Rows.stateErasesUptoRow.domain false) (((Rows.OpenSpec.upto Rows.stateErasesSpec).at F).post enc Tryz.prog Tryz.f8 false true false false) := by
  refine returnsInHanded_of_cond (C := Tryz.checked) (s := (Rows.OpenSpec.upto Rows.stateErasesSpec)) (k := Rows.uptoSmall) rfl own started (by kernel_rfl) Tryz.func8
    (OpenSpec.witness (enc := enc) (C := Tryz.checked) (s := (Rows.OpenSpec.upto Rows.stateErasesSpec)) (k := Rows.uptoSmall) rfl false ⟨#[], #[.agg #[.int .i64 0, .int .i64 0, .slice none 0 0, .slice none 0 0, .slice none 0 0, .slice none 0 0], .agg #[.string ByteArray.empty, .string ByteArray.empty], .int .i64 0], []⟩ 8 (by kernel_rfl) (by kernel_rfl) (by kernel_rfl)
      (x := ([.agg [.lit (.int .i64 0), .lit (.int .i64 0), .nil, .nil, .nil, .nil], .agg [.lit (.string []), .lit (.string [])], .lit (.int .i64 0)], [], [])) (by kernel_rfl) rfl (by kernel_rfl)) ?_
  intro W base args ds gs before hval hW _ hk _
  exact contract H enc W base args ds gs before hval hW hk

theorem proved : Rows.StateErasesUptoSaid :=
  OpenClaim.holds_of_cond 8 Tryz.f8 rfl rfl rfl rfl rfl rfl rfl ⟨rfl, rfl, rfl, rfl, rfl⟩ rfl rfl rfl rfl rfl (by kernel_rfl) Tryz.func8 (by kernel_rfl)
    (of_decide_eq_true (by kernel_rfl)) (by unfold Func.isWrapper; first | (rw [if_pos (by decide +kernel)]; kernel_rfl) | (rw [if_neg (by decide +kernel)]; exact ⟨rfl, rfl⟩))
    (fun os started H enc _ F => lifted os started H enc F)
end Go.Proofs.YtjhdhfokhkcamaaGreat.stateErases
