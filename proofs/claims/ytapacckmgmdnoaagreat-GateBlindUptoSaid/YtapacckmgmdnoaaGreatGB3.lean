/- GateBlind: stays of times in which the watcher might not see the user change no answer; for all states of at most 1048576 things, all stays and questions. -/
import Derived.JoinedCond
import Derived.Deep.RegionHeld3
import Derived.OrdersHeld
import Derived.Test.YtapacckmgmdnoaaGreatU00
import Derived.Test.YtapacckmgmdnoaaGreatU50
import Derived.Test.YtapacckmgmdnoaaGreatRows
import Derived.Test.YtapacckmgmdnoaaGreatTQ
import Derived.Test.YtapacckmgmdnoaaGreatU01
import Derived.Test.YtapacckmgmdnoaaGreatU02
import Derived.Test.YtapacckmgmdnoaaGreatU04
import Derived.Test.YtapacckmgmdnoaaGreatU06
import Derived.Test.YtapacckmgmdnoaaGreatU07
import Derived.Test.YtapacckmgmdnoaaGreatU09
import Derived.Test.YtapacckmgmdnoaaGreatU11
import Derived.Test.YtapacckmgmdnoaaGreatU12
import Derived.Test.YtapacckmgmdnoaaGreatU15
import Derived.Test.YtapacckmgmdnoaaGreatU16
import Derived.Test.YtapacckmgmdnoaaGreatU28
import Derived.Test.YtapacckmgmdnoaaGreatU29
import Derived.Test.YtapacckmgmdnoaaGreatU32
import Derived.Test.YtapacckmgmdnoaaGreatU34
import Derived.Test.YtapacckmgmdnoaaGreatU35
import Derived.Test.YtapacckmgmdnoaaGreatU36
import Derived.Test.YtapacckmgmdnoaaGreatU37
import Derived.Test.YtapacckmgmdnoaaGreatU38
import Derived.Test.YtapacckmgmdnoaaGreatU42
import Derived.Test.YtapacckmgmdnoaaGreatU43
import Derived.Test.YtapacckmgmdnoaaGreatU44
import Derived.Test.YtapacckmgmdnoaaGreatU47
import Derived.Test.YtapacckmgmdnoaaGreatU49
namespace Go.Proofs.YtapacckmgmdnoaaGreat.gateBlind
open Go.ChangeShapes Go.WideShapes Go.ChangeAt Go.RowKit Go.Proofs
open Go.ChangeMaps (open_string shut_string)
set_option linter.unusedVariables false
set_option maxRecDepth 100000

set_option maxHeartbeats 8000000 in
theorem walk (w : World) (x : SaL) (h : SaAt w x) (z : SzS x.m) (b : stCnt x.m + x.us.length ≤ 1048576) (e : StM) (he1 : I64 e.f) (he2 : I64 e.t) (q : AskM) (hw : q.w.size ≤ maxLen) (hu : q.u.size ≤ maxLen) (hi_ : I64 q.f ∧ I64 q.t ∧ I64 q.n) :
  Calls Tryz.prog 12 #[saV x, stV e, askV q] w fun r w' => r = .returned (.bool true) ∧ Below w.heap.size w w' := by
 have S := BQ.new w e q h
 unfold saC stC askC at S
 replace S := Lib.hid S
 have HAL := Lib.hid alive13
 have HMA := Lib.hid (fun V (h : SaAt V x) => many_any x V h b)
 by_cases g1 : 100 < stCnt x.m + x.us.length
 ·have d1 : decide ((100 : Int) < (stCnt x.m : Int) + (x.us.length : Int)) = true := decide_eq_true (by omega)
  clear h z b hw hu hi_ he1 he2 g1
  unfold saV saC stV askV askC
  obtain ⟨c0, c1, c2, c3, c4, c5, e0, e1, e2, e3, a0, a1, a2, a3, a4⟩ := S.out.cells
  go_enter Tryz.func12, Tryz.ntmps12
  go_wp2_with fail
  refine (HMA.out _ S.out.s.at_).mono ?_
  rintro r1 w1 ⟨rfl, h1⟩
  clear c0 c1 c2 c3 c4 c5 e0 e1 e2 e3 a0 a1 a2 a3 a4
  replace S := Lib.hid (S.out.below h1)
  clear h1
  obtain ⟨c0, c1, c2, c3, c4, c5, e0, e1, e2, e3, a0, a1, a2, a3, a4⟩ := S.out.cells
  go_wp2_with fail
  refine (HAL.out _).mono ?_
  rintro r2 w2 ⟨rfl, h2⟩
  clear c0 c1 c2 c3 c4 c5 e0 e1 e2 e3 a0 a1 a2 a3 a4
  replace S := Lib.hid (S.out.below h2)
  clear h2
  go_wp2
  go_ret
  exact ⟨rfl, S.out.s.frame⟩
 have d1 : decide ((100 : Int) < (stCnt x.m : Int) + (x.us.length : Int)) = false := decide_eq_false (by omega)
 have hf0 : Few x.m 100 := few_cnt (by omega)
 by_cases hr0 : RightS x.m
 case neg =>
  have HRR := Lib.hid (fun V (h : SaAt V x) => g_rwrong x V h rfl z (hf0.mono (by decide)) hr0)
  clear h z b hw hu hi_ he1 he2 g1 hf0 hr0
  unfold saV saC stV askV askC
  obtain ⟨c0, c1, c2, c3, c4, c5, e0, e1, e2, e3, a0, a1, a2, a3, a4⟩ := S.out.cells
  go_enter Tryz.func12, Tryz.ntmps12
  go_wp2_with fail
  refine (HMA.out _ S.out.s.at_).mono ?_
  rintro r1 w1 ⟨rfl, h1⟩
  clear c0 c1 c2 c3 c4 c5 e0 e1 e2 e3 a0 a1 a2 a3 a4
  replace S := Lib.hid (S.out.below h1)
  clear h1
  obtain ⟨c0, c1, c2, c3, c4, c5, e0, e1, e2, e3, a0, a1, a2, a3, a4⟩ := S.out.cells
  go_wp2_with fail
  refine (HRR.out _ S.out.s.at_).mono ?_
  rintro r2 w2 ⟨rfl, h2⟩
  clear c0 c1 c2 c3 c4 c5 e0 e1 e2 e3 a0 a1 a2 a3 a4
  replace S := Lib.hid (S.out.below h2)
  clear h2
  obtain ⟨c0, c1, c2, c3, c4, c5, e0, e1, e2, e3, a0, a1, a2, a3, a4⟩ := S.out.cells
  go_wp2_with fail
  refine (HAL.out _).mono ?_
  rintro r3 w3 ⟨rfl, h3⟩
  clear c0 c1 c2 c3 c4 c5 e0 e1 e2 e3 a0 a1 a2 a3 a4
  replace S := Lib.hid (S.out.below h3)
  clear h3
  go_wp2
  go_ret
  exact ⟨rfl, S.out.s.frame⟩
 have HRR := Lib.hid (fun V (h : SaAt V x) => g_rright x V h rfl z (hf0.mono (by decide)) hr0)
 have HRU : Hid (∀ V, Calls Tryz.prog 36 #[.string q.u] V fun r w' => r = .returned (.bool (nameB q.u)) ∧ Below V.heap.size V w') := fun V => (refRight_any q.u V hu).mono fun r w' k => ⟨k.1, by rw [← k.2]; exact Below.refl _ _⟩
 by_cases hnu : nameB q.u = true
 case neg =>
  rw [Bool.eq_false_iff.2 hnu] at HRU
  clear h z b hw hu hi_ he1 he2 g1 hf0 hr0 hnu
  unfold saV saC stV askV askC
  obtain ⟨c0, c1, c2, c3, c4, c5, e0, e1, e2, e3, a0, a1, a2, a3, a4⟩ := S.out.cells
  go_enter Tryz.func12, Tryz.ntmps12
  go_wp2_with fail
  refine (HMA.out _ S.out.s.at_).mono ?_
  rintro r1 w1 ⟨rfl, h1⟩
  clear c0 c1 c2 c3 c4 c5 e0 e1 e2 e3 a0 a1 a2 a3 a4
  replace S := Lib.hid (S.out.below h1)
  clear h1
  obtain ⟨c0, c1, c2, c3, c4, c5, e0, e1, e2, e3, a0, a1, a2, a3, a4⟩ := S.out.cells
  go_wp2_with fail
  refine (HRR.out _ S.out.s.at_).mono ?_
  rintro r2 w2 ⟨rfl, h2⟩
  clear c0 c1 c2 c3 c4 c5 e0 e1 e2 e3 a0 a1 a2 a3 a4
  replace S := Lib.hid (S.out.below h2)
  clear h2
  obtain ⟨c0, c1, c2, c3, c4, c5, e0, e1, e2, e3, a0, a1, a2, a3, a4⟩ := S.out.cells
  go_wp2_with fail
  refine (HRU.out _).mono ?_
  rintro r3 w3 ⟨rfl, h3⟩
  clear c0 c1 c2 c3 c4 c5 e0 e1 e2 e3 a0 a1 a2 a3 a4
  replace S := Lib.hid (S.out.below h3)
  clear h3
  obtain ⟨c0, c1, c2, c3, c4, c5, e0, e1, e2, e3, a0, a1, a2, a3, a4⟩ := S.out.cells
  go_wp2_with fail
  refine (HAL.out _).mono ?_
  rintro r4 w4 ⟨rfl, h4⟩
  clear c0 c1 c2 c3 c4 c5 e0 e1 e2 e3 a0 a1 a2 a3 a4
  replace S := Lib.hid (S.out.below h4)
  clear h4
  go_wp2
  go_ret
  exact ⟨rfl, S.out.s.frame⟩
 rw [hnu] at HRU
 have HTI : Hid (∀ V, SaAt V x → Calls Tryz.prog 55 #[.agg #[.int .i64 x.now, .int .i64 x.hor, .slice x.oa x.op.length x.oc, .slice x.ua x.us.length x.uc, .slice x.sa x.su.length x.sc, .slice x.ta x.tb.length x.tc], .agg #[.string q.w, .string q.u, .int .i64 0, .int .i64 1099511627776, .int .i64 0]] V fun r w' => ∃ yy c l, r = .returned (.slice yy l.length c) ∧ IsSet (gateP x.m q.w q.u 0 1099511627776) l ∧ l.length ≤ 2000 ∧ SpSl w' yy l ∧ Below V.heap.size V w') := fun V h => by
  refine (rtimes_any13 x ⟨q.w, q.u, 0, 1099511627776, 0⟩ V h (Nat.le_trans hf0.su (by decide))).mono ?_
  rintro r w' ⟨yy, c, l, rfl, k1, k2, k3, k4⟩
  exact ⟨yy, c, l, rfl, k1, by have := hf0.su; omega, k3, k4⟩
 have HNW : Hid (∀ V, SaAt V x → Calls Tryz.prog 23 #[.agg #[.int .i64 x.now, .int .i64 x.hor, .slice x.oa x.op.length x.oc, .slice x.ua x.us.length x.uc, .slice x.sa x.su.length x.sc, .slice x.ta x.tb.length x.tc]] V fun r w' => ∃ y, r = .returned (.agg #[.int .i64 y.now, .int .i64 y.hor, .slice y.oa y.op.length y.oc, .slice y.ua y.us.length y.uc, .slice y.sa y.su.length y.sc, .slice y.ta y.tb.length y.tc]) ∧ SaAt w' y ∧ y.m = x.m ∧ Below V.heap.size V w') := fun V h => g_new x V h rfl (hf0.mono (by decide))
 have HNQ : Hid (∀ V, Calls Tryz.prog 49 #[.agg #[.string q.w, .string q.u, .int .i64 q.f, .int .i64 q.t, .int .i64 q.n]] V fun r w' => r = .returned (.agg #[.string q.w, .string q.u, .int .i64 q.f, .int .i64 q.t, .int .i64 q.n]) ∧ Below V.heap.size V w') := fun V => gnew_any q V
 have HNS : Hid (∀ V, Calls Tryz.prog 57 #[.agg #[.int .i64 e.f, .int .i64 e.t, .int .i64 e.n, .int .i64 e.s]] V fun r w' => r = .returned (.agg #[.int .i64 e.f, .int .i64 e.t, .int .i64 e.n, .int .i64 e.s]) ∧ Below V.heap.size V w') := fun V => s_new e V
 have HAD : Hid (∀ (a : Option Addr) (c : Nat) (l : List StM) (u : ByteArray) V, StSl V a l → (a = none → c = 0) → l.length ≤ 100 → l.length ≤ c → c ≤ maxLen → Calls Tryz.prog 56 #[.slice a l.length c, .agg #[.int .i64 e.f, .int .i64 e.t, .int .i64 e.n, .int .i64 e.s]] V fun r w' => ∃ s d, r = .returned (.slice s (addS l e).length d) ∧ OwnSt w' V.heap.size ⟨u, s, addS l e, d⟩ ∧ Below V.heap.size V w') := fun a c l u V h h1 h2 h3 h4 => by
  refine (add8_any a c l e V h h1 (by omega) h3 h4).mono ?_
  rintro r w' ⟨v, rfl, ho, hb⟩
  obtain ⟨s, d, rfl, -, -, -, -⟩ := own_st ho
  exact ⟨s, d, rfl, ho, hb⟩
 have HRB : Hid (∀ (y : SaL) V, SaAt V y → y.m = withU x.m q.u e → Calls Tryz.prog 58 #[.agg #[.int .i64 y.now, .int .i64 y.hor, .slice y.oa y.op.length y.oc, .slice y.ua y.us.length y.uc, .slice y.sa y.su.length y.sc, .slice y.ta y.tb.length y.tc]] V fun r w' => r = .returned (.bool (rightB (withU x.m q.u e))) ∧ Below V.heap.size V w') := fun y V h hm => g_rightB y V h hm (withU_sz z) ((withU_few hf0).mono (by decide))
 have HRG : Hid (∀ (y : SaL) V, SaAt V y → Alike13 x.m q y.m → Calls Tryz.prog 48 #[.agg #[.int .i64 y.now, .int .i64 y.hor, .slice y.oa y.op.length y.oc, .slice y.ua y.us.length y.uc, .slice y.sa y.su.length y.sc, .slice y.ta y.tb.length y.tc], .agg #[.string q.w, .string q.u, .int .i64 q.f, .int .i64 q.t, .int .i64 q.n]] V fun r w' => ∃ b c m, r = .returned (.tuple #[.slice b m.length c, .int .i64 (whyV x.m q.w q.u q.n)]) ∧ GTold x.m q m ∧ m.length ≤ 90000 ∧ StSl w' b m ∧ Below V.heap.size V w') := fun y V h hm => by
  refine (range_any13 y q V h hm.few hw hu).mono ?_
  rintro r w' ⟨b, c, m, rfl, h1, h2, h3, h4⟩
  exact ⟨b, c, m, by rw [hm.why], hm.told m h1, h2, h3, h4⟩
 have HLG : Hid (∀ (y : SaL) V, SaAt V y → Alike13 x.m q y.m → Calls Tryz.prog 51 #[.agg #[.int .i64 y.now, .int .i64 y.hor, .slice y.oa y.op.length y.oc, .slice y.ua y.us.length y.uc, .slice y.sa y.su.length y.sc, .slice y.ta y.tb.length y.tc], .agg #[.string q.w, .string q.u], .int .i64 q.n] V fun r w' => ∃ k b, r = .returned (.tuple #[.int .i64 k, .bool b, .int .i64 (whyV x.m q.w q.u q.n)]) ∧ LastT x.m q.w q.u q.n k b ∧ Below V.heap.size V w') := fun y V h hm => by
  refine (last_any13 y q.w q.u q.n V h hm.few hw hu).mono ?_
  rintro r w' ⟨m, rfl, h1, h2⟩
  exact ⟨_, _, by rw [hm.why], hm.last ⟨m, h1, rfl, rfl⟩, h2⟩
 have HSM : Hid (∀ (m : List StM) b c a d V, m.length ≤ 90000 → StSl V b m → StSl V a m → Calls Tryz.prog 59 #[.slice b m.length c, .slice a m.length d] V fun r w' => r = .returned (.bool true) ∧ Below V.heap.size V w') := fun m b c a d V hl h k => by
  have h1 := ssame_any b a c d m m V h k (by unfold maxLen; omega) (by unfold maxLen; omega)
  rwa [decide_eq_true rfl] at h1
 have HTO : Hid (∀ a b, GTold x.m q a → GTold x.m q b → a = b) := fun a b h k => h.only k
 have HLO : Hid (∀ k b k' b', LastT x.m q.w q.u q.n k b → LastT x.m q.w q.u q.n k' b' → k = k' ∧ b = b') := fun k b k' b' h h' => h.only h'
 have AL1 : Hid (Alike13 x.m q x.m) := Alike13.self q (hf0.mono (by decide))
 have HBL : Hid (∀ l, IsSet (gateP x.m q.w q.u 0 1099511627776) l → (∀ i (h : i < l.length), ¬ max l[i].f e.f < min l[i].t e.t) → (∃ z ∈ x.m.us, z.u = q.u) → Alike13 x.m q (withU x.m q.u e)) := fun l h1 h2 h3 => Alike13.blind hr0 hf0 h3 fun y k1 k2 k3 => by
  obtain ⟨s, hs, j1, j2⟩ := (h1.2 y).2 k3
  obtain ⟨i, hi, rfl⟩ := List.getElem_of_mem hs
  exact h2 i hi (by omega)
 have HUS : Hid (∀ y : SaL, y.m = x.m → umS y.us = x.m.us ∧ y.us.length ≤ 100 ∧ ∀ u ∈ y.us, u.l.length ≤ 100) := fun y hy => by
  have e1 : umS y.us = x.m.us := by rw [← hy]; rfl
  exact ⟨e1, by rw [← umS_len, e1]; exact hf0.us, fun u hu => hf0.st u.m (by rw [← e1]; exact List.mem_map.2 ⟨u, hu, rfl⟩)⟩
 have HYM : Hid (∀ (y : SaL) (ua : Option Addr) (D : List UsL) (uc : Nat), y.m = x.m → umS D = addTo q.u e (umS y.us) → ({ y with ua := ua, us := D, uc := uc } : SaL).m = withU x.m q.u e) := fun y ua D uc hy hD => by
  have e1 : umS y.us = x.m.us := by rw [← hy]; rfl
  show (⟨y.now, y.hor, y.op, umS D, y.su, y.tb⟩ : SaM) = withU x.m q.u e
  rw [hD, e1]
  unfold withU
  rw [← hy]
  rfl
 have HB7 := Lib.hid (fun g y V (k : B7 w x e q g y V) => k.cells)
 obtain ⟨i0, hi, hz0, hz1, hz2⟩ := info_parts infoUs
 generalize GTold x.m q = TD at *
 generalize LastT x.m q.w q.u q.n = LD at *
 generalize Alike13 x.m q = AL at *
 generalize whyV x.m q.w q.u q.n = Y at *
 generalize gateP x.m q.w q.u 0 1099511627776 = PP at *
 have hYY : (Y == Y) = true := beq_self_eq_true _
 clear h z b hw hu hi_ he1 he2 g1 hf0 hr0 hnu
 unfold saV saC stV askV askC
 obtain ⟨c0, c1, c2, c3, c4, c5, e0, e1, e2, e3, a0, a1, a2, a3, a4⟩ := S.out.cells
 go_enter Tryz.func12, Tryz.ntmps12
 go_wp2_with fail
 refine (HMA.out _ S.out.s.at_).mono ?_
 rintro r1 w1 ⟨rfl, h1⟩
 clear c0 c1 c2 c3 c4 c5 e0 e1 e2 e3 a0 a1 a2 a3 a4
 replace S := Lib.hid (S.out.below h1)
 clear h1
 obtain ⟨c0, c1, c2, c3, c4, c5, e0, e1, e2, e3, a0, a1, a2, a3, a4⟩ := S.out.cells
 go_wp2_with fail
 refine (HRR.out _ S.out.s.at_).mono ?_
 rintro r2 w2 ⟨rfl, h2⟩
 clear c0 c1 c2 c3 c4 c5 e0 e1 e2 e3 a0 a1 a2 a3 a4
 replace S := Lib.hid (S.out.below h2)
 clear h2
 obtain ⟨c0, c1, c2, c3, c4, c5, e0, e1, e2, e3, a0, a1, a2, a3, a4⟩ := S.out.cells
 go_wp2_with fail
 refine (HRU.out _).mono ?_
 rintro r3 w3 ⟨rfl, h3⟩
 clear c0 c1 c2 c3 c4 c5 e0 e1 e2 e3 a0 a1 a2 a3 a4
 replace S := Lib.hid (S.out.below h3)
 clear h3
 obtain ⟨c0, c1, c2, c3, c4, c5, e0, e1, e2, e3, a0, a1, a2, a3, a4⟩ := S.out.cells
 go_wp2_with fail
 refine (HTI.out _ S.out.s.at_).mono ?_
 rintro r4 w4 ⟨yy, cy, l, rfl, hP, hlen, hR, h4⟩
 clear c0 c1 c2 c3 c4 c5 e0 e1 e2 e3 a0 a1 a2 a3 a4
 replace S := Lib.hid (S.out.below h4)
 have R := Lib.hid hR
 have HP := Lib.hid hP
 clear h4 hR hP HTI HMA HRR HRU
 go_wp2
 go_loopw [48] (fun iv wr => ∃ (j : Nat), j ≤ l.length ∧ iv = .int .i64 j ∧ Hid (BQ w x e q wr) ∧ Hid (SpSl wr yy l) ∧ Hid (∀ i (h : i < l.length), i < j → ¬ max l[i].f e.f < min l[i].t e.t)) (fun iv _ => l.length - (intOf iv).toNat)
 case atStart => exact ⟨0, by omega, rfl, S.out, R.out, fun i h k => absurd k (Nat.not_lt_zero _)⟩
 case round =>
  clear S R
  obtain ⟨j, hj, rfl, S, R, HN⟩ := hrel
  by_cases hjl : j < l.length
  ·obtain ⟨b, off, rfl, hbl, r0, r1⟩ := R.out j hjl
   have HN2 : Hid (¬ max l[j].f e.f < min l[j].t e.t → ∀ i (h : i < l.length), i < j + 1 → ¬ max l[i].f e.f < min l[i].t e.t) := fun k i h h2 => by
    by_cases hij : i = j
    ·subst hij; exact k
    ·exact HN.out i h (by omega)
   generalize l[j] = s at *
   have SA : Hid (BQ w x e q (wr.alloc (.cells #[.int .i64 s.f, .int .i64 s.t] 106))) := S.out.below (below_one wr _)
   have RA : Hid (SpSl (wr.alloc (.cells #[.int .i64 s.f, .int .i64 s.t] 106)) (some ⟨b, off, none⟩) l) := R.out.below (below_one wr _)
   obtain ⟨c0, c1, c2, c3, c4, c5, e0, e1, e2, e3, a0, a1, a2, a3, a4⟩ := SA.out.cells
   clear S R HN a0 a1 a2 a3 a4 c0 c1 c2 c3 c4 c5 HNW HNQ HNS HAD HRB HRG HLG HSM HTO HLO HBL HUS HYM HB7 HP
   by_cases hb : max s.f e.f < min s.t e.t
   ·have d2 : decide (max s.f e.f < min s.t e.t) = true := decide_eq_true hb
    clear HN2
    go_wp2_with fail
    refine (HAL.out _).mono ?_
    rintro r w5 ⟨rfl, h5⟩
    have HF := Lib.hid (SA.out.below h5).s.frame
    clear h5 SA RA HAL
    go_wp2
    go_ret
    exact ⟨rfl, HF.out⟩
   ·have d2 : decide (max s.f e.f < min s.t e.t) = false := decide_eq_false hb
    have HN3 := Lib.hid (HN2.out hb)
    clear HN2
    go_wp2
    go_roundw
    case rel => exact ⟨j + 1, by omega, by go_num, SA.out, RA.out, HN3.out⟩
    case measure => simp [intOf]; omega
  ·obtain rfl : j = l.length := by omega
   have HNO := Lib.hid (fun i (h : i < l.length) => HN.out i h h)
   clear HN R hj hjl
   obtain ⟨c0, c1, c2, c3, c4, c5, e0, e1, e2, e3, a0, a1, a2, a3, a4⟩ := S.out.cells
   go_wp2_with fail
   refine (HNW.out _ S.out.s.at_).mono ?_
   rintro r w5 ⟨y, rfl, hy, ym, h5⟩
   clear c0 c1 c2 c3 c4 c5 e0 e1 e2 e3 a0 a1 a2 a3 a4
   replace S := Lib.hid (S.out.below h5)
   obtain ⟨hu1, hu2, hu3⟩ := HUS.out y ym
   have K7 : Hid (B7 w x e q w5.heap.size y (w5.alloc (.cells #[.int .i64 y.now, .int .i64 y.hor, .slice y.oa y.op.length y.oc, .slice y.ua y.us.length y.uc, .slice y.sa y.su.length y.sc, .slice y.ta y.tb.length y.tc] 39))) := Lib.hid ⟨S.out.below (below_one _ _), SB.new S.out.s.frame hy _⟩
   replace AL1 : Hid (AL y.m) := by rw [ym]; exact AL1
   have YM := Lib.hid ym
   have HU1 := Lib.hid hu1
   have HU2 := hu2
   have HU3 := Lib.hid hu3
   clear h5 hy ym S HNW HUS hu1 hu2 hu3
   obtain ⟨y0, y1, y2, y3, y4, y5, a0, a1, a2, a3, a4⟩ := HB7.out _ _ _ K7.out
   go_upto_region 10 with fail
   generalize (w5.alloc (.cells #[.int .i64 y.now, .int .i64 y.hor, .slice y.oa y.op.length y.oc, .slice y.ua y.us.length y.uc, .slice y.sa y.su.length y.sc, .slice y.ta y.tb.length y.tc] 39)) = T at *
   generalize w5.heap.size = g at *
   generalize hua0 : y.ua = ua0 at *
   go_wp2
   go_loopw [10, 11, 70] (fun uv dv iv wr => ∃ (j : Nat) (D : List UsL) (v : Value) (dn : Bool), j ≤ y.us.length ∧ iv = .int .i64 j ∧ dv = .bool dn ∧ v = uv ∧ Hid (umS D = (addTo q.u e (umS y.us)).take j) ∧ Hid (dn = true → ∃ z ∈ umS y.us, z.u = q.u) ∧ Hid (BlK T D v wr)) (fun _ _ iv _ => y.us.length - (intOf iv).toNat)
   case atStart => exact ⟨0, [], _, false, by omega, rfl, rfl, rfl, rfl, fun h => by (cases h), BlK.start T⟩
   case round =>
    clear y0 y1 y2 y3 y4 y5 a0 a1 a2 a3 a4
    obtain ⟨j, D, uv, dn, hj, rfl, rfl, rfl, HM, HDN, HN⟩ := hrel
    have K7r := Lib.hid (K7.out.below HN.out.bel)
    by_cases hjl : j < y.us.length
    ·have hDl : D.length = j := by rw [← umS_len D, HM.out, List.length_take]; unfold addTo; rw [List.length_map, umS_len]; omega
     obtain ⟨b, off, hb0, hbl, r0, r1, hat⟩ := K7r.out.y.at_.us.get hjl
     obtain rfl : ua0 = some ⟨b, off, none⟩ := hua0.symm.trans hb0
     clear hua0 hb0
     have HAT : Hid (UsAt T y.us[j]) := K7.out.y.at_.us.at_ _ (List.getElem_mem hjl)
     have HL3 : y.us[j].l.length ≤ 100 := HU3.out _ (List.getElem_mem hjl)
     have HM2 : Hid (∀ z : UsL, z.m = oneTo q.u e y.us[j].m → umS (D ++ [z]) = (addTo q.u e (umS y.us)).take (j + 1)) := fun z hz => by
      rw [umS_snoc, HM.out, addTo_next q.u e (umS y.us) j (by rw [umS_len]; exact hjl), hz]
      simp [umS]
     have HDN2 : Hid (y.us[j].u = q.u → ∃ z ∈ umS y.us, z.u = q.u) := fun k => ⟨y.us[j].m, List.mem_map.2 ⟨_, List.getElem_mem hjl, rfl⟩, k⟩
     generalize y.us[j] = u at *
     have HN1 : Hid (BlK T D uv (wr.alloc (.cells #[.string u.u, .slice u.a u.l.length u.c] 108))) := HN.out.below (below_one wr _)
     have K71 : Hid (B7 w x e q g y (wr.alloc (.cells #[.string u.u, .slice u.a u.l.length u.c] 108))) := K7r.out.below (below_one wr _)
     have U0 : Hid (UW w e wr.heap.size u (wr.alloc (.cells #[.string u.u, .slice u.a u.l.length u.c] 108))) := ⟨heap_alloc_new _ _, K71.out.k.e⟩
     have HWR := Lib.hid HN.out.own
     have hTS : T.heap.size ≤ wr.heap.size := HN.out.bel.size
     have heT : w.heap.size + 1 < T.heap.size := heap_lt K7.out.k.e
     obtain ⟨-, -, -, -, -, -, -, -, -, -, a0, a1, a2, a3, a4⟩ := K71.out.k.cells
     obtain ⟨u0, u1, e0, e1, e2, e3⟩ := U0.out.cells
     have HUN : u.a = none → u.c = 0 := HAT.out.nil
     have HUC : u.l.length ≤ u.c := HAT.out.le
     have HUM : u.c ≤ maxLen := HAT.out.mx
     have HST : Hid (StSl (wr.alloc (.cells #[.string u.u, .slice u.a u.l.length u.c] 108)) u.a u.l) := ((HAT.out.below HN.out.bel).st).below (below_one wr _)
     replace HUN := Lib.hid HUN
     replace HUM := Lib.hid HUM
     clear HN K7r K71 HM hat
     by_cases hq : u.u = q.u
     ·have d3 : (u.u.toList == q.u.toList) = true := by rw [hq]; exact beq_self_eq_true _
      have HDQ := Lib.hid (HDN2.out hq)
      have HMQ : Hid (∀ s d, umS (D ++ [(⟨u.u, s, addS u.l e, d⟩ : UsL)]) = (addTo q.u e (umS y.us)).take (j + 1)) := fun s d => HM2.out ⟨u.u, s, addS u.l e, d⟩ (by unfold oneTo; rw [if_pos (show u.m.u = q.u from hq)]; rfl)
      clear hq HDN HDN2 HM2
      go_wp2_with fail
      have hlw : wr.heap.size ≤ wr.heap.size := Nat.le_refl _
      have K0 := U0.out.below (Below.refl _ _).drew
      have N0 := HN1.out.below (Below.refl _ _).drew
      have S0 := HST.out.below (Below.refl _ _).drew
      clear a0 a1 a2 a3 a4 u0 u1 e0 e1 e2 e3
      have HKC := Lib.hid (fun V (k : UW w e wr.heap.size u V) => k.cells)
      go_region_held3 (fun V => V.cell? ⟨wr.heap.size, 0, none⟩ = some (.string u.u) ∧ V.cell? ⟨wr.heap.size, 1, none⟩ = some (.slice u.a u.l.length u.c) ∧ V.cell? ⟨w.heap.size + 1, 0, none⟩ = some (.int .i64 e.f) ∧ V.cell? ⟨w.heap.size + 1, 1, none⟩ = some (.int .i64 e.t) ∧ V.cell? ⟨w.heap.size + 1, 2, none⟩ = some (.int .i64 e.n) ∧ V.cell? ⟨w.heap.size + 1, 3, none⟩ = some (.int .i64 e.s))
       (first | with_reducible exact HKC.out _ K5 | with_reducible exact HKC.out _ K2a | with_reducible exact HKC.out _ K2 | with_reducible exact HKC.out _ K1 | with_reducible exact HKC.out _ K0)
       (first
        | (have hseen := l4; clear hseen; refine step_own rfl (.tmp 79) (.tmp 88) 35 rfl T.heap.size 108 i0 _ 2 40 Tryz.underlying35 hi hz0 hz1 hz2 rfl (by decide) uv D.length (usv D) rfl (own_below N2.own (below_one _ _)) ⟨v2.heap.size, 0, none⟩ 1 1 [.string u.u, .slice s4 (addS u.l e).length d4] rfl rfl (news_at _ _ _ _ rfl) (two_sl _ _ _ _) (by unfold maxLen; omega) (by omega) (N2.below (below_one _ _)).bel.size ?_; intro v' w5 hown' hgrow; have HB5 := (N2.below (below_one _ _)).more (y := ⟨u.u, s4, addS u.l e, d4⟩) (.inl (own_below l4 (below_one _ _))) hown' hgrow; have K5 := K2a.grown HWR.out hgrow HB5.1 hlw heT)
        | (have hseen := K1; clear hseen; go_at_call 56; refine (HAD.out u.a u.c u.l u.u _ S1 HUN.out (by omega) HUC HUM.out).mono ?_; rintro r v2 ⟨s4, d4, rfl, l4', h2⟩; have l4 := own_low2 l4' (Nat.le_trans hTS (Nat.le_trans (below_one wr (.cells #[.string u.u, .slice u.a u.l.length u.c] 108)).size h1.size)); have K2 := K1.below h2; have N2 := N1.below h2; have K2a := K2.below (below_one v2 (.cells #[.string u.u, .slice s4 (addS u.l e).length d4] 108)))
        | (go_at_call 57; refine (HNS.out _).mono ?_; rintro r v1 ⟨rfl, h1⟩; have K1 := K0.below h1; have N1 := N0.below h1; have S1 := S0.below h1))
      all_goals
       have HE := Lib.hid HB5.2
       clear HB5 hown' hgrow l4 l4' K0 K1 K2 K2a K5 N0 N1 N2 S0 S1 h1 h2 HN1 HST U0 HWR HKC
       go_wp2
       go_roundw
       case rel => exact ⟨j + 1, D ++ [(⟨u.u, s4, addS u.l e, d4⟩ : UsL)], _, true, by omega, by go_num, rfl, rfl, HMQ.out s4 d4, fun _ => HDQ.out, HE.out⟩
       case measure => simp [intOf]; omega
     ·have d3 : (u.u.toList == q.u.toList) = false := txt_ne hq
      have HMQ : Hid (umS (D ++ [u]) = (addTo q.u e (umS y.us)).take (j + 1)) := HM2.out u (by unfold oneTo; rw [if_neg (show ¬ u.m.u = q.u from hq)])
      clear hq HDN2 HM2
      go_wp2_with (at_builtin; refine wpList_append_own _ rfl (.tmp 90) (.tmp 92) 35 rfl T.heap.size 108 i0 _ 2 40 Tryz.underlying35 hi hz0 hz1 hz2 rfl (by decide) uv D.length (usv D) rfl (own_below HN1.out.own (below_one _ (.cells #[.string u.u, .slice u.a u.l.length u.c] 108))) ⟨wr.heap.size + 1, 0, none⟩ 1 1 [.string u.u, .slice u.a u.l.length u.c] rfl rfl (news_at _ _ _ _ (size1 _ _).symm) (two_sl _ _ _ _) (by unfold maxLen; omega) (by omega) (HN1.out.below (below_one _ _)).bel.size ?_; intro v' w5 hown' hgrow _; have HB5 := (HN1.out.below (below_one _ _)).more (y := u) (.inr HAT.out) hown' hgrow; have HE := Lib.hid HB5.2; clear HB5 hown' hgrow)
      clear HN1 HST U0 HWR
      go_roundw
      case rel => exact ⟨j + 1, D ++ [u], _, dn, by omega, by go_num, rfl, rfl, HMQ.out, HDN.out, HE.out⟩
      case measure => simp [intOf]; omega
    ·subst hua0
     obtain rfl : j = y.us.length := by omega
     have hMM : umS D = addTo q.u e (umS y.us) := by rw [HM.out]; exact List.take_of_length_le (by unfold addTo; rw [List.length_map, umS_len]; exact Nat.le_refl _)
     obtain ⟨ua, uc, rfl, hus, hcp⟩ := HN.out.fin
     have hDN : dn = true → ∃ z ∈ x.m.us, z.u = q.u := fun k => by rw [← HU1.out]; exact HDN.out k
     have HDM := Lib.hid (HYM.out y ua D uc YM.out hMM)
     replace K7 := K7r
     clear HN HM hj hjl HYM hMM HU1 HU3 K7r HNS HAD
     cases dn
     ·go_wp2_with fail
      refine (HAL.out _).mono ?_
      rintro r w9 ⟨rfl, h9⟩
      have HF := Lib.hid (K7.out.below h9).y.frame
      clear h9 K7 hus
      go_wp2
      go_ret
      exact ⟨rfl, HF.out⟩
     ·replace HBL := Lib.hid (HBL.out l HP.out HNO.out (hDN rfl))
      have HUSD := Lib.hid hus
      clear hDN hus HDN HNO HP
      obtain ⟨y0, y1, y2, y3, y4, y5, a0, a1, a2, a3, a4⟩ := HB7.out _ _ _ K7.out
      have Z1 : Hid (SB w wr.heap.size 39 { y with ua := ua, us := D, uc := uc } (wr.alloc (.cells #[.int .i64 y.now, .int .i64 y.hor, .slice y.oa y.op.length y.oc, .slice ua D.length uc, .slice y.sa y.su.length y.sc, .slice y.ta y.tb.length y.tc] 39))) := Lib.hid (SB.new K7.out.y.frame (have k := K7.out.y.at_; (⟨k.op, HUSD.out, k.su, k.tb, k.oc, hcp, k.sc, k.tc⟩ : SaAt wr { y with ua := ua, us := D, uc := uc })) 39)
      have Z2 : Hid (B7 w x e q g y (wr.alloc (.cells #[.int .i64 y.now, .int .i64 y.hor, .slice y.oa y.op.length y.oc, .slice ua D.length uc, .slice y.sa y.su.length y.sc, .slice y.ta y.tb.length y.tc] 39))) := Lib.hid (K7.out.below (below_one _ _))
      clear HUSD hcp K7
      go_wp2_with fail
      refine (HRB.out { y with ua := ua, us := D, uc := uc } _ Z1.out.at_ HDM.out).mono ?_
      rintro r w9 ⟨rfl, h9⟩
      clear y0 y1 y2 y3 y4 y5 a0 a1 a2 a3 a4
      have SB8 : Hid (B8 w x e q g y wr.heap.size { y with ua := ua, us := D, uc := uc } w9) := Lib.hid ⟨Z2.out.below h9, ⟨(Z2.out.below h9).k, Z1.out.below h9⟩⟩
      rw [← HDM.out] at HBL
      clear Z1 Z2 h9 HRB HDM
      generalize ({ y with ua := ua, us := D, uc := uc } : SaL) = z' at *
      generalize rightB (withU x.m q.u e) = rb at *
      generalize wr.heap.size = g' at *
      cases rb
      ·go_wp2_with fail
       refine (HAL.out _).mono ?_
       rintro r wb ⟨rfl, hb⟩
       have HF := Lib.hid (SB8.out.below hb).a.y.frame
       clear hb SB8
       go_wp2
       go_ret
       exact ⟨rfl, HF.out⟩
      ·have AL2 := Lib.hid HBL.out
       have HFD : ∀ W, (Instr.field 92 (.agg #[.string q.w, .string q.u, .int .i64 q.f, .int .i64 q.t, .int .i64 q.n]) 0).run Tryz.prog W = .ok (.agg #[.string q.w, .string q.u]) W := fun W => by kernel_rfl
       clear HBL YM HU2
       go_wp2_with fail
       have K := SB8.out.drew
       clear SB8
       go_region_held3 (fun V => V.cell? ⟨g, 0, none⟩ = some (.int .i64 y.now) ∧ V.cell? ⟨g, 1, none⟩ = some (.int .i64 y.hor) ∧ V.cell? ⟨g, 2, none⟩ = some (.slice y.oa y.op.length y.oc) ∧ V.cell? ⟨g, 3, none⟩ = some (.slice y.ua y.us.length y.uc) ∧ V.cell? ⟨g, 4, none⟩ = some (.slice y.sa y.su.length y.sc) ∧ V.cell? ⟨g, 5, none⟩ = some (.slice y.ta y.tb.length y.tc) ∧ V.cell? ⟨w.heap.size + 1 + 1, 0, none⟩ = some (.string q.w) ∧ V.cell? ⟨w.heap.size + 1 + 1, 1, none⟩ = some (.string q.u) ∧ V.cell? ⟨w.heap.size + 1 + 1, 2, none⟩ = some (.int .i64 q.f) ∧ V.cell? ⟨w.heap.size + 1 + 1, 3, none⟩ = some (.int .i64 q.t) ∧ V.cell? ⟨w.heap.size + 1 + 1, 4, none⟩ = some (.int .i64 q.n))
        (with_reducible exact HB7.out _ _ _ K.a)
        (first | (go_at_call 48; refine (HRG.out y _ K.a.y.at_ AL1.out).mono ?_; rintro r v2 ⟨b5, q5, m5, rfl, l1, l2, l3, h2⟩; have K := K.below h2) | (go_at_call 49; refine (HNQ.out _).mono ?_; rintro r v1 ⟨rfl, h1⟩; have K := K.below h1))
       have T5 := Lib.hid l1
       have E5 := Lib.hid l2
       have R5 := Lib.hid l3
       have SB8 := Lib.hid K
       clear K l1 l2 l3 h1 h2
       go_wp2_with fail
       have K := SB8.out.drew
       clear SB8
       go_region_held3 (fun V => V.cell? ⟨g', 0, none⟩ = some (.int .i64 z'.now) ∧ V.cell? ⟨g', 1, none⟩ = some (.int .i64 z'.hor) ∧ V.cell? ⟨g', 2, none⟩ = some (.slice z'.oa z'.op.length z'.oc) ∧ V.cell? ⟨g', 3, none⟩ = some (.slice z'.ua z'.us.length z'.uc) ∧ V.cell? ⟨g', 4, none⟩ = some (.slice z'.sa z'.su.length z'.sc) ∧ V.cell? ⟨g', 5, none⟩ = some (.slice z'.ta z'.tb.length z'.tc) ∧ V.cell? ⟨w.heap.size + 1 + 1, 0, none⟩ = some (.string q.w) ∧ V.cell? ⟨w.heap.size + 1 + 1, 1, none⟩ = some (.string q.u) ∧ V.cell? ⟨w.heap.size + 1 + 1, 2, none⟩ = some (.int .i64 q.f) ∧ V.cell? ⟨w.heap.size + 1 + 1, 3, none⟩ = some (.int .i64 q.t) ∧ V.cell? ⟨w.heap.size + 1 + 1, 4, none⟩ = some (.int .i64 q.n))
        (with_reducible exact HB7.out _ _ _ K.b)
        (first | (go_at_call 48; refine (HRG.out z' _ K.b.y.at_ AL2.out).mono ?_; rintro r v2 ⟨b6, q6, m6, rfl, l1, l2, l3, h2⟩; have K := K.below h2) | (go_at_call 49; refine (HNQ.out _).mono ?_; rintro r v1 ⟨rfl, h1⟩; have K := K.below h1))
       obtain rfl := HTO.out _ _ T5.out l1
       have R6 := Lib.hid l3
       replace R5 := Lib.hid (R5.out.below ((Below.refl _ _).drew.trans (h1.trans (h2.mono h1.size))))
       have SB8 := Lib.hid K
       clear K l1 l2 l3 h1 h2 T5 HTO HRG
       go_wp2_with fail
       have K := SB8.out.drew
       clear SB8
       go_region_held3 (fun V => V.cell? ⟨g, 0, none⟩ = some (.int .i64 y.now) ∧ V.cell? ⟨g, 1, none⟩ = some (.int .i64 y.hor) ∧ V.cell? ⟨g, 2, none⟩ = some (.slice y.oa y.op.length y.oc) ∧ V.cell? ⟨g, 3, none⟩ = some (.slice y.ua y.us.length y.uc) ∧ V.cell? ⟨g, 4, none⟩ = some (.slice y.sa y.su.length y.sc) ∧ V.cell? ⟨g, 5, none⟩ = some (.slice y.ta y.tb.length y.tc) ∧ V.cell? ⟨w.heap.size + 1 + 1, 0, none⟩ = some (.string q.w) ∧ V.cell? ⟨w.heap.size + 1 + 1, 1, none⟩ = some (.string q.u) ∧ V.cell? ⟨w.heap.size + 1 + 1, 2, none⟩ = some (.int .i64 q.f) ∧ V.cell? ⟨w.heap.size + 1 + 1, 3, none⟩ = some (.int .i64 q.t) ∧ V.cell? ⟨w.heap.size + 1 + 1, 4, none⟩ = some (.int .i64 q.n))
        (with_reducible exact HB7.out _ _ _ K.a)
        (first | (go_at_call 51; refine (HLG.out y _ K.a.y.at_ AL1.out).mono ?_; rintro r v2 ⟨k7, e7, rfl, l1, h2⟩; have K := K.below h2) | (go_at_call 49; refine (HNQ.out _).mono ?_; rintro r v1 ⟨rfl, h1⟩; have K := K.below h1))
       have T7 := Lib.hid l1
       replace R5 := Lib.hid (R5.out.below ((Below.refl _ _).drew.trans (h1.trans (h2.mono h1.size))))
       replace R6 := Lib.hid (R6.out.below ((Below.refl _ _).drew.trans (h1.trans (h2.mono h1.size))))
       have SB8 := Lib.hid K
       clear K l1 h1 h2
       go_wp2_with fail
       have K := SB8.out.drew
       clear SB8
       go_region_held3 (fun V => V.cell? ⟨g', 0, none⟩ = some (.int .i64 z'.now) ∧ V.cell? ⟨g', 1, none⟩ = some (.int .i64 z'.hor) ∧ V.cell? ⟨g', 2, none⟩ = some (.slice z'.oa z'.op.length z'.oc) ∧ V.cell? ⟨g', 3, none⟩ = some (.slice z'.ua z'.us.length z'.uc) ∧ V.cell? ⟨g', 4, none⟩ = some (.slice z'.sa z'.su.length z'.sc) ∧ V.cell? ⟨g', 5, none⟩ = some (.slice z'.ta z'.tb.length z'.tc) ∧ V.cell? ⟨w.heap.size + 1 + 1, 0, none⟩ = some (.string q.w) ∧ V.cell? ⟨w.heap.size + 1 + 1, 1, none⟩ = some (.string q.u) ∧ V.cell? ⟨w.heap.size + 1 + 1, 2, none⟩ = some (.int .i64 q.f) ∧ V.cell? ⟨w.heap.size + 1 + 1, 3, none⟩ = some (.int .i64 q.t) ∧ V.cell? ⟨w.heap.size + 1 + 1, 4, none⟩ = some (.int .i64 q.n))
        (with_reducible exact HB7.out _ _ _ K.b)
        (first | (go_at_call 51; refine (HLG.out z' _ K.b.y.at_ AL2.out).mono ?_; rintro r v2 ⟨k8, e8, rfl, l1, h2⟩; have K := K.below h2) | (go_at_call 49; refine (HNQ.out _).mono ?_; rintro r v1 ⟨rfl, h1⟩; have K := K.below h1))
       obtain ⟨rfl, rfl⟩ := HLO.out _ _ _ _ T7.out l1
       replace R5 := Lib.hid (R5.out.below ((Below.refl _ _).drew.trans (h1.trans (h2.mono h1.size))))
       replace R6 := Lib.hid (R6.out.below ((Below.refl _ _).drew.trans (h1.trans (h2.mono h1.size))))
       have HF := Lib.hid K.a.y.frame
       have hkk : (k7 == k7) = true := beq_self_eq_true _
       have hbb : (e7 == e7) = true := beq_self_eq_true _
       clear K l1 h1 h2 T7 HLO HLG HNQ HB7 HFD AL1 AL2
       go_wp2_with fail
       refine (HAL.out _).mono ?_
       rintro r wc ⟨rfl, hc⟩
       replace R5 := Lib.hid (R5.out.below hc)
       replace R6 := Lib.hid (R6.out.below hc)
       replace HF := Lib.hid (HF.out.trans (hc.mono HF.out.size))
       clear hc HAL
       go_wp2_with fail
       refine (HSM.out m5 _ _ _ _ _ E5.out R5.out R6.out).mono ?_
       rintro r wa ⟨rfl, hc⟩
       replace HF := Lib.hid (HF.out.trans (hc.mono HF.out.size))
       clear hc R5 R6 E5 HSM
       go_wp2
       go_ret
       exact ⟨rfl, HF.out⟩
theorem contract (H : Type) (enc : TypeId × Value → H) (W : World) (base : Nat) (args : Array Value) (ds gs : List (DataW H)) (before : List MemPlace)
  (hval : ∀ (j : Nat) t v, Tryz.f12.params[j]? = some t → args[j]? = some v → Value.okWide Tryz.prog W .any base t v)
  (hW : DataW.Whole enc Tryz.prog Tryz.f12.params.toList Rows.gateBlindSpec.vars false W args.toList ds gs before) (hk : Rows.uptoSmall H (ds ++ gs) = true) :
  Calls Tryz.prog 12 args W fun e W' => ∃ v, e = .returned v ∧ Rows.gateBlindSpec.post enc Tryz.prog Tryz.f12 false true false false W args v W' := by
 have hW' := hW
 obtain ⟨p, q, hA0, hV, rfl, hfz, hnd⟩ := hW
 have hA : DataW.TrodAll enc Tryz.prog W 0 (fun _ => true) true Tryz.f12.params.toList args.toList ds p := hA0
 rw [Tryz.params12] at hA hval
 obtain ⟨v0, vs0, d0, ds0, p0, q0, hargs, rfl, rfl, h0, r0⟩ := trodAll_cons hA
 obtain ⟨v1, vs1, d1, ds1, p1, q1, rfl, rfl, rfl, h1, r1⟩ := trodAll_cons r0
 obtain ⟨v2, vs2, d2, ds2, p2, q2, rfl, rfl, rfl, h2, r2⟩ := trodAll_cons r1
 obtain ⟨rfl, rfl, rfl⟩ := trodAll_nil r2
 obtain rfl : args = #[v0, v1, v2] := by cases args; simp_all
 obtain ⟨rfl, rfl⟩ := trodVars_none hV
 have hbk : Rows.uptoBulkAll [d0, d1, d2] ≤ 1048576 := of_decide_eq_true hk
 simp only [Rows.uptoBulkAll] at hbk
 obtain ⟨a0, rfl, s0, z0, b0⟩ := open_state (hval 0 27 v0 rfl rfl) h0
 have u0 : stCnt a0.m + a0.us.length ≤ 1048576 := by omega
 obtain ⟨a1, rfl, w1, x1⟩ := open_stay (hval 1 104 v1 rfl rfl) h1
 obtain ⟨a2, rfl, w2, x2, y2⟩ := open_ask (hval 2 86 v2 rfl rfl) h2
 refine (walk W a0 s0 z0 u0 a1 w1 x1 a2 w2 x2 y2).mono fun e W' ⟨he, hb⟩ => ?_
 subst he
 exact ⟨_, rfl, law_post rfl hW' (fun ds h => by match ds, h with | [_, _, _], _ => rfl) (by kernel_rfl) (by kernel_rfl) (by kernel_rfl) hb⟩

set_option maxRecDepth 100000 in
theorem lifted (os : Os) (started : os.Started) (H : Type) (enc : TypeId × Value → H) (F : Stop.Interp) :
  ReturnsInHanded {} Tryz.checked os 12 .any ((Rows.OpenSpec.upto Rows.gateBlindSpec).pre6 enc Tryz.prog Tryz.f12 Rows.gateBlindUptoRow.domain false) (((Rows.OpenSpec.upto Rows.gateBlindSpec).at F).post enc Tryz.prog Tryz.f12 false true false false) := by
 refine returnsInHanded_of_cond (C := Tryz.checked) (s := (Rows.OpenSpec.upto Rows.gateBlindSpec)) (k := Rows.uptoSmall) rfl own started (by kernel_rfl) Tryz.func12
  (OpenSpec.witness (enc := enc) (C := Tryz.checked) (s := (Rows.OpenSpec.upto Rows.gateBlindSpec)) (k := Rows.uptoSmall) rfl false ⟨#[], #[.agg #[.int .i64 0, .int .i64 0, .slice none 0 0, .slice none 0 0, .slice none 0 0, .slice none 0 0], .agg #[.int .i64 0, .int .i64 0, .int .i64 0, .int .i64 0], .agg #[.string ByteArray.empty, .string ByteArray.empty, .int .i64 0, .int .i64 0, .int .i64 0]], []⟩ 8 (by kernel_rfl) (by kernel_rfl) (by kernel_rfl)
   (x := ([.agg [.lit (.int .i64 0), .lit (.int .i64 0), .nil, .nil, .nil, .nil], .agg [.lit (.int .i64 0), .lit (.int .i64 0), .lit (.int .i64 0), .lit (.int .i64 0)], .agg [.lit (.string []), .lit (.string []), .lit (.int .i64 0), .lit (.int .i64 0), .lit (.int .i64 0)]], [], [])) (by kernel_rfl) rfl (by kernel_rfl)) ?_
 intro W base args ds gs before hval hW _ hk _
 exact contract H enc W base args ds gs before hval hW hk

theorem proved : Rows.GateBlindUptoSaid :=
 OpenClaim.holds_of_cond 12 Tryz.f12 rfl rfl rfl rfl rfl rfl rfl ⟨rfl, rfl, rfl, rfl, rfl⟩ rfl rfl rfl rfl rfl (by kernel_rfl) Tryz.func12 closedGateBlind
  (of_decide_eq_true (by kernel_rfl)) (by unfold Func.isWrapper; first | (rw [if_pos (by decide +kernel)]; kernel_rfl) | (rw [if_neg (by decide +kernel)]; exact ⟨rfl, rfl⟩))
  (fun os started H enc _ F => lifted os started H enc F)
end Go.Proofs.YtapacckmgmdnoaaGreat.gateBlind
