/- FoldAgain: what is taken, folded again, is all taken, and makes the same state; folded in parts, it makes the same; for all states of at most 1048576 things, all rows of events and all places. -/
import Derived.JoinedCond
import Derived.Deep.RegionHeld3
import Derived.OrdersHeld
import Derived.Test.YtapacckmgmdnoaaGreatR00
import Derived.Test.YtapacckmgmdnoaaGreatRows
import Derived.Test.YtapacckmgmdnoaaGreatTQ
import Derived.Test.YtapacckmgmdnoaaGreatR03
import Derived.Test.YtapacckmgmdnoaaGreatR04
import Derived.Test.YtapacckmgmdnoaaGreatR07
import Derived.Test.YtapacckmgmdnoaaGreatR14
import Derived.Test.YtapacckmgmdnoaaGreatR18
import Derived.Test.YtapacckmgmdnoaaGreatR20
import Derived.Test.YtapacckmgmdnoaaGreatR23
import Derived.Test.YtapacckmgmdnoaaGreatR26
import Derived.Test.YtapacckmgmdnoaaGreatR29
import Derived.Test.YtapacckmgmdnoaaGreatR31
import Derived.Test.YtapacckmgmdnoaaGreatR32
import Derived.Test.YtapacckmgmdnoaaGreatR39
import Derived.Test.YtapacckmgmdnoaaGreatR40
import Derived.Test.YtapacckmgmdnoaaGreatR41
import Derived.Test.YtapacckmgmdnoaaGreatR42
import Derived.Test.YtapacckmgmdnoaaGreatR43
import Derived.Test.YtapacckmgmdnoaaGreatR44
import Derived.Test.YtapacckmgmdnoaaGreatR46
namespace Go.Proofs.YtapacckmgmdnoaaGreat.foldAgain
open Go.ChangeShapes Go.WideShapes Go.ChangeAt Go.RowKit Go.Proofs
open Go.ChangeMaps (open_string shut_string)
set_option linter.unusedVariables false
set_option maxRecDepth 100000

structure FgK (w : World) (x : SaL) (a : Option Addr) (l : List EvM) (W : World) : Prop where
 s : SB w w.heap.size 27 x W
 r : EvSl W a l
theorem FgK.below {w W W' : World} {x : SaL} {a : Option Addr} {l : List EvM} (h : FgK w x a l W) (qB : Below W.heap.size W W') : FgK w x a l W' := ⟨h.s.below qB, h.r.below qB⟩
theorem FgK.over {w T : World} {x : SaL} {a : Option Addr} {l : List EvM} {gz : Nat} {zz : SaL} (h : FgK w x a l T) (hZ : SB w gz 39 saO T) (hy : SaAt T zz) (ns : w.heap.size ≠ gz) : FgK w x a l (setS T gz zz) ∧ SB w gz 39 zz (setS T gz zz) :=
 ⟨⟨(hZ.over hy h.s ns).2, evsl_setS hZ hy h.r⟩, hZ.set hy⟩
structure FhK (w : World) (g1 : Nat) (g2 : Nat) (y : SaL) (z : SaL) (b : Option Addr) (l : List EvM) (b4 : Option Addr) (E : List Int) (W : World) : Prop where
 y : SB w g1 39 y W
 z : SB w g2 39 z W
 n : EvSl W b l
 e : ErB W b4 E g2
theorem FhK.below {w W W' : World} {g1 : Nat} {g2 : Nat} {y : SaL} {z : SaL} {b : Option Addr} {l : List EvM} {b4 : Option Addr} {E : List Int} (h : FhK w g1 g2 y z b l b4 E W) (qB : Below W.heap.size W W') : FhK w g1 g2 y z b l b4 E W' := ⟨h.y.below qB, h.z.below qB, h.n.below qB, h.e.below qB⟩
theorem FhK.over {w T : World} {g1 : Nat} {g2 : Nat} {y : SaL} {z : SaL} {b : Option Addr} {l : List EvM} {b4 : Option Addr} {E : List Int} {gz : Nat} {zz : SaL} (h : FhK w g1 g2 y z b l b4 E T) (hZ : SB w gz 39 saO T) (hy : SaAt T zz) (ny : g1 ≠ gz) (nz : g2 ≠ gz) (ne : g2 ≤ gz) : FhK w g1 g2 y z b l b4 E (setS T gz zz) ∧ SB w gz 39 zz (setS T gz zz) :=
 ⟨⟨(hZ.over hy h.y ny).2, (hZ.over hy h.z nz).2, evsl_setS hZ hy h.n, h.e.setS ne zz⟩, hZ.set hy⟩
structure FiK (w : World) (g1 : Nat) (g2 : Nat) (y : SaL) (z : SaL) (b : Option Addr) (l : List EvM) (b4 : Option Addr) (E : List Int) (g3 : Nat) (v : SaL) (W : World) : Prop where
 y : SB w g1 39 y W
 z : SB w g2 39 z W
 n : EvSl W b l
 e : ErB W b4 E g2
 v : SB w g3 39 v W
theorem FiK.below {w W W' : World} {g1 : Nat} {g2 : Nat} {y : SaL} {z : SaL} {b : Option Addr} {l : List EvM} {b4 : Option Addr} {E : List Int} {g3 : Nat} {v : SaL} (h : FiK w g1 g2 y z b l b4 E g3 v W) (qB : Below W.heap.size W W') : FiK w g1 g2 y z b l b4 E g3 v W' := ⟨h.y.below qB, h.z.below qB, h.n.below qB, h.e.below qB, h.v.below qB⟩
theorem FiK.over {w T : World} {g1 : Nat} {g2 : Nat} {y : SaL} {z : SaL} {b : Option Addr} {l : List EvM} {b4 : Option Addr} {E : List Int} {g3 : Nat} {v : SaL} {gz : Nat} {zz : SaL} (h : FiK w g1 g2 y z b l b4 E g3 v T) (hZ : SB w gz 39 saO T) (hy : SaAt T zz) (ny : g1 ≠ gz) (nz : g2 ≠ gz) (ne : g2 ≤ gz) (nv : g3 ≠ gz) : FiK w g1 g2 y z b l b4 E g3 v (setS T gz zz) ∧ SB w gz 39 zz (setS T gz zz) :=
 ⟨⟨(hZ.over hy h.y ny).2, (hZ.over hy h.z nz).2, evsl_setS hZ hy h.n, h.e.setS ne zz, (hZ.over hy h.v nv).2⟩, hZ.set hy⟩
structure FjK (w : World) (g1 : Nat) (g2 : Nat) (y : SaL) (z : SaL) (b : Option Addr) (l : List EvM) (b4 : Option Addr) (E : List Int) (g3 : Nat) (v : SaL) (g4 : Nat) (u : SaL) (b6 : Option Addr) (E1 : List Int) (B6 : Nat) (W : World) : Prop where
 y : SB w g1 39 y W
 z : SB w g2 39 z W
 n : EvSl W b l
 e : ErB W b4 E g2
 v : SB w g3 39 v W
 u : SB w g4 39 u W
 f : ErB W b6 E1 B6
theorem FjK.below {w W W' : World} {g1 : Nat} {g2 : Nat} {y : SaL} {z : SaL} {b : Option Addr} {l : List EvM} {b4 : Option Addr} {E : List Int} {g3 : Nat} {v : SaL} {g4 : Nat} {u : SaL} {b6 : Option Addr} {E1 : List Int} {B6 : Nat} (h : FjK w g1 g2 y z b l b4 E g3 v g4 u b6 E1 B6 W) (qB : Below W.heap.size W W') : FjK w g1 g2 y z b l b4 E g3 v g4 u b6 E1 B6 W' := ⟨h.y.below qB, h.z.below qB, h.n.below qB, h.e.below qB, h.v.below qB, h.u.below qB, h.f.below qB⟩
theorem FjK.over {w T : World} {g1 : Nat} {g2 : Nat} {y : SaL} {z : SaL} {b : Option Addr} {l : List EvM} {b4 : Option Addr} {E : List Int} {g3 : Nat} {v : SaL} {g4 : Nat} {u : SaL} {b6 : Option Addr} {E1 : List Int} {B6 : Nat} {gz : Nat} {zz : SaL} (h : FjK w g1 g2 y z b l b4 E g3 v g4 u b6 E1 B6 T) (hZ : SB w gz 39 saO T) (hy : SaAt T zz) (ny : g1 ≠ gz) (nz : g2 ≠ gz) (ne : g2 ≤ gz) (nv : g3 ≠ gz) (nu : g4 ≠ gz) (nf : B6 ≤ gz) : FjK w g1 g2 y z b l b4 E g3 v g4 u b6 E1 B6 (setS T gz zz) ∧ SB w gz 39 zz (setS T gz zz) :=
 ⟨⟨(hZ.over hy h.y ny).2, (hZ.over hy h.z nz).2, evsl_setS hZ hy h.n, h.e.setS ne zz, (hZ.over hy h.v nv).2, (hZ.over hy h.u nu).2, h.f.setS nf zz⟩, hZ.set hy⟩
theorem funnel5 {G : Prop} {F P : World → Nat → SaL → Option Addr → Nat → Prop} (tree : (∀ T g y b q, F T g y b q → P T g y b q) → G) (main : ∀ T g y b q, F T g y b q → P T g y b q) : G := tree main
theorem funnel7 {G : Prop} {F P : World → Nat → SaL → Option Addr → Nat → Option Addr → Nat → Prop} (tree : (∀ T g y b q b' q', F T g y b q b' q' → P T g y b q b' q') → G) (main : ∀ T g y b q b' q', F T g y b q b' q' → P T g y b q b' q') : G := tree main
set_option maxHeartbeats 8000000 in
theorem walk (w : World) (x : SaL) (h : SaAt w x) (z : SzS x.m) (b : stCnt x.m + x.us.length ≤ 1048576) (a : Option Addr) (c : Nat) (l : List EvM) (hs : EvSl w a l) (hf : FitsV l) (hlc : l.length ≤ c) (hcm : c ≤ maxLen) (hn : a = none → c = 0) (p : Int) (hp : (Lit.int .i64 p).wf = true) :
  Calls Tryz.prog 4 #[saV x, .slice a l.length c, .int .i64 p] w fun e w' => e = .returned (.bool true) ∧ Below w.heap.size w w' := by
 have S := SB.new (Below.refl w.heap.size w) h 27
 have A0 := hs.below (below_one w (.cells (saC x) 27))
 unfold saC at S A0
 replace S := Lib.hid S
 replace A0 := Lib.hid A0
 have HAL := Lib.hid alive12
 have HMA := Lib.hid (fun V (h : SaAt V x) => many_any x V h b)
 by_cases g1 : 60 < stCnt x.m + x.us.length
 ·have d1 : decide ((60 : Int) < (stCnt x.m : Int) + (x.us.length : Int)) = true := decide_eq_true (by omega)
  clear h z b hs hf hlc hcm hn g1 A0 hp
  unfold saV saC
  obtain ⟨cS0, cS1, cS2, cS3, cS4, cS5⟩ := S.out.cells
  go_enter Tryz.func4, Tryz.ntmps4
  go_wp2_with fail
  refine (HMA.out _ S.out.at_).mono ?_
  rintro r1 w1 ⟨rfl, h1⟩
  clear cS0 cS1 cS2 cS3 cS4 cS5
  replace S := Lib.hid (S.out.below h1)
  clear h1
  obtain ⟨cS0, cS1, cS2, cS3, cS4, cS5⟩ := S.out.cells
  go_wp2_with fail
  refine (HAL.out _).mono ?_
  rintro r2 w2 ⟨rfl, h2⟩
  clear cS0 cS1 cS2 cS3 cS4 cS5
  replace S := Lib.hid (S.out.below h2)
  clear h2
  go_wp2
  go_ret
  exact ⟨rfl, S.out.frame⟩
 have d1 : decide ((60 : Int) < (stCnt x.m : Int) + (x.us.length : Int)) = false := decide_eq_false (by omega)
 have hf0 : Few x.m 60 := few_cnt (by omega)
 by_cases hr0 : RightS x.m
 case neg =>
  have HRR := Lib.hid (fun V (h : SaAt V x) => g_rwrong x V h rfl z (hf0.mono (by decide)) hr0)
  clear h z b hs hf hlc hcm hn g1 hf0 hr0 A0 hp
  unfold saV saC
  obtain ⟨cS0, cS1, cS2, cS3, cS4, cS5⟩ := S.out.cells
  go_enter Tryz.func4, Tryz.ntmps4
  go_wp2_with fail
  refine (HMA.out _ S.out.at_).mono ?_
  rintro r1 w1 ⟨rfl, h1⟩
  clear cS0 cS1 cS2 cS3 cS4 cS5
  replace S := Lib.hid (S.out.below h1)
  clear h1
  obtain ⟨cS0, cS1, cS2, cS3, cS4, cS5⟩ := S.out.cells
  go_wp2_with fail
  refine (HRR.out _ S.out.at_).mono ?_
  rintro r2 w2 ⟨rfl, h2⟩
  clear cS0 cS1 cS2 cS3 cS4 cS5
  replace S := Lib.hid (S.out.below h2)
  clear h2
  obtain ⟨cS0, cS1, cS2, cS3, cS4, cS5⟩ := S.out.cells
  go_wp2_with fail
  refine (HAL.out _).mono ?_
  rintro r3 w3 ⟨rfl, h3⟩
  clear cS0 cS1 cS2 cS3 cS4 cS5
  replace S := Lib.hid (S.out.below h3)
  clear h3
  go_wp2
  go_ret
  exact ⟨rfl, S.out.frame⟩
 have HRR := Lib.hid (fun V (h : SaAt V x) => g_rright x V h rfl z (hf0.mono (by decide)) hr0)
 have hc0 : stCnt x.m ≤ 60 := by omega
 by_cases e0 : 40 < l.length
 ·have d2 : decide ((40 : Int) < (l.length : Int)) = true := decide_eq_true (by omega)
  clear h z b hs hf hlc hcm hn g1 hf0 hr0 hc0 A0 hp e0
  unfold saV saC
  obtain ⟨cS0, cS1, cS2, cS3, cS4, cS5⟩ := S.out.cells
  go_enter Tryz.func4, Tryz.ntmps4
  go_wp2_with fail
  refine (HMA.out _ S.out.at_).mono ?_
  rintro r1 w1 ⟨rfl, h1⟩
  clear cS0 cS1 cS2 cS3 cS4 cS5
  replace S := Lib.hid (S.out.below h1)
  clear h1
  obtain ⟨cS0, cS1, cS2, cS3, cS4, cS5⟩ := S.out.cells
  go_wp2_with fail
  refine (HRR.out _ S.out.at_).mono ?_
  rintro r2 w2 ⟨rfl, h2⟩
  clear cS0 cS1 cS2 cS3 cS4 cS5
  replace S := Lib.hid (S.out.below h2)
  clear h2
  obtain ⟨cS0, cS1, cS2, cS3, cS4, cS5⟩ := S.out.cells
  go_wp2_with fail
  refine (HAL.out _).mono ?_
  rintro r3 w3 ⟨rfl, h3⟩
  clear cS0 cS1 cS2 cS3 cS4 cS5
  replace S := Lib.hid (S.out.below h3)
  clear h3
  go_wp2
  go_ret
  exact ⟨rfl, S.out.frame⟩
 have d2 : decide ((40 : Int) < (l.length : Int)) = false := decide_eq_false (by omega)
 by_cases e1 : p < 0
 ·have d3 : decide (p < 0) = true := decide_eq_true (by omega)
  clear h z b hs hf hlc hcm hn g1 hf0 hr0 hc0 A0 hp e0 e1
  unfold saV saC
  obtain ⟨cS0, cS1, cS2, cS3, cS4, cS5⟩ := S.out.cells
  go_enter Tryz.func4, Tryz.ntmps4
  go_wp2_with fail
  refine (HMA.out _ S.out.at_).mono ?_
  rintro r1 w1 ⟨rfl, h1⟩
  clear cS0 cS1 cS2 cS3 cS4 cS5
  replace S := Lib.hid (S.out.below h1)
  clear h1
  obtain ⟨cS0, cS1, cS2, cS3, cS4, cS5⟩ := S.out.cells
  go_wp2_with fail
  refine (HRR.out _ S.out.at_).mono ?_
  rintro r2 w2 ⟨rfl, h2⟩
  clear cS0 cS1 cS2 cS3 cS4 cS5
  replace S := Lib.hid (S.out.below h2)
  clear h2
  obtain ⟨cS0, cS1, cS2, cS3, cS4, cS5⟩ := S.out.cells
  go_wp2_with fail
  refine (HAL.out _).mono ?_
  rintro r3 w3 ⟨rfl, h3⟩
  clear cS0 cS1 cS2 cS3 cS4 cS5
  replace S := Lib.hid (S.out.below h3)
  clear h3
  go_wp2
  go_ret
  exact ⟨rfl, S.out.frame⟩
 have d3 : decide (p < 0) = false := decide_eq_false (by omega)
 by_cases e2 : (l.length : Int) < p
 ·have d4 : decide ((l.length : Int) < p) = true := decide_eq_true (by omega)
  clear h z b hs hf hlc hcm hn g1 hf0 hr0 hc0 A0 hp e0 e1 e2
  unfold saV saC
  obtain ⟨cS0, cS1, cS2, cS3, cS4, cS5⟩ := S.out.cells
  go_enter Tryz.func4, Tryz.ntmps4
  go_wp2_with fail
  refine (HMA.out _ S.out.at_).mono ?_
  rintro r1 w1 ⟨rfl, h1⟩
  clear cS0 cS1 cS2 cS3 cS4 cS5
  replace S := Lib.hid (S.out.below h1)
  clear h1
  obtain ⟨cS0, cS1, cS2, cS3, cS4, cS5⟩ := S.out.cells
  go_wp2_with fail
  refine (HRR.out _ S.out.at_).mono ?_
  rintro r2 w2 ⟨rfl, h2⟩
  clear cS0 cS1 cS2 cS3 cS4 cS5
  replace S := Lib.hid (S.out.below h2)
  clear h2
  obtain ⟨cS0, cS1, cS2, cS3, cS4, cS5⟩ := S.out.cells
  go_wp2_with fail
  refine (HAL.out _).mono ?_
  rintro r3 w3 ⟨rfl, h3⟩
  clear cS0 cS1 cS2 cS3 cS4 cS5
  replace S := Lib.hid (S.out.below h3)
  clear h3
  go_wp2
  go_ret
  exact ⟨rfl, S.out.frame⟩
 have d4 : decide ((l.length : Int) < p) = false := decide_eq_false (by omega)
 obtain ⟨k, rfl⟩ : ∃ k : Nat, p = (k : Int) := ⟨p.toNat, by omega⟩
 have hk : k ≤ l.length := by omega
 have hkn : ¬ l.length < k := by omega
 have hkd : decide (l.length < k) = false := decide_eq_false hkn
 obtain ⟨M, hM⟩ : ∃ M, x.m = M := ⟨_, rfl⟩
 have hr : RightS M := hM ▸ hr0
 have hfw : Few M 60 := hM ▸ hf0
 have hc2 : stCnt M + l.length ≤ 200 := by rw [← hM]; omega
 have hl1 : (l.take k).length = k := by rw [List.length_take]; omega
 have hl2 : (l.drop k).length = l.length - k := List.length_drop ..
 have htl : (takenE M l).length ≤ l.length := takenE_len l M
 have hN1r := right_fold (l.take k) hr
 have hN1c := cnt_fold (l.take k) M
 obtain ⟨ta1, ta2, -⟩ := taken_again l M
 have hE0 := ta2
 have hNJ : foldE (foldE M (l.take k)) (l.drop k) = foldE M l := by rw [← foldE_append, List.take_append_drop]
 have hEJ : errsE M (l.take k) ++ errsE (foldE M (l.take k)) (l.drop k) = errsE M l := by rw [← errsE_append, List.take_append_drop]
 have HNW : Hid (∀ V, SaAt V x → Calls Tryz.prog 23 #[.agg #[.int .i64 x.now, .int .i64 x.hor, .slice x.oa x.op.length x.oc, .slice x.ua x.us.length x.uc, .slice x.sa x.su.length x.sc, .slice x.ta x.tb.length x.tc]] V fun r w' => ∃ y, r = .returned (.agg #[.int .i64 y.now, .int .i64 y.hor, .slice y.oa y.op.length y.oc, .slice y.ua y.us.length y.uc, .slice y.sa y.su.length y.sc, .slice y.ta y.tb.length y.tc]) ∧ SaAt w' y ∧ y.m = M ∧ Below V.heap.size V w') := Lib.hid (fun V (h : SaAt V x) => g_new x V h hM (hfw.mono (by decide)))
 have HNV := Lib.hid (fun V (h : EvSl V a l) => h_news a c l V h (by omega))
 have HFO := Lib.hid (fun y (hm : y.m = M) b q V (h : SaAt V y) (k : EvSl V b l) => h_fold2 y hm b q l V h hr k hf hc2)
 have HTK := Lib.hid (fun y (hm : y.m = M) b q V (h : SaAt V y) (k : EvSl V b l) => h_taken y hm b q l V h hr k hf hc2)
 have HFT := Lib.hid (fun y (hm : y.m = M) b q V (h : SaAt V y) (k : EvSl V b (takenE M l)) => h_fold2 y hm b q (takenE M l) V h hr k (fits_taken hf) (by omega))
 rw [ta1] at HFT
 have HFH : Hid (∀ y (hm : y.m = M) b q V, SaAt V y → EvSl V b l → Calls Tryz.prog 22 #[saV y, .slice b k q] V (FoldsV2 V (foldE M (l.take k)) (errsE M (l.take k)))) := Lib.hid (fun y hm b q V h s => by
  have h1 := h_fold2 y hm b q (l.take k) V h hr (s.take k) (fun e he => hf e (List.mem_of_mem_take he)) (by omega)
  rwa [hl1] at h1)
 have HFR : Hid (∀ y (hm : y.m = foldE M (l.take k)) b q V, SaAt V y → EvSl V b (l.drop k) → Calls Tryz.prog 22 #[saV y, .slice b (l.length - k) q] V (FoldsV2 V (foldE M l) (errsE (foldE M (l.take k)) (l.drop k)))) := Lib.hid (fun y hm b q V h s => by
  have h1 := h_fold2 y hm b q (l.drop k) V h hN1r s (fun e he => hf e (List.mem_of_mem_drop he)) (by omega)
  rwa [hl2, hNJ] at h1)
 have hNr := right_fold l hr
 have hNf : Few (foldE M l) 400 := (few_of hNr (cnt_fold l M)).mono (by omega)
 have HSM := Lib.hid (fun p q V (h : SaAt V p) (k : SaAt V q) hm km => g_same (M := foldE M l) p q V h k hm km (hNf.mono (by decide)))
 have hel : (errsE M l).length ≤ 1000 := by rw [errsE_len]; omega
 have HTD := Lib.hid (fun b b' q q' V (h : ErSl V b (errsE M l)) (k : ErSl V b' (errsE M l)) => dtold_any b b' q q' (errsE M l) V h k hel)
 have HLE1 : Hid ((errsE M (l.take k)).length + (errsE (foldE M (l.take k)) (l.drop k)).length = (errsE M l).length ∧ (errsE M l).length ≤ 1000) := Lib.hid ⟨by rw [← hEJ, List.length_append], hel⟩
 have HE0L : Hid ((errsE M (takenE M l)).length ≤ 1000) := Lib.hid (by rw [errsE_len]; omega)
 have HEJ := Lib.hid hEJ
 have HE0 : Hid (∀ j (h : j < (errsE M (takenE M l)).length), (errsE M (takenE M l))[j] = 0) := Lib.hid fun j h => hE0 _ (List.getElem_mem h)
 have HCUT : Hid (∀ b q, l.length ≤ q → (b = none → q = 0) → ∃ b', (∀ W : World, (Instr.slice 32 (.slice b l.length q) (some (.int .i64 (k : Int))) none none).run Tryz.prog W = .ok (.slice b' (l.length - k) (q - k)) W) ∧ (∀ V, EvSl V b l → EvSl V b' (l.drop k))) := Lib.hid fun b q h1 h2 => ev_from b l q k hk h1 h2
 have HHED : Hid (∀ b q, l.length ≤ q → ∀ W : World, (Instr.slice 32 (.slice b l.length q) none (some (.int .i64 (k : Int))) none).run Tryz.prog W = .ok (.slice b k q) W) := Lib.hid fun b q h1 W => ev_to b l.length q k (by omega) W
 unfold FoldsV2 at HFO HFT HFH HFR
 unfold RowsTo at HNV HTK
 clear h z b hs hf hlc hcm hn hp g1 hf0 hr0 hc0 e0 e1 e2 hr hfw hc2 hl1 hl2 htl hN1r hN1c ta1 ta2 hE0 hNJ hEJ hNr hNf hel hk
 replace hM := Lib.hid hM
 generalize foldE M l = N at *
 generalize foldE M (l.take k) = N1 at *
 generalize errsE M (takenE M l) = E0 at *
 generalize takenE M l = TT at *
 generalize errsE M l = E at *
 generalize errsE M (l.take k) = E1 at *
 generalize errsE N1 (l.drop k) = E2 at *
 generalize l.drop k = LD at *
 unfold saV saC
 obtain ⟨cS0, cS1, cS2, cS3, cS4, cS5⟩ := S.out.cells
 go_enter Tryz.func4, Tryz.ntmps4
 go_wp2_with fail
 refine (HMA.out _ S.out.at_).mono ?_
 rintro r1 w1 ⟨rfl, h1⟩
 clear cS0 cS1 cS2 cS3 cS4 cS5
 replace S := Lib.hid (S.out.below h1)
 replace A0 := Lib.hid (A0.out.below h1)
 clear h1
 obtain ⟨cS0, cS1, cS2, cS3, cS4, cS5⟩ := S.out.cells
 go_wp2_with fail
 refine (HRR.out _ S.out.at_).mono ?_
 rintro r2 w2 ⟨rfl, h2⟩
 clear cS0 cS1 cS2 cS3 cS4 cS5
 replace S := Lib.hid (S.out.below h2)
 replace A0 := Lib.hid (A0.out.below h2)
 clear h2
 obtain ⟨cS0, cS1, cS2, cS3, cS4, cS5⟩ := S.out.cells
 clear HMA HRR
 go_wp2_with fail
 clear hkn hkd
 have KK : FgK w x a l w2 := ⟨S.out, A0.out⟩
 clear S A0
 have HSC : Hid (∀ V, FgK w x a l V → V.cell? ⟨w.heap.size, 0, none⟩ = some (.int .i64 x.now) ∧ V.cell? ⟨w.heap.size, 1, none⟩ = some (.int .i64 x.hor) ∧ V.cell? ⟨w.heap.size, 2, none⟩ = some (.slice x.oa x.op.length x.oc) ∧ V.cell? ⟨w.heap.size, 3, none⟩ = some (.slice x.ua x.us.length x.uc) ∧ V.cell? ⟨w.heap.size, 4, none⟩ = some (.slice x.sa x.su.length x.sc) ∧ V.cell? ⟨w.heap.size, 5, none⟩ = some (.slice x.ta x.tb.length x.tc)) := Lib.hid fun V h => by
  obtain ⟨s0, s1, s2, s3, s4, s5⟩ := h.s.cells
  exact ⟨s0, s1, s2, s3, s4, s5⟩
 have HBL : Hid (∀ V V', FgK w x a l V → Below V.heap.size V V' → FgK w x a l V') := Lib.hid fun V V' h q => h.below q
 unfold saV saC at HFO HFT HFH HFR HTK
 apply funnel5 (F := fun T g1 y b1 q1 => SB w g1 39 y T ∧ EvSl T b1 l ∧ y.m = M ∧ l.length ≤ q1 ∧ (b1 = none → q1 = 0))
 ·intro main
  have K0 := KK.below (Below.refl w2.heap.size w2).drew
  have K0b := (KK.below (below_one w2 (.cells #[.int .i64 0, .int .i64 0, .slice none 0 0, .slice none 0 0, .slice none 0 0, .slice none 0 0] 39))).below (Below.refl _ _).drew
  have Z0b : SB w w2.heap.size 39 saO (w2.alloc (.cells #[.int .i64 0, .int .i64 0, .slice none 0 0, .slice none 0 0, .slice none 0 0, .slice none 0 0] 39)).drew := SB.drew (SB.new KK.s.frame (SaAt.zero w2) 39)
  have NG0 : w.heap.size ≠ w2.heap.size := Nat.ne_of_lt KK.s.lt
  go_region_held3 (fun V => V.cell? ⟨w.heap.size, 0, none⟩ = some (.int .i64 x.now) ∧ V.cell? ⟨w.heap.size, 1, none⟩ = some (.int .i64 x.hor) ∧ V.cell? ⟨w.heap.size, 2, none⟩ = some (.slice x.oa x.op.length x.oc) ∧ V.cell? ⟨w.heap.size, 3, none⟩ = some (.slice x.ua x.us.length x.uc) ∧ V.cell? ⟨w.heap.size, 4, none⟩ = some (.slice x.sa x.su.length x.sc) ∧ V.cell? ⟨w.heap.size, 5, none⟩ = some (.slice x.ta x.tb.length x.tc))
   (first | with_reducible exact HSC.out _ KT | with_reducible exact HSC.out _ K2b | with_reducible exact HSC.out _ K2 | with_reducible exact HSC.out _ K1b | with_reducible exact HSC.out _ K1 | with_reducible exact HSC.out _ K0b | with_reducible exact HSC.out _ K0)
   (first | (have hseen := K1; clear hseen; go_at_call 23; (first | ((try have ZL2 := Z1.lt); refine (HNW.out _ K1.s.at_).mono ?_; rintro r v2 ⟨y, rfl, hy, hm, h2⟩; have K2 := HBL.out _ _ K1 h2; (try have Z2 := Z1.below h2); have p1 := p1.below h2) | (have ZL2 := Z1b.lt; refine (HNW.out _ K1b.s.at_).mono ?_; rintro r v2 ⟨y, rfl, hy, hm, h2⟩; have K2 := HBL.out _ _ K1b h2; have Z2 := Z1b.below h2; have p1 := p1b.below h2)); have NG2 : w.heap.size ≠ v2.heap.size := Nat.ne_of_lt K2.s.lt; (first | (have hzz := Z2; unfold saO at hzz; obtain ⟨z0, z1, z2, z3, z4, z5⟩ := hzz.cells; obtain ⟨f0, f1, f2, f3, f4, f5⟩ := hzz.free; have hzl := hzz.lt; dsimp only [List.length_nil] at z0 z1 z2 z3 z4 z5; clear hzz; (first | (have OV := K2.over Z2 hy NG0; have NE := Lib.hid NG0) | (have OV := K2.over Z2 hy NG1; have NE := Lib.hid NG1)); have Tp1 := evsl_setS Z2 hy p1; unfold setS at Tp1; (try dsimp only at Tp1); obtain ⟨KT, OB⟩ := OV; unfold setS at OB KT; (try dsimp only at OB KT)) | (have K2b := K2.below (below_one v2 (.cells #[.int .i64 0, .int .i64 0, .slice none 0 0, .slice none 0 0, .slice none 0 0, .slice none 0 0] 39)); have OB : SB w v2.heap.size 39 y (v2.alloc (.cells #[.int .i64 y.now, .int .i64 y.hor, .slice y.oa y.op.length y.oc, .slice y.ua y.us.length y.uc, .slice y.sa y.su.length y.sc, .slice y.ta y.tb.length y.tc] 39)) := SB.new K2.s.frame hy 39; have KT := K2.below (below_one v2 (.cells #[.int .i64 y.now, .int .i64 y.hor, .slice y.oa y.op.length y.oc, .slice y.ua y.us.length y.uc, .slice y.sa y.su.length y.sc, .slice y.ta y.tb.length y.tc] 39)); have NE := Lib.hid NG2; have Tp1 := p1.below (below_one v2 (.cells #[.int .i64 y.now, .int .i64 y.hor, .slice y.oa y.op.length y.oc, .slice y.ua y.us.length y.uc, .slice y.sa y.su.length y.sc, .slice y.ta y.tb.length y.tc] 39))))) | (have hseen := K0; clear hseen; go_at_call 21; (first | ((try have ZL1 := Z0.lt); refine (HNV.out _ K0.r).mono ?_; rintro r v1 ⟨b1, q1, rfl, p1, k1, m1, n1, h1⟩; have K1 := HBL.out _ _ K0 h1; (try have Z1 := Z0.below h1)) | (have ZL1 := Z0b.lt; refine (HNV.out _ K0b.r).mono ?_; rintro r v1 ⟨b1, q1, rfl, p1, k1, m1, n1, h1⟩; have K1 := HBL.out _ _ K0b h1; have Z1 := Z0b.below h1)); have NG1 : w.heap.size ≠ v1.heap.size := Nat.ne_of_lt K1.s.lt; (first | (have hzz := Z1; clear hzz) | (have K1b := K1.below (below_one v1 (.cells #[.int .i64 0, .int .i64 0, .slice none 0 0, .slice none 0 0, .slice none 0 0, .slice none 0 0] 39)); have Z1b : SB w v1.heap.size 39 saO (v1.alloc (.cells #[.int .i64 0, .int .i64 0, .slice none 0 0, .slice none 0 0, .slice none 0 0, .slice none 0 0] 39)) := SB.new K1.s.frame (SaAt.zero v1) 39; have p1b := p1.below (below_one v1 (.cells #[.int .i64 0, .int .i64 0, .slice none 0 0, .slice none 0 0, .slice none 0 0, .slice none 0 0] 39))))))
  all_goals
   have TK := Lib.hid KT
   have TO := Lib.hid OB
   replace Tp1 := Lib.hid Tp1
   clear KT OB K0 K0b Z0b NG0
   clear K1 NG1 h1
   (try clear K1b)
   (try clear Z1b)
   (try clear Z1)
   (try clear ZL1)
   clear K2 NG2 h2
   (try clear K2b)
   (try clear Z2b)
   (try clear Z2)
   (try clear ZL2)
   (try clear z0 z1 z2 z3 z4 z5 f0 f1 f2 f3 f4 f5 hzl)
   (try clear p1b)
   clear hy p1 NE
   (first
    | (generalize ((((((v2.setCell ⟨w2.heap.size, 0, none⟩ (.int .i64 y.now)).setCell ⟨w2.heap.size, 1, none⟩ (.int .i64 y.hor)).setCell ⟨w2.heap.size, 2, none⟩ (.slice y.oa y.op.length y.oc)).setCell ⟨w2.heap.size, 3, none⟩ (.slice y.ua y.us.length y.uc)).setCell ⟨w2.heap.size, 4, none⟩ (.slice y.sa y.su.length y.sc)).setCell ⟨w2.heap.size, 5, none⟩ (.slice y.ta y.tb.length y.tc)) = T at *; generalize w2.heap.size = g1 at *; (have hseen : SB w g1 39 y T := TO.out; clear hseen))
    | (generalize ((((((v2.setCell ⟨v1.heap.size, 0, none⟩ (.int .i64 y.now)).setCell ⟨v1.heap.size, 1, none⟩ (.int .i64 y.hor)).setCell ⟨v1.heap.size, 2, none⟩ (.slice y.oa y.op.length y.oc)).setCell ⟨v1.heap.size, 3, none⟩ (.slice y.ua y.us.length y.uc)).setCell ⟨v1.heap.size, 4, none⟩ (.slice y.sa y.su.length y.sc)).setCell ⟨v1.heap.size, 5, none⟩ (.slice y.ta y.tb.length y.tc)) = T at *; generalize v1.heap.size = g1 at *; (have hseen : SB w g1 39 y T := TO.out; clear hseen))
    | (generalize v2.alloc (.cells #[.int .i64 y.now, .int .i64 y.hor, .slice y.oa y.op.length y.oc, .slice y.ua y.us.length y.uc, .slice y.sa y.su.length y.sc, .slice y.ta y.tb.length y.tc] 39) = T at *; generalize v2.heap.size = g1 at *; (have hseen : SB w g1 39 y T := TO.out; clear hseen)))
   exact main T g1 y b1 q1 ⟨TO.out, Tp1.out, hm, k1, n1⟩
 ·intro T g1 y b1 q1 hF
  obtain ⟨TO, Tp1, hm, k1, n1⟩ := hF
  replace TO := Lib.hid TO
  replace Tp1 := Lib.hid Tp1
  obtain ⟨cy0, cy1, cy2, cy3, cy4, cy5⟩ := TO.out.cells
  have HCB := Lib.hid (HCUT.out b1 q1 k1 n1)
  have HHD := Lib.hid (HHED.out b1 q1 k1)
  clear HCUT HHED HNV HNW HSC HBL KK k1 n1
  go_wp2_with fail
  refine (HFO.out y hm b1 q1 _ TO.out.at_ Tp1.out).mono ?_
  rintro r w5 ⟨z, b4, q4, rfl, hz, hzm, he4, hle4, hq4, -, h5⟩
  have KK : FhK w g1 w5.heap.size y z b1 l b4 E (w5.alloc (.cells #[.int .i64 z.now, .int .i64 z.hor, .slice z.oa z.op.length z.oc, .slice z.ua z.us.length z.uc, .slice z.sa z.su.length z.sc, .slice z.ta z.tb.length z.tc] 39)) := ⟨(TO.out.below h5).below (below_one _ _), SB.new (TO.out.frame.trans (h5.mono TO.out.frame.size)) hz 39, (Tp1.out.below h5).below (below_one _ _), (ErB.of he4).below (below_one _ _)⟩
  clear cy0 cy1 cy2 cy3 cy4 cy5 TO Tp1 h5 hz he4 HFO hle4 hq4
  go_upto_region 5 with fail
  generalize w5.alloc (.cells #[.int .i64 z.now, .int .i64 z.hor, .slice z.oa z.op.length z.oc, .slice z.ua z.us.length z.uc, .slice z.sa z.su.length z.sc, .slice z.ta z.tb.length z.tc] 39) = U at *
  generalize w5.heap.size = g2 at *
  have HSC : Hid (∀ V, FhK w g1 g2 y z b1 l b4 E V → V.cell? ⟨g1, 0, none⟩ = some (.int .i64 y.now) ∧ V.cell? ⟨g1, 1, none⟩ = some (.int .i64 y.hor) ∧ V.cell? ⟨g1, 2, none⟩ = some (.slice y.oa y.op.length y.oc) ∧ V.cell? ⟨g1, 3, none⟩ = some (.slice y.ua y.us.length y.uc) ∧ V.cell? ⟨g1, 4, none⟩ = some (.slice y.sa y.su.length y.sc) ∧ V.cell? ⟨g1, 5, none⟩ = some (.slice y.ta y.tb.length y.tc) ∧ V.cell? ⟨g2, 0, none⟩ = some (.int .i64 z.now) ∧ V.cell? ⟨g2, 1, none⟩ = some (.int .i64 z.hor) ∧ V.cell? ⟨g2, 2, none⟩ = some (.slice z.oa z.op.length z.oc) ∧ V.cell? ⟨g2, 3, none⟩ = some (.slice z.ua z.us.length z.uc) ∧ V.cell? ⟨g2, 4, none⟩ = some (.slice z.sa z.su.length z.sc) ∧ V.cell? ⟨g2, 5, none⟩ = some (.slice z.ta z.tb.length z.tc)) := Lib.hid fun V h => by
   obtain ⟨y0, y1, y2, y3, y4, y5⟩ := h.y.cells
   obtain ⟨z0, z1, z2, z3, z4, z5⟩ := h.z.cells
   exact ⟨y0, y1, y2, y3, y4, y5, z0, z1, z2, z3, z4, z5⟩
  have HBL : Hid (∀ V V', FhK w g1 g2 y z b1 l b4 E V → Below V.heap.size V V' → FhK w g1 g2 y z b1 l b4 E V') := Lib.hid fun V V' h q => h.below q
  obtain ⟨cy0, cy1, cy2, cy3, cy4, cy5, cz0, cz1, cz2, cz3, cz4, cz5⟩ := HSC.out _ KK
  apply funnel7 (F := fun T5 g3 v b3 q3 b5 q5 => FhK w g1 g2 y z b1 l b4 E T5 ∧ SB w g3 39 v T5 ∧ ErSl T5 b5 E0 ∧ v.m = N)
  ·intro main
   have K0 := KK.below (Below.refl U.heap.size U).drew
   have K0b := (KK.below (below_one U (.cells #[.int .i64 0, .int .i64 0, .slice none 0 0, .slice none 0 0, .slice none 0 0, .slice none 0 0] 39))).below (Below.refl _ _).drew
   have Z0b : SB w U.heap.size 39 saO (U.alloc (.cells #[.int .i64 0, .int .i64 0, .slice none 0 0, .slice none 0 0, .slice none 0 0, .slice none 0 0] 39)).drew := SB.drew (SB.new KK.y.frame (SaAt.zero U) 39)
   have NG0 : g1 ≠ U.heap.size ∧ g2 ≠ U.heap.size ∧ g2 ≤ U.heap.size := ⟨Nat.ne_of_lt KK.y.lt, Nat.ne_of_lt KK.z.lt, KK.e.sz⟩
   go_wp2_with fail
   go_region_held3 (fun V => V.cell? ⟨g1, 0, none⟩ = some (.int .i64 y.now) ∧ V.cell? ⟨g1, 1, none⟩ = some (.int .i64 y.hor) ∧ V.cell? ⟨g1, 2, none⟩ = some (.slice y.oa y.op.length y.oc) ∧ V.cell? ⟨g1, 3, none⟩ = some (.slice y.ua y.us.length y.uc) ∧ V.cell? ⟨g1, 4, none⟩ = some (.slice y.sa y.su.length y.sc) ∧ V.cell? ⟨g1, 5, none⟩ = some (.slice y.ta y.tb.length y.tc) ∧ V.cell? ⟨g2, 0, none⟩ = some (.int .i64 z.now) ∧ V.cell? ⟨g2, 1, none⟩ = some (.int .i64 z.hor) ∧ V.cell? ⟨g2, 2, none⟩ = some (.slice z.oa z.op.length z.oc) ∧ V.cell? ⟨g2, 3, none⟩ = some (.slice z.ua z.us.length z.uc) ∧ V.cell? ⟨g2, 4, none⟩ = some (.slice z.sa z.su.length z.sc) ∧ V.cell? ⟨g2, 5, none⟩ = some (.slice z.ta z.tb.length z.tc))
    (first | with_reducible exact HSC.out _ KT | with_reducible exact HSC.out _ K2b | with_reducible exact HSC.out _ K2 | with_reducible exact HSC.out _ K1b | with_reducible exact HSC.out _ K1 | with_reducible exact HSC.out _ K0b | with_reducible exact HSC.out _ K0)
    (first | (have hseen := K1; clear hseen; go_at_call 22; (first | ((try have ZL2 := Z1.lt); refine (HFT.out y hm b3 q3 _ K1.y.at_ p3).mono ?_; rintro r v2 ⟨v, b5, q5, rfl, hv, hvm, p5, le5, qm5, l5, h2⟩; have K2 := HBL.out _ _ K1 h2; (try have Z2 := Z1.below h2); have p3 := p3.below h2) | (have ZL2 := Z1b.lt; refine (HFT.out y hm b3 q3 _ K1b.y.at_ p3b).mono ?_; rintro r v2 ⟨v, b5, q5, rfl, hv, hvm, p5, le5, qm5, l5, h2⟩; have K2 := HBL.out _ _ K1b h2; have Z2 := Z1b.below h2; have p3 := p3b.below h2)); have NG2 : g1 ≠ v2.heap.size ∧ g2 ≠ v2.heap.size ∧ g2 ≤ v2.heap.size := ⟨Nat.ne_of_lt K2.y.lt, Nat.ne_of_lt K2.z.lt, K2.e.sz⟩; (first | (have hzz := Z2; unfold saO at hzz; obtain ⟨z0, z1, z2, z3, z4, z5⟩ := hzz.cells; obtain ⟨f0, f1, f2, f3, f4, f5⟩ := hzz.free; have hzl := hzz.lt; dsimp only [List.length_nil] at z0 z1 z2 z3 z4 z5; clear hzz; (first | (have OV := K2.over Z2 hv NG0.1 NG0.2.1 NG0.2.2; have NE := Lib.hid NG0) | (have OV := K2.over Z2 hv NG1.1 NG1.2.1 NG1.2.2; have NE := Lib.hid NG1)); have Tp5 := ErSl.setFar p5 (fun k o e => Nat.lt_of_lt_of_le ZL2 (l5 k o e)) v; unfold setS at Tp5; (try dsimp only at Tp5); obtain ⟨KT, OB⟩ := OV; unfold setS at OB KT; (try dsimp only at OB KT)) | (have K2b := K2.below (below_one v2 (.cells #[.int .i64 0, .int .i64 0, .slice none 0 0, .slice none 0 0, .slice none 0 0, .slice none 0 0] 39)); have OB : SB w v2.heap.size 39 v (v2.alloc (.cells #[.int .i64 v.now, .int .i64 v.hor, .slice v.oa v.op.length v.oc, .slice v.ua v.us.length v.uc, .slice v.sa v.su.length v.sc, .slice v.ta v.tb.length v.tc] 39)) := SB.new K2.y.frame hv 39; have KT := K2.below (below_one v2 (.cells #[.int .i64 v.now, .int .i64 v.hor, .slice v.oa v.op.length v.oc, .slice v.ua v.us.length v.uc, .slice v.sa v.su.length v.sc, .slice v.ta v.tb.length v.tc] 39)); have NE := Lib.hid NG2; have Tp5 := p5.below (below_one v2 (.cells #[.int .i64 v.now, .int .i64 v.hor, .slice v.oa v.op.length v.oc, .slice v.ua v.us.length v.uc, .slice v.sa v.su.length v.sc, .slice v.ta v.tb.length v.tc] 39))))) | (have hseen := K0; clear hseen; go_at_call 31; (first | ((try have ZL1 := Z0.lt); refine (HTK.out y hm b1 q1 _ K0.y.at_ K0.n).mono ?_; rintro r v1 ⟨b3, q3, rfl, p3, -, -, -, h1⟩; have K1 := HBL.out _ _ K0 h1; (try have Z1 := Z0.below h1)) | (have ZL1 := Z0b.lt; refine (HTK.out y hm b1 q1 _ K0b.y.at_ K0b.n).mono ?_; rintro r v1 ⟨b3, q3, rfl, p3, -, -, -, h1⟩; have K1 := HBL.out _ _ K0b h1; have Z1 := Z0b.below h1)); have NG1 : g1 ≠ v1.heap.size ∧ g2 ≠ v1.heap.size ∧ g2 ≤ v1.heap.size := ⟨Nat.ne_of_lt K1.y.lt, Nat.ne_of_lt K1.z.lt, K1.e.sz⟩; (first | (have hzz := Z1; clear hzz) | (have K1b := K1.below (below_one v1 (.cells #[.int .i64 0, .int .i64 0, .slice none 0 0, .slice none 0 0, .slice none 0 0, .slice none 0 0] 39)); have Z1b : SB w v1.heap.size 39 saO (v1.alloc (.cells #[.int .i64 0, .int .i64 0, .slice none 0 0, .slice none 0 0, .slice none 0 0, .slice none 0 0] 39)) := SB.new K1.y.frame (SaAt.zero v1) 39; have p3b := p3.below (below_one v1 (.cells #[.int .i64 0, .int .i64 0, .slice none 0 0, .slice none 0 0, .slice none 0 0, .slice none 0 0] 39))))))
   all_goals
    have TK := Lib.hid KT
    have TO := Lib.hid OB
    replace Tp5 := Lib.hid Tp5
    clear KT OB K0 K0b Z0b NG0
    clear K1 NG1 h1
    (try clear K1b)
    (try clear Z1b)
    (try clear Z1)
    (try clear ZL1)
    clear K2 NG2 h2
    (try clear K2b)
    (try clear Z2b)
    (try clear Z2)
    (try clear ZL2)
    (try clear z0 z1 z2 z3 z4 z5 f0 f1 f2 f3 f4 f5 hzl)
    (try clear p3b)
    clear hv p3 p5 l5 NE
    (first
     | (generalize ((((((v2.setCell ⟨U.heap.size, 0, none⟩ (.int .i64 v.now)).setCell ⟨U.heap.size, 1, none⟩ (.int .i64 v.hor)).setCell ⟨U.heap.size, 2, none⟩ (.slice v.oa v.op.length v.oc)).setCell ⟨U.heap.size, 3, none⟩ (.slice v.ua v.us.length v.uc)).setCell ⟨U.heap.size, 4, none⟩ (.slice v.sa v.su.length v.sc)).setCell ⟨U.heap.size, 5, none⟩ (.slice v.ta v.tb.length v.tc)) = T5 at *; generalize U.heap.size = g3 at *; (have hseen : SB w g3 39 v T5 := TO.out; clear hseen))
     | (generalize ((((((v2.setCell ⟨v1.heap.size, 0, none⟩ (.int .i64 v.now)).setCell ⟨v1.heap.size, 1, none⟩ (.int .i64 v.hor)).setCell ⟨v1.heap.size, 2, none⟩ (.slice v.oa v.op.length v.oc)).setCell ⟨v1.heap.size, 3, none⟩ (.slice v.ua v.us.length v.uc)).setCell ⟨v1.heap.size, 4, none⟩ (.slice v.sa v.su.length v.sc)).setCell ⟨v1.heap.size, 5, none⟩ (.slice v.ta v.tb.length v.tc)) = T5 at *; generalize v1.heap.size = g3 at *; (have hseen : SB w g3 39 v T5 := TO.out; clear hseen))
     | (generalize v2.alloc (.cells #[.int .i64 v.now, .int .i64 v.hor, .slice v.oa v.op.length v.oc, .slice v.ua v.us.length v.uc, .slice v.sa v.su.length v.sc, .slice v.ta v.tb.length v.tc] 39) = T5 at *; generalize v2.heap.size = g3 at *; (have hseen : SB w g3 39 v T5 := TO.out; clear hseen)))
    exact main T5 g3 v b3 q3 b5 q5 ⟨TK.out, TO.out, Tp5.out, hvm⟩
  ·intro T5 g3 v b3 q3 b5 q5 hF
   clear HSC HBL KK cy0 cy1 cy2 cy3 cy4 cy5 cz0 cz1 cz2 cz3 cz4 cz5
   obtain ⟨TK, TO, Tp5, hvm⟩ := hF
   have K3 : Hid (FiK w g1 g2 y z b1 l b4 E g3 v T5) := ⟨TK.y, TK.z, TK.n, TK.e, TO⟩
   replace Tp5 := Lib.hid Tp5
   clear TK TO HTK HFT
   go_wp2
   go_loopw [63] (fun iv wr => ∃ (j : Nat), j ≤ E0.length ∧ iv = .int .i64 j ∧ Hid (FiK w g1 g2 y z b1 l b4 E g3 v wr) ∧ Hid (ErSl wr b5 E0)) (fun iv _ => E0.length - (intOf iv).toNat)
   case atStart => exact ⟨0, by omega, rfl, K3.out, Tp5.out⟩
   case round =>
    clear K3 Tp5
    obtain ⟨j, hj, rfl, K3, RE⟩ := hrel
    by_cases hjl : j < E0.length
    ·obtain ⟨b, off, rfl, hbl, r0⟩ := RE.out.at_ hjl
     rw [HE0.out j hjl] at r0
     have hlen := HE0L.out
     clear HFH HFR HSM HTD HAL HCB HHD HLE1 HEJ HE0 HE0L
     go_wp2
     go_roundw
     case rel => exact ⟨j + 1, by omega, by go_num, K3.out, RE.out⟩
     case measure => simp [intOf]; omega
    ·obtain rfl : j = E0.length := by omega
     have KK := K3.out
     clear RE hj hjl HE0 HE0L K3
     have hs1 := HHD.out
     clear HHD
     have HSC : Hid (∀ V, FiK w g1 g2 y z b1 l b4 E g3 v V → V.cell? ⟨g1, 0, none⟩ = some (.int .i64 y.now) ∧ V.cell? ⟨g1, 1, none⟩ = some (.int .i64 y.hor) ∧ V.cell? ⟨g1, 2, none⟩ = some (.slice y.oa y.op.length y.oc) ∧ V.cell? ⟨g1, 3, none⟩ = some (.slice y.ua y.us.length y.uc) ∧ V.cell? ⟨g1, 4, none⟩ = some (.slice y.sa y.su.length y.sc) ∧ V.cell? ⟨g1, 5, none⟩ = some (.slice y.ta y.tb.length y.tc) ∧ V.cell? ⟨g2, 0, none⟩ = some (.int .i64 z.now) ∧ V.cell? ⟨g2, 1, none⟩ = some (.int .i64 z.hor) ∧ V.cell? ⟨g2, 2, none⟩ = some (.slice z.oa z.op.length z.oc) ∧ V.cell? ⟨g2, 3, none⟩ = some (.slice z.ua z.us.length z.uc) ∧ V.cell? ⟨g2, 4, none⟩ = some (.slice z.sa z.su.length z.sc) ∧ V.cell? ⟨g2, 5, none⟩ = some (.slice z.ta z.tb.length z.tc) ∧ V.cell? ⟨g3, 0, none⟩ = some (.int .i64 v.now) ∧ V.cell? ⟨g3, 1, none⟩ = some (.int .i64 v.hor) ∧ V.cell? ⟨g3, 2, none⟩ = some (.slice v.oa v.op.length v.oc) ∧ V.cell? ⟨g3, 3, none⟩ = some (.slice v.ua v.us.length v.uc) ∧ V.cell? ⟨g3, 4, none⟩ = some (.slice v.sa v.su.length v.sc) ∧ V.cell? ⟨g3, 5, none⟩ = some (.slice v.ta v.tb.length v.tc)) := Lib.hid fun V h => by
      obtain ⟨y0, y1, y2, y3, y4, y5⟩ := h.y.cells
      obtain ⟨z0, z1, z2, z3, z4, z5⟩ := h.z.cells
      obtain ⟨v0, v1, v2, v3, v4, v5⟩ := h.v.cells
      exact ⟨y0, y1, y2, y3, y4, y5, z0, z1, z2, z3, z4, z5, v0, v1, v2, v3, v4, v5⟩
     have HBL : Hid (∀ V V', FiK w g1 g2 y z b1 l b4 E g3 v V → Below V.heap.size V V' → FiK w g1 g2 y z b1 l b4 E g3 v V') := Lib.hid fun V V' h q => h.below q
     obtain ⟨cy0, cy1, cy2, cy3, cy4, cy5, cz0, cz1, cz2, cz3, cz4, cz5, cv0, cv1, cv2, cv3, cv4, cv5⟩ := HSC.out _ KK
     go_wp2_with fail
     apply funnel5 (F := fun T6 g4 u b6 q6 => FiK w g1 g2 y z b1 l b4 E g3 v T6 ∧ SB w g4 39 u T6 ∧ ErSl T6 b6 E1 ∧ u.m = N1 ∧ E1.length ≤ q6)
     ·intro main
      have K0 := KK.below (Below.refl wr.heap.size wr).drew
      have K0b := (KK.below (below_one wr (.cells #[.int .i64 0, .int .i64 0, .slice none 0 0, .slice none 0 0, .slice none 0 0, .slice none 0 0] 39))).below (Below.refl _ _).drew
      have Z0b : SB w wr.heap.size 39 saO (wr.alloc (.cells #[.int .i64 0, .int .i64 0, .slice none 0 0, .slice none 0 0, .slice none 0 0, .slice none 0 0] 39)).drew := SB.drew (SB.new KK.y.frame (SaAt.zero wr) 39)
      have NG0 : g1 ≠ wr.heap.size ∧ g2 ≠ wr.heap.size ∧ g2 ≤ wr.heap.size ∧ g3 ≠ wr.heap.size := ⟨Nat.ne_of_lt KK.y.lt, Nat.ne_of_lt KK.z.lt, KK.e.sz, Nat.ne_of_lt KK.v.lt⟩
      go_region_held3 (fun V => V.cell? ⟨g1, 0, none⟩ = some (.int .i64 y.now) ∧ V.cell? ⟨g1, 1, none⟩ = some (.int .i64 y.hor) ∧ V.cell? ⟨g1, 2, none⟩ = some (.slice y.oa y.op.length y.oc) ∧ V.cell? ⟨g1, 3, none⟩ = some (.slice y.ua y.us.length y.uc) ∧ V.cell? ⟨g1, 4, none⟩ = some (.slice y.sa y.su.length y.sc) ∧ V.cell? ⟨g1, 5, none⟩ = some (.slice y.ta y.tb.length y.tc) ∧ V.cell? ⟨g2, 0, none⟩ = some (.int .i64 z.now) ∧ V.cell? ⟨g2, 1, none⟩ = some (.int .i64 z.hor) ∧ V.cell? ⟨g2, 2, none⟩ = some (.slice z.oa z.op.length z.oc) ∧ V.cell? ⟨g2, 3, none⟩ = some (.slice z.ua z.us.length z.uc) ∧ V.cell? ⟨g2, 4, none⟩ = some (.slice z.sa z.su.length z.sc) ∧ V.cell? ⟨g2, 5, none⟩ = some (.slice z.ta z.tb.length z.tc) ∧ V.cell? ⟨g3, 0, none⟩ = some (.int .i64 v.now) ∧ V.cell? ⟨g3, 1, none⟩ = some (.int .i64 v.hor) ∧ V.cell? ⟨g3, 2, none⟩ = some (.slice v.oa v.op.length v.oc) ∧ V.cell? ⟨g3, 3, none⟩ = some (.slice v.ua v.us.length v.uc) ∧ V.cell? ⟨g3, 4, none⟩ = some (.slice v.sa v.su.length v.sc) ∧ V.cell? ⟨g3, 5, none⟩ = some (.slice v.ta v.tb.length v.tc))
       (first | with_reducible exact HSC.out _ KT | with_reducible exact HSC.out _ K1b | with_reducible exact HSC.out _ K1 | with_reducible exact HSC.out _ K0b | with_reducible exact HSC.out _ K0)
       (first | (have hseen := K0; clear hseen; go_at_call 22; (first | ((try have ZL1 := Z0.lt); refine (HFH.out y hm b1 q1 _ K0.y.at_ K0.n).mono ?_; rintro r v1 ⟨u, b6, q6, rfl, hu, hum, p6, le6, qm6, l6, h1⟩; have K1 := HBL.out _ _ K0 h1; (try have Z1 := Z0.below h1)) | (have ZL1 := Z0b.lt; refine (HFH.out y hm b1 q1 _ K0b.y.at_ K0b.n).mono ?_; rintro r v1 ⟨u, b6, q6, rfl, hu, hum, p6, le6, qm6, l6, h1⟩; have K1 := HBL.out _ _ K0b h1; have Z1 := Z0b.below h1)); have NG1 : g1 ≠ v1.heap.size ∧ g2 ≠ v1.heap.size ∧ g2 ≤ v1.heap.size ∧ g3 ≠ v1.heap.size := ⟨Nat.ne_of_lt K1.y.lt, Nat.ne_of_lt K1.z.lt, K1.e.sz, Nat.ne_of_lt K1.v.lt⟩; (first | (have hzz := Z1; unfold saO at hzz; obtain ⟨z0, z1, z2, z3, z4, z5⟩ := hzz.cells; obtain ⟨f0, f1, f2, f3, f4, f5⟩ := hzz.free; have hzl := hzz.lt; dsimp only [List.length_nil] at z0 z1 z2 z3 z4 z5; clear hzz; (first | (have OV := K1.over Z1 hu NG0.1 NG0.2.1 NG0.2.2.1 NG0.2.2.2; have NE := Lib.hid NG0)); have Tp6 := ErSl.setFar p6 (fun k o e => Nat.lt_of_lt_of_le ZL1 (l6 k o e)) u; unfold setS at Tp6; (try dsimp only at Tp6); obtain ⟨KT, OB⟩ := OV; unfold setS at OB KT; (try dsimp only at OB KT)) | (have K1b := K1.below (below_one v1 (.cells #[.int .i64 0, .int .i64 0, .slice none 0 0, .slice none 0 0, .slice none 0 0, .slice none 0 0] 39)); have OB : SB w v1.heap.size 39 u (v1.alloc (.cells #[.int .i64 u.now, .int .i64 u.hor, .slice u.oa u.op.length u.oc, .slice u.ua u.us.length u.uc, .slice u.sa u.su.length u.sc, .slice u.ta u.tb.length u.tc] 39)) := SB.new K1.y.frame hu 39; have KT := K1.below (below_one v1 (.cells #[.int .i64 u.now, .int .i64 u.hor, .slice u.oa u.op.length u.oc, .slice u.ua u.us.length u.uc, .slice u.sa u.su.length u.sc, .slice u.ta u.tb.length u.tc] 39)); have NE := Lib.hid NG1; have Tp6 := p6.below (below_one v1 (.cells #[.int .i64 u.now, .int .i64 u.hor, .slice u.oa u.op.length u.oc, .slice u.ua u.us.length u.uc, .slice u.sa u.su.length u.sc, .slice u.ta u.tb.length u.tc] 39))))))
      all_goals
       have TK := Lib.hid KT
       have TO := Lib.hid OB
       replace Tp6 := Lib.hid Tp6
       clear KT OB K0 K0b Z0b NG0
       clear K1 NG1 h1
       (try clear K1b)
       (try clear Z1b)
       (try clear Z1)
       (try clear ZL1)
       (try clear z0 z1 z2 z3 z4 z5 f0 f1 f2 f3 f4 f5 hzl)
       clear hu p6 l6 NE
       (first
        | (generalize ((((((v1.setCell ⟨wr.heap.size, 0, none⟩ (.int .i64 u.now)).setCell ⟨wr.heap.size, 1, none⟩ (.int .i64 u.hor)).setCell ⟨wr.heap.size, 2, none⟩ (.slice u.oa u.op.length u.oc)).setCell ⟨wr.heap.size, 3, none⟩ (.slice u.ua u.us.length u.uc)).setCell ⟨wr.heap.size, 4, none⟩ (.slice u.sa u.su.length u.sc)).setCell ⟨wr.heap.size, 5, none⟩ (.slice u.ta u.tb.length u.tc)) = T6 at *; generalize wr.heap.size = g4 at *; (have hseen : SB w g4 39 u T6 := TO.out; clear hseen))
        | (generalize v1.alloc (.cells #[.int .i64 u.now, .int .i64 u.hor, .slice u.oa u.op.length u.oc, .slice u.ua u.us.length u.uc, .slice u.sa u.su.length u.sc, .slice u.ta u.tb.length u.tc] 39) = T6 at *; generalize v1.heap.size = g4 at *; (have hseen : SB w g4 39 u T6 := TO.out; clear hseen)))
       exact main T6 g4 u b6 q6 ⟨TK.out, TO.out, Tp6.out, hum, le6⟩
     ·intro T6 g4 u b6 q6 hF
      clear HSC HBL KK cy0 cy1 cy2 cy3 cy4 cy5 cz0 cz1 cz2 cz3 cz4 cz5 cv0 cv1 cv2 cv3 cv4 cv5
      obtain ⟨TK, TO, Tp6, hum, le6⟩ := hF
      obtain ⟨b1', hs2, hev⟩ := HCB.out
      have HEV := Lib.hid hev
      obtain ⟨B6, hB6⟩ : ∃ B, B = T6.heap.size := ⟨_, rfl⟩
      have KK : FjK w g1 g2 y z b1 l b4 E g3 v g4 u b6 E1 B6 T6 := ⟨TK.y, TK.z, TK.n, TK.e, TK.v, TO, hB6 ▸ ErB.of Tp6⟩
      clear TK TO Tp6 hB6 hev HCB hs1 HFH
      have HSC : Hid (∀ V, FjK w g1 g2 y z b1 l b4 E g3 v g4 u b6 E1 B6 V → V.cell? ⟨g1, 0, none⟩ = some (.int .i64 y.now) ∧ V.cell? ⟨g1, 1, none⟩ = some (.int .i64 y.hor) ∧ V.cell? ⟨g1, 2, none⟩ = some (.slice y.oa y.op.length y.oc) ∧ V.cell? ⟨g1, 3, none⟩ = some (.slice y.ua y.us.length y.uc) ∧ V.cell? ⟨g1, 4, none⟩ = some (.slice y.sa y.su.length y.sc) ∧ V.cell? ⟨g1, 5, none⟩ = some (.slice y.ta y.tb.length y.tc) ∧ V.cell? ⟨g2, 0, none⟩ = some (.int .i64 z.now) ∧ V.cell? ⟨g2, 1, none⟩ = some (.int .i64 z.hor) ∧ V.cell? ⟨g2, 2, none⟩ = some (.slice z.oa z.op.length z.oc) ∧ V.cell? ⟨g2, 3, none⟩ = some (.slice z.ua z.us.length z.uc) ∧ V.cell? ⟨g2, 4, none⟩ = some (.slice z.sa z.su.length z.sc) ∧ V.cell? ⟨g2, 5, none⟩ = some (.slice z.ta z.tb.length z.tc) ∧ V.cell? ⟨g3, 0, none⟩ = some (.int .i64 v.now) ∧ V.cell? ⟨g3, 1, none⟩ = some (.int .i64 v.hor) ∧ V.cell? ⟨g3, 2, none⟩ = some (.slice v.oa v.op.length v.oc) ∧ V.cell? ⟨g3, 3, none⟩ = some (.slice v.ua v.us.length v.uc) ∧ V.cell? ⟨g3, 4, none⟩ = some (.slice v.sa v.su.length v.sc) ∧ V.cell? ⟨g3, 5, none⟩ = some (.slice v.ta v.tb.length v.tc) ∧ V.cell? ⟨g4, 0, none⟩ = some (.int .i64 u.now) ∧ V.cell? ⟨g4, 1, none⟩ = some (.int .i64 u.hor) ∧ V.cell? ⟨g4, 2, none⟩ = some (.slice u.oa u.op.length u.oc) ∧ V.cell? ⟨g4, 3, none⟩ = some (.slice u.ua u.us.length u.uc) ∧ V.cell? ⟨g4, 4, none⟩ = some (.slice u.sa u.su.length u.sc) ∧ V.cell? ⟨g4, 5, none⟩ = some (.slice u.ta u.tb.length u.tc)) := Lib.hid fun V h => by
       obtain ⟨y0, y1, y2, y3, y4, y5⟩ := h.y.cells
       obtain ⟨z0, z1, z2, z3, z4, z5⟩ := h.z.cells
       obtain ⟨v0, v1, v2, v3, v4, v5⟩ := h.v.cells
       obtain ⟨u0, u1, u2, u3, u4, u5⟩ := h.u.cells
       exact ⟨y0, y1, y2, y3, y4, y5, z0, z1, z2, z3, z4, z5, v0, v1, v2, v3, v4, v5, u0, u1, u2, u3, u4, u5⟩
      have HBL : Hid (∀ V V', FjK w g1 g2 y z b1 l b4 E g3 v g4 u b6 E1 B6 V → Below V.heap.size V V' → FjK w g1 g2 y z b1 l b4 E g3 v g4 u b6 E1 B6 V') := Lib.hid fun V V' h q => h.below q
      obtain ⟨cy0, cy1, cy2, cy3, cy4, cy5, cz0, cz1, cz2, cz3, cz4, cz5, cv0, cv1, cv2, cv3, cv4, cv5, cu0, cu1, cu2, cu3, cu4, cu5⟩ := HSC.out _ KK
      go_wp2_with fail
      apply funnel5 (F := fun T7 g5 o b7 q7 => FjK w g1 g2 y z b1 l b4 E g3 v g4 u b6 E1 B6 T7 ∧ SB w g5 39 o T7 ∧ ErSl T7 b7 E2 ∧ o.m = N)
      ·intro main
       have K0 := KK.below (Below.refl T6.heap.size T6).drew
       have K0b := (KK.below (below_one T6 (.cells #[.int .i64 0, .int .i64 0, .slice none 0 0, .slice none 0 0, .slice none 0 0, .slice none 0 0] 39))).below (Below.refl _ _).drew
       have Z0b : SB w T6.heap.size 39 saO (T6.alloc (.cells #[.int .i64 0, .int .i64 0, .slice none 0 0, .slice none 0 0, .slice none 0 0, .slice none 0 0] 39)).drew := SB.drew (SB.new KK.y.frame (SaAt.zero T6) 39)
       have NG0 : g1 ≠ T6.heap.size ∧ g2 ≠ T6.heap.size ∧ g2 ≤ T6.heap.size ∧ g3 ≠ T6.heap.size ∧ g4 ≠ T6.heap.size ∧ B6 ≤ T6.heap.size := ⟨Nat.ne_of_lt KK.y.lt, Nat.ne_of_lt KK.z.lt, KK.e.sz, Nat.ne_of_lt KK.v.lt, Nat.ne_of_lt KK.u.lt, KK.f.sz⟩
       go_region_held3 (fun V => V.cell? ⟨g1, 0, none⟩ = some (.int .i64 y.now) ∧ V.cell? ⟨g1, 1, none⟩ = some (.int .i64 y.hor) ∧ V.cell? ⟨g1, 2, none⟩ = some (.slice y.oa y.op.length y.oc) ∧ V.cell? ⟨g1, 3, none⟩ = some (.slice y.ua y.us.length y.uc) ∧ V.cell? ⟨g1, 4, none⟩ = some (.slice y.sa y.su.length y.sc) ∧ V.cell? ⟨g1, 5, none⟩ = some (.slice y.ta y.tb.length y.tc) ∧ V.cell? ⟨g2, 0, none⟩ = some (.int .i64 z.now) ∧ V.cell? ⟨g2, 1, none⟩ = some (.int .i64 z.hor) ∧ V.cell? ⟨g2, 2, none⟩ = some (.slice z.oa z.op.length z.oc) ∧ V.cell? ⟨g2, 3, none⟩ = some (.slice z.ua z.us.length z.uc) ∧ V.cell? ⟨g2, 4, none⟩ = some (.slice z.sa z.su.length z.sc) ∧ V.cell? ⟨g2, 5, none⟩ = some (.slice z.ta z.tb.length z.tc) ∧ V.cell? ⟨g3, 0, none⟩ = some (.int .i64 v.now) ∧ V.cell? ⟨g3, 1, none⟩ = some (.int .i64 v.hor) ∧ V.cell? ⟨g3, 2, none⟩ = some (.slice v.oa v.op.length v.oc) ∧ V.cell? ⟨g3, 3, none⟩ = some (.slice v.ua v.us.length v.uc) ∧ V.cell? ⟨g3, 4, none⟩ = some (.slice v.sa v.su.length v.sc) ∧ V.cell? ⟨g3, 5, none⟩ = some (.slice v.ta v.tb.length v.tc) ∧ V.cell? ⟨g4, 0, none⟩ = some (.int .i64 u.now) ∧ V.cell? ⟨g4, 1, none⟩ = some (.int .i64 u.hor) ∧ V.cell? ⟨g4, 2, none⟩ = some (.slice u.oa u.op.length u.oc) ∧ V.cell? ⟨g4, 3, none⟩ = some (.slice u.ua u.us.length u.uc) ∧ V.cell? ⟨g4, 4, none⟩ = some (.slice u.sa u.su.length u.sc) ∧ V.cell? ⟨g4, 5, none⟩ = some (.slice u.ta u.tb.length u.tc))
        (first | with_reducible exact HSC.out _ KT | with_reducible exact HSC.out _ K1b | with_reducible exact HSC.out _ K1 | with_reducible exact HSC.out _ K0b | with_reducible exact HSC.out _ K0)
        (first | (have hseen := K0; clear hseen; go_at_call 22; (first | ((try have ZL1 := Z0.lt); refine (HFR.out u hum b1' _ _ K0.u.at_ (HEV.out _ K0.n)).mono ?_; rintro r v1 ⟨o, b7, q7, rfl, ho, hom, p7, le7, qm7, l7, h1⟩; have K1 := HBL.out _ _ K0 h1; (try have Z1 := Z0.below h1)) | (have ZL1 := Z0b.lt; refine (HFR.out u hum b1' _ _ K0b.u.at_ (HEV.out _ K0b.n)).mono ?_; rintro r v1 ⟨o, b7, q7, rfl, ho, hom, p7, le7, qm7, l7, h1⟩; have K1 := HBL.out _ _ K0b h1; have Z1 := Z0b.below h1)); have NG1 : g1 ≠ v1.heap.size ∧ g2 ≠ v1.heap.size ∧ g2 ≤ v1.heap.size ∧ g3 ≠ v1.heap.size ∧ g4 ≠ v1.heap.size ∧ B6 ≤ v1.heap.size := ⟨Nat.ne_of_lt K1.y.lt, Nat.ne_of_lt K1.z.lt, K1.e.sz, Nat.ne_of_lt K1.v.lt, Nat.ne_of_lt K1.u.lt, K1.f.sz⟩; (first | (have hzz := Z1; unfold saO at hzz; obtain ⟨z0, z1, z2, z3, z4, z5⟩ := hzz.cells; obtain ⟨f0, f1, f2, f3, f4, f5⟩ := hzz.free; have hzl := hzz.lt; dsimp only [List.length_nil] at z0 z1 z2 z3 z4 z5; clear hzz; (first | (have OV := K1.over Z1 ho NG0.1 NG0.2.1 NG0.2.2.1 NG0.2.2.2.1 NG0.2.2.2.2.1 NG0.2.2.2.2.2; have NE := Lib.hid NG0)); have Tp7 := ErSl.setFar p7 (fun k o e => Nat.lt_of_lt_of_le ZL1 (l7 k o e)) o; unfold setS at Tp7; (try dsimp only at Tp7); obtain ⟨KT, OB⟩ := OV; unfold setS at OB KT; (try dsimp only at OB KT)) | (have K1b := K1.below (below_one v1 (.cells #[.int .i64 0, .int .i64 0, .slice none 0 0, .slice none 0 0, .slice none 0 0, .slice none 0 0] 39)); have OB : SB w v1.heap.size 39 o (v1.alloc (.cells #[.int .i64 o.now, .int .i64 o.hor, .slice o.oa o.op.length o.oc, .slice o.ua o.us.length o.uc, .slice o.sa o.su.length o.sc, .slice o.ta o.tb.length o.tc] 39)) := SB.new K1.y.frame ho 39; have KT := K1.below (below_one v1 (.cells #[.int .i64 o.now, .int .i64 o.hor, .slice o.oa o.op.length o.oc, .slice o.ua o.us.length o.uc, .slice o.sa o.su.length o.sc, .slice o.ta o.tb.length o.tc] 39)); have NE := Lib.hid NG1; have Tp7 := p7.below (below_one v1 (.cells #[.int .i64 o.now, .int .i64 o.hor, .slice o.oa o.op.length o.oc, .slice o.ua o.us.length o.uc, .slice o.sa o.su.length o.sc, .slice o.ta o.tb.length o.tc] 39))))))
       all_goals
        have TK := Lib.hid KT
        have TO := Lib.hid OB
        replace Tp7 := Lib.hid Tp7
        clear KT OB K0 K0b Z0b NG0
        clear K1 NG1 h1
        (try clear K1b)
        (try clear Z1b)
        (try clear Z1)
        (try clear ZL1)
        (try clear z0 z1 z2 z3 z4 z5 f0 f1 f2 f3 f4 f5 hzl)
        clear ho p7 l7 NE
        (first
         | (generalize ((((((v1.setCell ⟨T6.heap.size, 0, none⟩ (.int .i64 o.now)).setCell ⟨T6.heap.size, 1, none⟩ (.int .i64 o.hor)).setCell ⟨T6.heap.size, 2, none⟩ (.slice o.oa o.op.length o.oc)).setCell ⟨T6.heap.size, 3, none⟩ (.slice o.ua o.us.length o.uc)).setCell ⟨T6.heap.size, 4, none⟩ (.slice o.sa o.su.length o.sc)).setCell ⟨T6.heap.size, 5, none⟩ (.slice o.ta o.tb.length o.tc)) = T7 at *; generalize T6.heap.size = g5 at *; (have hseen : SB w g5 39 o T7 := TO.out; clear hseen))
         | (generalize v1.alloc (.cells #[.int .i64 o.now, .int .i64 o.hor, .slice o.oa o.op.length o.oc, .slice o.ua o.us.length o.uc, .slice o.sa o.su.length o.sc, .slice o.ta o.tb.length o.tc] 39) = T7 at *; generalize v1.heap.size = g5 at *; (have hseen : SB w g5 39 o T7 := TO.out; clear hseen)))
        exact main T7 g5 o b7 q7 ⟨TK.out, TO.out, Tp7.out, hom⟩
      ·intro T7 g5 o b7 q7 hF
       clear HSC HBL KK cy0 cy1 cy2 cy3 cy4 cy5 cz0 cz1 cz2 cz3 cz4 cz5 cv0 cv1 cv2 cv3 cv4 cv5 cu0 cu1 cu2 cu3 cu4 cu5
       obtain ⟨TK, TO, Tp7, hom⟩ := hF
       replace TK := Lib.hid TK
       replace TO := Lib.hid TO
       replace Tp7 := Lib.hid Tp7
       clear HFR HEV hs2
       obtain ⟨cv0, cv1, cv2, cv3, cv4, cv5⟩ := TK.out.v.cells
       obtain ⟨cz0, cz1, cz2, cz3, cz4, cz5⟩ := TK.out.z.cells
       obtain ⟨co0, co1, co2, co3, co4, co5⟩ := TO.out.cells
       go_wp2_with fail
       refine (HAL.out _).mono ?_
       rintro r x1 ⟨rfl, h1⟩
       clear cv0 cv1 cv2 cv3 cv4 cv5 cz0 cz1 cz2 cz3 cz4 cz5 co0 co1 co2 co3 co4 co5
       replace TK := Lib.hid (TK.out.below h1)
       replace TO := Lib.hid (TO.out.below h1)
       replace Tp7 := Lib.hid (Tp7.out.below h1)
       clear h1
       obtain ⟨cv0, cv1, cv2, cv3, cv4, cv5⟩ := TK.out.v.cells
       obtain ⟨cz0, cz1, cz2, cz3, cz4, cz5⟩ := TK.out.z.cells
       obtain ⟨co0, co1, co2, co3, co4, co5⟩ := TO.out.cells
       go_wp2_with fail
       refine (HSM.out v z _ TK.out.v.at_ TK.out.z.at_ hvm hzm).mono ?_
       rintro r x2 ⟨rfl, h2⟩
       clear cv0 cv1 cv2 cv3 cv4 cv5 cz0 cz1 cz2 cz3 cz4 cz5 co0 co1 co2 co3 co4 co5
       replace TK := Lib.hid (TK.out.below h2)
       replace TO := Lib.hid (TO.out.below h2)
       replace Tp7 := Lib.hid (Tp7.out.below h2)
       clear h2
       obtain ⟨cv0, cv1, cv2, cv3, cv4, cv5⟩ := TK.out.v.cells
       obtain ⟨cz0, cz1, cz2, cz3, cz4, cz5⟩ := TK.out.z.cells
       obtain ⟨co0, co1, co2, co3, co4, co5⟩ := TO.out.cells
       go_wp2_with fail
       refine (HSM.out o z _ TO.out.at_ TK.out.z.at_ hom hzm).mono ?_
       rintro r x3 ⟨rfl, h3⟩
       clear cv0 cv1 cv2 cv3 cv4 cv5 cz0 cz1 cz2 cz3 cz4 cz5 co0 co1 co2 co3 co4 co5
       replace TK := Lib.hid (TK.out.below h3)
       replace TO := Lib.hid (TO.out.below h3)
       replace Tp7 := Lib.hid (Tp7.out.below h3)
       clear h3
       have hs3 := er_cut b6 E1.length q6 le6
       have HRF := Lib.hid TK.out.f.row
       have HRE := Lib.hid TK.out.e.row
       have HF := Lib.hid TO.out.frame
       have HJL := Lib.hid HLE1.out.1
       have HJB : Hid (E1.length + E2.length ≤ 1000000) := Lib.hid (by have := HLE1.out; omega)
       clear TK TO HLE1 HSM HAL
       go_wp2_with (at_builtin; refine wpList_unguard12 (by rfl) ?_; refine wpList_join_er _ (.tmp 103) (.tmp 104) rfl rfl b6 b7 E1 E2 q7 rfl rfl HRF.out Tp7.out HJB.out ?_; intro xx qq x4 hx hB4; rw [HJL.out])
       have HX := Lib.hid hx
       rw [HEJ.out] at HX
       replace HRE := Lib.hid (HRE.out.below hB4)
       replace HF := Lib.hid (HF.out.trans (hB4.mono HF.out.size))
       clear hx hB4 hs3 HRF Tp7 HJL HJB HEJ
       refine (HTD.out xx b4 qq q4 _ HX.out HRE.out).mono ?_
       rintro r x5 ⟨rfl, h5⟩
       replace HF := Lib.hid (HF.out.trans (h5.mono HF.out.size))
       clear h5 HX HRE HTD
       go_wp2
       go_ret
       exact ⟨rfl, HF.out⟩
theorem contract (H : Type) (enc : TypeId × Value → H) (W : World) (base : Nat) (args : Array Value) (ds gs : List (DataW H)) (before : List MemPlace)
  (hval : ∀ (j : Nat) t v, Tryz.f4.params[j]? = some t → args[j]? = some v → Value.okWide Tryz.prog W .any base t v)
  (hW : DataW.Whole enc Tryz.prog Tryz.f4.params.toList Rows.foldAgainSpec.vars false W args.toList ds gs before) (hk : Rows.uptoSmall H (ds ++ gs) = true) :
  Calls Tryz.prog 4 args W fun e W' => ∃ v, e = .returned v ∧ Rows.foldAgainSpec.post enc Tryz.prog Tryz.f4 false true false false W args v W' := by
 have hW' := hW
 obtain ⟨p, q, hA0, hV, rfl, hfz, hnd⟩ := hW
 have hA : DataW.TrodAll enc Tryz.prog W 0 (fun _ => true) true Tryz.f4.params.toList args.toList ds p := hA0
 rw [Tryz.params4] at hA hval
 obtain ⟨v0, vs0, d0, ds0, p0, q0, hargs, rfl, rfl, h0, r0⟩ := trodAll_cons hA
 obtain ⟨v1, vs1, d1, ds1, p1, q1, rfl, rfl, rfl, h1, r1⟩ := trodAll_cons r0
 obtain ⟨v2, vs2, d2, ds2, p2, q2, rfl, rfl, rfl, h2, r2⟩ := trodAll_cons r1
 obtain ⟨rfl, rfl, rfl⟩ := trodAll_nil r2
 obtain rfl : args = #[v0, v1, v2] := by cases args; simp_all
 obtain ⟨rfl, rfl⟩ := trodVars_none hV
 have hbk : Rows.uptoBulkAll [d0, d1, d2] ≤ 1048576 := of_decide_eq_true hk
 simp only [Rows.uptoBulkAll] at hbk
 obtain ⟨a0, rfl, s0, z0, b0⟩ := open_state (hval 0 27 v0 rfl rfl) h0
 have u0 : stCnt a0.m + a0.us.length ≤ 1048576 := by omega
 obtain ⟨a1, c1, l1, rfl, s1, f1, m1, n1, o1⟩ := open_events (hval 1 28 v1 rfl rfl) h1
 obtain ⟨a2, rfl, -, -, w2⟩ := open_int Tryz.underlying3 (hval 2 3 v2 rfl rfl) h2
 refine (walk W a0 s0 z0 u0 a1 c1 l1 s1 f1 m1 n1 o1 a2 w2).mono fun e W' ⟨he, hb⟩ => ?_
 subst he
 exact ⟨_, rfl, law_post rfl hW' (fun ds h => by match ds, h with | [_, _, _], _ => rfl) (by kernel_rfl) (by kernel_rfl) (by kernel_rfl) hb⟩

set_option maxRecDepth 100000 in
theorem lifted (os : Os) (started : os.Started) (H : Type) (enc : TypeId × Value → H) (F : Stop.Interp) :
  ReturnsInHanded {} Tryz.checked os 4 .any ((Rows.OpenSpec.upto Rows.foldAgainSpec).pre6 enc Tryz.prog Tryz.f4 Rows.foldAgainUptoRow.domain false) (((Rows.OpenSpec.upto Rows.foldAgainSpec).at F).post enc Tryz.prog Tryz.f4 false true false false) := by
 refine returnsInHanded_of_cond (C := Tryz.checked) (s := (Rows.OpenSpec.upto Rows.foldAgainSpec)) (k := Rows.uptoSmall) rfl own started (by kernel_rfl) Tryz.func4
  (OpenSpec.witness (enc := enc) (C := Tryz.checked) (s := (Rows.OpenSpec.upto Rows.foldAgainSpec)) (k := Rows.uptoSmall) rfl false ⟨#[], #[.agg #[.int .i64 0, .int .i64 0, .slice none 0 0, .slice none 0 0, .slice none 0 0, .slice none 0 0], .slice none 0 0, .int .i64 0], []⟩ 8 (by kernel_rfl) (by kernel_rfl) (by kernel_rfl)
   (x := ([.agg [.lit (.int .i64 0), .lit (.int .i64 0), .nil, .nil, .nil, .nil], .nil, .lit (.int .i64 0)], [], [])) (by kernel_rfl) rfl (by kernel_rfl)) ?_
 intro W base args ds gs before hval hW _ hk _
 exact contract H enc W base args ds gs before hval hW hk

theorem proved : Rows.FoldAgainUptoSaid :=
 OpenClaim.holds_of_cond 4 Tryz.f4 rfl rfl rfl rfl rfl rfl rfl ⟨rfl, rfl, rfl, rfl, rfl⟩ rfl rfl rfl rfl rfl (by kernel_rfl) Tryz.func4 closedFoldAgain
  (of_decide_eq_true (by kernel_rfl)) (by unfold Func.isWrapper; first | (rw [if_pos (by decide +kernel)]; kernel_rfl) | (rw [if_neg (by decide +kernel)]; exact ⟨rfl, rfl⟩))
  (fun os started H enc _ F => lifted os started H enc F)
end Go.Proofs.YtapacckmgmdnoaaGreat.foldAgain
