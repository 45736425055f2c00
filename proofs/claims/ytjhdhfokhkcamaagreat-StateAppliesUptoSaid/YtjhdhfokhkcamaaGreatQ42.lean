/- Texts of mine, one behind the other, of each what is wanted. -/
import Derived.Test.YtjhdhfokhkcamaaGreatQ00
import Derived.Test.YtjhdhfokhkcamaaGreatShelf
import Derived.Test.YtjhdhfokhkcamaaGreatRows
import Derived.Test.YtjhdhfokhkcamaaGreatQ01
import Derived.Test.YtjhdhfokhkcamaaGreatQ02
import Derived.Test.YtjhdhfokhkcamaaGreatQ03
import Derived.Test.YtjhdhfokhkcamaaGreatQ05
import Derived.Test.YtjhdhfokhkcamaaGreatQ09
import Derived.Test.YtjhdhfokhkcamaaGreatQ11
import Derived.Test.YtjhdhfokhkcamaaGreatQ12
import Derived.Test.YtjhdhfokhkcamaaGreatQ13
import Derived.Test.YtjhdhfokhkcamaaGreatQ14
import Derived.Test.YtjhdhfokhkcamaaGreatQ17
import Derived.Test.YtjhdhfokhkcamaaGreatQ18
import Derived.Test.YtjhdhfokhkcamaaGreatQ19
import Derived.Test.YtjhdhfokhkcamaaGreatQ21
import Derived.Test.YtjhdhfokhkcamaaGreatQ28
import Derived.Test.YtjhdhfokhkcamaaGreatQ32
import Derived.Test.YtjhdhfokhkcamaaGreatQ33
import Derived.Test.YtjhdhfokhkcamaaGreatQ34
import Derived.Test.YtjhdhfokhkcamaaGreatQ35
import Derived.Test.YtjhdhfokhkcamaaGreatQ36
import Derived.Test.YtjhdhfokhkcamaaGreatQ37
import Derived.Test.YtjhdhfokhkcamaaGreatQ38
import Derived.Test.YtjhdhfokhkcamaaGreatQ41
namespace Go.Proofs.YtjhdhfokhkcamaaGreat
open Go.RowKit Go.Proofs
set_option linter.unusedVariables false
set_option maxRecDepth 100000
set_option maxHeartbeats 8000000 in
theorem rap6 (x : SaL) (a n st : Int) (u o : ByteArray) (w : World) (h : SaAt w x) (hf : Few x.m 400) (hk : RiseK UsM.u (umS x.us)) (ht : RiseK TbM.u x.tb) (hz : SzS x.m) (hu : u.size ≤ maxLen) (ho : o.size ≤ maxLen) (hv : RightV 6 a n st u o) (hle : ¬ a < x.now) :
  Calls Tryz.prog 17 #[saV x, evV ⟨6, a, u, o, n, st⟩] w (Tells w (tellS x.m 6 a n st u o) (errS x.m 6 a n st u o)) := by
 obtain ⟨HK, HE, HZ⟩ := three_SB h ⟨6, a, u, o, n, st⟩ 27 29 27
 have HR := Lib.hid (fun V => evrefRight_any ⟨6, a, u, o, n, st⟩ ⟨hu, ho⟩ V)
 rw [(rightE_iff 6 a n st u o).2 hv] at HR
 have hus : ∀ y ∈ x.us, y.u.size ≤ maxLen := fun y hy => hz.us y.m (List.mem_map_of_mem hy)
 obtain ⟨hes, htg, htz⟩ := tellS_ok hv (show ¬ a < x.m.now from hle)
 rw [hes]
 obtain ⟨now, hor, oa, op, oc, ua, us, uc, sa, su, sc, ta, tb, tc⟩ := x
 have herr : errK (⟨now, hor, oa, op, oc, ua, us, uc, sa, su, sc, ta, tb, tc⟩ : SaL).m 6 a n st u o = 0 := rfl
 have hym : (⟨a, max hor n, oa, op, oc, ua, us, uc, sa, su, sc, ta, tb, tc⟩ : SaL).m = tellS (⟨now, hor, oa, op, oc, ua, us, uc, sa, su, sc, ta, tb, tc⟩ : SaL).m 6 a n st u o := by rw [htg herr]; rfl
 rw [herr]
 generalize tellS _ 6 a n st u o = R at *
 have HS := Lib.hid HK
 have HZZ := Lib.hid HZ
 have HEE := Lib.hid HE
 obtain ⟨c0, c1, c2, c3, c4, c5⟩ := HK.cells
 obtain ⟨⟨e0, e1, e2, e3, e4, e5⟩, -⟩ := cells6 HE.blk
 unfold saV evV saC at *
 dsimp only at *
 clear h hf HK HZ HE hv hus hk ht hz hu ho htg htz herr hes
 go_enter Tryz.func17, Tryz.ntmps17
 go_wp2_with fail
 refine (HR.out _).mono ?_
 rintro e w1 ⟨rfl, h1⟩
 have hbp := below_one w1 (.cells #[.string u, .string o] 96)
 have PB := pcell2 (heap_alloc_new w1 (.cells #[.string u, .string o] 96))
 have A0 := HS.out.below h1
 have E0 := HEE.out.below h1
 have A1 := A0.below hbp
 have B1 := (HZZ.out.below h1).below hbp
 have E1 := E0.below hbp
 clear c0 c1 c2 c3 c4 c5 e0 e1 e2 e3 e4 e5
 obtain ⟨b0, b1, b2, b3, b4, b5⟩ := A0.cells
 obtain ⟨⟨m0, m1, m2, m3, m4, m5⟩, -⟩ := cells6 E0.blk
 obtain ⟨c0, c1, c2, c3, c4, c5⟩ := A1.cells
 obtain ⟨⟨e0, e1, e2, e3, e4, e5⟩, -⟩ := cells6 E1.blk
 obtain ⟨p0, p1⟩ := PB
 have HS1 := Lib.hid A1
 have HZ1 := Lib.hid B1
 have HE1 := Lib.hid E1
 dsimp only at *
 clear HS HZZ HEE A0 E0 A1 B1 E1 hbp h1 HR
 go_upto_region 17 with fail
 clear b0 b1 b2 b3 b4 b5 m0 m1 m2 m3 m4 m5
 generalize hW : w1.alloc _ = W1 at *
 clear hW c0 c1 c2 c3 c4 c5 e0 e1 e2 e3 e4 e5
 have A2 := HS1.out.setHor (max hor n)
 have B2 := HZ1.out.far HS1.out (by omega) 1 (.int .i64 (max hor n))
 have E2 := HE1.out.far (i := 1) (v := .int .i64 (max hor n)) (show w.heap.size + 1 ≠ w.heap.size by omega)
 obtain ⟨c0, c1, c2, c3, c4, c5⟩ := HS1.out.cells
 obtain ⟨f0, f1, f2, f3, f4, f5⟩ := HS1.out.free
 obtain ⟨⟨m0, m1, m2, m3, m4, m5⟩, -⟩ := cells6 HE1.out.blk
 have hg2 := HS1.out.lt
 dsimp only at *
 have A8 := A2.setNow a
 have B8 := B2.far A2 (by omega) 0 (.int .i64 a)
 have hfin := A8.finR B8
 obtain ⟨d0, d1, d2, d3, d4, d5⟩ := A8.cells
 obtain ⟨z0, z1, z2, z3, z4, z5⟩ := B8.cells
 obtain ⟨y0, y1, y2, y3, y4, y5⟩ := B8.free
 obtain ⟨g0, g1, g2, g3, g4, g5⟩ := A2.free
 obtain ⟨r0, r1, r2, r3, r4, r5⟩ := A2.cells
 obtain ⟨⟨e0, e1, e2, e3, e4, e5⟩, -⟩ := cells6 E2.blk
 have hzl := B8.lt
 have hgl := A2.lt
 have HL := Lib.hid hfin.1
 have HFN := Lib.hid (And.intro hfin.2.1 (And.intro hym hfin.2.2))
 unfold setS saV saC at HL
 (try unfold setS at *)
 unfold saO at z0 z1 z2 z3 z4 z5
 dsimp only at *
 clear A8 B8 hfin A2 B2 E2 hym HS1 HZ1 HE1
 go_wp2
 refine bodyPost_ret (v := .tuple #[saV ⟨a, max hor n, oa, op, oc, ua, us, uc, sa, su, sc, ta, tb, tc⟩, .int .i64 0]) ?_ rfl ⟨_, rfl, HFN.out⟩
 rw [results_cellT rfl]
 unfold saV saC
 simp [asAddr, Result.andThen, HL.out]
set_option maxHeartbeats 1000000 in
theorem rap7 (x : SaL) (a n st : Int) (u o : ByteArray) (w : World) (h : SaAt w x) (hf : Few x.m 400) (hk : RiseK UsM.u (umS x.us)) (ht : RiseK TbM.u x.tb) (hz : SzS x.m) (hu : u.size ≤ maxLen) (ho : o.size ≤ maxLen) (hv : RightV 7 a n st u o) (hle : ¬ a < x.now) :
  Calls Tryz.prog 17 #[saV x, evV ⟨7, a, u, o, n, st⟩] w (Tells w (tellS x.m 7 a n st u o) (errS x.m 7 a n st u o)) := by
 obtain ⟨HK, HE, HZ⟩ := three_SB h ⟨7, a, u, o, n, st⟩ 27 29 27
 have HR := Lib.hid (fun V => evrefRight_any ⟨7, a, u, o, n, st⟩ ⟨hu, ho⟩ V)
 rw [(rightE_iff 7 a n st u o).2 hv] at HR
 have hus : ∀ y ∈ x.us, y.u.size ≤ maxLen := fun y hy => hz.us y.m (List.mem_map_of_mem hy)
 obtain ⟨hes, htg, htz⟩ := tellS_ok hv (show ¬ a < x.m.now from hle)
 rw [hes]
 obtain ⟨now, hor, oa, op, oc, ua, us, uc, sa, su, sc, ta, tb, tc⟩ := x
 have herr : errK (⟨now, hor, oa, op, oc, ua, us, uc, sa, su, sc, ta, tb, tc⟩ : SaL).m 7 a n st u o = 0 := rfl
 have htl := htg herr
 rw [herr]
 have HWO := Lib.hid (fun V (h : OpSl V oa op) => o_rwithout oa oc op u V h (Nat.le_trans hf.op (by decide)))
 have HWE := Lib.hid (fun V (h : EnSl V sa su) => e_rwithout sa sc su u V h (Nat.le_trans hf.su (by decide)))
 have HPU := Lib.hid (fun V (h : UsSl V ua us) => rput_any ua uc us u none 0 [] V h ⟨StSl.nil _ _, Nat.le_refl _, Nat.zero_le _, fun _ => rfl⟩ hk (by have := few_us hf; dsimp only at this; omega) hu hus)
 have HTB := Lib.hid (fun V (h : TbSl V ta tb) => rtombs_any ta tc tb u a V h ht (Nat.le_trans hf.tb (by decide)) hu hz.tb)
 have hgo : goS (⟨now, hor, oa, op, oc, ua, us, uc, sa, su, sc, ta, tb, tc⟩ : SaL).m 7 a n st u o = ⟨a, hor, op.filter (notU u), putU (umS us) u [], withoutS su u, tombU tb u a⟩ := rfl
 have HRT : Hid (∀ y : SaL, y.m = ⟨a, hor, op.filter (notU u), putU (umS us) u [], withoutS su u, tombU tb u a⟩ → y.m = tellS (⟨now, hor, oa, op, oc, ua, us, uc, sa, su, sc, ta, tb, tc⟩ : SaL).m 7 a n st u o) := fun y hy => by rw [hy, htl, hgo]
 clear hgo
 generalize tellS _ 7 a n st u o = R at *
 have HS := Lib.hid HK
 have HZZ := Lib.hid HZ
 have HEE := Lib.hid HE
 obtain ⟨c0, c1, c2, c3, c4, c5⟩ := HK.cells
 obtain ⟨⟨e0, e1, e2, e3, e4, e5⟩, -⟩ := cells6 HE.blk
 unfold saV evV saC at *
 dsimp only at *
 clear h hf HK HZ HE hv hus hk ht hz hu ho htg htz herr hes htl
 go_enter Tryz.func17, Tryz.ntmps17
 go_wp2_with fail
 refine (HR.out _).mono ?_
 rintro e w1 ⟨rfl, h1⟩
 have hbp := below_one w1 (.cells #[.string u, .string o] 96)
 have PB := pcell2 (heap_alloc_new w1 (.cells #[.string u, .string o] 96))
 have A0 := HS.out.below h1
 have E0 := HEE.out.below h1
 have A1 := A0.below hbp
 have B1 := (HZZ.out.below h1).below hbp
 have E1 := E0.below hbp
 clear c0 c1 c2 c3 c4 c5 e0 e1 e2 e3 e4 e5
 obtain ⟨b0, b1, b2, b3, b4, b5⟩ := A0.cells
 obtain ⟨⟨m0, m1, m2, m3, m4, m5⟩, -⟩ := cells6 E0.blk
 obtain ⟨c0, c1, c2, c3, c4, c5⟩ := A1.cells
 obtain ⟨⟨e0, e1, e2, e3, e4, e5⟩, -⟩ := cells6 E1.blk
 obtain ⟨p0, p1⟩ := PB
 have HS1 := Lib.hid A1
 have HZ1 := Lib.hid B1
 have HE1 := Lib.hid E1
 dsimp only at *
 clear HS HZZ HEE A0 E0 A1 B1 E1 hbp h1 HR
 go_wp2_with fail
 refine (HWO.out _ HS1.out.at_.op).mono ?_
 rintro e w2 ⟨x1, q1, rfl, i1, j1, k1, l1, h2⟩
 have A2 := HS1.out.below h2
 have B2 := HZ1.out.below h2
 have E2 := HE1.out.below h2
 have A3 := A2.setOp rfl l1 ⟨i1, j1, k1⟩
 have B3 := B2.far A2 (by omega) 2 (.slice x1 (op.filter (notU u)).length q1)
 have E3 := E2.far (i := 2) (v := .slice x1 (op.filter (notU u)).length q1) (show w.heap.size + 1 ≠ w.heap.size by omega)
 clear b0 b1 b2 b3 b4 b5 m0 m1 m2 m3 m4 m5 c0 c1 c2 c3 c4 c5 e0 e1 e2 e3 e4 e5 p0 p1
 obtain ⟨f0, f1, f2, f3, f4, f5⟩ := A2.free
 have hg2 := A2.lt
 obtain ⟨c0, c1, c2, c3, c4, c5⟩ := A3.cells
 obtain ⟨⟨e0, e1, e2, e3, e4, e5⟩, -⟩ := cells6 E3.blk
 obtain ⟨b0, b1, b2, b3, b4, b5⟩ := A2.cells
 have HS2 := Lib.hid A3
 have HZ2 := Lib.hid B3
 have HE2 := Lib.hid E3
 dsimp only at *
 clear A2 B2 E2 A3 B3 E3 HS1 HZ1 HE1 h2 HWO l1 i1 j1 k1
 go_wp2_with fail
 refine (HWE.out _ HS2.out.at_.su).mono ?_
 rintro e w3 ⟨x2, q2, rfl, i1, j1, k1, l1, h2⟩
 have A2 := HS2.out.below h2
 have B2 := HZ2.out.below h2
 have E2 := HE2.out.below h2
 have A3 := A2.setSu rfl l1 ⟨i1, j1, k1⟩
 have B3 := B2.far A2 (by omega) 4 (.slice x2 (su.filter (wiE u)).length q2)
 have E3 := E2.far (i := 4) (v := .slice x2 (su.filter (wiE u)).length q2) (show w.heap.size + 1 ≠ w.heap.size by omega)
 clear f0 f1 f2 f3 f4 f5 hg2 c0 c1 c2 c3 c4 c5 e0 e1 e2 e3 e4 e5 b0 b1 b2 b3 b4 b5
 obtain ⟨f0, f1, f2, f3, f4, f5⟩ := A2.free
 have hg2 := A2.lt
 obtain ⟨c0, c1, c2, c3, c4, c5⟩ := A3.cells
 obtain ⟨⟨e0, e1, e2, e3, e4, e5⟩, -⟩ := cells6 E3.blk
 obtain ⟨b0, b1, b2, b3, b4, b5⟩ := A2.cells
 have HS3 := Lib.hid A3
 have HZ3 := Lib.hid B3
 have HE3 := Lib.hid E3
 dsimp only at *
 clear A2 B2 E2 A3 B3 E3 HS2 HZ2 HE2 h2 HWE l1 i1 j1 k1
 go_wp2_with fail
 refine (HPU.out _ HS3.out.at_.us).mono ?_
 rintro e w4 ⟨x3, q3, L, rfl, l1, k1, g1, h2⟩
 have A2 := HS3.out.below h2
 have B2 := HZ3.out.below h2
 have E2 := HE3.out.below h2
 have A3 := A2.setUs rfl l1 k1
 have B3 := B2.far A2 (by omega) 3 (.slice x3 L.length q3)
 have E3 := E2.far (i := 3) (v := .slice x3 L.length q3) (show w.heap.size + 1 ≠ w.heap.size by omega)
 have HG := Lib.hid g1
 clear f0 f1 f2 f3 f4 f5 hg2 c0 c1 c2 c3 c4 c5 e0 e1 e2 e3 e4 e5 b0 b1 b2 b3 b4 b5
 obtain ⟨f0, f1, f2, f3, f4, f5⟩ := A2.free
 have hg2 := A2.lt
 obtain ⟨c0, c1, c2, c3, c4, c5⟩ := A3.cells
 obtain ⟨⟨e0, e1, e2, e3, e4, e5⟩, -⟩ := cells6 E3.blk
 obtain ⟨b0, b1, b2, b3, b4, b5⟩ := A2.cells
 have HS4 := Lib.hid A3
 have HZ4 := Lib.hid B3
 have HE4 := Lib.hid E3
 dsimp only at *
 clear A2 B2 E2 A3 B3 E3 HS3 HZ3 HE3 h2 HPU l1 k1 g1
 go_wp2_with fail
 refine (HTB.out _ HS4.out.at_.tb).mono ?_
 rintro e w5 ⟨x4, q4, rfl, l1, k1, h2⟩
 have A2 := HS4.out.below h2
 have B2 := HZ4.out.below h2
 have E2 := HE4.out.below h2
 have A3 := A2.setTb rfl l1 k1
 have B3 := B2.far A2 (by omega) 5 (.slice x4 (tombU tb u a).length q4)
 have E3 := E2.far (i := 5) (v := .slice x4 (tombU tb u a).length q4) (show w.heap.size + 1 ≠ w.heap.size by omega)
 have hym : (⟨a, hor, x1, op.filter (notU u), q1, x3, L, q3, x2, su.filter (wiE u), q2, x4, tombU tb u a, q4⟩ : SaL).m = R := HRT.out _ (by unfold SaL.m; simp only; rw [HG.out]; rfl)
 clear f0 f1 f2 f3 f4 f5 hg2 c0 c1 c2 c3 c4 c5 e0 e1 e2 e3 e4 e5 b0 b1 b2 b3 b4 b5 HRT HG
 obtain ⟨f0, f1, f2, f3, f4, f5⟩ := A2.free
 obtain ⟨c0, c1, c2, c3, c4, c5⟩ := A2.cells
 have hg2 := A2.lt
 dsimp only at *
 clear A2 B2 E2 HS4 HZ4 HE4 h2 HTB l1 k1
 have A8 := A3.setNow a
 have B8 := B3.far A3 (by omega) 0 (.int .i64 a)
 have hfin := A8.finR B8
 obtain ⟨d0, d1, d2, d3, d4, d5⟩ := A8.cells
 obtain ⟨z0, z1, z2, z3, z4, z5⟩ := B8.cells
 obtain ⟨y0, y1, y2, y3, y4, y5⟩ := B8.free
 obtain ⟨g0, g1, g2, g3, g4, g5⟩ := A3.free
 obtain ⟨r0, r1, r2, r3, r4, r5⟩ := A3.cells
 obtain ⟨⟨e0, e1, e2, e3, e4, e5⟩, -⟩ := cells6 E3.blk
 have hzl := B8.lt
 have hgl := A3.lt
 have HL := Lib.hid hfin.1
 have HFN := Lib.hid (And.intro hfin.2.1 (And.intro hym hfin.2.2))
 unfold setS saV saC at HL
 (try unfold setS at *)
 unfold saO at z0 z1 z2 z3 z4 z5
 dsimp only at *
 clear A8 B8 hfin A3 B3 E3 hym
 go_wp2
 refine bodyPost_ret (v := .tuple #[saV ⟨a, hor, x1, op.filter (notU u), q1, x3, L, q3, x2, su.filter (wiE u), q2, x4, tombU tb u a, q4⟩, .int .i64 0]) ?_ rfl ⟨_, rfl, HFN.out⟩
 rw [results_cellT rfl]
 unfold saV saC
 simp [asAddr, Result.andThen, HL.out]
set_option maxHeartbeats 8000000 in
theorem rapply_any (x : SaL) (k a n st : Int) (u o : ByteArray) (w : World) (h : SaAt w x) (hr : RightS x.m) (hc : stCnt x.m ≤ 200) (hz : SzS x.m) (hu : u.size ≤ maxLen) (ho : o.size ≤ maxLen) :
  Calls Tryz.prog 17 #[saV x, evV ⟨k, a, u, o, n, st⟩] w (Tells w (tellS x.m k a n st u o) (errS x.m k a n st u o)) := by
 by_cases hv : RightV k a n st u o
 ·by_cases hlt : a < x.now
  ·obtain ⟨HK, HE, HZ⟩ := three_SB h ⟨k, a, u, o, n, st⟩ 27 29 27
   have HR := Lib.hid (fun V => evrefRight_any ⟨k, a, u, o, n, st⟩ ⟨hu, ho⟩ V)
   have HS := Lib.hid HK
   have HZZ := Lib.hid HZ
   have HEE := Lib.hid HE
   rw [(rightE_iff k a n st u o).2 hv] at HR
   have he : errS x.m k a n st u o = 111 := by unfold errS; rw [if_pos hv, if_pos (show a < x.m.now from hlt)]
   have ht : tellS x.m k a n st u o = saZ := by unfold tellS; rw [he, if_neg (by decide)]
   rw [he, ht]
   obtain ⟨⟨e0, e1, e2, e3, e4, e5⟩, -⟩ := cells6 HE.blk
   obtain ⟨now, hor, oa, op, oc, ua, us, uc, sa, su, sc, ta, tb, tc⟩ := x
   unfold saV evV saC at *
   dsimp only at *
   clear h hr hc HK HZ HE hz
   go_enter Tryz.func17, Tryz.ntmps17
   go_wp2_with fail
   refine (HR.out _).mono ?_
   rintro e w1 ⟨rfl, h1⟩
   have B1 := HZZ.out.below h1
   have A1 := HS.out.below h1
   have hfin := B1.finZR
   clear e0 e1 e2 e3 e4 e5
   obtain ⟨⟨e0, e1, e2, e3, e4, e5⟩, -⟩ := cells6 (HEE.out.below h1).blk
   obtain ⟨c0, c1, c2, c3, c4, c5⟩ := A1.cells
   obtain ⟨z0, z1, z2, z3, z4, z5⟩ := B1.cells
   obtain ⟨y0, y1, y2, y3, y4, y5⟩ := B1.free
   have hzl := B1.lt
   have HL := Lib.hid hfin.1
   have HFN := Lib.hid hfin.2
   unfold saO at z0 z1 z2 z3 z4 z5
   dsimp only at *
   clear HS HZZ HEE A1 B1 hfin h1 HR
   go_wp2
   refine bodyPost_ret (v := .tuple #[saV saO, .int .i64 111]) ?_ rfl ⟨_, rfl, HFN.out.1, rfl, HFN.out.2⟩
   rw [results_cellT rfl]
   unfold saV saC saO
   simp [asAddr, Result.andThen, HL.out]
  ·have hf := (few_of hr hc).mono (b := 400) (by decide)
   have h7 : k = 1 ∨ k = 2 ∨ k = 3 ∨ k = 4 ∨ k = 5 ∨ k = 6 ∨ k = 7 := by
    obtain ⟨_, _, hh⟩ := hv
    omega
   rcases h7 with rfl | rfl | rfl | rfl | rfl | rfl | rfl
   ·exact rap1 x a n st u o w h hf hr.ur hr.tr hz hu ho hv hlt
   ·exact rap2 x a n st u o w h hf hr.ur hr.tr hz hu ho hv hlt
   ·exact rap3 x a n st u o w h hf hr.ur hr.tr hz hu ho hv hlt
   ·exact rap4 x a n st u o w h hf hr.ur hr.tr hz hu ho hv hlt
   ·exact rap5 x a n st u o w h hf hr.ur hr.tr hz hu ho hv hlt
   ·exact rap6 x a n st u o w h hf hr.ur hr.tr hz hu ho hv hlt
   ·exact rap7 x a n st u o w h hf hr.ur hr.tr hz hu ho hv hlt
 ·obtain ⟨HK, HE, HZ⟩ := three_SB h ⟨k, a, u, o, n, st⟩ 27 29 27
  have HR := Lib.hid (fun V => evrefRight_any ⟨k, a, u, o, n, st⟩ ⟨hu, ho⟩ V)
  have HS := Lib.hid HK
  have HZZ := Lib.hid HZ
  have HEE := Lib.hid HE
  have he : errS x.m k a n st u o = 110 := by unfold errS; rw [if_neg hv]
  have ht : tellS x.m k a n st u o = saZ := by unfold tellS; rw [he, if_neg (by decide)]
  rw [he, ht]
  have hE : rightE ⟨k, a, u, o, n, st⟩ = false := Bool.eq_false_iff.2 fun e => hv ((rightE_iff k a n st u o).1 e)
  rw [hE] at HR
  obtain ⟨⟨e0, e1, e2, e3, e4, e5⟩, -⟩ := cells6 HE.blk
  obtain ⟨now, hor, oa, op, oc, ua, us, uc, sa, su, sc, ta, tb, tc⟩ := x
  unfold saV evV saC at *
  dsimp only at *
  clear h hr hc HK HZ HE hz
  go_enter Tryz.func17, Tryz.ntmps17
  go_wp2_with fail
  refine (HR.out _).mono ?_
  rintro e w1 ⟨rfl, h1⟩
  have B1 := HZZ.out.below h1
  have hfin := B1.finZR
  clear e0 e1 e2 e3 e4 e5
  obtain ⟨z0, z1, z2, z3, z4, z5⟩ := B1.cells
  obtain ⟨y0, y1, y2, y3, y4, y5⟩ := B1.free
  have hzl := B1.lt
  have HL := Lib.hid hfin.1
  have HFN := Lib.hid hfin.2
  unfold saO at z0 z1 z2 z3 z4 z5
  dsimp only at *
  clear HS HZZ HEE B1 hfin h1 HR
  go_wp2
  refine bodyPost_ret (v := .tuple #[saV saO, .int .i64 110]) ?_ rfl ⟨_, rfl, HFN.out.1, rfl, HFN.out.2⟩
  rw [results_cellT rfl]
  unfold saV saC saO
  simp [asAddr, Result.andThen, HL.out]
set_option maxHeartbeats 4000000 in
theorem c_rightStays (y : StM) (x : SaL) (w0 : World) (g : Nat) (W : World) (h : SB w0 g 38 x W) (hl : x.op.length ≤ 100000) :
  Calls Tryz.prog 133 #[.agg #[.int .i64 y.f, .int .i64 y.t, .int .i64 y.n, .int .i64 y.s], .pointer (some ⟨g, 0, none⟩)] W fun r w' => r = .returned (.bool (stayB x.m y)) ∧ Below W.heap.size W w' := by
 obtain ⟨yf, yt, yn, ys⟩ := y
 have hgl0 := h.lt
 have hb := below_one W (.cells #[.int .i64 yf, .int .i64 yt, .int .i64 yn, .int .i64 ys] 86)
 have K0 := h.below hb
 have hy : ∀ V, Below (W.alloc (.cells #[.int .i64 yf, .int .i64 yt, .int .i64 yn, .int .i64 ys] 86)).heap.size (W.alloc (.cells #[.int .i64 yf, .int .i64 yt, .int .i64 yn, .int .i64 ys] 86)) V → V.heap[W.heap.size]? = some (.cells #[.int .i64 yf, .int .i64 yt, .int .i64 yn, .int .i64 ys] 86 (0, 0)) := fun V q => (q.block _ (by rw [size1]; omega)).trans (heap_alloc_new W _)
 have HY := Lib.hid (fun V q => cells4 (hy V q))
 have HB := Lib.hid hb
 have HL := Lib.hid (fun V (h : SaAt V x) => latest_any x yn V h hl)
 have HW := Lib.hid (fun V => within4_any (v4 yf yt yn ys) (v4 0 0 1 1) (v4 x.now (latS x.op x.now yn) 999 4) V)
 rw [arr_v4, arr_v4, arr_v4] at HW
 have HE : Hid (wiB (v4 yf yt yn ys) (v4 0 0 1 1) (v4 x.now (latS x.op x.now yn) 999 4) = stayB x.m ⟨yf, yt, yn, ys⟩) := rfl
 rw [HE.out] at HW
 have hsc : ∀ V, SB w0 g 38 x V → Below (W.alloc (.cells #[.int .i64 yf, .int .i64 yt, .int .i64 yn, .int .i64 ys] 86)).heap.size (W.alloc (.cells #[.int .i64 yf, .int .i64 yt, .int .i64 yn, .int .i64 ys] 86)) V → V.cell? ⟨g, 0, none⟩ = some (.int .i64 x.now) ∧ V.cell? ⟨g, 1, none⟩ = some (.int .i64 x.hor) ∧ V.cell? ⟨g, 2, none⟩ = some (.slice x.oa x.op.length x.oc) ∧ V.cell? ⟨g, 3, none⟩ = some (.slice x.ua x.us.length x.uc) ∧ V.cell? ⟨g, 4, none⟩ = some (.slice x.sa x.su.length x.sc) ∧ V.cell? ⟨g, 5, none⟩ = some (.slice x.ta x.tb.length x.tc) ∧ V.cell? ⟨W.heap.size, 2, none⟩ = some (.int .i64 yn) := fun V h q => by
  obtain ⟨a0, a1, a2, a3, a4, a5⟩ := h.cells
  exact ⟨a0, a1, a2, a3, a4, a5, (cells4 (hy V q)).2.2.1⟩
 have HSC := Lib.hid hsc
 have hz := Zb.new (W.alloc (.cells #[.int .i64 yf, .int .i64 yt, .int .i64 yn, .int .i64 ys] 86)) (.int .i64 0) (.int .i64 0) (.int .i64 0) (.int .i64 0) 108
 rw [size1] at hz
 have hb2 := below_one (W.alloc (.cells #[.int .i64 yf, .int .i64 yt, .int .i64 yn, .int .i64 ys] 86)) (.cells #[.int .i64 0, .int .i64 0, .int .i64 0, .int .i64 0] 108)
 have K9 := K0.drew
 have Q9 : Below (W.alloc (.cells #[.int .i64 yf, .int .i64 yt, .int .i64 yn, .int .i64 ys] 86)).heap.size (W.alloc (.cells #[.int .i64 yf, .int .i64 yt, .int .i64 yn, .int .i64 ys] 86)) (W.alloc (.cells #[.int .i64 yf, .int .i64 yt, .int .i64 yn, .int .i64 ys] 86)).drew := (Below.refl _ _).drew
 have K1 := (K0.below hb2).drew
 have Q1 : Below (W.alloc (.cells #[.int .i64 yf, .int .i64 yt, .int .i64 yn, .int .i64 ys] 86)).heap.size (W.alloc (.cells #[.int .i64 yf, .int .i64 yt, .int .i64 yn, .int .i64 ys] 86)) ((W.alloc (.cells #[.int .i64 yf, .int .i64 yt, .int .i64 yn, .int .i64 ys] 86)).alloc (.cells #[.int .i64 0, .int .i64 0, .int .i64 0, .int .i64 0] 108)).drew := hb2.drew
 have Z1 := hz.drew
 have HSF : Hid (∀ V, SB w0 g 38 x V → Below (W.alloc (.cells #[.int .i64 yf, .int .i64 yt, .int .i64 yn, .int .i64 ys] 86)).heap.size (W.alloc (.cells #[.int .i64 yf, .int .i64 yt, .int .i64 yn, .int .i64 ys] 86)) V → Zb (W.alloc (.cells #[.int .i64 yf, .int .i64 yt, .int .i64 yn, .int .i64 ys] 86)) (W.heap.size + 1) (.int .i64 0) (.int .i64 0) (.int .i64 0) (.int .i64 0) 108 V → ∀ a b c d, (fun V => V.cell? ⟨g, 0, none⟩ = some (.int .i64 x.now) ∧ V.cell? ⟨g, 1, none⟩ = some (.int .i64 x.hor) ∧ V.cell? ⟨g, 2, none⟩ = some (.slice x.oa x.op.length x.oc) ∧ V.cell? ⟨g, 3, none⟩ = some (.slice x.ua x.us.length x.uc) ∧ V.cell? ⟨g, 4, none⟩ = some (.slice x.sa x.su.length x.sc) ∧ V.cell? ⟨g, 5, none⟩ = some (.slice x.ta x.tb.length x.tc) ∧ V.cell? ⟨W.heap.size, 2, none⟩ = some (.int .i64 yn)) (setO V (W.heap.size + 1) a b c d)) := fun V h q hz a b c d => by
  obtain ⟨a0, a1, a2, a3, a4, a5, a6⟩ := HSC.out V h q
  have hg : g ≠ W.heap.size + 1 := by have := hgl0; omega
  have hw : W.heap.size ≠ W.heap.size + 1 := by omega
  exact ⟨(setO_cell V _ a b c d (p := ⟨g, 0, none⟩) hg).trans a0, (setO_cell V _ a b c d (p := ⟨g, 1, none⟩) hg).trans a1, (setO_cell V _ a b c d (p := ⟨g, 2, none⟩) hg).trans a2, (setO_cell V _ a b c d (p := ⟨g, 3, none⟩) hg).trans a3, (setO_cell V _ a b c d (p := ⟨g, 4, none⟩) hg).trans a4, (setO_cell V _ a b c d (p := ⟨g, 5, none⟩) hg).trans a5, (setO_cell V _ a b c d (p := ⟨W.heap.size, 2, none⟩) hw).trans a6⟩
 have HGN : Hid (g ≠ W.heap.size + 1) := by unfold Hid; omega
 unfold setO at HSF
 dsimp only at HSF
 unfold saV saC at HL
 clear h hb K0 hy hsc HE hz hb2
 generalize stayB x.m ⟨yf, yt, yn, ys⟩ = R at *
 generalize latS x.op x.now yn = z at *
 go_enter Tryz.func133, Tryz.ntmps133
 go_wp2_with fail
 go_region_held3 (fun V => V.cell? ⟨g, 0, none⟩ = some (.int .i64 x.now) ∧ V.cell? ⟨g, 1, none⟩ = some (.int .i64 x.hor) ∧ V.cell? ⟨g, 2, none⟩ = some (.slice x.oa x.op.length x.oc) ∧ V.cell? ⟨g, 3, none⟩ = some (.slice x.ua x.us.length x.uc) ∧ V.cell? ⟨g, 4, none⟩ = some (.slice x.sa x.su.length x.sc) ∧ V.cell? ⟨g, 5, none⟩ = some (.slice x.ta x.tb.length x.tc) ∧ V.cell? ⟨W.heap.size, 2, none⟩ = some (.int .i64 yn))
  (first | with_reducible exact HSC.out _ K9 Q9 | with_reducible exact HSC.out _ K1 Q1 | with_reducible exact HSC.out _ K2 Q2 | exact HSF.out _ K2 Q2 Z2 _ _ _ _ | exact HSC.out _ (K2.below (below_one _ _)) (Q2.trans ((below_one _ _).mono Q2.size)))
  (first | (go_at_call 134; (first | (refine (HL.out _ K1.at_).mono ?_; rintro e w2 ⟨rfl, h2⟩; have K2 := K1.below h2; have Q2 := Q1.trans (h2.mono Q1.size); have Z2 := Z1.below h2; obtain ⟨z0, z1, z2, z3⟩ := Z2.cells; obtain ⟨y0, y1, y2, y3⟩ := Z2.free; have hgl := Z2.lt) | (refine (HL.out _ K9.at_).mono ?_; rintro e w2 ⟨rfl, h2⟩; have K2 := K9.below h2; have Q2 := Q9.trans (h2.mono Q9.size)))))
 ·obtain ⟨e0, e1, e2, e3⟩ := HY.out (w2.alloc (.cells #[.int .i64 x.now, .int .i64 z, .int .i64 999, .int .i64 4] 108)) (Q2.trans ((below_one _ _).mono Q2.size))
  obtain ⟨d0, d1, d2, d3⟩ := cells4 (heap_alloc_new w2 (.cells #[.int .i64 x.now, .int .i64 z, .int .i64 999, .int .i64 4] 108))
  have HFB := Lib.hid (HB.out.trans ((Q2.trans ((below_one w2 (.cells #[.int .i64 x.now, .int .i64 z, .int .i64 999, .int .i64 4] 108)).mono Q2.size)).mono HB.out.size))
  clear HY HSC HSF HL HB
  go_wp2_with fail
  refine (HW.out _).mono ?_
  rintro e w3 ⟨rfl, h3⟩
  go_wp2
  go_ret
  exact ⟨rfl, HFB.out.trans (h3.mono HFB.out.size)⟩
 ·obtain ⟨b0, b1, b2, b3⟩ := HY.out w2 Q2
  have hne : W.heap.size ≠ W.heap.size + 1 := by omega
  have e0 := (setO_cell w2 (W.heap.size + 1) (.int .i64 x.now) (.int .i64 z) (.int .i64 999) (.int .i64 4) (p := ⟨W.heap.size, 0, none⟩) hne).trans b0
  have e1 := (setO_cell w2 (W.heap.size + 1) (.int .i64 x.now) (.int .i64 z) (.int .i64 999) (.int .i64 4) (p := ⟨W.heap.size, 1, none⟩) hne).trans b1
  have e2 := (setO_cell w2 (W.heap.size + 1) (.int .i64 x.now) (.int .i64 z) (.int .i64 999) (.int .i64 4) (p := ⟨W.heap.size, 2, none⟩) hne).trans b2
  have e3 := (setO_cell w2 (W.heap.size + 1) (.int .i64 x.now) (.int .i64 z) (.int .i64 999) (.int .i64 4) (p := ⟨W.heap.size, 3, none⟩) hne).trans b3
  have HFB := Lib.hid (HB.out.trans ((Z2.set (.int .i64 x.now) (.int .i64 z) (.int .i64 999) (.int .i64 4)).mono HB.out.size))
  have hr := World.rangeAt_setCells_same (w := w2) (W.heap.size + 1) 0 [.int .i64 x.now, .int .i64 z, .int .i64 999, .int .i64 4] Z2.there
  have d0 : (setO w2 (W.heap.size + 1) (.int .i64 x.now) (.int .i64 z) (.int .i64 999) (.int .i64 4)).cell? ⟨W.heap.size + 1, 0, none⟩ = some (.int .i64 x.now) := hr 0 _ rfl
  have d1 : (setO w2 (W.heap.size + 1) (.int .i64 x.now) (.int .i64 z) (.int .i64 999) (.int .i64 4)).cell? ⟨W.heap.size + 1, 1, none⟩ = some (.int .i64 z) := hr 1 _ rfl
  have d2 : (setO w2 (W.heap.size + 1) (.int .i64 x.now) (.int .i64 z) (.int .i64 999) (.int .i64 4)).cell? ⟨W.heap.size + 1, 2, none⟩ = some (.int .i64 999) := hr 2 _ rfl
  have d3 : (setO w2 (W.heap.size + 1) (.int .i64 x.now) (.int .i64 z) (.int .i64 999) (.int .i64 4)).cell? ⟨W.heap.size + 1, 3, none⟩ = some (.int .i64 4) := hr 3 _ rfl
  unfold setO at e0 e1 e2 e3 d0 d1 d2 d3 HFB
  clear HY HSC HSF HL HB b0 b1 b2 b3 hr z0 z1 z2 z3 y0 y1 y2 y3
  generalize hW4 : (((w2.setCell ⟨W.heap.size + 1, 0, none⟩ (.int .i64 x.now)).setCell ⟨W.heap.size + 1, 1, none⟩ (.int .i64 z)).setCell ⟨W.heap.size + 1, 2, none⟩ (.int .i64 999)).setCell ⟨W.heap.size + 1, 3, none⟩ (.int .i64 4) = w4 at *
  clear hW4
  go_wp2_with fail
  refine (HW.out _).mono ?_
  rintro e w3 ⟨rfl, h3⟩
  go_wp2
  go_ret
  exact ⟨rfl, HFB.out.trans (h3.mono HFB.out.size)⟩
set_option maxHeartbeats 2000000 in
theorem rightStays_any (x : SaL) (a : Option Addr) (c : Nat) (l : List StM) (w : World) (h : SaAt w x) (hr : StSl w a l) (hl : x.op.length ≤ 100000) (hn : l.length ≤ 100000) :
  Calls Tryz.prog 66 #[saV x, .slice a l.length c] w fun r w' => r = .returned (.bool (staysB x.m l)) ∧ Below w.heap.size w w' := by
 have S0 := SB.new (Below.refl w.heap.size w) h 38
 have HS := Lib.hid S0
 have HR := Lib.hid (hr.below (below_one w (.cells (saC x) 38)))
 have HRI := Lib.hid (fun V (h : StSl V a l) => rising8_any a c l V h (by omega))
 have HAL := Lib.hid (fun V (h : SB w w.heap.size 38 x V) (hq : StSl V a l) => all_st a c l 133 w.heap.size (stayB x.m) (fun V => SB w w.heap.size 38 x V) V hq h (by omega) (call_known Tryz.func133 rfl) (fun W W' h q => h.below q) (fun y hy V h => c_rightStays y x w w.heap.size V h hl))
 have HE : Hid ((decide (0 < l.length) && (decide (RiseS l) && l.all (stayB x.m))) = staysB x.m l) := rfl
 unfold saV saC at *
 clear h hr S0
 generalize staysB x.m l = R at *
 generalize l.all (stayB x.m) = b3 at *
 generalize decide (RiseS l) = b2 at *
 by_cases h1 : 0 < l.length
 ·have d1 : decide (0 < l.length) = true := decide_eq_true h1
  have d1' : decide ((0 : Int) < (l.length : Int)) = true := decide_eq_true (by omega)
  rw [d1, Bool.true_and] at HE
  clear h1
  cases b2 with
  | true =>
   rw [Bool.true_and] at HE
   go_enter Tryz.func66, Tryz.ntmps66
   go_wp2_with fail
   refine (HRI.out _ HR.out).mono ?_
   rintro e w2 ⟨rfl, h2⟩
   go_wp2_with fail
   refine (HAL.out _ (HS.out.below h2) (HR.out.below h2)).mono ?_
   rintro e w3 ⟨rfl, h3⟩
   go_wp2
   go_ret
   exact ⟨retB HE.out, ((HS.out.below h2).below h3).frame⟩
  | false =>
   rw [Bool.false_and] at HE
   go_enter Tryz.func66, Tryz.ntmps66
   go_wp2_with fail
   refine (HRI.out _ HR.out).mono ?_
   rintro e w2 ⟨rfl, h2⟩
   go_wp2
   go_ret
   exact ⟨retB HE.out, (HS.out.below h2).frame⟩
 ·have d1 : decide (0 < l.length) = false := decide_eq_false h1
  have d1' : decide ((0 : Int) < (l.length : Int)) = false := decide_eq_false (by omega)
  rw [d1, Bool.false_and] at HE
  clear h1
  go_enter Tryz.func66, Tryz.ntmps66
  go_wp2
  go_ret
  exact ⟨retB HE.out, HS.out.frame⟩
set_option maxHeartbeats 1000000 in
theorem c_right2 (y : UsL) (x : SaL) (w0 : World) (g : Nat) (W : World) (h : SB w0 g 38 x W) (hy : UsAt W y) (hl : x.op.length ≤ 100000) (hn : y.l.length ≤ 100000) :
  Calls Tryz.prog 65 #[.agg #[.string y.u, .slice y.a y.l.length y.c], .pointer (some ⟨g, 0, none⟩)] W fun r w' => r = .returned (.bool (staysB x.m y.l)) ∧ Below W.heap.size W w' := by
 have hb := below_one W (.cells #[.string y.u, .slice y.a y.l.length y.c] 89)
 have S1 := h.below hb
 obtain ⟨c0, c1, c2, c3, c4, c5⟩ := S1.cells
 have HC := Lib.hid (fun V h k => rightStays_any x y.a y.c y.l V h k hl hn)
 have HS := Lib.hid S1
 have HY := Lib.hid (hy.below hb)
 have HB := Lib.hid hb
 unfold saV saC at HC
 clear h S1 hb hy
 go_enter Tryz.func65, Tryz.ntmps65
 go_wp2_with fail
 refine (HC.out _ HS.out.at_ HY.out.st).mono ?_
 rintro r w2 ⟨rfl, hB⟩
 go_wp2
 go_ret
 exact ⟨rfl, HB.out.trans (hB.mono HB.out.size)⟩
def nowB (s : SaM) : Bool := wiB (v4 s.now s.hor 0 0) (v4 0 0 0 0) (v4 1099511627775 1099511627775 0 0)
def rightB (s : SaM) : Bool := nowB s && (decide (RiseO s.op) && (s.op.all (fromB s) && (decide (riseNB UsM.u s.us) && (s.us.all (fun x => staysB s x.l) && (decide (RiseE s.su) && (s.su.all (timesB s) && (decide (riseNB TbM.u s.tb) && s.tb.all (tombB s))))))))
theorem wiB_iff {n l m : Nat → Int} (h : ∀ i, i < 4 → l i ≤ m i) : wiB n l m = true ↔ ∀ i, i < 4 → l i ≤ n i ∧ n i ≤ m i := by
 unfold wiB
 simp only [Bool.and_eq_true, beq_iff_eq]
 have key : ∀ i, i < 4 → (clampN n l m i = n i ↔ l i ≤ n i ∧ n i ≤ m i) := fun i hi => by
  have := h i hi
  unfold clampN
  omega
 rw [key 0 (by decide), key 1 (by decide), key 2 (by decide), key 3 (by decide)]
 constructor
 ·rintro ⟨h0, h1, h2, h3⟩ i hi
  have : i = 0 ∨ i = 1 ∨ i = 2 ∨ i = 3 := by omega
  rcases this with rfl | rfl | rfl | rfl
  ·exact h0
  ·exact h1
  ·exact h2
  ·exact h3
 ·intro h
  exact ⟨h 0 (by decide), h 1 (by decide), h 2 (by decide), h 3 (by decide)⟩
theorem latS_le {op : List OpM} {now : Int} {n t : Int} (hp : op.Pairwise fun a b => a.n < b.n) (hf : ∀ e ∈ op, e.f ≤ now) : t ≤ latS op now n ↔ (t ≤ now ∧ ∀ o ∈ op, o.n = n → t ≤ o.f) ∨ (t ≤ latS op now n ∧ False) := by
 have hle : op.findIdx (hasN n) ≤ op.length := List.findIdx_le_length
 by_cases hk : op.findIdx (hasN n) < op.length
 ·have e : latS op now n = op[op.findIdx (hasN n)].f := by unfold latS; rw [dif_pos hk]
  have hn : op[op.findIdx (hasN n)].n = n := by
   have := List.findIdx_getElem (p := hasN n) (xs := op) (w := hk)
   exact of_decide_eq_true this
  rw [e]
  constructor
  ·intro h
   refine .inl ⟨Int.le_trans h (hf _ (List.getElem_mem hk)), fun o ho hon => ?_⟩
   obtain ⟨i, hi, rfl⟩ := List.getElem_of_mem ho
   rw [List.pairwise_iff_getElem] at hp
   rcases Nat.lt_trichotomy i (op.findIdx (hasN n)) with h1 | h1 | h1
   ·have := hp i _ hi hk h1; omega
   ·subst h1; exact h
   ·have := hp _ i hk hi h1; omega
  ·rintro (⟨_, h⟩ | ⟨_, h⟩)
   ·exact h _ (List.getElem_mem hk) hn
   ·exact h.elim
 ·have e : latS op now n = now := by unfold latS; rw [dif_neg hk]
  rw [e]
  constructor
  ·intro h
   refine .inl ⟨h, fun o ho hon => ?_⟩
   have h1 := List.findIdx_eq_length.1 (show op.findIdx (hasN n) = op.length by omega) o ho
   rw [show hasN n o = true from decide_eq_true hon] at h1
   cases h1
  ·rintro (⟨h, _⟩ | ⟨_, h⟩)
   ·exact h
   ·exact h.elim
theorem latS_nonneg {op : List OpM} {now n : Int} (hn : 0 ≤ now) (hf : ∀ e ∈ op, 0 ≤ e.f) : 0 ≤ latS op now n := by
 unfold latS
 split
 ·exact hf _ (List.getElem_mem _)
 ·exact hn
theorem rightB_iff (s : SaM) : rightB s = true ↔ RightS s := by
 unfold rightB
 simp only [Bool.and_eq_true, decide_eq_true_eq, List.all_eq_true]
 have hnow : nowB s = true ↔ (0 ≤ s.now ∧ s.now ≤ 1099511627775) ∧ (0 ≤ s.hor ∧ s.hor ≤ 1099511627775) := by
  unfold nowB
  rw [wiB_iff (by intro i hi; have : i = 0 ∨ i = 1 ∨ i = 2 ∨ i = 3 := by omega
                  rcases this with rfl | rfl | rfl | rfl <;> decide)]
  constructor
  ·intro h; exact ⟨h 0 (by decide), h 1 (by decide)⟩
  ·rintro ⟨h0, h1⟩ i hi
   have : i = 0 ∨ i = 1 ∨ i = 2 ∨ i = 3 := by omega
   rcases this with rfl | rfl | rfl | rfl
   ·exact h0
   ·exact h1
   ·exact ⟨Int.le_refl _, Int.le_refl _⟩
   ·exact ⟨Int.le_refl _, Int.le_refl _⟩
 have hst : 0 ≤ s.now → RiseO s.op → (∀ e ∈ s.op, e.f ≤ s.now) → ∀ l : List StM, (staysB s l = true ↔ l ≠ [] ∧ RiseS l ∧ ∀ x ∈ l, OkSt s.now s.op x) := fun h0 hO hF l => by
  obtain ⟨_, h2, h3⟩ := riseO_iff.1 hO
  have hpos : ∀ e ∈ s.op, 0 ≤ e.f := fun e he => (h2 e he).2.2.2.2.2.1
  have key : ∀ x, (stayB s x = true ∧ x.f < x.t ↔ OkSt s.now s.op x ∧ x.f < x.t) := fun x => by
   have hlat := latS_nonneg (op := s.op) (n := x.n) h0 hpos
   have hle := latS_le (n := x.n) (t := x.t) h3 hF
   unfold stayB
   rw [wiB_iff (by intro i hi; have : i = 0 ∨ i = 1 ∨ i = 2 ∨ i = 3 := by omega
                   rcases this with rfl | rfl | rfl | rfl
                   ·exact h0
                   ·exact hlat
                   ·exact (show (1 : Int) ≤ 999 by decide)
                   ·exact (show (1 : Int) ≤ 4 by decide))]
   unfold OkSt
   constructor
   ·rintro ⟨h, hlt⟩
    have g0 := h 0 (by decide)
    have g1 := h 1 (by decide)
    have g2 := h 2 (by decide)
    have g3 := h 3 (by decide)
    simp only [v4] at g0 g1 g2 g3
    simp at g0 g1 g2 g3
    rcases hle.1 g1.2 with ⟨k1, k2⟩ | ⟨_, k⟩
    ·exact ⟨⟨g0.1, k1, g2.1, g2.2, g3.1, g3.2, k2⟩, hlt⟩
    ·exact k.elim
   ·rintro ⟨⟨k0, k1, k2, k3, k4, k5, k6⟩, hlt⟩
    refine ⟨fun i hi => ?_, hlt⟩
    have : i = 0 ∨ i = 1 ∨ i = 2 ∨ i = 3 := by omega
    rcases this with rfl | rfl | rfl | rfl
    ·exact ⟨k0, show x.f ≤ s.now by omega⟩
    ·exact ⟨show 0 ≤ x.t by omega, hle.2 (.inl ⟨k1, k6⟩)⟩
    ·exact ⟨k2, k3⟩
    ·exact ⟨k4, k5⟩
  unfold staysB
  simp only [Bool.and_eq_true, decide_eq_true_eq, List.all_eq_true]
  constructor
  ·rintro ⟨h5, h6, h7⟩
   refine ⟨fun e => by rw [e] at h5; simp at h5, h6, fun x hx => ?_⟩
   exact ((key x).1 ⟨h7 x hx, (rise_iff.1 h6).1 x hx⟩).1
  ·rintro ⟨h5, h6, h7⟩
   refine ⟨List.length_pos_iff.2 h5, h6, fun x hx => ((key x).2 ⟨h7 x hx, (rise_iff.1 h6).1 x hx⟩).1⟩
 constructor
 ·rintro ⟨h1, h2, h3, h4, h5, h6, h7, h8, h9⟩
  obtain ⟨n1, n2⟩ := hnow.1 h1
  have hF : ∀ e ∈ s.op, e.f ≤ s.now := fun e he => of_decide_eq_true (h3 e he)
  obtain ⟨u1, u2⟩ := riseN_iff.1 h4
  obtain ⟨t1, t2⟩ := riseN_iff.1 h8
  refine ⟨⟨n1.1, by omega⟩, ⟨n2.1, by omega⟩, h2, hF, fun x hx => ?_, u2, ⟨h6, fun e he => ?_⟩, fun x hx => ?_, t2⟩
  ·obtain ⟨k1, k2, k3⟩ := (hst n1.1 h2 hF x.l).1 (h5 x hx)
   exact ⟨u1 x hx, k1, k2, k3⟩
  ·have := h7 e he
   unfold timesB at this
   simp only [Bool.and_eq_true, Bool.or_eq_true, decide_eq_true_eq, beq_iff_eq] at this
   exact ⟨this.1, this.2.1, this.2.2.symm⟩
  ·have := h9 x hx
   unfold tombB at this
   simp only [Bool.and_eq_true, decide_eq_true_eq] at this
   exact ⟨t1 x hx, this.1, this.2⟩
 ·intro h
  refine ⟨hnow.2 ⟨⟨h.now.1, by have := h.now.2; omega⟩, ⟨h.hor.1, by have := h.hor.2; omega⟩⟩, h.op, fun e he => decide_eq_true (h.frm e he), riseN_iff.2 ⟨fun x hx => (h.us x hx).1, h.ur⟩, fun x hx => ?_, h.su.rise, fun e he => ?_, riseN_iff.2 ⟨fun x hx => (h.tb x hx).1, h.tr⟩, fun x hx => ?_⟩
  ·obtain ⟨k1, k2, k3, k4⟩ := h.us x hx
   exact (hst h.now.1 h.op h.frm x.l).2 ⟨k2, k3, k4⟩
  ·obtain ⟨k1, k2, k3⟩ := h.su.bnd e he
   unfold timesB
   simp only [Bool.and_eq_true, Bool.or_eq_true, decide_eq_true_eq, beq_iff_eq]
   exact ⟨k1, k2, k3.symm⟩
  ·obtain ⟨k1, k2, k3⟩ := h.tb x hx
   unfold tombB
   simp only [Bool.and_eq_true, decide_eq_true_eq]
   exact ⟨k2, k3⟩
set_option maxHeartbeats 8000000 in
theorem right_any11 (x : SaL) (w : World) (h : SaAt w x) (hz : SzS x.m) (ho : x.op.length ≤ 1000) (hu : x.us.length ≤ 1000) (hs : x.su.length ≤ 1000) (ht : x.tb.length ≤ 1000) (hst : ∀ y ∈ x.us, y.l.length ≤ 1000) :
  Calls Tryz.prog 20 #[saV x] w fun e w' => e = .returned (.bool (rightB x.m)) ∧ Below w.heap.size w w' := by
 have S := Lib.hid (SB.new (Below.refl w.heap.size w) h 38)
 obtain ⟨c0, c1, c2, c3, c4, c5⟩ := S.out.cells
 have HW := Lib.hid (fun V => within4_any (v4 x.now x.hor 0 0) (v4 0 0 0 0) (v4 1099511627775 1099511627775 0 0) V)
 rw [arr_v4, arr_v4, arr_v4] at HW
 have HO := Lib.hid (fun V h => o_rising x.oa x.oc x.op V h hz.op ho)
 have HA1 := Lib.hid (fun V (h : SB w w.heap.size 38 x V) => all_op x.oa x.oc x.op 61 w.heap.size (fromB x.m) (fun V => SB w w.heap.size 38 x V) V h.at_.op h (by omega) (call_known Tryz.func61 rfl) (fun W W' h q => h.below q) (fun y hy V h => c_right1 y x w w.heap.size V h))
 have HU := Lib.hid (fun V h => rising_us x.ua x.uc x.us V h (fun y hy => hz.us _ (List.mem_map_of_mem hy)) (by omega))
 have HA2 := Lib.hid (fun V (h : SB w w.heap.size 38 x V) => all_us x.ua x.uc x.us 65 w.heap.size (fun y => staysB x.m y.l) (fun V => SB w w.heap.size 38 x V) V h.at_.us h (by omega) (call_known Tryz.func65 rfl) (fun W W' h q => h.below q) (fun y hy V ha h => c_right2 y x w w.heap.size V h ha (by omega) (by have := hst y hy; omega)))
 have HS := Lib.hid (fun V h => e_rising x.sa x.sc x.su V h hz.su hs)
 have HA3 := Lib.hid (fun V (h : SB w w.heap.size 38 x V) => all_en x.sa x.sc x.su 69 w.heap.size (timesB x.m) (fun V => SB w w.heap.size 38 x V) V h.at_.su h (by omega) (call_known Tryz.func69 rfl) (fun W W' h q => h.below q) (fun y hy V h => c_right3 y x w w.heap.size V h))
 have HT := Lib.hid (fun V h => rising_tb x.ta x.tc x.tb V h (fun y hy => hz.tb _ hy) (by omega))
 have HA4 := Lib.hid (fun V (h : SB w w.heap.size 38 x V) => all_tb x.ta x.tc x.tb 74 w.heap.size (tombB x.m) (fun V => SB w w.heap.size 38 x V) V h.at_.tb h (by omega) (call_known Tryz.func74 rfl) (fun W W' h q => h.below q) (fun y hy V h => c_right4 y x w w.heap.size V h))
 have hE : (wiB (v4 x.now x.hor 0 0) (v4 0 0 0 0) (v4 1099511627775 1099511627775 0 0) && (decide (RiseO x.op) && (x.op.all (fromB x.m) && (decide (riseNB UsL.u x.us) && (x.us.all (fun y => staysB x.m y.l) && (decide (RiseE x.su) && (x.su.all (timesB x.m) && (decide (riseNB TbM.u x.tb) && x.tb.all (tombB x.m))))))))) = rightB x.m := by
  have e1 : decide (riseNB UsL.u x.us) = decide (riseNB UsM.u (umS x.us)) := by
   have : riseNB UsL.u x.us ↔ riseNB UsM.u (umS x.us) := by
    rw [riseN_iff, riseN_iff]
    unfold umS RiseK
    rw [List.pairwise_map]
    constructor
    ·rintro ⟨k1, k2⟩
     exact ⟨fun y hy => by obtain ⟨z, hz, rfl⟩ := List.mem_map.1 hy; exact k1 z hz, k2⟩
    ·rintro ⟨k1, k2⟩
     exact ⟨fun y hy => k1 _ (List.mem_map_of_mem hy), k2⟩
   by_cases hq : riseNB UsL.u x.us
   ·rw [decide_eq_true hq, decide_eq_true (this.1 hq)]
   ·rw [decide_eq_false hq, decide_eq_false (fun h => hq (this.2 h))]
  have e2 : x.us.all (fun y => staysB x.m y.l) = (umS x.us).all (fun y => staysB x.m y.l) := by
   unfold umS
   rw [List.all_map]
   rfl
  rw [e1, e2]
  rfl
 have HE := Lib.hid hE
 unfold saV saC at *
 clear h hz ho hu hs ht hst hE
 generalize wiB (v4 x.now x.hor 0 0) (v4 0 0 0 0) (v4 1099511627775 1099511627775 0 0) = b1 at *
 generalize decide (RiseO x.op) = b2 at *
 generalize x.op.all (fromB x.m) = b3 at *
 generalize decide (riseNB UsL.u x.us) = b4 at *
 generalize x.us.all (fun y => staysB x.m y.l) = b5 at *
 generalize decide (RiseE x.su) = b6 at *
 generalize x.su.all (timesB x.m) = b7 at *
 generalize decide (riseNB TbM.u x.tb) = b8 at *
 generalize x.tb.all (tombB x.m) = b9 at *
 generalize rightB x.m = R at *
 cases b1 with
 | false =>
  replace HE : Hid (false = R) := HE.out
  go_enter Tryz.func20, Tryz.ntmps20
  go_wp2_with fail
  refine (HW.out _).mono ?_
  rintro e w1 ⟨rfl, h1⟩
  replace S := Lib.hid (S.out.below h1)
  clear h1 c0 c1 c2 c3 c4 c5
  obtain ⟨c0, c1, c2, c3, c4, c5⟩ := S.out.cells
  go_wp2
  go_ret
  exact ⟨retB HE.out, S.out.frame⟩
 | true =>
  rw [Bool.true_and] at HE
  cases b2 with
  | false =>
   replace HE : Hid (false = R) := HE.out
   go_enter Tryz.func20, Tryz.ntmps20
   go_wp2_with fail
   refine (HW.out _).mono ?_
   rintro e w1 ⟨rfl, h1⟩
   replace S := Lib.hid (S.out.below h1)
   clear h1 c0 c1 c2 c3 c4 c5
   obtain ⟨c0, c1, c2, c3, c4, c5⟩ := S.out.cells
   go_wp2_with fail
   refine (HO.out _ S.out.at_.op).mono ?_
   rintro e w2 ⟨rfl, h1⟩
   replace S := Lib.hid (S.out.below h1)
   clear h1 c0 c1 c2 c3 c4 c5
   obtain ⟨c0, c1, c2, c3, c4, c5⟩ := S.out.cells
   go_wp2
   go_ret
   exact ⟨retB HE.out, S.out.frame⟩
  | true =>
   rw [Bool.true_and] at HE
   cases b3 with
   | false =>
    replace HE : Hid (false = R) := HE.out
    go_enter Tryz.func20, Tryz.ntmps20
    go_wp2_with fail
    refine (HW.out _).mono ?_
    rintro e w1 ⟨rfl, h1⟩
    replace S := Lib.hid (S.out.below h1)
    clear h1 c0 c1 c2 c3 c4 c5
    obtain ⟨c0, c1, c2, c3, c4, c5⟩ := S.out.cells
    go_wp2_with fail
    refine (HO.out _ S.out.at_.op).mono ?_
    rintro e w2 ⟨rfl, h1⟩
    replace S := Lib.hid (S.out.below h1)
    clear h1 c0 c1 c2 c3 c4 c5
    obtain ⟨c0, c1, c2, c3, c4, c5⟩ := S.out.cells
    go_wp2_with fail
    refine (HA1.out _ S.out).mono ?_
    rintro e w3 ⟨rfl, h1⟩
    replace S := Lib.hid (S.out.below h1)
    clear h1 c0 c1 c2 c3 c4 c5
    obtain ⟨c0, c1, c2, c3, c4, c5⟩ := S.out.cells
    go_wp2
    go_ret
    exact ⟨retB HE.out, S.out.frame⟩
   | true =>
    rw [Bool.true_and] at HE
    cases b4 with
    | false =>
     replace HE : Hid (false = R) := HE.out
     go_enter Tryz.func20, Tryz.ntmps20
     go_wp2_with fail
     refine (HW.out _).mono ?_
     rintro e w1 ⟨rfl, h1⟩
     replace S := Lib.hid (S.out.below h1)
     clear h1 c0 c1 c2 c3 c4 c5
     obtain ⟨c0, c1, c2, c3, c4, c5⟩ := S.out.cells
     go_wp2_with fail
     refine (HO.out _ S.out.at_.op).mono ?_
     rintro e w2 ⟨rfl, h1⟩
     replace S := Lib.hid (S.out.below h1)
     clear h1 c0 c1 c2 c3 c4 c5
     obtain ⟨c0, c1, c2, c3, c4, c5⟩ := S.out.cells
     go_wp2_with fail
     refine (HA1.out _ S.out).mono ?_
     rintro e w3 ⟨rfl, h1⟩
     replace S := Lib.hid (S.out.below h1)
     clear h1 c0 c1 c2 c3 c4 c5
     obtain ⟨c0, c1, c2, c3, c4, c5⟩ := S.out.cells
     go_wp2_with fail
     refine (HU.out _ S.out.at_.us).mono ?_
     rintro e w4 ⟨rfl, h1⟩
     replace S := Lib.hid (S.out.below h1)
     clear h1 c0 c1 c2 c3 c4 c5
     obtain ⟨c0, c1, c2, c3, c4, c5⟩ := S.out.cells
     go_wp2
     go_ret
     exact ⟨retB HE.out, S.out.frame⟩
    | true =>
     rw [Bool.true_and] at HE
     cases b5 with
     | false =>
      replace HE : Hid (false = R) := HE.out
      go_enter Tryz.func20, Tryz.ntmps20
      go_wp2_with fail
      refine (HW.out _).mono ?_
      rintro e w1 ⟨rfl, h1⟩
      replace S := Lib.hid (S.out.below h1)
      clear h1 c0 c1 c2 c3 c4 c5
      obtain ⟨c0, c1, c2, c3, c4, c5⟩ := S.out.cells
      go_wp2_with fail
      refine (HO.out _ S.out.at_.op).mono ?_
      rintro e w2 ⟨rfl, h1⟩
      replace S := Lib.hid (S.out.below h1)
      clear h1 c0 c1 c2 c3 c4 c5
      obtain ⟨c0, c1, c2, c3, c4, c5⟩ := S.out.cells
      go_wp2_with fail
      refine (HA1.out _ S.out).mono ?_
      rintro e w3 ⟨rfl, h1⟩
      replace S := Lib.hid (S.out.below h1)
      clear h1 c0 c1 c2 c3 c4 c5
      obtain ⟨c0, c1, c2, c3, c4, c5⟩ := S.out.cells
      go_wp2_with fail
      refine (HU.out _ S.out.at_.us).mono ?_
      rintro e w4 ⟨rfl, h1⟩
      replace S := Lib.hid (S.out.below h1)
      clear h1 c0 c1 c2 c3 c4 c5
      obtain ⟨c0, c1, c2, c3, c4, c5⟩ := S.out.cells
      go_wp2_with fail
      refine (HA2.out _ S.out).mono ?_
      rintro e w5 ⟨rfl, h1⟩
      replace S := Lib.hid (S.out.below h1)
      clear h1 c0 c1 c2 c3 c4 c5
      obtain ⟨c0, c1, c2, c3, c4, c5⟩ := S.out.cells
      go_wp2
      go_ret
      exact ⟨retB HE.out, S.out.frame⟩
     | true =>
      rw [Bool.true_and] at HE
      cases b6 with
      | false =>
       replace HE : Hid (false = R) := HE.out
       go_enter Tryz.func20, Tryz.ntmps20
       go_wp2_with fail
       refine (HW.out _).mono ?_
       rintro e w1 ⟨rfl, h1⟩
       replace S := Lib.hid (S.out.below h1)
       clear h1 c0 c1 c2 c3 c4 c5
       obtain ⟨c0, c1, c2, c3, c4, c5⟩ := S.out.cells
       go_wp2_with fail
       refine (HO.out _ S.out.at_.op).mono ?_
       rintro e w2 ⟨rfl, h1⟩
       replace S := Lib.hid (S.out.below h1)
       clear h1 c0 c1 c2 c3 c4 c5
       obtain ⟨c0, c1, c2, c3, c4, c5⟩ := S.out.cells
       go_wp2_with fail
       refine (HA1.out _ S.out).mono ?_
       rintro e w3 ⟨rfl, h1⟩
       replace S := Lib.hid (S.out.below h1)
       clear h1 c0 c1 c2 c3 c4 c5
       obtain ⟨c0, c1, c2, c3, c4, c5⟩ := S.out.cells
       go_wp2_with fail
       refine (HU.out _ S.out.at_.us).mono ?_
       rintro e w4 ⟨rfl, h1⟩
       replace S := Lib.hid (S.out.below h1)
       clear h1 c0 c1 c2 c3 c4 c5
       obtain ⟨c0, c1, c2, c3, c4, c5⟩ := S.out.cells
       go_wp2_with fail
       refine (HA2.out _ S.out).mono ?_
       rintro e w5 ⟨rfl, h1⟩
       replace S := Lib.hid (S.out.below h1)
       clear h1 c0 c1 c2 c3 c4 c5
       obtain ⟨c0, c1, c2, c3, c4, c5⟩ := S.out.cells
       go_wp2_with fail
       refine (HS.out _ S.out.at_.su).mono ?_
       rintro e w6 ⟨rfl, h1⟩
       replace S := Lib.hid (S.out.below h1)
       clear h1 c0 c1 c2 c3 c4 c5
       obtain ⟨c0, c1, c2, c3, c4, c5⟩ := S.out.cells
       go_wp2
       go_ret
       exact ⟨retB HE.out, S.out.frame⟩
      | true =>
       rw [Bool.true_and] at HE
       cases b7 with
       | false =>
        replace HE : Hid (false = R) := HE.out
        go_enter Tryz.func20, Tryz.ntmps20
        go_wp2_with fail
        refine (HW.out _).mono ?_
        rintro e w1 ⟨rfl, h1⟩
        replace S := Lib.hid (S.out.below h1)
        clear h1 c0 c1 c2 c3 c4 c5
        obtain ⟨c0, c1, c2, c3, c4, c5⟩ := S.out.cells
        go_wp2_with fail
        refine (HO.out _ S.out.at_.op).mono ?_
        rintro e w2 ⟨rfl, h1⟩
        replace S := Lib.hid (S.out.below h1)
        clear h1 c0 c1 c2 c3 c4 c5
        obtain ⟨c0, c1, c2, c3, c4, c5⟩ := S.out.cells
        go_wp2_with fail
        refine (HA1.out _ S.out).mono ?_
        rintro e w3 ⟨rfl, h1⟩
        replace S := Lib.hid (S.out.below h1)
        clear h1 c0 c1 c2 c3 c4 c5
        obtain ⟨c0, c1, c2, c3, c4, c5⟩ := S.out.cells
        go_wp2_with fail
        refine (HU.out _ S.out.at_.us).mono ?_
        rintro e w4 ⟨rfl, h1⟩
        replace S := Lib.hid (S.out.below h1)
        clear h1 c0 c1 c2 c3 c4 c5
        obtain ⟨c0, c1, c2, c3, c4, c5⟩ := S.out.cells
        go_wp2_with fail
        refine (HA2.out _ S.out).mono ?_
        rintro e w5 ⟨rfl, h1⟩
        replace S := Lib.hid (S.out.below h1)
        clear h1 c0 c1 c2 c3 c4 c5
        obtain ⟨c0, c1, c2, c3, c4, c5⟩ := S.out.cells
        go_wp2_with fail
        refine (HS.out _ S.out.at_.su).mono ?_
        rintro e w6 ⟨rfl, h1⟩
        replace S := Lib.hid (S.out.below h1)
        clear h1 c0 c1 c2 c3 c4 c5
        obtain ⟨c0, c1, c2, c3, c4, c5⟩ := S.out.cells
        go_wp2_with fail
        refine (HA3.out _ S.out).mono ?_
        rintro e w7 ⟨rfl, h1⟩
        replace S := Lib.hid (S.out.below h1)
        clear h1 c0 c1 c2 c3 c4 c5
        obtain ⟨c0, c1, c2, c3, c4, c5⟩ := S.out.cells
        go_wp2
        go_ret
        exact ⟨retB HE.out, S.out.frame⟩
       | true =>
        rw [Bool.true_and] at HE
        cases b8 with
        | false =>
         replace HE : Hid (false = R) := HE.out
         go_enter Tryz.func20, Tryz.ntmps20
         go_wp2_with fail
         refine (HW.out _).mono ?_
         rintro e w1 ⟨rfl, h1⟩
         replace S := Lib.hid (S.out.below h1)
         clear h1 c0 c1 c2 c3 c4 c5
         obtain ⟨c0, c1, c2, c3, c4, c5⟩ := S.out.cells
         go_wp2_with fail
         refine (HO.out _ S.out.at_.op).mono ?_
         rintro e w2 ⟨rfl, h1⟩
         replace S := Lib.hid (S.out.below h1)
         clear h1 c0 c1 c2 c3 c4 c5
         obtain ⟨c0, c1, c2, c3, c4, c5⟩ := S.out.cells
         go_wp2_with fail
         refine (HA1.out _ S.out).mono ?_
         rintro e w3 ⟨rfl, h1⟩
         replace S := Lib.hid (S.out.below h1)
         clear h1 c0 c1 c2 c3 c4 c5
         obtain ⟨c0, c1, c2, c3, c4, c5⟩ := S.out.cells
         go_wp2_with fail
         refine (HU.out _ S.out.at_.us).mono ?_
         rintro e w4 ⟨rfl, h1⟩
         replace S := Lib.hid (S.out.below h1)
         clear h1 c0 c1 c2 c3 c4 c5
         obtain ⟨c0, c1, c2, c3, c4, c5⟩ := S.out.cells
         go_wp2_with fail
         refine (HA2.out _ S.out).mono ?_
         rintro e w5 ⟨rfl, h1⟩
         replace S := Lib.hid (S.out.below h1)
         clear h1 c0 c1 c2 c3 c4 c5
         obtain ⟨c0, c1, c2, c3, c4, c5⟩ := S.out.cells
         go_wp2_with fail
         refine (HS.out _ S.out.at_.su).mono ?_
         rintro e w6 ⟨rfl, h1⟩
         replace S := Lib.hid (S.out.below h1)
         clear h1 c0 c1 c2 c3 c4 c5
         obtain ⟨c0, c1, c2, c3, c4, c5⟩ := S.out.cells
         go_wp2_with fail
         refine (HA3.out _ S.out).mono ?_
         rintro e w7 ⟨rfl, h1⟩
         replace S := Lib.hid (S.out.below h1)
         clear h1 c0 c1 c2 c3 c4 c5
         obtain ⟨c0, c1, c2, c3, c4, c5⟩ := S.out.cells
         go_wp2_with fail
         refine (HT.out _ S.out.at_.tb).mono ?_
         rintro e w8 ⟨rfl, h1⟩
         replace S := Lib.hid (S.out.below h1)
         clear h1 c0 c1 c2 c3 c4 c5
         obtain ⟨c0, c1, c2, c3, c4, c5⟩ := S.out.cells
         go_wp2
         go_ret
         exact ⟨retB HE.out, S.out.frame⟩
        | true =>
         rw [Bool.true_and] at HE
         cases b9 with
         | false =>
          replace HE : Hid (false = R) := HE.out
          go_enter Tryz.func20, Tryz.ntmps20
          go_wp2_with fail
          refine (HW.out _).mono ?_
          rintro e w1 ⟨rfl, h1⟩
          replace S := Lib.hid (S.out.below h1)
          clear h1 c0 c1 c2 c3 c4 c5
          obtain ⟨c0, c1, c2, c3, c4, c5⟩ := S.out.cells
          go_wp2_with fail
          refine (HO.out _ S.out.at_.op).mono ?_
          rintro e w2 ⟨rfl, h1⟩
          replace S := Lib.hid (S.out.below h1)
          clear h1 c0 c1 c2 c3 c4 c5
          obtain ⟨c0, c1, c2, c3, c4, c5⟩ := S.out.cells
          go_wp2_with fail
          refine (HA1.out _ S.out).mono ?_
          rintro e w3 ⟨rfl, h1⟩
          replace S := Lib.hid (S.out.below h1)
          clear h1 c0 c1 c2 c3 c4 c5
          obtain ⟨c0, c1, c2, c3, c4, c5⟩ := S.out.cells
          go_wp2_with fail
          refine (HU.out _ S.out.at_.us).mono ?_
          rintro e w4 ⟨rfl, h1⟩
          replace S := Lib.hid (S.out.below h1)
          clear h1 c0 c1 c2 c3 c4 c5
          obtain ⟨c0, c1, c2, c3, c4, c5⟩ := S.out.cells
          go_wp2_with fail
          refine (HA2.out _ S.out).mono ?_
          rintro e w5 ⟨rfl, h1⟩
          replace S := Lib.hid (S.out.below h1)
          clear h1 c0 c1 c2 c3 c4 c5
          obtain ⟨c0, c1, c2, c3, c4, c5⟩ := S.out.cells
          go_wp2_with fail
          refine (HS.out _ S.out.at_.su).mono ?_
          rintro e w6 ⟨rfl, h1⟩
          replace S := Lib.hid (S.out.below h1)
          clear h1 c0 c1 c2 c3 c4 c5
          obtain ⟨c0, c1, c2, c3, c4, c5⟩ := S.out.cells
          go_wp2_with fail
          refine (HA3.out _ S.out).mono ?_
          rintro e w7 ⟨rfl, h1⟩
          replace S := Lib.hid (S.out.below h1)
          clear h1 c0 c1 c2 c3 c4 c5
          obtain ⟨c0, c1, c2, c3, c4, c5⟩ := S.out.cells
          go_wp2_with fail
          refine (HT.out _ S.out.at_.tb).mono ?_
          rintro e w8 ⟨rfl, h1⟩
          replace S := Lib.hid (S.out.below h1)
          clear h1 c0 c1 c2 c3 c4 c5
          obtain ⟨c0, c1, c2, c3, c4, c5⟩ := S.out.cells
          go_wp2_with fail
          refine (HA4.out _ S.out).mono ?_
          rintro e w9 ⟨rfl, h1⟩
          replace S := Lib.hid (S.out.below h1)
          clear h1 c0 c1 c2 c3 c4 c5
          obtain ⟨c0, c1, c2, c3, c4, c5⟩ := S.out.cells
          go_wp2
          go_ret
          exact ⟨retB HE.out, S.out.frame⟩
         | true =>
          go_enter Tryz.func20, Tryz.ntmps20
          go_wp2_with fail
          refine (HW.out _).mono ?_
          rintro e w1 ⟨rfl, h1⟩
          replace S := Lib.hid (S.out.below h1)
          clear h1 c0 c1 c2 c3 c4 c5
          obtain ⟨c0, c1, c2, c3, c4, c5⟩ := S.out.cells
          go_wp2_with fail
          refine (HO.out _ S.out.at_.op).mono ?_
          rintro e w2 ⟨rfl, h1⟩
          replace S := Lib.hid (S.out.below h1)
          clear h1 c0 c1 c2 c3 c4 c5
          obtain ⟨c0, c1, c2, c3, c4, c5⟩ := S.out.cells
          go_wp2_with fail
          refine (HA1.out _ S.out).mono ?_
          rintro e w3 ⟨rfl, h1⟩
          replace S := Lib.hid (S.out.below h1)
          clear h1 c0 c1 c2 c3 c4 c5
          obtain ⟨c0, c1, c2, c3, c4, c5⟩ := S.out.cells
          go_wp2_with fail
          refine (HU.out _ S.out.at_.us).mono ?_
          rintro e w4 ⟨rfl, h1⟩
          replace S := Lib.hid (S.out.below h1)
          clear h1 c0 c1 c2 c3 c4 c5
          obtain ⟨c0, c1, c2, c3, c4, c5⟩ := S.out.cells
          go_wp2_with fail
          refine (HA2.out _ S.out).mono ?_
          rintro e w5 ⟨rfl, h1⟩
          replace S := Lib.hid (S.out.below h1)
          clear h1 c0 c1 c2 c3 c4 c5
          obtain ⟨c0, c1, c2, c3, c4, c5⟩ := S.out.cells
          go_wp2_with fail
          refine (HS.out _ S.out.at_.su).mono ?_
          rintro e w6 ⟨rfl, h1⟩
          replace S := Lib.hid (S.out.below h1)
          clear h1 c0 c1 c2 c3 c4 c5
          obtain ⟨c0, c1, c2, c3, c4, c5⟩ := S.out.cells
          go_wp2_with fail
          refine (HA3.out _ S.out).mono ?_
          rintro e w7 ⟨rfl, h1⟩
          replace S := Lib.hid (S.out.below h1)
          clear h1 c0 c1 c2 c3 c4 c5
          obtain ⟨c0, c1, c2, c3, c4, c5⟩ := S.out.cells
          go_wp2_with fail
          refine (HT.out _ S.out.at_.tb).mono ?_
          rintro e w8 ⟨rfl, h1⟩
          replace S := Lib.hid (S.out.below h1)
          clear h1 c0 c1 c2 c3 c4 c5
          obtain ⟨c0, c1, c2, c3, c4, c5⟩ := S.out.cells
          go_wp2_with fail
          refine (HA4.out _ S.out).mono ?_
          rintro e w9 ⟨rfl, h1⟩
          replace S := Lib.hid (S.out.below h1)
          clear h1 c0 c1 c2 c3 c4 c5
          obtain ⟨c0, c1, c2, c3, c4, c5⟩ := S.out.cells
          go_wp2
          go_ret
          exact ⟨retB HE.out, S.out.frame⟩
end Go.Proofs.YtjhdhfokhkcamaaGreat
