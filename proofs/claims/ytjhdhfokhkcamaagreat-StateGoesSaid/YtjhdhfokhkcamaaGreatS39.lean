/- Texts of mine, one behind the other, of each what is wanted. -/
import Derived.Test.YtjhdhfokhkcamaaGreatS00
import Derived.Test.YtjhdhfokhkcamaaGreatShelf
import Derived.Test.YtjhdhfokhkcamaaGreatRows
import Derived.Test.YtjhdhfokhkcamaaGreatS02
import Derived.Test.YtjhdhfokhkcamaaGreatS04
import Derived.Test.YtjhdhfokhkcamaaGreatS06
import Derived.Test.YtjhdhfokhkcamaaGreatS07
import Derived.Test.YtjhdhfokhkcamaaGreatS09
import Derived.Test.YtjhdhfokhkcamaaGreatS11
import Derived.Test.YtjhdhfokhkcamaaGreatS13
import Derived.Test.YtjhdhfokhkcamaaGreatS14
import Derived.Test.YtjhdhfokhkcamaaGreatS23
import Derived.Test.YtjhdhfokhkcamaaGreatS29
import Derived.Test.YtjhdhfokhkcamaaGreatS30
import Derived.Test.YtjhdhfokhkcamaaGreatS32
import Derived.Test.YtjhdhfokhkcamaaGreatS34
import Derived.Test.YtjhdhfokhkcamaaGreatS35
import Derived.Test.YtjhdhfokhkcamaaGreatS36
import Derived.Test.YtjhdhfokhkcamaaGreatS37
import Derived.Test.YtjhdhfokhkcamaaGreatS38
namespace Go.Proofs.YtjhdhfokhkcamaaGreat
open Go.RowKit Go.Proofs
set_option linter.unusedVariables false
set_option maxRecDepth 100000
set_option maxHeartbeats 8000000 in
theorem rap4 (x : SaL) (a n st : Int) (u o : ByteArray) (w : World) (h : SaAt w x) (hf : Few x.m 400) (hk : RiseK UsM.u (umS x.us)) (ht : RiseK TbM.u x.tb) (hz : SzS x.m) (hu : u.size ≤ maxLen) (ho : o.size ≤ maxLen) (hv : RightV 4 a n st u o) (hle : ¬ a < x.now) :
  Calls Tryz.prog 17 #[saV x, evV ⟨4, a, u, o, n, st⟩] w (Tells w (tellS x.m 4 a n st u o) (errS x.m 4 a n st u o)) := by
 obtain ⟨HK, HE, HZ⟩ := three_SB h ⟨4, a, u, o, n, st⟩ 27 29 27
 have HR := Lib.hid (fun V => evrefRight_any ⟨4, a, u, o, n, st⟩ ⟨hu, ho⟩ V)
 rw [(rightE_iff 4 a n st u o).2 hv] at HR
 have hus : ∀ y ∈ x.us, y.u.size ≤ maxLen := fun y hy => hz.us y.m (List.mem_map_of_mem hy)
 obtain ⟨hes, htg, htz⟩ := tellS_ok hv (show ¬ a < x.m.now from hle)
 rw [hes]
 obtain ⟨now, hor, oa, op, oc, ua, us, uc, sa, su, sc, ta, tb, tc⟩ := x
 have HCL := Lib.hid (fun V (h : EnSl V sa su) => e_rgrant2 sa sc su u o a V h (fun e he => hz.su e he) hu ho HK.at_.sc (Nat.le_trans hf.su (by decide)))
 have HERR : Hid (errK (⟨now, hor, oa, op, oc, ua, us, uc, sa, su, sc, ta, tb, tc⟩ : SaL).m 4 a n st u o = (if su.any (infE u o) = true then 90 else 0)) := rfl
 generalize errK _ 4 a n st u o = er0 at *
 generalize tellS _ 4 a n st u o = R at *
 have HS := Lib.hid HK
 have HZZ := Lib.hid HZ
 have HEE := Lib.hid HE
 obtain ⟨c0, c1, c2, c3, c4, c5⟩ := HK.cells
 obtain ⟨⟨e0, e1, e2, e3, e4, e5⟩, -⟩ := cells6 HE.blk
 unfold saV evV saC at *
 dsimp only at *
 clear h hf HK HZ HE hv hus hk ht hz hu ho hes
 go_enter Tryz.func17, Tryz.ntmps17
 go_wp2_with fail
 refine (HR.out _).mono ?_
 rintro e w1 ⟨rfl, h1⟩
 have hbp := below_one w1 (.cells #[.string u, .string o] 96)
 have PB := pcell2 (heap_alloc_new w1 (.cells #[.string u, .string o] 96))
 have A0 := HS.out.below h1
 have E0 := HEE.out.below h1
 have A1 := A0.below hbp
 have B1 := (HZZ.out.below h1).below hbp
 have E1 := E0.below hbp
 clear c0 c1 c2 c3 c4 c5 e0 e1 e2 e3 e4 e5
 obtain ⟨b0, b1, b2, b3, b4, b5⟩ := A0.cells
 obtain ⟨⟨m0, m1, m2, m3, m4, m5⟩, -⟩ := cells6 E0.blk
 obtain ⟨c0, c1, c2, c3, c4, c5⟩ := A1.cells
 obtain ⟨⟨e0, e1, e2, e3, e4, e5⟩, -⟩ := cells6 E1.blk
 obtain ⟨p0, p1⟩ := PB
 have HS1 := Lib.hid A1
 have HZ1 := Lib.hid B1
 have HE1 := Lib.hid E1
 dsimp only at *
 clear HS HZZ HEE A0 E0 A1 B1 E1 hbp h1 HR
 go_wp2_with fail
 refine (HCL.out _ HS1.out.at_.su).mono ?_
 rintro e w2 ⟨x1, q1, m, er, rfl, i1, j1, k1, l1, h2⟩
 have hee : er = er0 := i1.trans HERR.out.symm
 subst hee
 have A2 := HS1.out.below h2
 have B2 := HZ1.out.below h2
 have E2 := HE1.out.below h2
 have A3 := A2.setSu rfl l1 k1
 have B3 := B2.far A2 (by omega) 4 (.slice x1 m.length q1)
 have E3 := E2.far (i := 4) (v := .slice x1 m.length q1) (show w.heap.size + 1 ≠ w.heap.size by omega)
 clear b0 b1 b2 b3 b4 b5 m0 m1 m2 m3 m4 m5 c0 c1 c2 c3 c4 c5 e0 e1 e2 e3 e4 e5 p0 p1
 obtain ⟨c0, c1, c2, c3, c4, c5⟩ := A2.cells
 obtain ⟨f0, f1, f2, f3, f4, f5⟩ := A2.free
 have hg2 := A2.lt
 have hone : er = 0 ∨ er = 90 := by rw [i1]; split <;> simp
 dsimp only at *
 clear A2 B2 E2 HS1 HZ1 HE1 h2 HCL l1 k1 i1 HERR
 by_cases he : er = 0
 ·have hR := htg he
  have hm := j1 he
  have hym : (⟨a, hor, oa, op, oc, ua, us, uc, x1, m, q1, ta, tb, tc⟩ : SaL).m = R := by rw [hR, hm]; rfl
  subst he
  clear htz htg hone j1 hm hR
  have A8 := A3.setNow a
  have B8 := B3.far A3 (by omega) 0 (.int .i64 a)
  have hfin := A8.finR B8
  obtain ⟨d0, d1, d2, d3, d4, d5⟩ := A8.cells
  obtain ⟨z0, z1, z2, z3, z4, z5⟩ := B8.cells
  obtain ⟨y0, y1, y2, y3, y4, y5⟩ := B8.free
  obtain ⟨g0, g1, g2, g3, g4, g5⟩ := A3.free
  obtain ⟨r0, r1, r2, r3, r4, r5⟩ := A3.cells
  obtain ⟨⟨e0, e1, e2, e3, e4, e5⟩, -⟩ := cells6 E3.blk
  have hzl := B8.lt
  have hgl := A3.lt
  have HL := Lib.hid hfin.1
  have HFN := Lib.hid (And.intro hfin.2.1 (And.intro hym hfin.2.2))
  unfold setS saV saC at HL
  (try unfold setS at *)
  unfold saO at z0 z1 z2 z3 z4 z5
  dsimp only at *
  clear A8 B8 hfin A3 B3 E3 hym
  go_wp2
  refine bodyPost_ret (v := .tuple #[saV ⟨a, hor, oa, op, oc, ua, us, uc, x1, m, q1, ta, tb, tc⟩, .int .i64 0]) ?_ rfl ⟨_, rfl, HFN.out⟩
  rw [results_cellT rfl]
  unfold saV saC
  simp [asAddr, Result.andThen, HL.out]
 ·clear j1
  have hfin := B3.finZR
  have hR := htz he
  subst hR
  obtain ⟨z0, z1, z2, z3, z4, z5⟩ := B3.cells
  obtain ⟨y0, y1, y2, y3, y4, y5⟩ := B3.free
  have hzl := B3.lt
  have HL := Lib.hid hfin.1
  have HFN := Lib.hid hfin.2
  (try unfold setS at *)
  unfold saO at z0 z1 z2 z3 z4 z5
  dsimp only at *
  clear hfin htz htg A3 B3 E3
  rcases hone with h9 | h9
  ·exact absurd h9 he
  clear he
  subst h9
  go_wp2
  refine bodyPost_ret (v := .tuple #[saV saO, .int .i64 _]) ?_ rfl ⟨_, rfl, HFN.out.1, rfl, HFN.out.2⟩
  rw [results_cellT rfl]
  unfold saV saC saO
  simp [asAddr, Result.andThen, HL.out]
set_option maxHeartbeats 8000000 in
theorem rap5 (x : SaL) (a n st : Int) (u o : ByteArray) (w : World) (h : SaAt w x) (hf : Few x.m 400) (hk : RiseK UsM.u (umS x.us)) (ht : RiseK TbM.u x.tb) (hz : SzS x.m) (hu : u.size ≤ maxLen) (ho : o.size ≤ maxLen) (hv : RightV 5 a n st u o) (hle : ¬ a < x.now) :
  Calls Tryz.prog 17 #[saV x, evV ⟨5, a, u, o, n, st⟩] w (Tells w (tellS x.m 5 a n st u o) (errS x.m 5 a n st u o)) := by
 obtain ⟨HK, HE, HZ⟩ := three_SB h ⟨5, a, u, o, n, st⟩ 27 29 27
 have HR := Lib.hid (fun V => evrefRight_any ⟨5, a, u, o, n, st⟩ ⟨hu, ho⟩ V)
 rw [(rightE_iff 5 a n st u o).2 hv] at HR
 have hus : ∀ y ∈ x.us, y.u.size ≤ maxLen := fun y hy => hz.us y.m (List.mem_map_of_mem hy)
 obtain ⟨hes, htg, htz⟩ := tellS_ok hv (show ¬ a < x.m.now from hle)
 rw [hes]
 obtain ⟨now, hor, oa, op, oc, ua, us, uc, sa, su, sc, ta, tb, tc⟩ := x
 have HCL := Lib.hid (fun V (h : EnSl V sa su) => e_rrevoke2 sa sc su u o a V h (Nat.le_trans hf.su (by decide)))
 have HERR : Hid (errK (⟨now, hor, oa, op, oc, ua, us, uc, sa, su, sc, ta, tb, tc⟩ : SaL).m 5 a n st u o = (if su.any (infE u o) = true then 0 else 91)) := rfl
 generalize errK _ 5 a n st u o = er0 at *
 generalize tellS _ 5 a n st u o = R at *
 have HS := Lib.hid HK
 have HZZ := Lib.hid HZ
 have HEE := Lib.hid HE
 obtain ⟨c0, c1, c2, c3, c4, c5⟩ := HK.cells
 obtain ⟨⟨e0, e1, e2, e3, e4, e5⟩, -⟩ := cells6 HE.blk
 unfold saV evV saC at *
 dsimp only at *
 clear h hf HK HZ HE hv hus hk ht hz hu ho hes
 go_enter Tryz.func17, Tryz.ntmps17
 go_wp2_with fail
 refine (HR.out _).mono ?_
 rintro e w1 ⟨rfl, h1⟩
 have hbp := below_one w1 (.cells #[.string u, .string o] 96)
 have PB := pcell2 (heap_alloc_new w1 (.cells #[.string u, .string o] 96))
 have A0 := HS.out.below h1
 have E0 := HEE.out.below h1
 have A1 := A0.below hbp
 have B1 := (HZZ.out.below h1).below hbp
 have E1 := E0.below hbp
 clear c0 c1 c2 c3 c4 c5 e0 e1 e2 e3 e4 e5
 obtain ⟨b0, b1, b2, b3, b4, b5⟩ := A0.cells
 obtain ⟨⟨m0, m1, m2, m3, m4, m5⟩, -⟩ := cells6 E0.blk
 obtain ⟨c0, c1, c2, c3, c4, c5⟩ := A1.cells
 obtain ⟨⟨e0, e1, e2, e3, e4, e5⟩, -⟩ := cells6 E1.blk
 obtain ⟨p0, p1⟩ := PB
 have HS1 := Lib.hid A1
 have HZ1 := Lib.hid B1
 have HE1 := Lib.hid E1
 dsimp only at *
 clear HS HZZ HEE A0 E0 A1 B1 E1 hbp h1 HR
 go_wp2_with fail
 refine (HCL.out _ HS1.out.at_.su).mono ?_
 rintro e w2 ⟨x1, q1, m, er, rfl, i1, j1, k1, l1, h2⟩
 have hee : er = er0 := i1.trans HERR.out.symm
 subst hee
 have A2 := HS1.out.below h2
 have B2 := HZ1.out.below h2
 have E2 := HE1.out.below h2
 have A3 := A2.setSu rfl l1 k1
 have B3 := B2.far A2 (by omega) 4 (.slice x1 m.length q1)
 have E3 := E2.far (i := 4) (v := .slice x1 m.length q1) (show w.heap.size + 1 ≠ w.heap.size by omega)
 clear b0 b1 b2 b3 b4 b5 m0 m1 m2 m3 m4 m5 c0 c1 c2 c3 c4 c5 e0 e1 e2 e3 e4 e5 p0 p1
 obtain ⟨c0, c1, c2, c3, c4, c5⟩ := A2.cells
 obtain ⟨f0, f1, f2, f3, f4, f5⟩ := A2.free
 have hg2 := A2.lt
 have hone : er = 0 ∨ er = 91 := by rw [i1]; split <;> simp
 dsimp only at *
 clear A2 B2 E2 HS1 HZ1 HE1 h2 HCL l1 k1 i1 HERR
 by_cases he : er = 0
 ·have hR := htg he
  have hm := j1 he
  have hym : (⟨a, hor, oa, op, oc, ua, us, uc, x1, m, q1, ta, tb, tc⟩ : SaL).m = R := by rw [hR, hm]; rfl
  subst he
  clear htz htg hone j1 hm hR
  have A8 := A3.setNow a
  have B8 := B3.far A3 (by omega) 0 (.int .i64 a)
  have hfin := A8.finR B8
  obtain ⟨d0, d1, d2, d3, d4, d5⟩ := A8.cells
  obtain ⟨z0, z1, z2, z3, z4, z5⟩ := B8.cells
  obtain ⟨y0, y1, y2, y3, y4, y5⟩ := B8.free
  obtain ⟨g0, g1, g2, g3, g4, g5⟩ := A3.free
  obtain ⟨r0, r1, r2, r3, r4, r5⟩ := A3.cells
  obtain ⟨⟨e0, e1, e2, e3, e4, e5⟩, -⟩ := cells6 E3.blk
  have hzl := B8.lt
  have hgl := A3.lt
  have HL := Lib.hid hfin.1
  have HFN := Lib.hid (And.intro hfin.2.1 (And.intro hym hfin.2.2))
  unfold setS saV saC at HL
  (try unfold setS at *)
  unfold saO at z0 z1 z2 z3 z4 z5
  dsimp only at *
  clear A8 B8 hfin A3 B3 E3 hym
  go_wp2
  refine bodyPost_ret (v := .tuple #[saV ⟨a, hor, oa, op, oc, ua, us, uc, x1, m, q1, ta, tb, tc⟩, .int .i64 0]) ?_ rfl ⟨_, rfl, HFN.out⟩
  rw [results_cellT rfl]
  unfold saV saC
  simp [asAddr, Result.andThen, HL.out]
 ·clear j1
  have hfin := B3.finZR
  have hR := htz he
  subst hR
  obtain ⟨z0, z1, z2, z3, z4, z5⟩ := B3.cells
  obtain ⟨y0, y1, y2, y3, y4, y5⟩ := B3.free
  have hzl := B3.lt
  have HL := Lib.hid hfin.1
  have HFN := Lib.hid hfin.2
  (try unfold setS at *)
  unfold saO at z0 z1 z2 z3 z4 z5
  dsimp only at *
  clear hfin htz htg A3 B3 E3
  rcases hone with h9 | h9
  ·exact absurd h9 he
  clear he
  subst h9
  go_wp2
  refine bodyPost_ret (v := .tuple #[saV saO, .int .i64 _]) ?_ rfl ⟨_, rfl, HFN.out.1, rfl, HFN.out.2⟩
  rw [results_cellT rfl]
  unfold saV saC saO
  simp [asAddr, Result.andThen, HL.out]
set_option maxHeartbeats 8000000 in
theorem rap6 (x : SaL) (a n st : Int) (u o : ByteArray) (w : World) (h : SaAt w x) (hf : Few x.m 400) (hk : RiseK UsM.u (umS x.us)) (ht : RiseK TbM.u x.tb) (hz : SzS x.m) (hu : u.size ≤ maxLen) (ho : o.size ≤ maxLen) (hv : RightV 6 a n st u o) (hle : ¬ a < x.now) :
  Calls Tryz.prog 17 #[saV x, evV ⟨6, a, u, o, n, st⟩] w (Tells w (tellS x.m 6 a n st u o) (errS x.m 6 a n st u o)) := by
 obtain ⟨HK, HE, HZ⟩ := three_SB h ⟨6, a, u, o, n, st⟩ 27 29 27
 have HR := Lib.hid (fun V => evrefRight_any ⟨6, a, u, o, n, st⟩ ⟨hu, ho⟩ V)
 rw [(rightE_iff 6 a n st u o).2 hv] at HR
 have hus : ∀ y ∈ x.us, y.u.size ≤ maxLen := fun y hy => hz.us y.m (List.mem_map_of_mem hy)
 obtain ⟨hes, htg, htz⟩ := tellS_ok hv (show ¬ a < x.m.now from hle)
 rw [hes]
 obtain ⟨now, hor, oa, op, oc, ua, us, uc, sa, su, sc, ta, tb, tc⟩ := x
 have herr : errK (⟨now, hor, oa, op, oc, ua, us, uc, sa, su, sc, ta, tb, tc⟩ : SaL).m 6 a n st u o = 0 := rfl
 have hym : (⟨a, max hor n, oa, op, oc, ua, us, uc, sa, su, sc, ta, tb, tc⟩ : SaL).m = tellS (⟨now, hor, oa, op, oc, ua, us, uc, sa, su, sc, ta, tb, tc⟩ : SaL).m 6 a n st u o := by rw [htg herr]; rfl
 rw [herr]
 generalize tellS _ 6 a n st u o = R at *
 have HS := Lib.hid HK
 have HZZ := Lib.hid HZ
 have HEE := Lib.hid HE
 obtain ⟨c0, c1, c2, c3, c4, c5⟩ := HK.cells
 obtain ⟨⟨e0, e1, e2, e3, e4, e5⟩, -⟩ := cells6 HE.blk
 unfold saV evV saC at *
 dsimp only at *
 clear h hf HK HZ HE hv hus hk ht hz hu ho htg htz herr hes
 go_enter Tryz.func17, Tryz.ntmps17
 go_wp2_with fail
 refine (HR.out _).mono ?_
 rintro e w1 ⟨rfl, h1⟩
 have hbp := below_one w1 (.cells #[.string u, .string o] 96)
 have PB := pcell2 (heap_alloc_new w1 (.cells #[.string u, .string o] 96))
 have A0 := HS.out.below h1
 have E0 := HEE.out.below h1
 have A1 := A0.below hbp
 have B1 := (HZZ.out.below h1).below hbp
 have E1 := E0.below hbp
 clear c0 c1 c2 c3 c4 c5 e0 e1 e2 e3 e4 e5
 obtain ⟨b0, b1, b2, b3, b4, b5⟩ := A0.cells
 obtain ⟨⟨m0, m1, m2, m3, m4, m5⟩, -⟩ := cells6 E0.blk
 obtain ⟨c0, c1, c2, c3, c4, c5⟩ := A1.cells
 obtain ⟨⟨e0, e1, e2, e3, e4, e5⟩, -⟩ := cells6 E1.blk
 obtain ⟨p0, p1⟩ := PB
 have HS1 := Lib.hid A1
 have HZ1 := Lib.hid B1
 have HE1 := Lib.hid E1
 dsimp only at *
 clear HS HZZ HEE A0 E0 A1 B1 E1 hbp h1 HR
 go_upto_region 17 with fail
 clear b0 b1 b2 b3 b4 b5 m0 m1 m2 m3 m4 m5
 generalize hW : w1.alloc _ = W1 at *
 clear hW c0 c1 c2 c3 c4 c5 e0 e1 e2 e3 e4 e5
 have A2 := HS1.out.setHor (max hor n)
 have B2 := HZ1.out.far HS1.out (by omega) 1 (.int .i64 (max hor n))
 have E2 := HE1.out.far (i := 1) (v := .int .i64 (max hor n)) (show w.heap.size + 1 ≠ w.heap.size by omega)
 obtain ⟨c0, c1, c2, c3, c4, c5⟩ := HS1.out.cells
 obtain ⟨f0, f1, f2, f3, f4, f5⟩ := HS1.out.free
 obtain ⟨⟨m0, m1, m2, m3, m4, m5⟩, -⟩ := cells6 HE1.out.blk
 have hg2 := HS1.out.lt
 dsimp only at *
 have A8 := A2.setNow a
 have B8 := B2.far A2 (by omega) 0 (.int .i64 a)
 have hfin := A8.finR B8
 obtain ⟨d0, d1, d2, d3, d4, d5⟩ := A8.cells
 obtain ⟨z0, z1, z2, z3, z4, z5⟩ := B8.cells
 obtain ⟨y0, y1, y2, y3, y4, y5⟩ := B8.free
 obtain ⟨g0, g1, g2, g3, g4, g5⟩ := A2.free
 obtain ⟨r0, r1, r2, r3, r4, r5⟩ := A2.cells
 obtain ⟨⟨e0, e1, e2, e3, e4, e5⟩, -⟩ := cells6 E2.blk
 have hzl := B8.lt
 have hgl := A2.lt
 have HL := Lib.hid hfin.1
 have HFN := Lib.hid (And.intro hfin.2.1 (And.intro hym hfin.2.2))
 unfold setS saV saC at HL
 (try unfold setS at *)
 unfold saO at z0 z1 z2 z3 z4 z5
 dsimp only at *
 clear A8 B8 hfin A2 B2 E2 hym HS1 HZ1 HE1
 go_wp2
 refine bodyPost_ret (v := .tuple #[saV ⟨a, max hor n, oa, op, oc, ua, us, uc, sa, su, sc, ta, tb, tc⟩, .int .i64 0]) ?_ rfl ⟨_, rfl, HFN.out⟩
 rw [results_cellT rfl]
 unfold saV saC
 simp [asAddr, Result.andThen, HL.out]
set_option maxHeartbeats 1000000 in
theorem rap7 (x : SaL) (a n st : Int) (u o : ByteArray) (w : World) (h : SaAt w x) (hf : Few x.m 400) (hk : RiseK UsM.u (umS x.us)) (ht : RiseK TbM.u x.tb) (hz : SzS x.m) (hu : u.size ≤ maxLen) (ho : o.size ≤ maxLen) (hv : RightV 7 a n st u o) (hle : ¬ a < x.now) :
  Calls Tryz.prog 17 #[saV x, evV ⟨7, a, u, o, n, st⟩] w (Tells w (tellS x.m 7 a n st u o) (errS x.m 7 a n st u o)) := by
 obtain ⟨HK, HE, HZ⟩ := three_SB h ⟨7, a, u, o, n, st⟩ 27 29 27
 have HR := Lib.hid (fun V => evrefRight_any ⟨7, a, u, o, n, st⟩ ⟨hu, ho⟩ V)
 rw [(rightE_iff 7 a n st u o).2 hv] at HR
 have hus : ∀ y ∈ x.us, y.u.size ≤ maxLen := fun y hy => hz.us y.m (List.mem_map_of_mem hy)
 obtain ⟨hes, htg, htz⟩ := tellS_ok hv (show ¬ a < x.m.now from hle)
 rw [hes]
 obtain ⟨now, hor, oa, op, oc, ua, us, uc, sa, su, sc, ta, tb, tc⟩ := x
 have herr : errK (⟨now, hor, oa, op, oc, ua, us, uc, sa, su, sc, ta, tb, tc⟩ : SaL).m 7 a n st u o = 0 := rfl
 have htl := htg herr
 rw [herr]
 have HWO := Lib.hid (fun V (h : OpSl V oa op) => o_rwithout oa oc op u V h (Nat.le_trans hf.op (by decide)))
 have HWE := Lib.hid (fun V (h : EnSl V sa su) => e_rwithout sa sc su u V h (Nat.le_trans hf.su (by decide)))
 have HPU := Lib.hid (fun V (h : UsSl V ua us) => rput_any ua uc us u none 0 [] V h ⟨StSl.nil _ _, Nat.le_refl _, Nat.zero_le _, fun _ => rfl⟩ hk (by have := few_us hf; dsimp only at this; omega) hu hus)
 have HTB := Lib.hid (fun V (h : TbSl V ta tb) => rtombs_any ta tc tb u a V h ht (Nat.le_trans hf.tb (by decide)) hu hz.tb)
 have hgo : goS (⟨now, hor, oa, op, oc, ua, us, uc, sa, su, sc, ta, tb, tc⟩ : SaL).m 7 a n st u o = ⟨a, hor, op.filter (notU u), putU (umS us) u [], withoutS su u, tombU tb u a⟩ := rfl
 have HRT : Hid (∀ y : SaL, y.m = ⟨a, hor, op.filter (notU u), putU (umS us) u [], withoutS su u, tombU tb u a⟩ → y.m = tellS (⟨now, hor, oa, op, oc, ua, us, uc, sa, su, sc, ta, tb, tc⟩ : SaL).m 7 a n st u o) := fun y hy => by rw [hy, htl, hgo]
 clear hgo
 generalize tellS _ 7 a n st u o = R at *
 have HS := Lib.hid HK
 have HZZ := Lib.hid HZ
 have HEE := Lib.hid HE
 obtain ⟨c0, c1, c2, c3, c4, c5⟩ := HK.cells
 obtain ⟨⟨e0, e1, e2, e3, e4, e5⟩, -⟩ := cells6 HE.blk
 unfold saV evV saC at *
 dsimp only at *
 clear h hf HK HZ HE hv hus hk ht hz hu ho htg htz herr hes htl
 go_enter Tryz.func17, Tryz.ntmps17
 go_wp2_with fail
 refine (HR.out _).mono ?_
 rintro e w1 ⟨rfl, h1⟩
 have hbp := below_one w1 (.cells #[.string u, .string o] 96)
 have PB := pcell2 (heap_alloc_new w1 (.cells #[.string u, .string o] 96))
 have A0 := HS.out.below h1
 have E0 := HEE.out.below h1
 have A1 := A0.below hbp
 have B1 := (HZZ.out.below h1).below hbp
 have E1 := E0.below hbp
 clear c0 c1 c2 c3 c4 c5 e0 e1 e2 e3 e4 e5
 obtain ⟨b0, b1, b2, b3, b4, b5⟩ := A0.cells
 obtain ⟨⟨m0, m1, m2, m3, m4, m5⟩, -⟩ := cells6 E0.blk
 obtain ⟨c0, c1, c2, c3, c4, c5⟩ := A1.cells
 obtain ⟨⟨e0, e1, e2, e3, e4, e5⟩, -⟩ := cells6 E1.blk
 obtain ⟨p0, p1⟩ := PB
 have HS1 := Lib.hid A1
 have HZ1 := Lib.hid B1
 have HE1 := Lib.hid E1
 dsimp only at *
 clear HS HZZ HEE A0 E0 A1 B1 E1 hbp h1 HR
 go_wp2_with fail
 refine (HWO.out _ HS1.out.at_.op).mono ?_
 rintro e w2 ⟨x1, q1, rfl, i1, j1, k1, l1, h2⟩
 have A2 := HS1.out.below h2
 have B2 := HZ1.out.below h2
 have E2 := HE1.out.below h2
 have A3 := A2.setOp rfl l1 ⟨i1, j1, k1⟩
 have B3 := B2.far A2 (by omega) 2 (.slice x1 (op.filter (notU u)).length q1)
 have E3 := E2.far (i := 2) (v := .slice x1 (op.filter (notU u)).length q1) (show w.heap.size + 1 ≠ w.heap.size by omega)
 clear b0 b1 b2 b3 b4 b5 m0 m1 m2 m3 m4 m5 c0 c1 c2 c3 c4 c5 e0 e1 e2 e3 e4 e5 p0 p1
 obtain ⟨f0, f1, f2, f3, f4, f5⟩ := A2.free
 have hg2 := A2.lt
 obtain ⟨c0, c1, c2, c3, c4, c5⟩ := A3.cells
 obtain ⟨⟨e0, e1, e2, e3, e4, e5⟩, -⟩ := cells6 E3.blk
 obtain ⟨b0, b1, b2, b3, b4, b5⟩ := A2.cells
 have HS2 := Lib.hid A3
 have HZ2 := Lib.hid B3
 have HE2 := Lib.hid E3
 dsimp only at *
 clear A2 B2 E2 A3 B3 E3 HS1 HZ1 HE1 h2 HWO l1 i1 j1 k1
 go_wp2_with fail
 refine (HWE.out _ HS2.out.at_.su).mono ?_
 rintro e w3 ⟨x2, q2, rfl, i1, j1, k1, l1, h2⟩
 have A2 := HS2.out.below h2
 have B2 := HZ2.out.below h2
 have E2 := HE2.out.below h2
 have A3 := A2.setSu rfl l1 ⟨i1, j1, k1⟩
 have B3 := B2.far A2 (by omega) 4 (.slice x2 (su.filter (wiE u)).length q2)
 have E3 := E2.far (i := 4) (v := .slice x2 (su.filter (wiE u)).length q2) (show w.heap.size + 1 ≠ w.heap.size by omega)
 clear f0 f1 f2 f3 f4 f5 hg2 c0 c1 c2 c3 c4 c5 e0 e1 e2 e3 e4 e5 b0 b1 b2 b3 b4 b5
 obtain ⟨f0, f1, f2, f3, f4, f5⟩ := A2.free
 have hg2 := A2.lt
 obtain ⟨c0, c1, c2, c3, c4, c5⟩ := A3.cells
 obtain ⟨⟨e0, e1, e2, e3, e4, e5⟩, -⟩ := cells6 E3.blk
 obtain ⟨b0, b1, b2, b3, b4, b5⟩ := A2.cells
 have HS3 := Lib.hid A3
 have HZ3 := Lib.hid B3
 have HE3 := Lib.hid E3
 dsimp only at *
 clear A2 B2 E2 A3 B3 E3 HS2 HZ2 HE2 h2 HWE l1 i1 j1 k1
 go_wp2_with fail
 refine (HPU.out _ HS3.out.at_.us).mono ?_
 rintro e w4 ⟨x3, q3, L, rfl, l1, k1, g1, h2⟩
 have A2 := HS3.out.below h2
 have B2 := HZ3.out.below h2
 have E2 := HE3.out.below h2
 have A3 := A2.setUs rfl l1 k1
 have B3 := B2.far A2 (by omega) 3 (.slice x3 L.length q3)
 have E3 := E2.far (i := 3) (v := .slice x3 L.length q3) (show w.heap.size + 1 ≠ w.heap.size by omega)
 have HG := Lib.hid g1
 clear f0 f1 f2 f3 f4 f5 hg2 c0 c1 c2 c3 c4 c5 e0 e1 e2 e3 e4 e5 b0 b1 b2 b3 b4 b5
 obtain ⟨f0, f1, f2, f3, f4, f5⟩ := A2.free
 have hg2 := A2.lt
 obtain ⟨c0, c1, c2, c3, c4, c5⟩ := A3.cells
 obtain ⟨⟨e0, e1, e2, e3, e4, e5⟩, -⟩ := cells6 E3.blk
 obtain ⟨b0, b1, b2, b3, b4, b5⟩ := A2.cells
 have HS4 := Lib.hid A3
 have HZ4 := Lib.hid B3
 have HE4 := Lib.hid E3
 dsimp only at *
 clear A2 B2 E2 A3 B3 E3 HS3 HZ3 HE3 h2 HPU l1 k1 g1
 go_wp2_with fail
 refine (HTB.out _ HS4.out.at_.tb).mono ?_
 rintro e w5 ⟨x4, q4, rfl, l1, k1, h2⟩
 have A2 := HS4.out.below h2
 have B2 := HZ4.out.below h2
 have E2 := HE4.out.below h2
 have A3 := A2.setTb rfl l1 k1
 have B3 := B2.far A2 (by omega) 5 (.slice x4 (tombU tb u a).length q4)
 have E3 := E2.far (i := 5) (v := .slice x4 (tombU tb u a).length q4) (show w.heap.size + 1 ≠ w.heap.size by omega)
 have hym : (⟨a, hor, x1, op.filter (notU u), q1, x3, L, q3, x2, su.filter (wiE u), q2, x4, tombU tb u a, q4⟩ : SaL).m = R := HRT.out _ (by unfold SaL.m; simp only; rw [HG.out]; rfl)
 clear f0 f1 f2 f3 f4 f5 hg2 c0 c1 c2 c3 c4 c5 e0 e1 e2 e3 e4 e5 b0 b1 b2 b3 b4 b5 HRT HG
 obtain ⟨f0, f1, f2, f3, f4, f5⟩ := A2.free
 obtain ⟨c0, c1, c2, c3, c4, c5⟩ := A2.cells
 have hg2 := A2.lt
 dsimp only at *
 clear A2 B2 E2 HS4 HZ4 HE4 h2 HTB l1 k1
 have A8 := A3.setNow a
 have B8 := B3.far A3 (by omega) 0 (.int .i64 a)
 have hfin := A8.finR B8
 obtain ⟨d0, d1, d2, d3, d4, d5⟩ := A8.cells
 obtain ⟨z0, z1, z2, z3, z4, z5⟩ := B8.cells
 obtain ⟨y0, y1, y2, y3, y4, y5⟩ := B8.free
 obtain ⟨g0, g1, g2, g3, g4, g5⟩ := A3.free
 obtain ⟨r0, r1, r2, r3, r4, r5⟩ := A3.cells
 obtain ⟨⟨e0, e1, e2, e3, e4, e5⟩, -⟩ := cells6 E3.blk
 have hzl := B8.lt
 have hgl := A3.lt
 have HL := Lib.hid hfin.1
 have HFN := Lib.hid (And.intro hfin.2.1 (And.intro hym hfin.2.2))
 unfold setS saV saC at HL
 (try unfold setS at *)
 unfold saO at z0 z1 z2 z3 z4 z5
 dsimp only at *
 clear A8 B8 hfin A3 B3 E3 hym
 go_wp2
 refine bodyPost_ret (v := .tuple #[saV ⟨a, hor, x1, op.filter (notU u), q1, x3, L, q3, x2, su.filter (wiE u), q2, x4, tombU tb u a, q4⟩, .int .i64 0]) ?_ rfl ⟨_, rfl, HFN.out⟩
 rw [results_cellT rfl]
 unfold saV saC
 simp [asAddr, Result.andThen, HL.out]
end Go.Proofs.YtjhdhfokhkcamaaGreat
