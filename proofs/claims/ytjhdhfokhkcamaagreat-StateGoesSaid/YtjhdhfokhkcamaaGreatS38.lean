/- Texts of mine, one behind the other, of each what is wanted. -/
import Derived.Test.YtjhdhfokhkcamaaGreatS00
import Derived.Test.YtjhdhfokhkcamaaGreatShelf
import Derived.Test.YtjhdhfokhkcamaaGreatRows
import Derived.Test.YtjhdhfokhkcamaaGreatS02
import Derived.Test.YtjhdhfokhkcamaaGreatS06
import Derived.Test.YtjhdhfokhkcamaaGreatS07
import Derived.Test.YtjhdhfokhkcamaaGreatS09
import Derived.Test.YtjhdhfokhkcamaaGreatS11
import Derived.Test.YtjhdhfokhkcamaaGreatS13
import Derived.Test.YtjhdhfokhkcamaaGreatS14
import Derived.Test.YtjhdhfokhkcamaaGreatS29
import Derived.Test.YtjhdhfokhkcamaaGreatS32
import Derived.Test.YtjhdhfokhkcamaaGreatS36
import Derived.Test.YtjhdhfokhkcamaaGreatS37
namespace Go.Proofs.YtjhdhfokhkcamaaGreat
open Go.RowKit Go.Proofs
set_option linter.unusedVariables false
set_option maxRecDepth 100000
theorem SB.finZR {w T : World} {r : Nat} {t : TypeId} {z : SaL} (hZ : SB w r t z T) : (loadVar 27 ⟨r, 0, none⟩).run Tryz.prog ((((((T.setCell ⟨r, 0, none⟩ (.int .i64 0)).setCell ⟨r, 1, none⟩ (.int .i64 0)).setCell ⟨r, 2, none⟩ (.slice none 0 0)).setCell ⟨r, 3, none⟩ (.slice none 0 0)).setCell ⟨r, 4, none⟩ (.slice none 0 0)).setCell ⟨r, 5, none⟩ (.slice none 0 0)) = .ok (.agg #[.int .i64 0, .int .i64 0, .slice none 0 0, .slice none 0 0, .slice none 0 0, .slice none 0 0]) ((((((T.setCell ⟨r, 0, none⟩ (.int .i64 0)).setCell ⟨r, 1, none⟩ (.int .i64 0)).setCell ⟨r, 2, none⟩ (.slice none 0 0)).setCell ⟨r, 3, none⟩ (.slice none 0 0)).setCell ⟨r, 4, none⟩ (.slice none 0 0)).setCell ⟨r, 5, none⟩ (.slice none 0 0)) ∧ SaAt (setS T r saO) saO ∧ Below w.heap.size w (setS T r saO) := by
 have h := SB.finVR (SaAt.zero T) hZ
 have h1 := h.1
 unfold setS saV saC saO at h1
 simp only [List.length_nil] at h1
 exact ⟨h1, h.2⟩
theorem tellS_ok {s : SaM} {k a n st : Int} {u o : ByteArray} (hv : RightV k a n st u o) (hle : ¬ a < s.now) : errS s k a n st u o = errK s k a n st u o ∧ (errK s k a n st u o = 0 → tellS s k a n st u o = goS s k a n st u o) ∧ (errK s k a n st u o ≠ 0 → tellS s k a n st u o = saZ) := by
 have h1 : errS s k a n st u o = errK s k a n st u o := by unfold errS; rw [if_pos hv, if_neg hle]
 refine ⟨h1, fun h => ?_, fun h => ?_⟩
 ·unfold tellS; rw [h1, if_pos h]
 ·unfold tellS; rw [h1, if_neg h]
set_option maxHeartbeats 8000000 in
theorem rap1 (x : SaL) (a n st : Int) (u o : ByteArray) (w : World) (h : SaAt w x) (hf : Few x.m 400) (hk : RiseK UsM.u (umS x.us)) (ht : RiseK TbM.u x.tb) (hz : SzS x.m) (hu : u.size ≤ maxLen) (ho : o.size ≤ maxLen) (hv : RightV 1 a n st u o) (hle : ¬ a < x.now) :
  Calls Tryz.prog 17 #[saV x, evV ⟨1, a, u, o, n, st⟩] w (Tells w (tellS x.m 1 a n st u o) (errS x.m 1 a n st u o)) := by
 obtain ⟨HK, HE, HZ⟩ := three_SB h ⟨1, a, u, o, n, st⟩ 27 29 27
 have HR := Lib.hid (fun V => evrefRight_any ⟨1, a, u, o, n, st⟩ ⟨hu, ho⟩ V)
 rw [(rightE_iff 1 a n st u o).2 hv] at HR
 have hus : ∀ y ∈ x.us, y.u.size ≤ maxLen := fun y hy => hz.us y.m (List.mem_map_of_mem hy)
 obtain ⟨hes, htg, htz⟩ := tellS_ok hv (show ¬ a < x.m.now from hle)
 rw [hes]
 have HSE := Lib.hid (fun V (h : SaAt V x) => rsess1 x a n st u o V h hf hk hu hus)
 have hone := errK_one x.m 1 a n st u o
 have hnow := goS_now x.m 1 a n st u o
 generalize errK x.m 1 a n st u o = er at *
 generalize goS x.m 1 a n st u o = G at *
 generalize tellS x.m 1 a n st u o = R at *
 obtain ⟨now, hor, oa, op, oc, ua, us, uc, sa, su, sc, ta, tb, tc⟩ := x
 have HS := Lib.hid HK
 have HZZ := Lib.hid HZ
 have HEE := Lib.hid HE
 obtain ⟨c0, c1, c2, c3, c4, c5⟩ := HK.cells
 obtain ⟨⟨e0, e1, e2, e3, e4, e5⟩, -⟩ := cells6 HE.blk
 unfold saV evV saC at *
 dsimp only at *
 clear h hf HK HZ HE hv hus hk ht hz hu ho
 go_enter Tryz.func17, Tryz.ntmps17
 go_wp2_with fail
 refine (HR.out _).mono ?_
 rintro e w1 ⟨rfl, h1⟩
 have hbp := below_one w1 (.cells #[.string u, .string o] 96)
 have PB := pcell2 (heap_alloc_new w1 (.cells #[.string u, .string o] 96))
 have A0 := HS.out.below h1
 have E0 := HEE.out.below h1
 have A1 := A0.below hbp
 have B1 := (HZZ.out.below h1).below hbp
 have E1 := E0.below hbp
 clear c0 c1 c2 c3 c4 c5 e0 e1 e2 e3 e4 e5
 obtain ⟨b0, b1, b2, b3, b4, b5⟩ := A0.cells
 obtain ⟨⟨m0, m1, m2, m3, m4, m5⟩, -⟩ := cells6 E0.blk
 obtain ⟨c0, c1, c2, c3, c4, c5⟩ := A1.cells
 obtain ⟨⟨e0, e1, e2, e3, e4, e5⟩, -⟩ := cells6 E1.blk
 obtain ⟨p0, p1⟩ := PB
 have HS1 := Lib.hid A1
 have HZ1 := Lib.hid B1
 have HE1 := Lib.hid E1
 dsimp only at *
 clear HS HZZ HEE A0 E0 A1 B1 E1 hbp h1 HR
 go_wp2_with fail
 refine (HSE.out _ HS1.out.at_).mono ?_
 rintro e w2 ⟨y, rfl, l2, mm, h2⟩
 have A2 := HS1.out.below h2
 have B2 := HZ1.out.below h2
 have E2 := HE1.out.below h2
 obtain ⟨A3, B3⟩ := A2.over l2 B2 (by omega)
 have E3 := E2.set (y := y) (show w.heap.size + 1 ≠ w.heap.size by omega)
 clear b0 b1 b2 b3 b4 b5 m0 m1 m2 m3 m4 m5 c0 c1 c2 c3 c4 c5 e0 e1 e2 e3 e4 e5 p0 p1
 obtain ⟨c0, c1, c2, c3, c4, c5⟩ := A2.cells
 obtain ⟨f0, f1, f2, f3, f4, f5⟩ := A2.free
 have hg2 := A2.lt
 obtain ⟨now1, hor1, oa1, op1, oc1, ua1, us1, uc1, sa1, su1, sc1, ta1, tb1, tc1⟩ := y
 unfold saV saC at *
 dsimp only at *
 clear A2 B2 E2 HS1 HZ1 HE1 h2 HSE l2
 by_cases he : er = 0
 ·have hR := htg he
  have hy := mm he
  subst hR
  have hym : (⟨a, hor1, oa1, op1, oc1, ua1, us1, uc1, sa1, su1, sc1, ta1, tb1, tc1⟩ : SaL).m = R := by
   unfold SaL.m at hy ⊢
   obtain ⟨Gn, Gh, Go, Gu, Gs, Gt⟩ := R
   simp only at hy hnow ⊢
   injection hy with _ g1 g2 g3 g4 g5
   rw [hnow, g1, g2, g3, g4, g5]
  subst he
  clear htz htg hone hnow mm hy
  have A8 := A3.setNow a
  have B8 := B3.far A3 (by omega) 0 (.int .i64 a)
  have hfin := A8.finR B8
  obtain ⟨d0, d1, d2, d3, d4, d5⟩ := A8.cells
  obtain ⟨z0, z1, z2, z3, z4, z5⟩ := B8.cells
  obtain ⟨y0, y1, y2, y3, y4, y5⟩ := B8.free
  obtain ⟨g0, g1, g2, g3, g4, g5⟩ := A3.free
  obtain ⟨r0, r1, r2, r3, r4, r5⟩ := A3.cells
  obtain ⟨⟨e0, e1, e2, e3, e4, e5⟩, -⟩ := cells6 E3.blk
  have hzl := B8.lt
  have hgl := A3.lt
  have HL := Lib.hid hfin.1
  have HFN := Lib.hid (And.intro hfin.2.1 (And.intro hym hfin.2.2))
  unfold setS saV saC at HL
  (try unfold setS at *)
  unfold saO at z0 z1 z2 z3 z4 z5
  dsimp only at *
  clear A8 B8 hfin A3 B3 E3 hym
  go_wp2
  refine bodyPost_ret (v := .tuple #[saV ⟨a, hor1, oa1, op1, oc1, ua1, us1, uc1, sa1, su1, sc1, ta1, tb1, tc1⟩, .int .i64 0]) ?_ rfl ⟨_, rfl, HFN.out⟩
  rw [results_cellT rfl]
  unfold saV saC
  simp [asAddr, Result.andThen, HL.out]
 ·clear mm hnow
  have hfin := B3.finZR
  have hR := htz he
  subst hR
  obtain ⟨z0, z1, z2, z3, z4, z5⟩ := B3.cells
  obtain ⟨y0, y1, y2, y3, y4, y5⟩ := B3.free
  have hzl := B3.lt
  have HL := Lib.hid hfin.1
  have HFN := Lib.hid hfin.2
  (try unfold setS at *)
  unfold saO at z0 z1 z2 z3 z4 z5
  dsimp only at *
  clear hfin htz htg A3 B3 E3
  rcases hone with h9 | h9 | h9 | h9 | h9 | h9 | h9
  ·exact absurd h9 he
  all_goals
   clear he
   subst h9
   go_wp2
   refine bodyPost_ret (v := .tuple #[saV saO, .int .i64 _]) ?_ rfl ⟨_, rfl, HFN.out.1, rfl, HFN.out.2⟩
   rw [results_cellT rfl]
   unfold saV saC saO
   simp [asAddr, Result.andThen, HL.out]
set_option maxHeartbeats 8000000 in
theorem rap2 (x : SaL) (a n st : Int) (u o : ByteArray) (w : World) (h : SaAt w x) (hf : Few x.m 400) (hk : RiseK UsM.u (umS x.us)) (ht : RiseK TbM.u x.tb) (hz : SzS x.m) (hu : u.size ≤ maxLen) (ho : o.size ≤ maxLen) (hv : RightV 2 a n st u o) (hle : ¬ a < x.now) :
  Calls Tryz.prog 17 #[saV x, evV ⟨2, a, u, o, n, st⟩] w (Tells w (tellS x.m 2 a n st u o) (errS x.m 2 a n st u o)) := by
 obtain ⟨HK, HE, HZ⟩ := three_SB h ⟨2, a, u, o, n, st⟩ 27 29 27
 have HR := Lib.hid (fun V => evrefRight_any ⟨2, a, u, o, n, st⟩ ⟨hu, ho⟩ V)
 rw [(rightE_iff 2 a n st u o).2 hv] at HR
 have hus : ∀ y ∈ x.us, y.u.size ≤ maxLen := fun y hy => hz.us y.m (List.mem_map_of_mem hy)
 obtain ⟨hes, htg, htz⟩ := tellS_ok hv (show ¬ a < x.m.now from hle)
 rw [hes]
 have HSE := Lib.hid (fun V (h : SaAt V x) => rsess2 x a n st u o V h hf hk hu hus)
 have hone := errK_one x.m 2 a n st u o
 have hnow := goS_now x.m 2 a n st u o
 generalize errK x.m 2 a n st u o = er at *
 generalize goS x.m 2 a n st u o = G at *
 generalize tellS x.m 2 a n st u o = R at *
 obtain ⟨now, hor, oa, op, oc, ua, us, uc, sa, su, sc, ta, tb, tc⟩ := x
 have HS := Lib.hid HK
 have HZZ := Lib.hid HZ
 have HEE := Lib.hid HE
 obtain ⟨c0, c1, c2, c3, c4, c5⟩ := HK.cells
 obtain ⟨⟨e0, e1, e2, e3, e4, e5⟩, -⟩ := cells6 HE.blk
 unfold saV evV saC at *
 dsimp only at *
 clear h hf HK HZ HE hv hus hk ht hz hu ho
 go_enter Tryz.func17, Tryz.ntmps17
 go_wp2_with fail
 refine (HR.out _).mono ?_
 rintro e w1 ⟨rfl, h1⟩
 have hbp := below_one w1 (.cells #[.string u, .string o] 96)
 have PB := pcell2 (heap_alloc_new w1 (.cells #[.string u, .string o] 96))
 have A0 := HS.out.below h1
 have E0 := HEE.out.below h1
 have A1 := A0.below hbp
 have B1 := (HZZ.out.below h1).below hbp
 have E1 := E0.below hbp
 clear c0 c1 c2 c3 c4 c5 e0 e1 e2 e3 e4 e5
 obtain ⟨b0, b1, b2, b3, b4, b5⟩ := A0.cells
 obtain ⟨⟨m0, m1, m2, m3, m4, m5⟩, -⟩ := cells6 E0.blk
 obtain ⟨c0, c1, c2, c3, c4, c5⟩ := A1.cells
 obtain ⟨⟨e0, e1, e2, e3, e4, e5⟩, -⟩ := cells6 E1.blk
 obtain ⟨p0, p1⟩ := PB
 have HS1 := Lib.hid A1
 have HZ1 := Lib.hid B1
 have HE1 := Lib.hid E1
 dsimp only at *
 clear HS HZZ HEE A0 E0 A1 B1 E1 hbp h1 HR
 go_wp2_with fail
 refine (HSE.out _ HS1.out.at_).mono ?_
 rintro e w2 ⟨y, rfl, l2, mm, h2⟩
 have A2 := HS1.out.below h2
 have B2 := HZ1.out.below h2
 have E2 := HE1.out.below h2
 obtain ⟨A3, B3⟩ := A2.over l2 B2 (by omega)
 have E3 := E2.set (y := y) (show w.heap.size + 1 ≠ w.heap.size by omega)
 clear b0 b1 b2 b3 b4 b5 m0 m1 m2 m3 m4 m5 c0 c1 c2 c3 c4 c5 e0 e1 e2 e3 e4 e5 p0 p1
 obtain ⟨c0, c1, c2, c3, c4, c5⟩ := A2.cells
 obtain ⟨f0, f1, f2, f3, f4, f5⟩ := A2.free
 have hg2 := A2.lt
 obtain ⟨now1, hor1, oa1, op1, oc1, ua1, us1, uc1, sa1, su1, sc1, ta1, tb1, tc1⟩ := y
 unfold saV saC at *
 dsimp only at *
 clear A2 B2 E2 HS1 HZ1 HE1 h2 HSE l2
 by_cases he : er = 0
 ·have hR := htg he
  have hy := mm he
  subst hR
  have hym : (⟨a, hor1, oa1, op1, oc1, ua1, us1, uc1, sa1, su1, sc1, ta1, tb1, tc1⟩ : SaL).m = R := by
   unfold SaL.m at hy ⊢
   obtain ⟨Gn, Gh, Go, Gu, Gs, Gt⟩ := R
   simp only at hy hnow ⊢
   injection hy with _ g1 g2 g3 g4 g5
   rw [hnow, g1, g2, g3, g4, g5]
  subst he
  clear htz htg hone hnow mm hy
  have A8 := A3.setNow a
  have B8 := B3.far A3 (by omega) 0 (.int .i64 a)
  have hfin := A8.finR B8
  obtain ⟨d0, d1, d2, d3, d4, d5⟩ := A8.cells
  obtain ⟨z0, z1, z2, z3, z4, z5⟩ := B8.cells
  obtain ⟨y0, y1, y2, y3, y4, y5⟩ := B8.free
  obtain ⟨g0, g1, g2, g3, g4, g5⟩ := A3.free
  obtain ⟨r0, r1, r2, r3, r4, r5⟩ := A3.cells
  obtain ⟨⟨e0, e1, e2, e3, e4, e5⟩, -⟩ := cells6 E3.blk
  have hzl := B8.lt
  have hgl := A3.lt
  have HL := Lib.hid hfin.1
  have HFN := Lib.hid (And.intro hfin.2.1 (And.intro hym hfin.2.2))
  unfold setS saV saC at HL
  (try unfold setS at *)
  unfold saO at z0 z1 z2 z3 z4 z5
  dsimp only at *
  clear A8 B8 hfin A3 B3 E3 hym
  go_wp2
  refine bodyPost_ret (v := .tuple #[saV ⟨a, hor1, oa1, op1, oc1, ua1, us1, uc1, sa1, su1, sc1, ta1, tb1, tc1⟩, .int .i64 0]) ?_ rfl ⟨_, rfl, HFN.out⟩
  rw [results_cellT rfl]
  unfold saV saC
  simp [asAddr, Result.andThen, HL.out]
 ·clear mm hnow
  have hfin := B3.finZR
  have hR := htz he
  subst hR
  obtain ⟨z0, z1, z2, z3, z4, z5⟩ := B3.cells
  obtain ⟨y0, y1, y2, y3, y4, y5⟩ := B3.free
  have hzl := B3.lt
  have HL := Lib.hid hfin.1
  have HFN := Lib.hid hfin.2
  (try unfold setS at *)
  unfold saO at z0 z1 z2 z3 z4 z5
  dsimp only at *
  clear hfin htz htg A3 B3 E3
  rcases hone with h9 | h9 | h9 | h9 | h9 | h9 | h9
  ·exact absurd h9 he
  all_goals
   clear he
   subst h9
   go_wp2
   refine bodyPost_ret (v := .tuple #[saV saO, .int .i64 _]) ?_ rfl ⟨_, rfl, HFN.out.1, rfl, HFN.out.2⟩
   rw [results_cellT rfl]
   unfold saV saC saO
   simp [asAddr, Result.andThen, HL.out]
set_option maxHeartbeats 8000000 in
theorem rap3 (x : SaL) (a n st : Int) (u o : ByteArray) (w : World) (h : SaAt w x) (hf : Few x.m 400) (hk : RiseK UsM.u (umS x.us)) (ht : RiseK TbM.u x.tb) (hz : SzS x.m) (hu : u.size ≤ maxLen) (ho : o.size ≤ maxLen) (hv : RightV 3 a n st u o) (hle : ¬ a < x.now) :
  Calls Tryz.prog 17 #[saV x, evV ⟨3, a, u, o, n, st⟩] w (Tells w (tellS x.m 3 a n st u o) (errS x.m 3 a n st u o)) := by
 obtain ⟨HK, HE, HZ⟩ := three_SB h ⟨3, a, u, o, n, st⟩ 27 29 27
 have HR := Lib.hid (fun V => evrefRight_any ⟨3, a, u, o, n, st⟩ ⟨hu, ho⟩ V)
 rw [(rightE_iff 3 a n st u o).2 hv] at HR
 have hus : ∀ y ∈ x.us, y.u.size ≤ maxLen := fun y hy => hz.us y.m (List.mem_map_of_mem hy)
 obtain ⟨hes, htg, htz⟩ := tellS_ok hv (show ¬ a < x.m.now from hle)
 rw [hes]
 have HSE := Lib.hid (fun V (h : SaAt V x) => rsess3 x a n st u o V h hf hk hu hus)
 have hone := errK_one x.m 3 a n st u o
 have hnow := goS_now x.m 3 a n st u o
 generalize errK x.m 3 a n st u o = er at *
 generalize goS x.m 3 a n st u o = G at *
 generalize tellS x.m 3 a n st u o = R at *
 obtain ⟨now, hor, oa, op, oc, ua, us, uc, sa, su, sc, ta, tb, tc⟩ := x
 have HS := Lib.hid HK
 have HZZ := Lib.hid HZ
 have HEE := Lib.hid HE
 obtain ⟨c0, c1, c2, c3, c4, c5⟩ := HK.cells
 obtain ⟨⟨e0, e1, e2, e3, e4, e5⟩, -⟩ := cells6 HE.blk
 unfold saV evV saC at *
 dsimp only at *
 clear h hf HK HZ HE hv hus hk ht hz hu ho
 go_enter Tryz.func17, Tryz.ntmps17
 go_wp2_with fail
 refine (HR.out _).mono ?_
 rintro e w1 ⟨rfl, h1⟩
 have hbp := below_one w1 (.cells #[.string u, .string o] 96)
 have PB := pcell2 (heap_alloc_new w1 (.cells #[.string u, .string o] 96))
 have A0 := HS.out.below h1
 have E0 := HEE.out.below h1
 have A1 := A0.below hbp
 have B1 := (HZZ.out.below h1).below hbp
 have E1 := E0.below hbp
 clear c0 c1 c2 c3 c4 c5 e0 e1 e2 e3 e4 e5
 obtain ⟨b0, b1, b2, b3, b4, b5⟩ := A0.cells
 obtain ⟨⟨m0, m1, m2, m3, m4, m5⟩, -⟩ := cells6 E0.blk
 obtain ⟨c0, c1, c2, c3, c4, c5⟩ := A1.cells
 obtain ⟨⟨e0, e1, e2, e3, e4, e5⟩, -⟩ := cells6 E1.blk
 obtain ⟨p0, p1⟩ := PB
 have HS1 := Lib.hid A1
 have HZ1 := Lib.hid B1
 have HE1 := Lib.hid E1
 dsimp only at *
 clear HS HZZ HEE A0 E0 A1 B1 E1 hbp h1 HR
 go_wp2_with fail
 refine (HSE.out _ HS1.out.at_).mono ?_
 rintro e w2 ⟨y, rfl, l2, mm, h2⟩
 have A2 := HS1.out.below h2
 have B2 := HZ1.out.below h2
 have E2 := HE1.out.below h2
 obtain ⟨A3, B3⟩ := A2.over l2 B2 (by omega)
 have E3 := E2.set (y := y) (show w.heap.size + 1 ≠ w.heap.size by omega)
 clear b0 b1 b2 b3 b4 b5 m0 m1 m2 m3 m4 m5 c0 c1 c2 c3 c4 c5 e0 e1 e2 e3 e4 e5 p0 p1
 obtain ⟨c0, c1, c2, c3, c4, c5⟩ := A2.cells
 obtain ⟨f0, f1, f2, f3, f4, f5⟩ := A2.free
 have hg2 := A2.lt
 obtain ⟨now1, hor1, oa1, op1, oc1, ua1, us1, uc1, sa1, su1, sc1, ta1, tb1, tc1⟩ := y
 unfold saV saC at *
 dsimp only at *
 clear A2 B2 E2 HS1 HZ1 HE1 h2 HSE l2
 by_cases he : er = 0
 ·have hR := htg he
  have hy := mm he
  subst hR
  have hym : (⟨a, hor1, oa1, op1, oc1, ua1, us1, uc1, sa1, su1, sc1, ta1, tb1, tc1⟩ : SaL).m = R := by
   unfold SaL.m at hy ⊢
   obtain ⟨Gn, Gh, Go, Gu, Gs, Gt⟩ := R
   simp only at hy hnow ⊢
   injection hy with _ g1 g2 g3 g4 g5
   rw [hnow, g1, g2, g3, g4, g5]
  subst he
  clear htz htg hone hnow mm hy
  have A8 := A3.setNow a
  have B8 := B3.far A3 (by omega) 0 (.int .i64 a)
  have hfin := A8.finR B8
  obtain ⟨d0, d1, d2, d3, d4, d5⟩ := A8.cells
  obtain ⟨z0, z1, z2, z3, z4, z5⟩ := B8.cells
  obtain ⟨y0, y1, y2, y3, y4, y5⟩ := B8.free
  obtain ⟨g0, g1, g2, g3, g4, g5⟩ := A3.free
  obtain ⟨r0, r1, r2, r3, r4, r5⟩ := A3.cells
  obtain ⟨⟨e0, e1, e2, e3, e4, e5⟩, -⟩ := cells6 E3.blk
  have hzl := B8.lt
  have hgl := A3.lt
  have HL := Lib.hid hfin.1
  have HFN := Lib.hid (And.intro hfin.2.1 (And.intro hym hfin.2.2))
  unfold setS saV saC at HL
  (try unfold setS at *)
  unfold saO at z0 z1 z2 z3 z4 z5
  dsimp only at *
  clear A8 B8 hfin A3 B3 E3 hym
  go_wp2
  refine bodyPost_ret (v := .tuple #[saV ⟨a, hor1, oa1, op1, oc1, ua1, us1, uc1, sa1, su1, sc1, ta1, tb1, tc1⟩, .int .i64 0]) ?_ rfl ⟨_, rfl, HFN.out⟩
  rw [results_cellT rfl]
  unfold saV saC
  simp [asAddr, Result.andThen, HL.out]
 ·clear mm hnow
  have hfin := B3.finZR
  have hR := htz he
  subst hR
  obtain ⟨z0, z1, z2, z3, z4, z5⟩ := B3.cells
  obtain ⟨y0, y1, y2, y3, y4, y5⟩ := B3.free
  have hzl := B3.lt
  have HL := Lib.hid hfin.1
  have HFN := Lib.hid hfin.2
  (try unfold setS at *)
  unfold saO at z0 z1 z2 z3 z4 z5
  dsimp only at *
  clear hfin htz htg A3 B3 E3
  rcases hone with h9 | h9 | h9 | h9 | h9 | h9 | h9
  ·exact absurd h9 he
  all_goals
   clear he
   subst h9
   go_wp2
   refine bodyPost_ret (v := .tuple #[saV saO, .int .i64 _]) ?_ rfl ⟨_, rfl, HFN.out.1, rfl, HFN.out.2⟩
   rw [results_cellT rfl]
   unfold saV saC saO
   simp [asAddr, Result.andThen, HL.out]
end Go.Proofs.YtjhdhfokhkcamaaGreat
