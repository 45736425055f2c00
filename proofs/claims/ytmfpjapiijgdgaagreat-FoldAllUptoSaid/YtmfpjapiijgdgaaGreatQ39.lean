/- Texts of mine, one behind the other, of each what is wanted. -/
import Derived.Test.YtmfpjapiijgdgaaGreatQ00
import Derived.Test.YtmfpjapiijgdgaaGreatShelf
import Derived.Test.YtmfpjapiijgdgaaGreatRows
import Derived.Test.YtmfpjapiijgdgaaGreatQ01
import Derived.Test.YtmfpjapiijgdgaaGreatQ04
import Derived.Test.YtmfpjapiijgdgaaGreatQ06
import Derived.Test.YtmfpjapiijgdgaaGreatQ07
import Derived.Test.YtmfpjapiijgdgaaGreatQ16
import Derived.Test.YtmfpjapiijgdgaaGreatQ17
import Derived.Test.YtmfpjapiijgdgaaGreatQ22
import Derived.Test.YtmfpjapiijgdgaaGreatQ23
import Derived.Test.YtmfpjapiijgdgaaGreatQ27
import Derived.Test.YtmfpjapiijgdgaaGreatQ30
import Derived.Test.YtmfpjapiijgdgaaGreatQ32
import Derived.Test.YtmfpjapiijgdgaaGreatQ34
import Derived.Test.YtmfpjapiijgdgaaGreatQ35
import Derived.Test.YtmfpjapiijgdgaaGreatQ38
namespace Go.Proofs.YtmfpjapiijgdgaaGreat
open Go.RowKit Go.Proofs
set_option linter.unusedVariables false
set_option maxRecDepth 100000
theorem ErO.nil (W : World) (B : Nat) : ErO W B (.slice none 0 0) [] := .inl ⟨rfl, rfl⟩
theorem FoK.over {w T : World} {t : TypeId} {a : Option Addr} {l : List EvM} {q zz : SaL} {E : List Int} {v : Value} {gz : Nat} {t' : TypeId} (h : FoK w t a l q E v T) (hZ : SB w gz t' saO T) (hy : SaAt T zz) (ns : w.heap.size ≠ gz) (nz : w.heap.size + 1 ≠ gz) (hne : t' ≠ 60) :
  FoK w t a l q E v (setS T gz zz) ∧ SB w gz t' zz (setS T gz zz) :=
 ⟨⟨(SB.over hZ hy h.s ns).2, (SB.over hZ hy h.z nz).2, ErO.setT hZ hy h.o hne, evsl_setS hZ hy h.l⟩, SB.set hZ hy⟩
end Go.Proofs.YtmfpjapiijgdgaaGreat
namespace Go.Proofs.YtmfpjapiijgdgaaGreat
open Go.RowKit Go.Proofs
set_option linter.unusedVariables false
set_option maxRecDepth 100000
set_option maxRecDepth 100000
theorem o_ropen2 (a : Option Addr) (c : Nat) (l : List OpM) (e0 : OpM) (W : World) (h : OpSl W a l) (hc : Cp a l.length c) (hl : l.length ≤ 500) : Calls Tryz.prog 204 #[.slice a l.length c, .agg #[.int .i64 e0.n, .string e0.u, .int .i64 e0.s, .int .i64 e0.f]] W fun e w' => ∃ x q m er, e = .returned (.tuple #[.slice x m.length q, .int .i64 er]) ∧ er = openC l e0 ∧ (er = 0 → m = openR l e0) ∧ Cp x m.length q ∧ OpSl w' x m ∧ Below W.heap.size W w' := by
 refine (o_ropen a c l e0 W h hc.nil hl hc.le hc.mx).mono ?_
 rintro e w' ⟨x, q, rfl, i1, i2, i3, i4, hb⟩
 exact ⟨x, q, _, _, rfl, rfl, fun _ => rfl, ⟨i1, i2, i3⟩, i4, hb⟩
theorem e_rgrant2 (a : Option Addr) (c : Nat) (l : List EnM) (p u : ByteArray) (n : Int) (W : World) (h : EnSl W a l) (hsz : SzE l) (hp : p.size ≤ maxLen) (hu : u.size ≤ maxLen) (hc : Cp a l.length c) (hl : l.length ≤ 500) : Calls Tryz.prog 146 #[.slice a l.length c, .agg #[.string p, .string u], .int .i64 n] W fun e w' => ∃ x q m er, e = .returned (.tuple #[.slice x m.length q, .int .i64 er]) ∧ er = (if l.any (infE p u) = true then 90 else 0) ∧ (er = 0 → m = grantS l (mkE p u n)) ∧ Cp x m.length q ∧ EnSl w' x m ∧ Below W.heap.size W w' := by
 by_cases hi : l.any (infE p u) = true
 ·refine (e_rgrant_no a c l p u n W h hsz hp hu hc.nil hl hc.le hc.mx hi).mono ?_
  rintro e w' ⟨rfl, hb⟩
  exact ⟨none, 0, [], 90, rfl, (if_pos hi).symm, fun h => absurd h (by decide), Cp.none, EnSl.nil _ _, hb⟩
 ·refine (e_rgrant a c l p u n W h hsz hp hu hc.nil hl hc.le hc.mx (Bool.eq_false_iff.2 hi)).mono ?_
  rintro e w' ⟨x, q, rfl, i1, i2, i3, i4, hb⟩
  exact ⟨x, q, _, 0, rfl, (if_neg hi).symm, fun _ => rfl, ⟨i1, i2, i3⟩, i4, hb⟩
theorem e_rrevoke2 (a : Option Addr) (c : Nat) (l : List EnM) (p u : ByteArray) (n : Int) (W : World) (h : EnSl W a l) (hl : l.length ≤ 500) : Calls Tryz.prog 147 #[.slice a l.length c, .agg #[.string p, .string u], .int .i64 n] W fun e w' => ∃ x q m er, e = .returned (.tuple #[.slice x m.length q, .int .i64 er]) ∧ er = (if l.any (infE p u) = true then 0 else 91) ∧ (er = 0 → m = revokeS l p u n) ∧ Cp x m.length q ∧ EnSl w' x m ∧ Below W.heap.size W w' := by
 by_cases hi : l.any (infE p u) = true
 ·refine (e_rrevoke a c l p u n W h hl hi).mono ?_
  rintro e w' ⟨x, q, rfl, i1, i2, i3, i4, hb⟩
  exact ⟨x, q, _, 0, rfl, (if_pos hi).symm, fun _ => rfl, ⟨i1, i2, i3⟩, i4, hb⟩
 ·refine (e_rrevoke_no a c l p u n W h hl (Bool.eq_false_iff.2 hi)).mono ?_
  rintro e w' ⟨rfl, hb⟩
  exact ⟨none, 0, [], 91, rfl, (if_neg hi).symm, fun h => absurd h (by decide), Cp.none, EnSl.nil _ _, hb⟩
theorem OpSl.setSt {W : World} {g : Nat} {t : TypeId} {a b c d : Int} (hI : IntB W g t a b c d) {r : Option Addr} {l : List OpM} (ho : OpSl W r l) (s : StM) : OpSl (setSt W g s) r l := by
 have i0 : IntB _ g t s.f b c d := heap_setCell_at hI 0 (.int .i64 s.f)
 have i1 : IntB _ g t s.f s.t c d := heap_setCell_at i0 1 (.int .i64 s.t)
 have i2 : IntB _ g t s.f s.t s.n d := heap_setCell_at i1 2 (.int .i64 s.n)
 exact (((ho.setI hI 0 _).setI i0 1 _).setI i1 2 _).setI i2 3 _
set_option maxHeartbeats 8000000 in
theorem rsess1 (x : SaL) (a n st : Int) (u o : ByteArray) (w : World) (h : SaAt w x) (hf : Few x.m 400) (hk : RiseK UsM.u (umS x.us)) (hu : u.size ≤ maxLen) (hs : ∀ y ∈ x.us, y.u.size ≤ maxLen) :
  Calls Tryz.prog 145 #[saV x, evV ⟨1, a, u, o, n, st⟩] w (Told w x (errK x.m 1 a n st u o) { goS x.m 1 a n st u o with now := x.now }) := by
 obtain ⟨HK, HE, HZ⟩ := three_SB h ⟨1, a, u, o, n, st⟩ 27 47 27
 rw [show goS x.m 1 a n st u o = _ from rfl]
 obtain ⟨now, hor, oa, op, oc, ua, us, uc, sa, su, sc, ta, tb, tc⟩ := x
 have HCL := Lib.hid (fun V (h : OpSl V oa op) => o_ropen2 oa oc op ⟨n, u, st, a⟩ V h HK.at_.oc (Nat.le_trans hf.op (by decide)))
 have HS := Lib.hid HK
 have HZZ := Lib.hid HZ
 have HEE := Lib.hid HE
 obtain ⟨c0, c1, c2, c3, c4, c5⟩ := HK.cells
 obtain ⟨f0, f1, f2, f3, f4, f5⟩ := HK.free
 obtain ⟨⟨e0, e1, e2, e3, e4, e5⟩, -⟩ := cells6 HE.blk
 have hgl := HK.lt
 unfold saV evV saC at *
 dsimp only at *
 clear h hf HK HZ HE
 go_enter Tryz.func145, Tryz.ntmps145
 go_wp2_with fail
 refine (HCL.out _ HS.out.at_.op).mono ?_
 rintro e w1 ⟨x1, q1, m, er, rfl, i1, j1, k1, l1, h1⟩
 have A1 := HS.out.below h1
 have B1 := HZZ.out.below h1
 have A2 := A1.setOp rfl l1 k1
 have B2 := B1.far A1 (by omega) 2 (.slice x1 m.length q1)
 have hfin := A2.finR B2
 clear c0 c1 c2 c3 c4 c5 f0 f1 f2 f3 f4 f5 hgl e0 e1 e2 e3 e4 e5
 obtain ⟨c0, c1, c2, c3, c4, c5⟩ := A1.cells
 obtain ⟨f0, f1, f2, f3, f4, f5⟩ := A1.free
 obtain ⟨⟨e0, e1, e2, e3, e4, e5⟩, -⟩ := cells6 (HEE.out.below h1).blk
 have hgl := A1.lt
 obtain ⟨d0, d1, d2, d3, d4, d5⟩ := A2.cells
 obtain ⟨z0, z1, z2, z3, z4, z5⟩ := B2.cells
 obtain ⟨y0, y1, y2, y3, y4, y5⟩ := B2.free
 have hzl := B2.lt
 have HL := Lib.hid hfin.1
 have HFN := Lib.hid (And.intro hfin.2.1 (And.intro i1 (And.intro j1 hfin.2.2)))
 unfold setS saV saC at HL
 unfold saO at z0 z1 z2 z3 z4 z5
 dsimp only at *
 clear HS HZZ HEE A1 B1 A2 B2 hfin l1 k1 h1 HCL i1 j1
 go_wp2
 refine bodyPost_ret (v := .tuple #[saV ⟨now, hor, x1, m, q1, ua, us, uc, sa, su, sc, ta, tb, tc⟩, .int .i64 er]) ?_ rfl ?_
 ·rw [results_cellT rfl]
  unfold saV saC
  simp [asAddr, Result.andThen, HL.out]
 ·obtain ⟨g1, g2, g3, g4⟩ := HFN.out
  subst g2
  exact ⟨_, rfl, g1, fun he => by rw [g3 he]; rfl, g4⟩
set_option maxHeartbeats 8000000 in
theorem rsess3 (x : SaL) (a n st : Int) (u o : ByteArray) (w : World) (h : SaAt w x) (hf : Few x.m 400) (hk : RiseK UsM.u (umS x.us)) (hu : u.size ≤ maxLen) (hs : ∀ y ∈ x.us, y.u.size ≤ maxLen) :
  Calls Tryz.prog 145 #[saV x, evV ⟨3, a, u, o, n, st⟩] w (Told w x (errK x.m 3 a n st u o) { goS x.m 3 a n st u o with now := x.now }) := by
 obtain ⟨HK, HE, HZ⟩ := three_SB h ⟨3, a, u, o, n, st⟩ 27 47 27
 rw [show goS x.m 3 a n st u o = _ from rfl]
 obtain ⟨now, hor, oa, op, oc, ua, us, uc, sa, su, sc, ta, tb, tc⟩ := x
 have HCL := Lib.hid (fun V (h : OpSl V oa op) => o_rclose oa oc op n u a V h (Nat.le_trans hf.op (by decide)))
 have HAD := Lib.hid (fun x1 q1 V (h : SaAt V ⟨now, hor, x1, cloR op n u, q1, ua, us, uc, sa, su, sc, ta, tb, tc⟩) => radd_any ⟨now, hor, x1, cloR op n u, q1, ua, us, uc, sa, su, sc, ta, tb, tc⟩ u (fndS op n u a) V h ⟨Nat.le_trans (cloR_len _ _ _) (Nat.le_trans hf.op (by decide)), Nat.le_trans hf.us (by decide), Nat.le_trans hf.su (by decide), Nat.le_trans hf.tb (by decide), fun y hy => Nat.le_trans (hf.st y hy) (by decide)⟩ hk hu hs)
 unfold stV at HAD
 generalize hst : fndS op n u a = s at HCL HAD
 have HS := Lib.hid HK
 have HZZ := Lib.hid HZ
 have HEE := Lib.hid HE
 obtain ⟨c0, c1, c2, c3, c4, c5⟩ := HK.cells
 obtain ⟨f0, f1, f2, f3, f4, f5⟩ := HK.free
 obtain ⟨⟨e0, e1, e2, e3, e4, e5⟩, -⟩ := cells6 HE.blk
 have hgl := HK.lt
 unfold saV evV saC at *
 dsimp only at *
 clear h hf HK HZ HE
 go_enter Tryz.func145, Tryz.ntmps145
 go_wp2_with fail
 refine (HCL.out _ HS.out.at_.op).mono ?_
 rintro e w1 ⟨x1, q1, rfl, i1, j1, k1, l1, h1⟩
 have A1 := HS.out.below h1
 have B1 := HZZ.out.below h1
 have E1 := HEE.out.below h1
 have A2 := A1.setOp rfl l1 ⟨i1, j1, k1⟩
 have B2 := B1.far A1 (by omega) 2 (.slice x1 (cloR op n u).length q1)
 have E2 := E1.far (i := 2) (v := .slice x1 (cloR op n u).length q1) (show w.heap.size + 1 ≠ w.heap.size by omega)
 have hbs := below_one (w1.setCell ⟨w.heap.size, 2, none⟩ (.slice x1 (cloR op n u).length q1)) (.cells #[.int .i64 s.f, .int .i64 s.t, .int .i64 s.n, .int .i64 s.s] 104)
 have ST := heap_alloc_new (w1.setCell ⟨w.heap.size, 2, none⟩ (.slice x1 (cloR op n u).length q1)) (.cells #[.int .i64 s.f, .int .i64 s.t, .int .i64 s.n, .int .i64 s.s] 104)
 rw [size_set] at ST
 have A3 := A2.below hbs
 have B3 := B2.below hbs
 have E3 := E2.below hbs
 clear c0 c1 c2 c3 c4 c5 f0 f1 f2 f3 f4 f5 hgl e0 e1 e2 e3 e4 e5
 obtain ⟨f0, f1, f2, f3, f4, f5⟩ := A1.free
 have hgl := A1.lt
 obtain ⟨s0, s1, s2, s3⟩ := cells4 ST
 obtain ⟨b0, b1, b2, b3, b4, b5⟩ := A1.cells
 obtain ⟨c0, c1, c2, c3, c4, c5⟩ := A3.cells
 obtain ⟨⟨e0, e1, e2, e3, e4, e5⟩, -⟩ := cells6 E3.blk
 obtain ⟨⟨m0, m1, m2, m3, m4, m5⟩, -⟩ := cells6 (E1.below (below_one w1 (.cells #[.int .i64 s.f, .int .i64 s.t, .int .i64 s.n, .int .i64 s.s] 104))).blk
 have HS3 := Lib.hid A3
 have HZ3 := Lib.hid B3
 have HE3 := Lib.hid E3
 dsimp only at *
 clear HS HZZ HEE A1 B1 E1 A2 B2 E2 A3 B3 E3 ST hbs l1 h1 HCL i1 j1 k1
 go_wp2_with fail
 refine (HAD.out x1 q1 _ HS3.out.at_).mono ?_
 rintro e w2 ⟨y2, rfl, l2, m2, h2⟩
 clear m0 m1 m3 m4 m5 b0 b1 b2 b3 b4 b5 f0 f1 f2 f3 f4 f5
 clear e0 e1 e2 e3 e4 e5 c0 c1 c2 c3 c4 c5 s0 s1 s2 s3
 have B5 := HZ3.out.below h2
 have hfin := SB.finVR l2 B5
 obtain ⟨z0, z1, z2, z3, z4, z5⟩ := B5.cells
 obtain ⟨y0, y1, y2', y3, y4, y5⟩ := B5.free
 have hzl := B5.lt
 have HL := Lib.hid hfin.1
 have HFN := Lib.hid (And.intro hfin.2.1 (And.intro m2 hfin.2.2))
 obtain ⟨now1, hor1, oa1, op1, oc1, ua1, us1, uc1, sa1, su1, sc1, ta1, tb1, tc1⟩ := y2
 unfold setS saV saC at HL
 (try unfold saV at *)
 (try unfold saC at *)
 unfold saO at z0 z1 z2 z3 z4 z5
 dsimp only at *
 clear HS3 HZ3 HE3 B5 hfin l2 m2 h2 HAD
 go_wp2
 refine bodyPost_ret (v := .tuple #[saV ⟨now1, hor1, oa1, op1, oc1, ua1, us1, uc1, sa1, su1, sc1, ta1, tb1, tc1⟩, .int .i64 (findC op n u)]) ?_ rfl ?_
 ·rw [results_cellT rfl]
  unfold saV saC
  simp [asAddr, Result.andThen, HL.out]
 ·obtain ⟨g1, g2, g3⟩ := HFN.out
  exact ⟨_, rfl, g1, fun he => by rw [g2, ← hst]; rfl, g3⟩
set_option maxHeartbeats 8000000 in
theorem rsess2 (x : SaL) (a n st : Int) (u o : ByteArray) (w : World) (h : SaAt w x) (hf : Few x.m 400) (hk : RiseK UsM.u (umS x.us)) (hu : u.size ≤ maxLen) (hs : ∀ y ∈ x.us, y.u.size ≤ maxLen) :
  Calls Tryz.prog 145 #[saV x, evV ⟨2, a, u, o, n, st⟩] w (Told w x (errK x.m 2 a n st u o) { goS x.m 2 a n st u o with now := x.now }) := by
 obtain ⟨HK, HE, HZ⟩ := three_SB h ⟨2, a, u, o, n, st⟩ 27 47 27
 rw [show goS x.m 2 a n st u o = _ from rfl]
 obtain ⟨now, hor, oa, op, oc, ua, us, uc, sa, su, sc, ta, tb, tc⟩ := x
 have HCL := Lib.hid (fun V (h : OpSl V oa op) => o_rclose oa oc op n u a V h (Nat.le_trans hf.op (by decide)))
 have HCH := Lib.hid (fun V (h : OpSl V oa op) => o_rchange oa oc op n u st a V h (Nat.le_trans hf.op (by decide)) HK.at_.oc.le HK.at_.oc.mx)
 have HAD := Lib.hid (fun x1 q1 V (h : SaAt V ⟨now, hor, x1, chgR op n u st a, q1, ua, us, uc, sa, su, sc, ta, tb, tc⟩) => radd_any ⟨now, hor, x1, chgR op n u st a, q1, ua, us, uc, sa, su, sc, ta, tb, tc⟩ u (fndS op n u a) V h ⟨Nat.le_trans (chgR_len _ _ _ _ _) (Nat.le_trans hf.op (by decide)), Nat.le_trans hf.us (by decide), Nat.le_trans hf.su (by decide), Nat.le_trans hf.tb (by decide), fun y hy => Nat.le_trans (hf.st y hy) (by decide)⟩ hk hu hs)
 unfold stV at HAD
 generalize hst : fndS op n u a = s at HCL HAD HCH
 have HS := Lib.hid HK
 have HZZ := Lib.hid HZ
 have HEE := Lib.hid HE
 obtain ⟨c0, c1, c2, c3, c4, c5⟩ := HK.cells
 obtain ⟨f0, f1, f2, f3, f4, f5⟩ := HK.free
 obtain ⟨⟨e0, e1, e2, e3, e4, e5⟩, -⟩ := cells6 HE.blk
 have hgl := HK.lt
 unfold saV evV saC at *
 dsimp only at *
 clear h hf HK HZ HE
 go_enter Tryz.func145, Tryz.ntmps145
 go_wp2_with fail
 refine (HCL.out _ HS.out.at_.op).mono ?_
 rintro e w1 ⟨x0, q0, rfl, i0, j0, k0, l0, h1⟩
 have hbs := below_one w1 (.cells #[.int .i64 s.f, .int .i64 s.t, .int .i64 s.n, .int .i64 s.s] 104)
 have ST := heap_alloc_new w1 (.cells #[.int .i64 s.f, .int .i64 s.t, .int .i64 s.n, .int .i64 s.s] 104)
 have A0 := (HS.out.below h1).below hbs
 have B0 := (HZZ.out.below h1).below hbs
 have E0 := (HEE.out.below h1).below hbs
 have HTS := size1 w1 (.cells #[.int .i64 s.f, .int .i64 s.t, .int .i64 s.n, .int .i64 s.s] 104)
 have HT := Lib.hid (HS.out.below h1).at_
 clear c0 c1 c2 c3 c4 c5 f0 f1 f2 f3 f4 f5 hgl e0 e1 e2 e3 e4 e5
 obtain ⟨c0, c1, c2, c3, c4, c5⟩ := A0.cells
 obtain ⟨⟨e0, e1, e2, e3, e4, e5⟩, -⟩ := cells6 E0.blk
 have HS1 := Lib.hid A0
 have HZ1 := Lib.hid B0
 have HE1 := Lib.hid E0
 have HST := Lib.hid ST
 have HB1 := Lib.hid hbs
 have HLT : Hid (w.heap.size + 2 < w1.heap.size) := (HZZ.out.below h1).lt
 have HWL : Hid (w.heap.size ≤ w1.heap.size) := by have := (HZZ.out.below h1).lt; unfold Hid; omega
 dsimp only at *
 clear HS HZZ HEE A0 B0 E0 ST hbs HTS h1 HCL i0 j0 k0 l0
 go_wp2_with fail
 refine (HCH.out _ HS1.out.at_.op).mono ?_
 rintro e w2 ⟨x1, q1, rfl, i1, j1, k1, l1, h1⟩
 have hlt := HLT.out
 have hwl := HWL.out
 have A1 := HS1.out.below h1
 have B1 := HZ1.out.below h1
 have E1 := HE1.out.below h1
 have I1 : IntB w2 w1.heap.size 104 s.f s.t s.n s.s := (h1.block _ (heap_lt HST.out)).trans HST.out
 obtain ⟨A2, I2⟩ := A1.setSt I1 (T := w1) ⟨HT.out.us, HT.out.su, HT.out.tb⟩ (Nat.le_refl _) hwl (by omega) s
 obtain ⟨B2, -⟩ := B1.setSt I1 (SaT.zero w1) (Nat.le_refl _) hwl (by omega) s
 have E2 := (((E1.far (i := 0) (v := .int .i64 s.f) (show w.heap.size + 1 ≠ w1.heap.size by omega)).far (i := 1) (v := .int .i64 s.t) (show w.heap.size + 1 ≠ w1.heap.size by omega)).far (i := 2) (v := .int .i64 s.n) (show w.heap.size + 1 ≠ w1.heap.size by omega)).far (i := 3) (v := .int .i64 s.s) (show w.heap.size + 1 ≠ w1.heap.size by omega)
 have L2 := l1.setSt I1 s
 have A3 := A2.setOp rfl L2 ⟨i1, j1, k1⟩
 have B3 := B2.far A2 (by omega) 2 (.slice x1 (chgR op n u st a).length q1)
 have E3 := E2.far (i := 2) (v := .slice x1 (chgR op n u st a).length q1) (show w.heap.size + 1 ≠ w.heap.size by omega)
 have I3 : IntB _ w1.heap.size 104 s.f s.t s.n s.s := (block_far (g := w.heap.size) (i := 2) (v := .slice x1 (chgR op n u st a).length q1) (by omega)).trans I2
 clear c0 c1 c2 c3 c4 c5 e0 e1 e2 e3 e4 e5
 obtain ⟨f0, f1, f2, f3, f4, f5⟩ := A2.free
 have hgl := A1.lt
 have hg3 := heap_lt I1
 have n0 := frozen_of_row _ _ 0 _ _ I1
 have n1 := frozen_of_row _ _ 1 _ _ I1
 have n2 := frozen_of_row _ _ 2 _ _ I1
 have n3 := frozen_of_row _ _ 3 _ _ I1
 obtain ⟨p0, p1, p2, p3⟩ := cells4 I1
 obtain ⟨b0, b1, b2, b3, b4, b5⟩ := A2.cells
 obtain ⟨c0, c1, c2, c3, c4, c5⟩ := A3.cells
 obtain ⟨⟨e0, e1, e2, e3, e4, e5⟩, -⟩ := cells6 E3.blk
 obtain ⟨s0, s1, s2, s3⟩ := cells4 I3
 have HS3 := Lib.hid A3
 have HZ3 := Lib.hid B3
 have HE3 := Lib.hid E3
 unfold setSt at c0 c1 c2 c3 c4 c5 s0 s1 s2 s3 b0 b1 b2 b3 b4 b5 f0 f1 f2 f3 f4 f5 HS3 HZ3
 dsimp only at *
 clear HS1 HZ1 HE1 A1 B1 E1 A2 B2 E2 A3 B3 E3 L2 I1 I2 I3 HST HB1 l1 h1 HCH i1 j1 k1 HT HLT HWL
 go_wp2_with fail
 refine (HAD.out x1 q1 _ HS3.out.at_).mono ?_
 rintro e w3 ⟨y2, rfl, l2, m2, h2⟩
 clear p0 p1 p2 p3 b0 b1 b2 b3 b4 b5 f0 f1 f2 f3 f4 f5 n0 n1 n2 n3
 clear e0 e1 e2 e3 e4 e5 c0 c1 c2 c3 c4 c5 s0 s1 s2 s3
 have B5 := HZ3.out.below h2
 have hfin := SB.finVR l2 B5
 obtain ⟨z0, z1, z2, z3, z4, z5⟩ := B5.cells
 obtain ⟨y0, y1, y2', y3, y4, y5⟩ := B5.free
 have hzl := B5.lt
 have HL := Lib.hid hfin.1
 have HFN := Lib.hid (And.intro hfin.2.1 (And.intro m2 hfin.2.2))
 obtain ⟨now1, hor1, oa1, op1, oc1, ua1, us1, uc1, sa1, su1, sc1, ta1, tb1, tc1⟩ := y2
 unfold setS saV saC at HL
 (try unfold saV at *)
 (try unfold saC at *)
 unfold saO at z0 z1 z2 z3 z4 z5
 dsimp only at *
 clear HS3 HZ3 HE3 B5 hfin l2 m2 h2 HAD
 go_wp2
 refine bodyPost_ret (v := .tuple #[saV ⟨now1, hor1, oa1, op1, oc1, ua1, us1, uc1, sa1, su1, sc1, ta1, tb1, tc1⟩, .int .i64 (findC op n u)]) ?_ rfl ?_
 ·rw [results_cellT rfl]
  unfold saV saC
  simp [asAddr, Result.andThen, HL.out]
 ·obtain ⟨g1, g2, g3⟩ := HFN.out
  exact ⟨_, rfl, g1, fun he => by rw [g2, ← hst]; rfl, g3⟩
theorem SB.finZR {w T : World} {r : Nat} {t : TypeId} {z : SaL} (hZ : SB w r t z T) : (loadVar 27 ⟨r, 0, none⟩).run Tryz.prog ((((((T.setCell ⟨r, 0, none⟩ (.int .i64 0)).setCell ⟨r, 1, none⟩ (.int .i64 0)).setCell ⟨r, 2, none⟩ (.slice none 0 0)).setCell ⟨r, 3, none⟩ (.slice none 0 0)).setCell ⟨r, 4, none⟩ (.slice none 0 0)).setCell ⟨r, 5, none⟩ (.slice none 0 0)) = .ok (.agg #[.int .i64 0, .int .i64 0, .slice none 0 0, .slice none 0 0, .slice none 0 0, .slice none 0 0]) ((((((T.setCell ⟨r, 0, none⟩ (.int .i64 0)).setCell ⟨r, 1, none⟩ (.int .i64 0)).setCell ⟨r, 2, none⟩ (.slice none 0 0)).setCell ⟨r, 3, none⟩ (.slice none 0 0)).setCell ⟨r, 4, none⟩ (.slice none 0 0)).setCell ⟨r, 5, none⟩ (.slice none 0 0)) ∧ SaAt (setS T r saO) saO ∧ Below w.heap.size w (setS T r saO) := by
 have h := SB.finVR (SaAt.zero T) hZ
 have h1 := h.1
 unfold setS saV saC saO at h1
 simp only [List.length_nil] at h1
 exact ⟨h1, h.2⟩
theorem tellS_ok {s : SaM} {k a n st : Int} {u o : ByteArray} (hv : RightV k a n st u o) (hle : ¬ a < s.now) : errS s k a n st u o = errK s k a n st u o ∧ (errK s k a n st u o = 0 → tellS s k a n st u o = goS s k a n st u o) ∧ (errK s k a n st u o ≠ 0 → tellS s k a n st u o = saZ) := by
 have h1 : errS s k a n st u o = errK s k a n st u o := by unfold errS; rw [if_pos hv, if_neg hle]
 refine ⟨h1, fun h => ?_, fun h => ?_⟩
 ·unfold tellS; rw [h1, if_pos h]
 ·unfold tellS; rw [h1, if_neg h]
set_option maxHeartbeats 8000000 in
theorem rap1 (x : SaL) (a n st : Int) (u o : ByteArray) (w : World) (h : SaAt w x) (hf : Few x.m 400) (hk : RiseK UsM.u (umS x.us)) (ht : RiseK TbM.u x.tb) (hz : SzS x.m) (hu : u.size ≤ maxLen) (ho : o.size ≤ maxLen) (hv : RightV 1 a n st u o) (hle : ¬ a < x.now) :
  Calls Tryz.prog 74 #[saV x, evV ⟨1, a, u, o, n, st⟩] w (Tells w (tellS x.m 1 a n st u o) (errS x.m 1 a n st u o)) := by
 obtain ⟨HK, HE, HZ⟩ := three_SB h ⟨1, a, u, o, n, st⟩ 27 47 27
 have HR := Lib.hid (fun V => evrefRight_any ⟨1, a, u, o, n, st⟩ ⟨hu, ho⟩ V)
 rw [(rightE_iff 1 a n st u o).2 hv] at HR
 have hus : ∀ y ∈ x.us, y.u.size ≤ maxLen := fun y hy => hz.us y.m (List.mem_map_of_mem hy)
 obtain ⟨hes, htg, htz⟩ := tellS_ok hv (show ¬ a < x.m.now from hle)
 rw [hes]
 have HSE := Lib.hid (fun V (h : SaAt V x) => rsess1 x a n st u o V h hf hk hu hus)
 have hone := errK_one x.m 1 a n st u o
 have hnow := goS_now x.m 1 a n st u o
 generalize errK x.m 1 a n st u o = er at *
 generalize goS x.m 1 a n st u o = G at *
 generalize tellS x.m 1 a n st u o = R at *
 obtain ⟨now, hor, oa, op, oc, ua, us, uc, sa, su, sc, ta, tb, tc⟩ := x
 have HS := Lib.hid HK
 have HZZ := Lib.hid HZ
 have HEE := Lib.hid HE
 obtain ⟨c0, c1, c2, c3, c4, c5⟩ := HK.cells
 obtain ⟨⟨e0, e1, e2, e3, e4, e5⟩, -⟩ := cells6 HE.blk
 unfold saV evV saC at *
 dsimp only at *
 clear h hf HK HZ HE hv hus hk ht hz hu ho
 go_enter Tryz.func74, Tryz.ntmps74
 go_wp2_with fail
 refine (HR.out _).mono ?_
 rintro e w1 ⟨rfl, h1⟩
 have hbp := below_one w1 (.cells #[.string u, .string o] 97)
 have PB := pcell2 (heap_alloc_new w1 (.cells #[.string u, .string o] 97))
 have A0 := HS.out.below h1
 have E0 := HEE.out.below h1
 have A1 := A0.below hbp
 have B1 := (HZZ.out.below h1).below hbp
 have E1 := E0.below hbp
 clear c0 c1 c2 c3 c4 c5 e0 e1 e2 e3 e4 e5
 obtain ⟨b0, b1, b2, b3, b4, b5⟩ := A0.cells
 obtain ⟨⟨m0, m1, m2, m3, m4, m5⟩, -⟩ := cells6 E0.blk
 obtain ⟨c0, c1, c2, c3, c4, c5⟩ := A1.cells
 obtain ⟨⟨e0, e1, e2, e3, e4, e5⟩, -⟩ := cells6 E1.blk
 obtain ⟨p0, p1⟩ := PB
 have HS1 := Lib.hid A1
 have HZ1 := Lib.hid B1
 have HE1 := Lib.hid E1
 dsimp only at *
 clear HS HZZ HEE A0 E0 A1 B1 E1 hbp h1 HR
 go_wp2_with fail
 refine (HSE.out _ HS1.out.at_).mono ?_
 rintro e w2 ⟨y, rfl, l2, mm, h2⟩
 have A2 := HS1.out.below h2
 have B2 := HZ1.out.below h2
 have E2 := HE1.out.below h2
 obtain ⟨A3, B3⟩ := A2.over l2 B2 (by omega)
 have E3 := E2.set (y := y) (show w.heap.size + 1 ≠ w.heap.size by omega)
 clear b0 b1 b2 b3 b4 b5 m0 m1 m2 m3 m4 m5 c0 c1 c2 c3 c4 c5 e0 e1 e2 e3 e4 e5 p0 p1
 obtain ⟨c0, c1, c2, c3, c4, c5⟩ := A2.cells
 obtain ⟨f0, f1, f2, f3, f4, f5⟩ := A2.free
 have hg2 := A2.lt
 obtain ⟨now1, hor1, oa1, op1, oc1, ua1, us1, uc1, sa1, su1, sc1, ta1, tb1, tc1⟩ := y
 unfold saV saC at *
 dsimp only at *
 clear A2 B2 E2 HS1 HZ1 HE1 h2 HSE l2
 by_cases he : er = 0
 ·have hR := htg he
  have hy := mm he
  subst hR
  have hym : (⟨a, hor1, oa1, op1, oc1, ua1, us1, uc1, sa1, su1, sc1, ta1, tb1, tc1⟩ : SaL).m = R := by
   unfold SaL.m at hy ⊢
   obtain ⟨Gn, Gh, Go, Gu, Gs, Gt⟩ := R
   simp only at hy hnow ⊢
   injection hy with _ g1 g2 g3 g4 g5
   rw [hnow, g1, g2, g3, g4, g5]
  subst he
  clear htz htg hone hnow mm hy
  have A8 := A3.setNow a
  have B8 := B3.far A3 (by omega) 0 (.int .i64 a)
  have hfin := A8.finR B8
  obtain ⟨d0, d1, d2, d3, d4, d5⟩ := A8.cells
  obtain ⟨z0, z1, z2, z3, z4, z5⟩ := B8.cells
  obtain ⟨y0, y1, y2, y3, y4, y5⟩ := B8.free
  obtain ⟨g0, g1, g2, g3, g4, g5⟩ := A3.free
  obtain ⟨r0, r1, r2, r3, r4, r5⟩ := A3.cells
  obtain ⟨⟨e0, e1, e2, e3, e4, e5⟩, -⟩ := cells6 E3.blk
  have hzl := B8.lt
  have hgl := A3.lt
  have HL := Lib.hid hfin.1
  have HFN := Lib.hid (And.intro hfin.2.1 (And.intro hym hfin.2.2))
  unfold setS saV saC at HL
  (try unfold setS at *)
  unfold saO at z0 z1 z2 z3 z4 z5
  dsimp only at *
  clear A8 B8 hfin A3 B3 E3 hym
  go_wp2
  refine bodyPost_ret (v := .tuple #[saV ⟨a, hor1, oa1, op1, oc1, ua1, us1, uc1, sa1, su1, sc1, ta1, tb1, tc1⟩, .int .i64 0]) ?_ rfl ⟨_, rfl, HFN.out⟩
  rw [results_cellT rfl]
  unfold saV saC
  simp [asAddr, Result.andThen, HL.out]
 ·clear mm hnow
  have hfin := B3.finZR
  have hR := htz he
  subst hR
  obtain ⟨z0, z1, z2, z3, z4, z5⟩ := B3.cells
  obtain ⟨y0, y1, y2, y3, y4, y5⟩ := B3.free
  have hzl := B3.lt
  have HL := Lib.hid hfin.1
  have HFN := Lib.hid hfin.2
  (try unfold setS at *)
  unfold saO at z0 z1 z2 z3 z4 z5
  dsimp only at *
  clear hfin htz htg A3 B3 E3
  rcases hone with h9 | h9 | h9 | h9 | h9 | h9 | h9
  ·exact absurd h9 he
  all_goals
   clear he
   subst h9
   go_wp2
   refine bodyPost_ret (v := .tuple #[saV saO, .int .i64 _]) ?_ rfl ⟨_, rfl, HFN.out.1, rfl, HFN.out.2⟩
   rw [results_cellT rfl]
   unfold saV saC saO
   simp [asAddr, Result.andThen, HL.out]
set_option maxHeartbeats 8000000 in
theorem rap2 (x : SaL) (a n st : Int) (u o : ByteArray) (w : World) (h : SaAt w x) (hf : Few x.m 400) (hk : RiseK UsM.u (umS x.us)) (ht : RiseK TbM.u x.tb) (hz : SzS x.m) (hu : u.size ≤ maxLen) (ho : o.size ≤ maxLen) (hv : RightV 2 a n st u o) (hle : ¬ a < x.now) :
  Calls Tryz.prog 74 #[saV x, evV ⟨2, a, u, o, n, st⟩] w (Tells w (tellS x.m 2 a n st u o) (errS x.m 2 a n st u o)) := by
 obtain ⟨HK, HE, HZ⟩ := three_SB h ⟨2, a, u, o, n, st⟩ 27 47 27
 have HR := Lib.hid (fun V => evrefRight_any ⟨2, a, u, o, n, st⟩ ⟨hu, ho⟩ V)
 rw [(rightE_iff 2 a n st u o).2 hv] at HR
 have hus : ∀ y ∈ x.us, y.u.size ≤ maxLen := fun y hy => hz.us y.m (List.mem_map_of_mem hy)
 obtain ⟨hes, htg, htz⟩ := tellS_ok hv (show ¬ a < x.m.now from hle)
 rw [hes]
 have HSE := Lib.hid (fun V (h : SaAt V x) => rsess2 x a n st u o V h hf hk hu hus)
 have hone := errK_one x.m 2 a n st u o
 have hnow := goS_now x.m 2 a n st u o
 generalize errK x.m 2 a n st u o = er at *
 generalize goS x.m 2 a n st u o = G at *
 generalize tellS x.m 2 a n st u o = R at *
 obtain ⟨now, hor, oa, op, oc, ua, us, uc, sa, su, sc, ta, tb, tc⟩ := x
 have HS := Lib.hid HK
 have HZZ := Lib.hid HZ
 have HEE := Lib.hid HE
 obtain ⟨c0, c1, c2, c3, c4, c5⟩ := HK.cells
 obtain ⟨⟨e0, e1, e2, e3, e4, e5⟩, -⟩ := cells6 HE.blk
 unfold saV evV saC at *
 dsimp only at *
 clear h hf HK HZ HE hv hus hk ht hz hu ho
 go_enter Tryz.func74, Tryz.ntmps74
 go_wp2_with fail
 refine (HR.out _).mono ?_
 rintro e w1 ⟨rfl, h1⟩
 have hbp := below_one w1 (.cells #[.string u, .string o] 97)
 have PB := pcell2 (heap_alloc_new w1 (.cells #[.string u, .string o] 97))
 have A0 := HS.out.below h1
 have E0 := HEE.out.below h1
 have A1 := A0.below hbp
 have B1 := (HZZ.out.below h1).below hbp
 have E1 := E0.below hbp
 clear c0 c1 c2 c3 c4 c5 e0 e1 e2 e3 e4 e5
 obtain ⟨b0, b1, b2, b3, b4, b5⟩ := A0.cells
 obtain ⟨⟨m0, m1, m2, m3, m4, m5⟩, -⟩ := cells6 E0.blk
 obtain ⟨c0, c1, c2, c3, c4, c5⟩ := A1.cells
 obtain ⟨⟨e0, e1, e2, e3, e4, e5⟩, -⟩ := cells6 E1.blk
 obtain ⟨p0, p1⟩ := PB
 have HS1 := Lib.hid A1
 have HZ1 := Lib.hid B1
 have HE1 := Lib.hid E1
 dsimp only at *
 clear HS HZZ HEE A0 E0 A1 B1 E1 hbp h1 HR
 go_wp2_with fail
 refine (HSE.out _ HS1.out.at_).mono ?_
 rintro e w2 ⟨y, rfl, l2, mm, h2⟩
 have A2 := HS1.out.below h2
 have B2 := HZ1.out.below h2
 have E2 := HE1.out.below h2
 obtain ⟨A3, B3⟩ := A2.over l2 B2 (by omega)
 have E3 := E2.set (y := y) (show w.heap.size + 1 ≠ w.heap.size by omega)
 clear b0 b1 b2 b3 b4 b5 m0 m1 m2 m3 m4 m5 c0 c1 c2 c3 c4 c5 e0 e1 e2 e3 e4 e5 p0 p1
 obtain ⟨c0, c1, c2, c3, c4, c5⟩ := A2.cells
 obtain ⟨f0, f1, f2, f3, f4, f5⟩ := A2.free
 have hg2 := A2.lt
 obtain ⟨now1, hor1, oa1, op1, oc1, ua1, us1, uc1, sa1, su1, sc1, ta1, tb1, tc1⟩ := y
 unfold saV saC at *
 dsimp only at *
 clear A2 B2 E2 HS1 HZ1 HE1 h2 HSE l2
 by_cases he : er = 0
 ·have hR := htg he
  have hy := mm he
  subst hR
  have hym : (⟨a, hor1, oa1, op1, oc1, ua1, us1, uc1, sa1, su1, sc1, ta1, tb1, tc1⟩ : SaL).m = R := by
   unfold SaL.m at hy ⊢
   obtain ⟨Gn, Gh, Go, Gu, Gs, Gt⟩ := R
   simp only at hy hnow ⊢
   injection hy with _ g1 g2 g3 g4 g5
   rw [hnow, g1, g2, g3, g4, g5]
  subst he
  clear htz htg hone hnow mm hy
  have A8 := A3.setNow a
  have B8 := B3.far A3 (by omega) 0 (.int .i64 a)
  have hfin := A8.finR B8
  obtain ⟨d0, d1, d2, d3, d4, d5⟩ := A8.cells
  obtain ⟨z0, z1, z2, z3, z4, z5⟩ := B8.cells
  obtain ⟨y0, y1, y2, y3, y4, y5⟩ := B8.free
  obtain ⟨g0, g1, g2, g3, g4, g5⟩ := A3.free
  obtain ⟨r0, r1, r2, r3, r4, r5⟩ := A3.cells
  obtain ⟨⟨e0, e1, e2, e3, e4, e5⟩, -⟩ := cells6 E3.blk
  have hzl := B8.lt
  have hgl := A3.lt
  have HL := Lib.hid hfin.1
  have HFN := Lib.hid (And.intro hfin.2.1 (And.intro hym hfin.2.2))
  unfold setS saV saC at HL
  (try unfold setS at *)
  unfold saO at z0 z1 z2 z3 z4 z5
  dsimp only at *
  clear A8 B8 hfin A3 B3 E3 hym
  go_wp2
  refine bodyPost_ret (v := .tuple #[saV ⟨a, hor1, oa1, op1, oc1, ua1, us1, uc1, sa1, su1, sc1, ta1, tb1, tc1⟩, .int .i64 0]) ?_ rfl ⟨_, rfl, HFN.out⟩
  rw [results_cellT rfl]
  unfold saV saC
  simp [asAddr, Result.andThen, HL.out]
 ·clear mm hnow
  have hfin := B3.finZR
  have hR := htz he
  subst hR
  obtain ⟨z0, z1, z2, z3, z4, z5⟩ := B3.cells
  obtain ⟨y0, y1, y2, y3, y4, y5⟩ := B3.free
  have hzl := B3.lt
  have HL := Lib.hid hfin.1
  have HFN := Lib.hid hfin.2
  (try unfold setS at *)
  unfold saO at z0 z1 z2 z3 z4 z5
  dsimp only at *
  clear hfin htz htg A3 B3 E3
  rcases hone with h9 | h9 | h9 | h9 | h9 | h9 | h9
  ·exact absurd h9 he
  all_goals
   clear he
   subst h9
   go_wp2
   refine bodyPost_ret (v := .tuple #[saV saO, .int .i64 _]) ?_ rfl ⟨_, rfl, HFN.out.1, rfl, HFN.out.2⟩
   rw [results_cellT rfl]
   unfold saV saC saO
   simp [asAddr, Result.andThen, HL.out]
set_option maxHeartbeats 8000000 in
theorem rap3 (x : SaL) (a n st : Int) (u o : ByteArray) (w : World) (h : SaAt w x) (hf : Few x.m 400) (hk : RiseK UsM.u (umS x.us)) (ht : RiseK TbM.u x.tb) (hz : SzS x.m) (hu : u.size ≤ maxLen) (ho : o.size ≤ maxLen) (hv : RightV 3 a n st u o) (hle : ¬ a < x.now) :
  Calls Tryz.prog 74 #[saV x, evV ⟨3, a, u, o, n, st⟩] w (Tells w (tellS x.m 3 a n st u o) (errS x.m 3 a n st u o)) := by
 obtain ⟨HK, HE, HZ⟩ := three_SB h ⟨3, a, u, o, n, st⟩ 27 47 27
 have HR := Lib.hid (fun V => evrefRight_any ⟨3, a, u, o, n, st⟩ ⟨hu, ho⟩ V)
 rw [(rightE_iff 3 a n st u o).2 hv] at HR
 have hus : ∀ y ∈ x.us, y.u.size ≤ maxLen := fun y hy => hz.us y.m (List.mem_map_of_mem hy)
 obtain ⟨hes, htg, htz⟩ := tellS_ok hv (show ¬ a < x.m.now from hle)
 rw [hes]
 have HSE := Lib.hid (fun V (h : SaAt V x) => rsess3 x a n st u o V h hf hk hu hus)
 have hone := errK_one x.m 3 a n st u o
 have hnow := goS_now x.m 3 a n st u o
 generalize errK x.m 3 a n st u o = er at *
 generalize goS x.m 3 a n st u o = G at *
 generalize tellS x.m 3 a n st u o = R at *
 obtain ⟨now, hor, oa, op, oc, ua, us, uc, sa, su, sc, ta, tb, tc⟩ := x
 have HS := Lib.hid HK
 have HZZ := Lib.hid HZ
 have HEE := Lib.hid HE
 obtain ⟨c0, c1, c2, c3, c4, c5⟩ := HK.cells
 obtain ⟨⟨e0, e1, e2, e3, e4, e5⟩, -⟩ := cells6 HE.blk
 unfold saV evV saC at *
 dsimp only at *
 clear h hf HK HZ HE hv hus hk ht hz hu ho
 go_enter Tryz.func74, Tryz.ntmps74
 go_wp2_with fail
 refine (HR.out _).mono ?_
 rintro e w1 ⟨rfl, h1⟩
 have hbp := below_one w1 (.cells #[.string u, .string o] 97)
 have PB := pcell2 (heap_alloc_new w1 (.cells #[.string u, .string o] 97))
 have A0 := HS.out.below h1
 have E0 := HEE.out.below h1
 have A1 := A0.below hbp
 have B1 := (HZZ.out.below h1).below hbp
 have E1 := E0.below hbp
 clear c0 c1 c2 c3 c4 c5 e0 e1 e2 e3 e4 e5
 obtain ⟨b0, b1, b2, b3, b4, b5⟩ := A0.cells
 obtain ⟨⟨m0, m1, m2, m3, m4, m5⟩, -⟩ := cells6 E0.blk
 obtain ⟨c0, c1, c2, c3, c4, c5⟩ := A1.cells
 obtain ⟨⟨e0, e1, e2, e3, e4, e5⟩, -⟩ := cells6 E1.blk
 obtain ⟨p0, p1⟩ := PB
 have HS1 := Lib.hid A1
 have HZ1 := Lib.hid B1
 have HE1 := Lib.hid E1
 dsimp only at *
 clear HS HZZ HEE A0 E0 A1 B1 E1 hbp h1 HR
 go_wp2_with fail
 refine (HSE.out _ HS1.out.at_).mono ?_
 rintro e w2 ⟨y, rfl, l2, mm, h2⟩
 have A2 := HS1.out.below h2
 have B2 := HZ1.out.below h2
 have E2 := HE1.out.below h2
 obtain ⟨A3, B3⟩ := A2.over l2 B2 (by omega)
 have E3 := E2.set (y := y) (show w.heap.size + 1 ≠ w.heap.size by omega)
 clear b0 b1 b2 b3 b4 b5 m0 m1 m2 m3 m4 m5 c0 c1 c2 c3 c4 c5 e0 e1 e2 e3 e4 e5 p0 p1
 obtain ⟨c0, c1, c2, c3, c4, c5⟩ := A2.cells
 obtain ⟨f0, f1, f2, f3, f4, f5⟩ := A2.free
 have hg2 := A2.lt
 obtain ⟨now1, hor1, oa1, op1, oc1, ua1, us1, uc1, sa1, su1, sc1, ta1, tb1, tc1⟩ := y
 unfold saV saC at *
 dsimp only at *
 clear A2 B2 E2 HS1 HZ1 HE1 h2 HSE l2
 by_cases he : er = 0
 ·have hR := htg he
  have hy := mm he
  subst hR
  have hym : (⟨a, hor1, oa1, op1, oc1, ua1, us1, uc1, sa1, su1, sc1, ta1, tb1, tc1⟩ : SaL).m = R := by
   unfold SaL.m at hy ⊢
   obtain ⟨Gn, Gh, Go, Gu, Gs, Gt⟩ := R
   simp only at hy hnow ⊢
   injection hy with _ g1 g2 g3 g4 g5
   rw [hnow, g1, g2, g3, g4, g5]
  subst he
  clear htz htg hone hnow mm hy
  have A8 := A3.setNow a
  have B8 := B3.far A3 (by omega) 0 (.int .i64 a)
  have hfin := A8.finR B8
  obtain ⟨d0, d1, d2, d3, d4, d5⟩ := A8.cells
  obtain ⟨z0, z1, z2, z3, z4, z5⟩ := B8.cells
  obtain ⟨y0, y1, y2, y3, y4, y5⟩ := B8.free
  obtain ⟨g0, g1, g2, g3, g4, g5⟩ := A3.free
  obtain ⟨r0, r1, r2, r3, r4, r5⟩ := A3.cells
  obtain ⟨⟨e0, e1, e2, e3, e4, e5⟩, -⟩ := cells6 E3.blk
  have hzl := B8.lt
  have hgl := A3.lt
  have HL := Lib.hid hfin.1
  have HFN := Lib.hid (And.intro hfin.2.1 (And.intro hym hfin.2.2))
  unfold setS saV saC at HL
  (try unfold setS at *)
  unfold saO at z0 z1 z2 z3 z4 z5
  dsimp only at *
  clear A8 B8 hfin A3 B3 E3 hym
  go_wp2
  refine bodyPost_ret (v := .tuple #[saV ⟨a, hor1, oa1, op1, oc1, ua1, us1, uc1, sa1, su1, sc1, ta1, tb1, tc1⟩, .int .i64 0]) ?_ rfl ⟨_, rfl, HFN.out⟩
  rw [results_cellT rfl]
  unfold saV saC
  simp [asAddr, Result.andThen, HL.out]
 ·clear mm hnow
  have hfin := B3.finZR
  have hR := htz he
  subst hR
  obtain ⟨z0, z1, z2, z3, z4, z5⟩ := B3.cells
  obtain ⟨y0, y1, y2, y3, y4, y5⟩ := B3.free
  have hzl := B3.lt
  have HL := Lib.hid hfin.1
  have HFN := Lib.hid hfin.2
  (try unfold setS at *)
  unfold saO at z0 z1 z2 z3 z4 z5
  dsimp only at *
  clear hfin htz htg A3 B3 E3
  rcases hone with h9 | h9 | h9 | h9 | h9 | h9 | h9
  ·exact absurd h9 he
  all_goals
   clear he
   subst h9
   go_wp2
   refine bodyPost_ret (v := .tuple #[saV saO, .int .i64 _]) ?_ rfl ⟨_, rfl, HFN.out.1, rfl, HFN.out.2⟩
   rw [results_cellT rfl]
   unfold saV saC saO
   simp [asAddr, Result.andThen, HL.out]
set_option maxHeartbeats 8000000 in
theorem rap4 (x : SaL) (a n st : Int) (u o : ByteArray) (w : World) (h : SaAt w x) (hf : Few x.m 400) (hk : RiseK UsM.u (umS x.us)) (ht : RiseK TbM.u x.tb) (hz : SzS x.m) (hu : u.size ≤ maxLen) (ho : o.size ≤ maxLen) (hv : RightV 4 a n st u o) (hle : ¬ a < x.now) :
  Calls Tryz.prog 74 #[saV x, evV ⟨4, a, u, o, n, st⟩] w (Tells w (tellS x.m 4 a n st u o) (errS x.m 4 a n st u o)) := by
 obtain ⟨HK, HE, HZ⟩ := three_SB h ⟨4, a, u, o, n, st⟩ 27 47 27
 have HR := Lib.hid (fun V => evrefRight_any ⟨4, a, u, o, n, st⟩ ⟨hu, ho⟩ V)
 rw [(rightE_iff 4 a n st u o).2 hv] at HR
 have hus : ∀ y ∈ x.us, y.u.size ≤ maxLen := fun y hy => hz.us y.m (List.mem_map_of_mem hy)
 obtain ⟨hes, htg, htz⟩ := tellS_ok hv (show ¬ a < x.m.now from hle)
 rw [hes]
 obtain ⟨now, hor, oa, op, oc, ua, us, uc, sa, su, sc, ta, tb, tc⟩ := x
 have HCL := Lib.hid (fun V (h : EnSl V sa su) => e_rgrant2 sa sc su u o a V h (fun e he => hz.su e he) hu ho HK.at_.sc (Nat.le_trans hf.su (by decide)))
 have HERR : Hid (errK (⟨now, hor, oa, op, oc, ua, us, uc, sa, su, sc, ta, tb, tc⟩ : SaL).m 4 a n st u o = (if su.any (infE u o) = true then 90 else 0)) := rfl
 generalize errK _ 4 a n st u o = er0 at *
 generalize tellS _ 4 a n st u o = R at *
 have HS := Lib.hid HK
 have HZZ := Lib.hid HZ
 have HEE := Lib.hid HE
 obtain ⟨c0, c1, c2, c3, c4, c5⟩ := HK.cells
 obtain ⟨⟨e0, e1, e2, e3, e4, e5⟩, -⟩ := cells6 HE.blk
 unfold saV evV saC at *
 dsimp only at *
 clear h hf HK HZ HE hv hus hk ht hz hu ho hes
 go_enter Tryz.func74, Tryz.ntmps74
 go_wp2_with fail
 refine (HR.out _).mono ?_
 rintro e w1 ⟨rfl, h1⟩
 have hbp := below_one w1 (.cells #[.string u, .string o] 97)
 have PB := pcell2 (heap_alloc_new w1 (.cells #[.string u, .string o] 97))
 have A0 := HS.out.below h1
 have E0 := HEE.out.below h1
 have A1 := A0.below hbp
 have B1 := (HZZ.out.below h1).below hbp
 have E1 := E0.below hbp
 clear c0 c1 c2 c3 c4 c5 e0 e1 e2 e3 e4 e5
 obtain ⟨b0, b1, b2, b3, b4, b5⟩ := A0.cells
 obtain ⟨⟨m0, m1, m2, m3, m4, m5⟩, -⟩ := cells6 E0.blk
 obtain ⟨c0, c1, c2, c3, c4, c5⟩ := A1.cells
 obtain ⟨⟨e0, e1, e2, e3, e4, e5⟩, -⟩ := cells6 E1.blk
 obtain ⟨p0, p1⟩ := PB
 have HS1 := Lib.hid A1
 have HZ1 := Lib.hid B1
 have HE1 := Lib.hid E1
 dsimp only at *
 clear HS HZZ HEE A0 E0 A1 B1 E1 hbp h1 HR
 go_wp2_with fail
 refine (HCL.out _ HS1.out.at_.su).mono ?_
 rintro e w2 ⟨x1, q1, m, er, rfl, i1, j1, k1, l1, h2⟩
 have hee : er = er0 := i1.trans HERR.out.symm
 subst hee
 have A2 := HS1.out.below h2
 have B2 := HZ1.out.below h2
 have E2 := HE1.out.below h2
 have A3 := A2.setSu rfl l1 k1
 have B3 := B2.far A2 (by omega) 4 (.slice x1 m.length q1)
 have E3 := E2.far (i := 4) (v := .slice x1 m.length q1) (show w.heap.size + 1 ≠ w.heap.size by omega)
 clear b0 b1 b2 b3 b4 b5 m0 m1 m2 m3 m4 m5 c0 c1 c2 c3 c4 c5 e0 e1 e2 e3 e4 e5 p0 p1
 obtain ⟨c0, c1, c2, c3, c4, c5⟩ := A2.cells
 obtain ⟨f0, f1, f2, f3, f4, f5⟩ := A2.free
 have hg2 := A2.lt
 have hone : er = 0 ∨ er = 90 := by rw [i1]; split <;> simp
 dsimp only at *
 clear A2 B2 E2 HS1 HZ1 HE1 h2 HCL l1 k1 i1 HERR
 by_cases he : er = 0
 ·have hR := htg he
  have hm := j1 he
  have hym : (⟨a, hor, oa, op, oc, ua, us, uc, x1, m, q1, ta, tb, tc⟩ : SaL).m = R := by rw [hR, hm]; rfl
  subst he
  clear htz htg hone j1 hm hR
  have A8 := A3.setNow a
  have B8 := B3.far A3 (by omega) 0 (.int .i64 a)
  have hfin := A8.finR B8
  obtain ⟨d0, d1, d2, d3, d4, d5⟩ := A8.cells
  obtain ⟨z0, z1, z2, z3, z4, z5⟩ := B8.cells
  obtain ⟨y0, y1, y2, y3, y4, y5⟩ := B8.free
  obtain ⟨g0, g1, g2, g3, g4, g5⟩ := A3.free
  obtain ⟨r0, r1, r2, r3, r4, r5⟩ := A3.cells
  obtain ⟨⟨e0, e1, e2, e3, e4, e5⟩, -⟩ := cells6 E3.blk
  have hzl := B8.lt
  have hgl := A3.lt
  have HL := Lib.hid hfin.1
  have HFN := Lib.hid (And.intro hfin.2.1 (And.intro hym hfin.2.2))
  unfold setS saV saC at HL
  (try unfold setS at *)
  unfold saO at z0 z1 z2 z3 z4 z5
  dsimp only at *
  clear A8 B8 hfin A3 B3 E3 hym
  go_wp2
  refine bodyPost_ret (v := .tuple #[saV ⟨a, hor, oa, op, oc, ua, us, uc, x1, m, q1, ta, tb, tc⟩, .int .i64 0]) ?_ rfl ⟨_, rfl, HFN.out⟩
  rw [results_cellT rfl]
  unfold saV saC
  simp [asAddr, Result.andThen, HL.out]
 ·clear j1
  have hfin := B3.finZR
  have hR := htz he
  subst hR
  obtain ⟨z0, z1, z2, z3, z4, z5⟩ := B3.cells
  obtain ⟨y0, y1, y2, y3, y4, y5⟩ := B3.free
  have hzl := B3.lt
  have HL := Lib.hid hfin.1
  have HFN := Lib.hid hfin.2
  (try unfold setS at *)
  unfold saO at z0 z1 z2 z3 z4 z5
  dsimp only at *
  clear hfin htz htg A3 B3 E3
  rcases hone with h9 | h9
  ·exact absurd h9 he
  clear he
  subst h9
  go_wp2
  refine bodyPost_ret (v := .tuple #[saV saO, .int .i64 _]) ?_ rfl ⟨_, rfl, HFN.out.1, rfl, HFN.out.2⟩
  rw [results_cellT rfl]
  unfold saV saC saO
  simp [asAddr, Result.andThen, HL.out]
set_option maxHeartbeats 8000000 in
theorem rap5 (x : SaL) (a n st : Int) (u o : ByteArray) (w : World) (h : SaAt w x) (hf : Few x.m 400) (hk : RiseK UsM.u (umS x.us)) (ht : RiseK TbM.u x.tb) (hz : SzS x.m) (hu : u.size ≤ maxLen) (ho : o.size ≤ maxLen) (hv : RightV 5 a n st u o) (hle : ¬ a < x.now) :
  Calls Tryz.prog 74 #[saV x, evV ⟨5, a, u, o, n, st⟩] w (Tells w (tellS x.m 5 a n st u o) (errS x.m 5 a n st u o)) := by
 obtain ⟨HK, HE, HZ⟩ := three_SB h ⟨5, a, u, o, n, st⟩ 27 47 27
 have HR := Lib.hid (fun V => evrefRight_any ⟨5, a, u, o, n, st⟩ ⟨hu, ho⟩ V)
 rw [(rightE_iff 5 a n st u o).2 hv] at HR
 have hus : ∀ y ∈ x.us, y.u.size ≤ maxLen := fun y hy => hz.us y.m (List.mem_map_of_mem hy)
 obtain ⟨hes, htg, htz⟩ := tellS_ok hv (show ¬ a < x.m.now from hle)
 rw [hes]
 obtain ⟨now, hor, oa, op, oc, ua, us, uc, sa, su, sc, ta, tb, tc⟩ := x
 have HCL := Lib.hid (fun V (h : EnSl V sa su) => e_rrevoke2 sa sc su u o a V h (Nat.le_trans hf.su (by decide)))
 have HERR : Hid (errK (⟨now, hor, oa, op, oc, ua, us, uc, sa, su, sc, ta, tb, tc⟩ : SaL).m 5 a n st u o = (if su.any (infE u o) = true then 0 else 91)) := rfl
 generalize errK _ 5 a n st u o = er0 at *
 generalize tellS _ 5 a n st u o = R at *
 have HS := Lib.hid HK
 have HZZ := Lib.hid HZ
 have HEE := Lib.hid HE
 obtain ⟨c0, c1, c2, c3, c4, c5⟩ := HK.cells
 obtain ⟨⟨e0, e1, e2, e3, e4, e5⟩, -⟩ := cells6 HE.blk
 unfold saV evV saC at *
 dsimp only at *
 clear h hf HK HZ HE hv hus hk ht hz hu ho hes
 go_enter Tryz.func74, Tryz.ntmps74
 go_wp2_with fail
 refine (HR.out _).mono ?_
 rintro e w1 ⟨rfl, h1⟩
 have hbp := below_one w1 (.cells #[.string u, .string o] 97)
 have PB := pcell2 (heap_alloc_new w1 (.cells #[.string u, .string o] 97))
 have A0 := HS.out.below h1
 have E0 := HEE.out.below h1
 have A1 := A0.below hbp
 have B1 := (HZZ.out.below h1).below hbp
 have E1 := E0.below hbp
 clear c0 c1 c2 c3 c4 c5 e0 e1 e2 e3 e4 e5
 obtain ⟨b0, b1, b2, b3, b4, b5⟩ := A0.cells
 obtain ⟨⟨m0, m1, m2, m3, m4, m5⟩, -⟩ := cells6 E0.blk
 obtain ⟨c0, c1, c2, c3, c4, c5⟩ := A1.cells
 obtain ⟨⟨e0, e1, e2, e3, e4, e5⟩, -⟩ := cells6 E1.blk
 obtain ⟨p0, p1⟩ := PB
 have HS1 := Lib.hid A1
 have HZ1 := Lib.hid B1
 have HE1 := Lib.hid E1
 dsimp only at *
 clear HS HZZ HEE A0 E0 A1 B1 E1 hbp h1 HR
 go_wp2_with fail
 refine (HCL.out _ HS1.out.at_.su).mono ?_
 rintro e w2 ⟨x1, q1, m, er, rfl, i1, j1, k1, l1, h2⟩
 have hee : er = er0 := i1.trans HERR.out.symm
 subst hee
 have A2 := HS1.out.below h2
 have B2 := HZ1.out.below h2
 have E2 := HE1.out.below h2
 have A3 := A2.setSu rfl l1 k1
 have B3 := B2.far A2 (by omega) 4 (.slice x1 m.length q1)
 have E3 := E2.far (i := 4) (v := .slice x1 m.length q1) (show w.heap.size + 1 ≠ w.heap.size by omega)
 clear b0 b1 b2 b3 b4 b5 m0 m1 m2 m3 m4 m5 c0 c1 c2 c3 c4 c5 e0 e1 e2 e3 e4 e5 p0 p1
 obtain ⟨c0, c1, c2, c3, c4, c5⟩ := A2.cells
 obtain ⟨f0, f1, f2, f3, f4, f5⟩ := A2.free
 have hg2 := A2.lt
 have hone : er = 0 ∨ er = 91 := by rw [i1]; split <;> simp
 dsimp only at *
 clear A2 B2 E2 HS1 HZ1 HE1 h2 HCL l1 k1 i1 HERR
 by_cases he : er = 0
 ·have hR := htg he
  have hm := j1 he
  have hym : (⟨a, hor, oa, op, oc, ua, us, uc, x1, m, q1, ta, tb, tc⟩ : SaL).m = R := by rw [hR, hm]; rfl
  subst he
  clear htz htg hone j1 hm hR
  have A8 := A3.setNow a
  have B8 := B3.far A3 (by omega) 0 (.int .i64 a)
  have hfin := A8.finR B8
  obtain ⟨d0, d1, d2, d3, d4, d5⟩ := A8.cells
  obtain ⟨z0, z1, z2, z3, z4, z5⟩ := B8.cells
  obtain ⟨y0, y1, y2, y3, y4, y5⟩ := B8.free
  obtain ⟨g0, g1, g2, g3, g4, g5⟩ := A3.free
  obtain ⟨r0, r1, r2, r3, r4, r5⟩ := A3.cells
  obtain ⟨⟨e0, e1, e2, e3, e4, e5⟩, -⟩ := cells6 E3.blk
  have hzl := B8.lt
  have hgl := A3.lt
  have HL := Lib.hid hfin.1
  have HFN := Lib.hid (And.intro hfin.2.1 (And.intro hym hfin.2.2))
  unfold setS saV saC at HL
  (try unfold setS at *)
  unfold saO at z0 z1 z2 z3 z4 z5
  dsimp only at *
  clear A8 B8 hfin A3 B3 E3 hym
  go_wp2
  refine bodyPost_ret (v := .tuple #[saV ⟨a, hor, oa, op, oc, ua, us, uc, x1, m, q1, ta, tb, tc⟩, .int .i64 0]) ?_ rfl ⟨_, rfl, HFN.out⟩
  rw [results_cellT rfl]
  unfold saV saC
  simp [asAddr, Result.andThen, HL.out]
 ·clear j1
  have hfin := B3.finZR
  have hR := htz he
  subst hR
  obtain ⟨z0, z1, z2, z3, z4, z5⟩ := B3.cells
  obtain ⟨y0, y1, y2, y3, y4, y5⟩ := B3.free
  have hzl := B3.lt
  have HL := Lib.hid hfin.1
  have HFN := Lib.hid hfin.2
  (try unfold setS at *)
  unfold saO at z0 z1 z2 z3 z4 z5
  dsimp only at *
  clear hfin htz htg A3 B3 E3
  rcases hone with h9 | h9
  ·exact absurd h9 he
  clear he
  subst h9
  go_wp2
  refine bodyPost_ret (v := .tuple #[saV saO, .int .i64 _]) ?_ rfl ⟨_, rfl, HFN.out.1, rfl, HFN.out.2⟩
  rw [results_cellT rfl]
  unfold saV saC saO
  simp [asAddr, Result.andThen, HL.out]
set_option maxHeartbeats 8000000 in
theorem rap6 (x : SaL) (a n st : Int) (u o : ByteArray) (w : World) (h : SaAt w x) (hf : Few x.m 400) (hk : RiseK UsM.u (umS x.us)) (ht : RiseK TbM.u x.tb) (hz : SzS x.m) (hu : u.size ≤ maxLen) (ho : o.size ≤ maxLen) (hv : RightV 6 a n st u o) (hle : ¬ a < x.now) :
  Calls Tryz.prog 74 #[saV x, evV ⟨6, a, u, o, n, st⟩] w (Tells w (tellS x.m 6 a n st u o) (errS x.m 6 a n st u o)) := by
 obtain ⟨HK, HE, HZ⟩ := three_SB h ⟨6, a, u, o, n, st⟩ 27 47 27
 have HR := Lib.hid (fun V => evrefRight_any ⟨6, a, u, o, n, st⟩ ⟨hu, ho⟩ V)
 rw [(rightE_iff 6 a n st u o).2 hv] at HR
 have hus : ∀ y ∈ x.us, y.u.size ≤ maxLen := fun y hy => hz.us y.m (List.mem_map_of_mem hy)
 obtain ⟨hes, htg, htz⟩ := tellS_ok hv (show ¬ a < x.m.now from hle)
 rw [hes]
 obtain ⟨now, hor, oa, op, oc, ua, us, uc, sa, su, sc, ta, tb, tc⟩ := x
 have herr : errK (⟨now, hor, oa, op, oc, ua, us, uc, sa, su, sc, ta, tb, tc⟩ : SaL).m 6 a n st u o = 0 := rfl
 have hym : (⟨a, max hor n, oa, op, oc, ua, us, uc, sa, su, sc, ta, tb, tc⟩ : SaL).m = tellS (⟨now, hor, oa, op, oc, ua, us, uc, sa, su, sc, ta, tb, tc⟩ : SaL).m 6 a n st u o := by rw [htg herr]; rfl
 rw [herr]
 generalize tellS _ 6 a n st u o = R at *
 have HS := Lib.hid HK
 have HZZ := Lib.hid HZ
 have HEE := Lib.hid HE
 obtain ⟨c0, c1, c2, c3, c4, c5⟩ := HK.cells
 obtain ⟨⟨e0, e1, e2, e3, e4, e5⟩, -⟩ := cells6 HE.blk
 unfold saV evV saC at *
 dsimp only at *
 clear h hf HK HZ HE hv hus hk ht hz hu ho htg htz herr hes
 go_enter Tryz.func74, Tryz.ntmps74
 go_wp2_with fail
 refine (HR.out _).mono ?_
 rintro e w1 ⟨rfl, h1⟩
 have hbp := below_one w1 (.cells #[.string u, .string o] 97)
 have PB := pcell2 (heap_alloc_new w1 (.cells #[.string u, .string o] 97))
 have A0 := HS.out.below h1
 have E0 := HEE.out.below h1
 have A1 := A0.below hbp
 have B1 := (HZZ.out.below h1).below hbp
 have E1 := E0.below hbp
 clear c0 c1 c2 c3 c4 c5 e0 e1 e2 e3 e4 e5
 obtain ⟨b0, b1, b2, b3, b4, b5⟩ := A0.cells
 obtain ⟨⟨m0, m1, m2, m3, m4, m5⟩, -⟩ := cells6 E0.blk
 obtain ⟨c0, c1, c2, c3, c4, c5⟩ := A1.cells
 obtain ⟨⟨e0, e1, e2, e3, e4, e5⟩, -⟩ := cells6 E1.blk
 obtain ⟨p0, p1⟩ := PB
 have HS1 := Lib.hid A1
 have HZ1 := Lib.hid B1
 have HE1 := Lib.hid E1
 dsimp only at *
 clear HS HZZ HEE A0 E0 A1 B1 E1 hbp h1 HR
 go_upto_region 17 with fail
 clear b0 b1 b2 b3 b4 b5 m0 m1 m2 m3 m4 m5
 generalize hW : w1.alloc _ = W1 at *
 clear hW c0 c1 c2 c3 c4 c5 e0 e1 e2 e3 e4 e5
 have A2 := HS1.out.setHor (max hor n)
 have B2 := HZ1.out.far HS1.out (by omega) 1 (.int .i64 (max hor n))
 have E2 := HE1.out.far (i := 1) (v := .int .i64 (max hor n)) (show w.heap.size + 1 ≠ w.heap.size by omega)
 obtain ⟨c0, c1, c2, c3, c4, c5⟩ := HS1.out.cells
 obtain ⟨f0, f1, f2, f3, f4, f5⟩ := HS1.out.free
 obtain ⟨⟨m0, m1, m2, m3, m4, m5⟩, -⟩ := cells6 HE1.out.blk
 have hg2 := HS1.out.lt
 dsimp only at *
 have A8 := A2.setNow a
 have B8 := B2.far A2 (by omega) 0 (.int .i64 a)
 have hfin := A8.finR B8
 obtain ⟨d0, d1, d2, d3, d4, d5⟩ := A8.cells
 obtain ⟨z0, z1, z2, z3, z4, z5⟩ := B8.cells
 obtain ⟨y0, y1, y2, y3, y4, y5⟩ := B8.free
 obtain ⟨g0, g1, g2, g3, g4, g5⟩ := A2.free
 obtain ⟨r0, r1, r2, r3, r4, r5⟩ := A2.cells
 obtain ⟨⟨e0, e1, e2, e3, e4, e5⟩, -⟩ := cells6 E2.blk
 have hzl := B8.lt
 have hgl := A2.lt
 have HL := Lib.hid hfin.1
 have HFN := Lib.hid (And.intro hfin.2.1 (And.intro hym hfin.2.2))
 unfold setS saV saC at HL
 (try unfold setS at *)
 unfold saO at z0 z1 z2 z3 z4 z5
 dsimp only at *
 clear A8 B8 hfin A2 B2 E2 hym HS1 HZ1 HE1
 go_wp2
 refine bodyPost_ret (v := .tuple #[saV ⟨a, max hor n, oa, op, oc, ua, us, uc, sa, su, sc, ta, tb, tc⟩, .int .i64 0]) ?_ rfl ⟨_, rfl, HFN.out⟩
 rw [results_cellT rfl]
 unfold saV saC
 simp [asAddr, Result.andThen, HL.out]
set_option maxHeartbeats 1000000 in
theorem rap7 (x : SaL) (a n st : Int) (u o : ByteArray) (w : World) (h : SaAt w x) (hf : Few x.m 400) (hk : RiseK UsM.u (umS x.us)) (ht : RiseK TbM.u x.tb) (hz : SzS x.m) (hu : u.size ≤ maxLen) (ho : o.size ≤ maxLen) (hv : RightV 7 a n st u o) (hle : ¬ a < x.now) :
  Calls Tryz.prog 74 #[saV x, evV ⟨7, a, u, o, n, st⟩] w (Tells w (tellS x.m 7 a n st u o) (errS x.m 7 a n st u o)) := by
 obtain ⟨HK, HE, HZ⟩ := three_SB h ⟨7, a, u, o, n, st⟩ 27 47 27
 have HR := Lib.hid (fun V => evrefRight_any ⟨7, a, u, o, n, st⟩ ⟨hu, ho⟩ V)
 rw [(rightE_iff 7 a n st u o).2 hv] at HR
 have hus : ∀ y ∈ x.us, y.u.size ≤ maxLen := fun y hy => hz.us y.m (List.mem_map_of_mem hy)
 obtain ⟨hes, htg, htz⟩ := tellS_ok hv (show ¬ a < x.m.now from hle)
 rw [hes]
 obtain ⟨now, hor, oa, op, oc, ua, us, uc, sa, su, sc, ta, tb, tc⟩ := x
 have herr : errK (⟨now, hor, oa, op, oc, ua, us, uc, sa, su, sc, ta, tb, tc⟩ : SaL).m 7 a n st u o = 0 := rfl
 have htl := htg herr
 rw [herr]
 have HWO := Lib.hid (fun V (h : OpSl V oa op) => o_rwithout oa oc op u V h (Nat.le_trans hf.op (by decide)))
 have HWE := Lib.hid (fun V (h : EnSl V sa su) => e_rwithout sa sc su u V h (Nat.le_trans hf.su (by decide)))
 have HPU := Lib.hid (fun V (h : UsSl V ua us) => rput_any ua uc us u none 0 [] V h ⟨StSl.nil _ _, Nat.le_refl _, Nat.zero_le _, fun _ => rfl⟩ hk (by have := few_us hf; dsimp only at this; omega) hu hus)
 have HTB := Lib.hid (fun V (h : TbSl V ta tb) => rtombs_any ta tc tb u a V h ht (Nat.le_trans hf.tb (by decide)) hu hz.tb)
 have hgo : goS (⟨now, hor, oa, op, oc, ua, us, uc, sa, su, sc, ta, tb, tc⟩ : SaL).m 7 a n st u o = ⟨a, hor, op.filter (notU u), putU (umS us) u [], withoutS su u, tombU tb u a⟩ := rfl
 have HRT : Hid (∀ y : SaL, y.m = ⟨a, hor, op.filter (notU u), putU (umS us) u [], withoutS su u, tombU tb u a⟩ → y.m = tellS (⟨now, hor, oa, op, oc, ua, us, uc, sa, su, sc, ta, tb, tc⟩ : SaL).m 7 a n st u o) := fun y hy => by rw [hy, htl, hgo]
 clear hgo
 generalize tellS _ 7 a n st u o = R at *
 have HS := Lib.hid HK
 have HZZ := Lib.hid HZ
 have HEE := Lib.hid HE
 obtain ⟨c0, c1, c2, c3, c4, c5⟩ := HK.cells
 obtain ⟨⟨e0, e1, e2, e3, e4, e5⟩, -⟩ := cells6 HE.blk
 unfold saV evV saC at *
 dsimp only at *
 clear h hf HK HZ HE hv hus hk ht hz hu ho htg htz herr hes htl
 go_enter Tryz.func74, Tryz.ntmps74
 go_wp2_with fail
 refine (HR.out _).mono ?_
 rintro e w1 ⟨rfl, h1⟩
 have hbp := below_one w1 (.cells #[.string u, .string o] 97)
 have PB := pcell2 (heap_alloc_new w1 (.cells #[.string u, .string o] 97))
 have A0 := HS.out.below h1
 have E0 := HEE.out.below h1
 have A1 := A0.below hbp
 have B1 := (HZZ.out.below h1).below hbp
 have E1 := E0.below hbp
 clear c0 c1 c2 c3 c4 c5 e0 e1 e2 e3 e4 e5
 obtain ⟨b0, b1, b2, b3, b4, b5⟩ := A0.cells
 obtain ⟨⟨m0, m1, m2, m3, m4, m5⟩, -⟩ := cells6 E0.blk
 obtain ⟨c0, c1, c2, c3, c4, c5⟩ := A1.cells
 obtain ⟨⟨e0, e1, e2, e3, e4, e5⟩, -⟩ := cells6 E1.blk
 obtain ⟨p0, p1⟩ := PB
 have HS1 := Lib.hid A1
 have HZ1 := Lib.hid B1
 have HE1 := Lib.hid E1
 dsimp only at *
 clear HS HZZ HEE A0 E0 A1 B1 E1 hbp h1 HR
 go_wp2_with fail
 refine (HWO.out _ HS1.out.at_.op).mono ?_
 rintro e w2 ⟨x1, q1, rfl, i1, j1, k1, l1, h2⟩
 have A2 := HS1.out.below h2
 have B2 := HZ1.out.below h2
 have E2 := HE1.out.below h2
 have A3 := A2.setOp rfl l1 ⟨i1, j1, k1⟩
 have B3 := B2.far A2 (by omega) 2 (.slice x1 (op.filter (notU u)).length q1)
 have E3 := E2.far (i := 2) (v := .slice x1 (op.filter (notU u)).length q1) (show w.heap.size + 1 ≠ w.heap.size by omega)
 clear b0 b1 b2 b3 b4 b5 m0 m1 m2 m3 m4 m5 c0 c1 c2 c3 c4 c5 e0 e1 e2 e3 e4 e5 p0 p1
 obtain ⟨f0, f1, f2, f3, f4, f5⟩ := A2.free
 have hg2 := A2.lt
 obtain ⟨c0, c1, c2, c3, c4, c5⟩ := A3.cells
 obtain ⟨⟨e0, e1, e2, e3, e4, e5⟩, -⟩ := cells6 E3.blk
 obtain ⟨b0, b1, b2, b3, b4, b5⟩ := A2.cells
 have HS2 := Lib.hid A3
 have HZ2 := Lib.hid B3
 have HE2 := Lib.hid E3
 dsimp only at *
 clear A2 B2 E2 A3 B3 E3 HS1 HZ1 HE1 h2 HWO l1 i1 j1 k1
 go_wp2_with fail
 refine (HWE.out _ HS2.out.at_.su).mono ?_
 rintro e w3 ⟨x2, q2, rfl, i1, j1, k1, l1, h2⟩
 have A2 := HS2.out.below h2
 have B2 := HZ2.out.below h2
 have E2 := HE2.out.below h2
 have A3 := A2.setSu rfl l1 ⟨i1, j1, k1⟩
 have B3 := B2.far A2 (by omega) 4 (.slice x2 (su.filter (wiE u)).length q2)
 have E3 := E2.far (i := 4) (v := .slice x2 (su.filter (wiE u)).length q2) (show w.heap.size + 1 ≠ w.heap.size by omega)
 clear f0 f1 f2 f3 f4 f5 hg2 c0 c1 c2 c3 c4 c5 e0 e1 e2 e3 e4 e5 b0 b1 b2 b3 b4 b5
 obtain ⟨f0, f1, f2, f3, f4, f5⟩ := A2.free
 have hg2 := A2.lt
 obtain ⟨c0, c1, c2, c3, c4, c5⟩ := A3.cells
 obtain ⟨⟨e0, e1, e2, e3, e4, e5⟩, -⟩ := cells6 E3.blk
 obtain ⟨b0, b1, b2, b3, b4, b5⟩ := A2.cells
 have HS3 := Lib.hid A3
 have HZ3 := Lib.hid B3
 have HE3 := Lib.hid E3
 dsimp only at *
 clear A2 B2 E2 A3 B3 E3 HS2 HZ2 HE2 h2 HWE l1 i1 j1 k1
 go_wp2_with fail
 refine (HPU.out _ HS3.out.at_.us).mono ?_
 rintro e w4 ⟨x3, q3, L, rfl, l1, k1, g1, h2⟩
 have A2 := HS3.out.below h2
 have B2 := HZ3.out.below h2
 have E2 := HE3.out.below h2
 have A3 := A2.setUs rfl l1 k1
 have B3 := B2.far A2 (by omega) 3 (.slice x3 L.length q3)
 have E3 := E2.far (i := 3) (v := .slice x3 L.length q3) (show w.heap.size + 1 ≠ w.heap.size by omega)
 have HG := Lib.hid g1
 clear f0 f1 f2 f3 f4 f5 hg2 c0 c1 c2 c3 c4 c5 e0 e1 e2 e3 e4 e5 b0 b1 b2 b3 b4 b5
 obtain ⟨f0, f1, f2, f3, f4, f5⟩ := A2.free
 have hg2 := A2.lt
 obtain ⟨c0, c1, c2, c3, c4, c5⟩ := A3.cells
 obtain ⟨⟨e0, e1, e2, e3, e4, e5⟩, -⟩ := cells6 E3.blk
 obtain ⟨b0, b1, b2, b3, b4, b5⟩ := A2.cells
 have HS4 := Lib.hid A3
 have HZ4 := Lib.hid B3
 have HE4 := Lib.hid E3
 dsimp only at *
 clear A2 B2 E2 A3 B3 E3 HS3 HZ3 HE3 h2 HPU l1 k1 g1
 go_wp2_with fail
 refine (HTB.out _ HS4.out.at_.tb).mono ?_
 rintro e w5 ⟨x4, q4, rfl, l1, k1, h2⟩
 have A2 := HS4.out.below h2
 have B2 := HZ4.out.below h2
 have E2 := HE4.out.below h2
 have A3 := A2.setTb rfl l1 k1
 have B3 := B2.far A2 (by omega) 5 (.slice x4 (tombU tb u a).length q4)
 have E3 := E2.far (i := 5) (v := .slice x4 (tombU tb u a).length q4) (show w.heap.size + 1 ≠ w.heap.size by omega)
 have hym : (⟨a, hor, x1, op.filter (notU u), q1, x3, L, q3, x2, su.filter (wiE u), q2, x4, tombU tb u a, q4⟩ : SaL).m = R := HRT.out _ (by unfold SaL.m; simp only; rw [HG.out]; rfl)
 clear f0 f1 f2 f3 f4 f5 hg2 c0 c1 c2 c3 c4 c5 e0 e1 e2 e3 e4 e5 b0 b1 b2 b3 b4 b5 HRT HG
 obtain ⟨f0, f1, f2, f3, f4, f5⟩ := A2.free
 obtain ⟨c0, c1, c2, c3, c4, c5⟩ := A2.cells
 have hg2 := A2.lt
 dsimp only at *
 clear A2 B2 E2 HS4 HZ4 HE4 h2 HTB l1 k1
 have A8 := A3.setNow a
 have B8 := B3.far A3 (by omega) 0 (.int .i64 a)
 have hfin := A8.finR B8
 obtain ⟨d0, d1, d2, d3, d4, d5⟩ := A8.cells
 obtain ⟨z0, z1, z2, z3, z4, z5⟩ := B8.cells
 obtain ⟨y0, y1, y2, y3, y4, y5⟩ := B8.free
 obtain ⟨g0, g1, g2, g3, g4, g5⟩ := A3.free
 obtain ⟨r0, r1, r2, r3, r4, r5⟩ := A3.cells
 obtain ⟨⟨e0, e1, e2, e3, e4, e5⟩, -⟩ := cells6 E3.blk
 have hzl := B8.lt
 have hgl := A3.lt
 have HL := Lib.hid hfin.1
 have HFN := Lib.hid (And.intro hfin.2.1 (And.intro hym hfin.2.2))
 unfold setS saV saC at HL
 (try unfold setS at *)
 unfold saO at z0 z1 z2 z3 z4 z5
 dsimp only at *
 clear A8 B8 hfin A3 B3 E3 hym
 go_wp2
 refine bodyPost_ret (v := .tuple #[saV ⟨a, hor, x1, op.filter (notU u), q1, x3, L, q3, x2, su.filter (wiE u), q2, x4, tombU tb u a, q4⟩, .int .i64 0]) ?_ rfl ⟨_, rfl, HFN.out⟩
 rw [results_cellT rfl]
 unfold saV saC
 simp [asAddr, Result.andThen, HL.out]
set_option maxHeartbeats 8000000 in
theorem rapply_any (x : SaL) (k a n st : Int) (u o : ByteArray) (w : World) (h : SaAt w x) (hr : RightS x.m) (hc : stCnt x.m ≤ 200) (hz : SzS x.m) (hu : u.size ≤ maxLen) (ho : o.size ≤ maxLen) :
  Calls Tryz.prog 74 #[saV x, evV ⟨k, a, u, o, n, st⟩] w (Tells w (tellS x.m k a n st u o) (errS x.m k a n st u o)) := by
 by_cases hv : RightV k a n st u o
 ·by_cases hlt : a < x.now
  ·obtain ⟨HK, HE, HZ⟩ := three_SB h ⟨k, a, u, o, n, st⟩ 27 47 27
   have HR := Lib.hid (fun V => evrefRight_any ⟨k, a, u, o, n, st⟩ ⟨hu, ho⟩ V)
   have HS := Lib.hid HK
   have HZZ := Lib.hid HZ
   have HEE := Lib.hid HE
   rw [(rightE_iff k a n st u o).2 hv] at HR
   have he : errS x.m k a n st u o = 111 := by unfold errS; rw [if_pos hv, if_pos (show a < x.m.now from hlt)]
   have ht : tellS x.m k a n st u o = saZ := by unfold tellS; rw [he, if_neg (by decide)]
   rw [he, ht]
   obtain ⟨⟨e0, e1, e2, e3, e4, e5⟩, -⟩ := cells6 HE.blk
   obtain ⟨now, hor, oa, op, oc, ua, us, uc, sa, su, sc, ta, tb, tc⟩ := x
   unfold saV evV saC at *
   dsimp only at *
   clear h hr hc HK HZ HE hz
   go_enter Tryz.func74, Tryz.ntmps74
   go_wp2_with fail
   refine (HR.out _).mono ?_
   rintro e w1 ⟨rfl, h1⟩
   have B1 := HZZ.out.below h1
   have A1 := HS.out.below h1
   have hfin := B1.finZR
   clear e0 e1 e2 e3 e4 e5
   obtain ⟨⟨e0, e1, e2, e3, e4, e5⟩, -⟩ := cells6 (HEE.out.below h1).blk
   obtain ⟨c0, c1, c2, c3, c4, c5⟩ := A1.cells
   obtain ⟨z0, z1, z2, z3, z4, z5⟩ := B1.cells
   obtain ⟨y0, y1, y2, y3, y4, y5⟩ := B1.free
   have hzl := B1.lt
   have HL := Lib.hid hfin.1
   have HFN := Lib.hid hfin.2
   unfold saO at z0 z1 z2 z3 z4 z5
   dsimp only at *
   clear HS HZZ HEE A1 B1 hfin h1 HR
   go_wp2
   refine bodyPost_ret (v := .tuple #[saV saO, .int .i64 111]) ?_ rfl ⟨_, rfl, HFN.out.1, rfl, HFN.out.2⟩
   rw [results_cellT rfl]
   unfold saV saC saO
   simp [asAddr, Result.andThen, HL.out]
  ·have hf := (few_of hr hc).mono (b := 400) (by decide)
   have h7 : k = 1 ∨ k = 2 ∨ k = 3 ∨ k = 4 ∨ k = 5 ∨ k = 6 ∨ k = 7 := by
    obtain ⟨_, _, hh⟩ := hv
    omega
   rcases h7 with rfl | rfl | rfl | rfl | rfl | rfl | rfl
   ·exact rap1 x a n st u o w h hf hr.ur hr.tr hz hu ho hv hlt
   ·exact rap2 x a n st u o w h hf hr.ur hr.tr hz hu ho hv hlt
   ·exact rap3 x a n st u o w h hf hr.ur hr.tr hz hu ho hv hlt
   ·exact rap4 x a n st u o w h hf hr.ur hr.tr hz hu ho hv hlt
   ·exact rap5 x a n st u o w h hf hr.ur hr.tr hz hu ho hv hlt
   ·exact rap6 x a n st u o w h hf hr.ur hr.tr hz hu ho hv hlt
   ·exact rap7 x a n st u o w h hf hr.ur hr.tr hz hu ho hv hlt
 ·obtain ⟨HK, HE, HZ⟩ := three_SB h ⟨k, a, u, o, n, st⟩ 27 47 27
  have HR := Lib.hid (fun V => evrefRight_any ⟨k, a, u, o, n, st⟩ ⟨hu, ho⟩ V)
  have HS := Lib.hid HK
  have HZZ := Lib.hid HZ
  have HEE := Lib.hid HE
  have he : errS x.m k a n st u o = 110 := by unfold errS; rw [if_neg hv]
  have ht : tellS x.m k a n st u o = saZ := by unfold tellS; rw [he, if_neg (by decide)]
  rw [he, ht]
  have hE : rightE ⟨k, a, u, o, n, st⟩ = false := Bool.eq_false_iff.2 fun e => hv ((rightE_iff k a n st u o).1 e)
  rw [hE] at HR
  obtain ⟨⟨e0, e1, e2, e3, e4, e5⟩, -⟩ := cells6 HE.blk
  obtain ⟨now, hor, oa, op, oc, ua, us, uc, sa, su, sc, ta, tb, tc⟩ := x
  unfold saV evV saC at *
  dsimp only at *
  clear h hr hc HK HZ HE hz
  go_enter Tryz.func74, Tryz.ntmps74
  go_wp2_with fail
  refine (HR.out _).mono ?_
  rintro e w1 ⟨rfl, h1⟩
  have B1 := HZZ.out.below h1
  have hfin := B1.finZR
  clear e0 e1 e2 e3 e4 e5
  obtain ⟨z0, z1, z2, z3, z4, z5⟩ := B1.cells
  obtain ⟨y0, y1, y2, y3, y4, y5⟩ := B1.free
  have hzl := B1.lt
  have HL := Lib.hid hfin.1
  have HFN := Lib.hid hfin.2
  unfold saO at z0 z1 z2 z3 z4 z5
  dsimp only at *
  clear HS HZZ HEE B1 hfin h1 HR
  go_wp2
  refine bodyPost_ret (v := .tuple #[saV saO, .int .i64 110]) ?_ rfl ⟨_, rfl, HFN.out.1, rfl, HFN.out.2⟩
  rw [results_cellT rfl]
  unfold saV saC saO
  simp [asAddr, Result.andThen, HL.out]
theorem name_sz {s : ByteArray} (h : nameB s = true) : s.size ≤ maxLen := by
 unfold nameB isName at h
 simp only [Bool.and_eq_true, decide_eq_true_eq] at h
 have h1 := h.1.2
 have h2 : s.data.toList.length = s.size := rfl
 unfold maxLen
 omega
theorem sz_right {s : SaM} (h : RightS s) : SzS s := by
 refine ⟨fun e he => ?_, fun e he => name_sz (h.us e he).1, fun e he => ?_, fun e he => name_sz (h.tb e he).1⟩
 ·exact name_sz ((riseO_iff.1 h.op).2.1 e he).1
 ·obtain ⟨k, hk, rfl⟩ := List.getElem_of_mem he
  have := (h.su.rise k hk).1
  exact ⟨name_sz this.2.1, name_sz this.2.2⟩
section
variable {M : SaM} (x y : SaL) (V : World) (h : SaAt V x) (k : SaAt V y) (hm : x.m = M) (km : y.m = M)
include h hm
include k km
end
theorem g_rapply {M : SaM} (x : SaL) (e : EvM) (V : World) (h : SaAt V x) (hm : x.m = M) (hr : RightS M) (hc : stCnt M ≤ 200) (hw : EFits e) : Calls Tryz.prog 74 #[saV x, evV e] V (Tells V (teV M e) (erV M e)) := by
 subst hm
 exact rapply_any x e.kind e.at_ e.n e.status e.user e.other V h hr hc (sz_right hr) hw.1 hw.2
end Go.Proofs.YtmfpjapiijgdgaaGreat
namespace Go.Proofs.YtmfpjapiijgdgaaGreat
open Go.RowKit Go.Proofs
set_option linter.unusedVariables false
set_option maxRecDepth 100000
set_option maxHeartbeats 4000000 in
theorem rfold_any (x : SaL) (a : Option Addr) (c : Nat) (l : List EvM) (w : World) (h : SaAt w x) (hr : RightS x.m) (hs : EvSl w a l) (hf : FitsV l) (hc : stCnt x.m + l.length ≤ 200) :
  Calls Tryz.prog 24 #[saV x, .slice a l.length c] w (FoldsTo w (foldE x.m l) (errsE x.m l)) := by
 obtain ⟨X, Z⟩ := two_SB h 27 27
 have A0 := (hs.below (below_one w (.cells (saC x) 27))).below (below_one _ (.cells (saC saO) 27))
 have HF : Hid (FoK w 27 a l x [] (.slice none 0 0) _) := Lib.hid ⟨X, Z, ErO.nil _ _, A0⟩
 have HFV := Lib.hid hf
 have HRI := Lib.hid hr
 have HLE : Hid (stCnt x.m + l.length ≤ 200) := Lib.hid hc
 obtain ⟨c0, c1, c2, c3, c4, c5⟩ := X.cells
 unfold saO saV saC at *
 simp only [List.length_nil] at *
 clear h hr hs hf hc X Z A0
 go_enter Tryz.func24, Tryz.ntmps24
 go_wp2
 go_loopw [6, 7] (fun ov iv wr => ∃ (j : Nat) (q : SaL), j ≤ l.length ∧ iv = .int .i64 j ∧ Hid (q.m = foldE x.m (l.take j)) ∧ Hid (FoK w 27 a l q (errsE x.m (l.take j)) ov wr)) (fun _ iv _ => l.length - (intOf iv).toNat)
 case atStart => exact ⟨0, x, by omega, rfl, Lib.hid rfl, HF⟩
 case round =>
  clear HF c0 c1 c2 c3 c4 c5
  obtain ⟨j, q, hj, rfl, HM, HG⟩ := hrel
  by_cases hjl : j < l.length
  ·have hw1 : IntKind.i64.wrap ((j : Int) + 1) = (j : Int) + 1 := IntWalk.i64_in _ (by have := HLE.out; omega)
   obtain ⟨ba, ao, ea, hal, u0, u1, u2, u3, u4, u5⟩ := HG.out.l.at_ hjl
   subst ea
   have HEJ : Hid (∀ V, EvSl V (some ⟨ba, ao, none⟩) l → V.cell? ⟨ba, ao + j * 6, none⟩ = some (.int .i64 l[j].kind) ∧ V.cell? ⟨ba, ao + j * 6 + 1, none⟩ = some (.int .i64 l[j].at_) ∧ V.cell? ⟨ba, ao + j * 6 + 2, none⟩ = some (.string l[j].user) ∧ V.cell? ⟨ba, ao + j * 6 + 3, none⟩ = some (.string l[j].other) ∧ V.cell? ⟨ba, ao + j * 6 + 4, none⟩ = some (.int .i64 l[j].n) ∧ V.cell? ⟨ba, ao + j * 6 + 5, none⟩ = some (.int .i64 l[j].status)) := Lib.hid fun V h => by
    obtain ⟨b', o', e', -, h0⟩ := h.at_ hjl
    cases e'
    exact h0
   have hw : EFits l[j] := HFV.out _ (List.getElem_mem hjl)
   have hrq : RightS q.m := by rw [HM.out]; exact right_fold _ HRI.out
   have hcq : stCnt q.m ≤ 200 := by
    have h1 := cnt_fold (l.take j) x.m
    rw [← HM.out] at h1
    have h2 := HLE.out
    rw [List.length_take] at h1
    omega
   have HNX : Hid (∀ z : SaL, z.m = teV q.m l[j] → erV q.m l[j] = 0 → z.m = foldE x.m (l.take (j + 1))) := Lib.hid fun z hz h0 => by
    rw [foldE_take _ _ _ hjl, ← HM.out, nxE_ok h0, hz]
    exact (te_ok hrq h0).2.2
   have HST : Hid (¬ erV q.m l[j] = 0 → q.m = foldE x.m (l.take (j + 1))) := Lib.hid fun h0 => by
    rw [foldE_take _ _ _ hjl, ← HM.out, nxE_no h0]
   have HER : Hid (errsE x.m (l.take (j + 1)) = errsE x.m (l.take j) ++ [erV q.m l[j]]) := Lib.hid (by
    rw [errsE_take _ _ _ hjl, ← HM.out]
    rfl)
   have HRQ : Hid (∀ y : SaL, y.m = foldE x.m (l.take (j + 1)) → RightS y.m) := Lib.hid fun y hy => by rw [hy]; exact right_fold _ HRI.out
   have hel : (errsE x.m (l.take j)).length ≤ 1000000 := by have := HLE.out; rw [errsE_len, List.length_take]; omega
   generalize l[j] = e at *
   have HRA : Hid (∀ V, SaAt V q → Calls Tryz.prog 74 #[saV q, evV e] V (fun r w' => ∃ z, r = .returned (.tuple #[.agg #[.int .i64 z.now, .int .i64 z.hor, .slice z.oa z.op.length z.oc, .slice z.ua z.us.length z.uc, .slice z.sa z.su.length z.sc, .slice z.ta z.tb.length z.tc], .int .i64 (erV q.m e)]) ∧ SaAt w' z ∧ z.m = teV q.m e ∧ Below V.heap.size V w')) := Lib.hid (fun V h => g_rapply (M := q.m) q e V h rfl hrq hcq hw)
   generalize errsE x.m (l.take j) = E at *
   clear hw hrq hcq
   generalize teV q.m e = M1 at *
   generalize erV q.m e = er at *
   have HSC : Hid (∀ V, FoK w 27 (some ⟨ba, ao, none⟩) l q E u6 V → V.cell? ⟨w.heap.size, 0, none⟩ = some (.int .i64 q.now) ∧ V.cell? ⟨w.heap.size, 1, none⟩ = some (.int .i64 q.hor) ∧ V.cell? ⟨w.heap.size, 2, none⟩ = some (.slice q.oa q.op.length q.oc) ∧ V.cell? ⟨w.heap.size, 3, none⟩ = some (.slice q.ua q.us.length q.uc) ∧ V.cell? ⟨w.heap.size, 4, none⟩ = some (.slice q.sa q.su.length q.sc) ∧ V.cell? ⟨w.heap.size, 5, none⟩ = some (.slice q.ta q.tb.length q.tc) ∧ V.cell? ⟨ba, ao + j * 6, none⟩ = some (.int .i64 e.kind) ∧ V.cell? ⟨ba, ao + j * 6 + 1, none⟩ = some (.int .i64 e.at_) ∧ V.cell? ⟨ba, ao + j * 6 + 2, none⟩ = some (.string e.user) ∧ V.cell? ⟨ba, ao + j * 6 + 3, none⟩ = some (.string e.other) ∧ V.cell? ⟨ba, ao + j * 6 + 4, none⟩ = some (.int .i64 e.n) ∧ V.cell? ⟨ba, ao + j * 6 + 5, none⟩ = some (.int .i64 e.status)) := Lib.hid fun V h => by
    obtain ⟨c0, c1, c2, c3, c4, c5⟩ := h.s.cells
    exact ⟨c0, c1, c2, c3, c4, c5, HEJ.out V h.l⟩
   have HBL : Hid (∀ V V', FoK w 27 (some ⟨ba, ao, none⟩) l q E u6 V → Below V.heap.size V V' → FoK w 27 (some ⟨ba, ao, none⟩) l q E u6 V') := Lib.hid fun V V' h qB => h.below qB
   obtain ⟨k0, k1, k2, k3, k4, k5, -⟩ := HSC.out _ HG.out
   have KK := HG.out
   have K0 := KK.below (Below.refl wr.heap.size wr).drew
   have K0b := (KK.below (below_one wr (.cells #[.int .i64 0, .int .i64 0, .slice none 0 0, .slice none 0 0, .slice none 0 0, .slice none 0 0] 27))).below (Below.refl _ _).drew
   have Z0b : SB w wr.heap.size 27 saO (wr.alloc (.cells #[.int .i64 0, .int .i64 0, .slice none 0 0, .slice none 0 0, .slice none 0 0, .slice none 0 0] 27)).drew := SB.drew (SB.new KK.s.frame (SaAt.zero wr) 27)
   have NG0 : w.heap.size ≠ wr.heap.size ∧ w.heap.size + 1 ≠ wr.heap.size := ⟨Nat.ne_of_lt KK.s.lt, Nat.ne_of_lt KK.z.lt⟩
   have hbt : 27 ≠ 60 := by decide
   clear HG
   go_wp2_with fail
   go_region_held3 (fun V => V.cell? ⟨w.heap.size, 0, none⟩ = some (.int .i64 q.now) ∧ V.cell? ⟨w.heap.size, 1, none⟩ = some (.int .i64 q.hor) ∧ V.cell? ⟨w.heap.size, 2, none⟩ = some (.slice q.oa q.op.length q.oc) ∧ V.cell? ⟨w.heap.size, 3, none⟩ = some (.slice q.ua q.us.length q.uc) ∧ V.cell? ⟨w.heap.size, 4, none⟩ = some (.slice q.sa q.su.length q.sc) ∧ V.cell? ⟨w.heap.size, 5, none⟩ = some (.slice q.ta q.tb.length q.tc) ∧ V.cell? ⟨ba, ao + j * 6, none⟩ = some (.int .i64 e.kind) ∧ V.cell? ⟨ba, ao + j * 6 + 1, none⟩ = some (.int .i64 e.at_) ∧ V.cell? ⟨ba, ao + j * 6 + 2, none⟩ = some (.string e.user) ∧ V.cell? ⟨ba, ao + j * 6 + 3, none⟩ = some (.string e.other) ∧ V.cell? ⟨ba, ao + j * 6 + 4, none⟩ = some (.int .i64 e.n) ∧ V.cell? ⟨ba, ao + j * 6 + 5, none⟩ = some (.int .i64 e.status))
    (first | with_reducible exact HSC.out _ KT | with_reducible exact HSC.out _ K1b | with_reducible exact HSC.out _ K1 | with_reducible exact HSC.out _ K0b | with_reducible exact HSC.out _ K0)
    (first | (have hseen := K0; clear hseen; go_at_call 74; (first | (refine (HRA.out _ K0.s.at_).mono ?_; rintro r v1 ⟨z, rfl, hv, hvm, h1⟩; have K1 := HBL.out _ _ K0 h1; (try have Z1 := Z0.below h1)) | (refine (HRA.out _ K0b.s.at_).mono ?_; rintro r v1 ⟨z, rfl, hv, hvm, h1⟩; have K1 := HBL.out _ _ K0b h1; have Z1 := Z0b.below h1)); have NG1 : w.heap.size ≠ v1.heap.size ∧ w.heap.size + 1 ≠ v1.heap.size := ⟨Nat.ne_of_lt K1.s.lt, Nat.ne_of_lt K1.z.lt⟩; (first | (have hzz := Z1; unfold saO at hzz; obtain ⟨z0, z1, z2, z3, z4, z5⟩ := hzz.cells; obtain ⟨f0, f1, f2, f3, f4, f5⟩ := hzz.free; have hzl := hzz.lt; dsimp only [List.length_nil] at z0 z1 z2 z3 z4 z5; clear hzz; (first | (have OV := K1.over Z1 hv NG0.1 NG0.2 hbt; have NE := Lib.hid NG0)); obtain ⟨KT, OB⟩ := OV; unfold setS at OB KT; (try dsimp only at OB KT)) | (have K1b := K1.below (below_one v1 (.cells #[.int .i64 0, .int .i64 0, .slice none 0 0, .slice none 0 0, .slice none 0 0, .slice none 0 0] 27)); have OB : SB w v1.heap.size 27 z (v1.alloc (.cells #[.int .i64 z.now, .int .i64 z.hor, .slice z.oa z.op.length z.oc, .slice z.ua z.us.length z.uc, .slice z.sa z.su.length z.sc, .slice z.ta z.tb.length z.tc] 27)) := SB.new K1.s.frame hv 27; have KT := K1.below (below_one v1 (.cells #[.int .i64 z.now, .int .i64 z.hor, .slice z.oa z.op.length z.oc, .slice z.ua z.us.length z.uc, .slice z.sa z.su.length z.sc, .slice z.ta z.tb.length z.tc] 27)); have NE := Lib.hid NG1))))
   all_goals
    have TK := Lib.hid KT
    have TO := Lib.hid OB
    clear KT OB K0 K0b Z0b NG0 hbt
    clear K1 NG1 h1
    (try clear K1b)
    (try clear Z1)
    (try clear z0 z1 z2 z3 z4 z5 f0 f1 f2 f3 f4 f5 hzl)
    clear KK
    clear k0 k1 k2 k3 k4 k5 u0 u1 u2 u3 u4 u5
    clear HSC HBL HEJ HRA
    clear hv
    (first
     | (generalize ((((((v1.setCell ⟨wr.heap.size, 0, none⟩ (.int .i64 z.now)).setCell ⟨wr.heap.size, 1, none⟩ (.int .i64 z.hor)).setCell ⟨wr.heap.size, 2, none⟩ (.slice z.oa z.op.length z.oc)).setCell ⟨wr.heap.size, 3, none⟩ (.slice z.ua z.us.length z.uc)).setCell ⟨wr.heap.size, 4, none⟩ (.slice z.sa z.su.length z.sc)).setCell ⟨wr.heap.size, 5, none⟩ (.slice z.ta z.tb.length z.tc)) = U at *; generalize wr.heap.size = g at *; (have hseen : SB w g 27 z U := TO.out; clear hseen))
     | (generalize v1.alloc (.cells #[.int .i64 z.now, .int .i64 z.hor, .slice z.oa z.op.length z.oc, .slice z.ua z.us.length z.uc, .slice z.sa z.su.length z.sc, .slice z.ta z.tb.length z.tc] 27) = U at *; generalize v1.heap.size = g at *; (have hseen : SB w g 27 z U := TO.out; clear hseen)))
    have N3 := NE.out
    clear NE
    by_cases g0 : er = 0
    ·subst g0
     have z1 : ((0 : Int) == 0) = true := rfl
     have KA := TK.out.take TO.out (by decide)
     have KM := Lib.hid (HNX.out z hvm rfl)
     unfold setS at KA
     obtain ⟨x0, x1, x2, x3, x4, x5⟩ := TK.out.s.cells
     obtain ⟨f0, f1, f2, f3, f4, f5⟩ := TK.out.s.free
     obtain ⟨y0, y1, y2, y3, y4, y5⟩ := TO.out.cells
     have xl := TK.out.s.lt
     have KE := Lib.hid KA
     clear KA HNX HST hvm TK TO
     go_upto_region 8 with fail
     generalize ((((((U.setCell ⟨w.heap.size, 0, none⟩ (.int .i64 z.now)).setCell ⟨w.heap.size, 1, none⟩ (.int .i64 z.hor)).setCell ⟨w.heap.size, 2, none⟩ (.slice z.oa z.op.length z.oc)).setCell ⟨w.heap.size, 3, none⟩ (.slice z.ua z.us.length z.uc)).setCell ⟨w.heap.size, 4, none⟩ (.slice z.sa z.su.length z.sc)).setCell ⟨w.heap.size, 5, none⟩ (.slice z.ta z.tb.length z.tc)) = UA at *
     clear x0 x1 x2 x3 x4 x5 f0 f1 f2 f3 f4 f5 y0 y1 y2 y3 y4 y5 xl
     have HB1 := below_one UA (.cells #[.int .i64 0] 60)
     have KE1 := Lib.hid (KE.out.below HB1)
     have hcl : (UA.alloc (.cells #[.int .i64 0] 60)).cell? ⟨UA.heap.size, 0, none⟩ = some (.int .i64 0) := cell_of_row _ _ 0 _ _ (0, 0) (heap_alloc_new _ _)
     have HO1 := Lib.hid KE1.out.o
     have HS1 : Hid (w.heap.size ≤ (UA.alloc (.cells #[.int .i64 0] 60)).heap.size) := Lib.hid KE1.out.s.frame.size
     have HRR := Lib.hid (HRQ.out _ KM.out)
     clear HB1 KE
     go_wp2_with (at_builtin; refine wpList_append_er _ rfl (.tmp 28) (.tmp 30) rfl w.heap.size _ _ rfl HO1.out ⟨UA.heap.size, 0, none⟩ 1 0 rfl hcl (by omega) HS1.out ?_; intro v2 w2 ho2 hg2 hB2)
     have KN := Lib.hid (KE1.out.more HRR.out (by decide) ho2 hg2 hB2)
     clear KE1 hcl HO1 HS1 HRR ho2 hg2 hB2
     go_wp2
     go_roundw
     case rel => exact ⟨j + 1, z, by omega, by go_num, KM, Lib.hid (by rw [HER.out]; exact KN.out)⟩
     case measure => simp [intOf]; omega
    ·have z1 : (er == 0) = false := beq_false_of_ne g0
     have KM := Lib.hid (HST.out g0)
     have KE := TK
     clear HNX HST hvm TK TO g0
     have HB1 := below_one U (.cells #[.int .i64 er] 60)
     have KE1 := Lib.hid (KE.out.below HB1)
     have hcl : (U.alloc (.cells #[.int .i64 er] 60)).cell? ⟨U.heap.size, 0, none⟩ = some (.int .i64 er) := cell_of_row _ _ 0 _ _ (0, 0) (heap_alloc_new _ _)
     have HO1 := Lib.hid KE1.out.o
     have HS1 : Hid (w.heap.size ≤ (U.alloc (.cells #[.int .i64 er] 60)).heap.size) := Lib.hid KE1.out.s.frame.size
     have HRR := Lib.hid (HRQ.out _ KM.out)
     clear HB1 KE
     go_wp2_with (at_builtin; refine wpList_append_er _ rfl (.tmp 28) (.tmp 30) rfl w.heap.size _ _ rfl HO1.out ⟨U.heap.size, 0, none⟩ 1 er rfl hcl (by omega) HS1.out ?_; intro v2 w2 ho2 hg2 hB2)
     have KN := Lib.hid (KE1.out.more HRR.out (by decide) ho2 hg2 hB2)
     clear KE1 hcl HO1 HS1 HRR ho2 hg2 hB2
     go_wp2
     go_roundw
     case rel => exact ⟨j + 1, q, by omega, by go_num, KM, Lib.hid (by rw [HER.out]; exact KN.out)⟩
     case measure => simp [intOf]; omega
  ·obtain rfl : j = l.length := by omega
   rw [List.take_length] at HM HG
   obtain ⟨c0, c1, c2, c3, c4, c5⟩ := HG.out.s.cells
   obtain ⟨z0, z1, z2, z3, z4, z5⟩ := HG.out.z.cells
   obtain ⟨f0, f1, f2, f3, f4, f5⟩ := HG.out.z.free
   have hgl := HG.out.z.lt
   have hF := HG.out.z.set HG.out.s.at_
   have HL := Lib.hid (loadR6 hF.blk)
   have HO := ErO.setT HG.out.z HG.out.s.at_ HG.out.o (by decide)
   obtain ⟨b, c', rfl, i1, i2, i3, -⟩ := HO.row
   have HFN := Lib.hid (show SaAt _ q ∧ q.m = foldE x.m l ∧ ErSl _ b (errsE x.m l) ∧ (errsE x.m l).length ≤ c' ∧ c' ≤ maxLen ∧ Below w.heap.size w _ from ⟨hF.at_, HM.out, i3, i1, i2, hF.frame⟩)
   unfold setS saV saC at HL
   unfold saO at z0 z1 z2 z3 z4 z5
   dsimp only at z0 z1 z2 z3 z4 z5
   clear hF HG HM HO i1 i2 i3
   go_wp2
   refine bodyPost_ret (v := .tuple #[saV q, .slice b (errsE x.m l).length c']) ?_ rfl ⟨q, b, c', rfl, HFN.out.1, HFN.out.2.1, HFN.out.2.2.1, HFN.out.2.2.2.1, HFN.out.2.2.2.2.1, HFN.out.2.2.2.2.2⟩
   rw [results_cellT rfl]
   unfold saV saC
   simp [asAddr, Result.andThen, HL.out]
theorem infoEventR : (Tryz.prog.info? 47).map (fun i => (i.zero, i.size, i.bytes)) = some (some (.agg #[.int .i64 0, .int .i64 0, .string ⟨#[]⟩, .string ⟨#[]⟩, .int .i64 0, .int .i64 0]), 6, 64) := by kernel_rfl
theorem take_len_le {α : Type} (l : List α) (j : Nat) : (l.take j).length ≤ j := by rw [List.length_take]; omega
set_option maxHeartbeats 4000000 in
theorem dtaken_any (x : SaL) (a : Option Addr) (c : Nat) (l : List EvM) (w : World) (h : SaAt w x) (hr : RightS x.m) (hs : EvSl w a l) (hf : FitsV l) (hc : stCnt x.m + l.length ≤ 200) :
  Calls Tryz.prog 32 #[saV x, .slice a l.length c] w (RowsTo w (takenE x.m l)) := by
 obtain ⟨i0, hi0, hz0, hz1, hz2⟩ := info_parts infoEventR
 have S0 := SB.new (Below.refl w.heap.size w) h 27
 have A0 := hs.below (below_one w (.cells (saC x) 27))
 have HFO := Lib.hid (fun V (h : SaAt V x) (k : EvSl V a l) => rfold_any x a c l V h hr k hf hc)
 have hln : l.length ≤ 1000 := by omega
 have hel : (errsE x.m l).length = l.length := errsE_len _ _
 have HTN : Hid (∀ j (h : j < l.length), takenE x.m (l.take (j + 1)) = takenE x.m (l.take j) ++ (if (errsE x.m l)[j]'(by rw [hel]; exact h) = 0 then [l[j]] else [])) := Lib.hid fun j h => taken_told x.m l j h
 have HLN : Hid (∀ j, (takenE x.m (l.take j)).length ≤ j) := Lib.hid fun j => Nat.le_trans (takenE_len _ _) (take_len_le _ _)
 have HTE : Hid (takenE x.m (l.take l.length) = takenE x.m l) := Lib.hid (by rw [List.take_length])
 have HEL := Lib.hid hel
 have HS := Lib.hid S0
 have HA := Lib.hid A0
 have HFR := Lib.hid S0.frame
 obtain ⟨c0, c1, c2, c3, c4, c5⟩ := S0.cells
 unfold FoldsTo at HFO
 unfold saV saC at *
 clear h hr hs hf hc S0 A0
 generalize errsE x.m l = E0 at *
 generalize foldE x.m l = M at *
 go_enter Tryz.func32, Tryz.ntmps32
 go_wp2_with fail
 refine (HFO.out _ HS.out.at_ HA.out).mono ?_
 rintro r w1 ⟨y, b, q, rfl, hy, -, hE, hEq, hqm, h1⟩
 clear c0 c1 c2 c3 c4 c5 HFO
 have hbb := below_one w1 (.cells #[.int .i64 y.now, .int .i64 y.hor, .slice y.oa y.op.length y.oc, .slice y.ua y.us.length y.uc, .slice y.sa y.su.length y.sc, .slice y.ta y.tb.length y.tc] 27)
 have HK := Lib.hid (hE.below hbb)
 have HAA := Lib.hid ((HA.out.below h1).below hbb)
 have HF2 := Lib.hid ((HS.out.below h1).below hbb).frame
 clear hbb hE hy h1 HS HA hEq hqm HFR
 go_upto_region 2 with fail
 generalize (w1.alloc (.cells #[.int .i64 y.now, .int .i64 y.hor, .slice y.oa y.op.length y.oc, .slice y.ua y.us.length y.uc, .slice y.sa y.su.length y.sc, .slice y.ta y.tb.length y.tc] 27)) = U at *
 have H0 : Hid (U.ownsRow U.heap.size 47 6 (.slice none 0 0) (takenE x.m (l.take 0)).length (evs (takenE x.m (l.take 0)))) := Lib.hid ⟨rfl, .inl ⟨rfl, rfl⟩⟩
 have HBU : Hid (Below U.heap.size U U) := Lib.hid (Below.refl _ _)
 go_wp2
 go_loopw [7, 8] (fun v iv wr => ∃ (j : Nat), j ≤ l.length ∧ iv = .int .i64 j ∧ Hid (wr.ownsRow U.heap.size 47 6 v (takenE x.m (l.take j)).length (evs (takenE x.m (l.take j)))) ∧ Hid (Below U.heap.size U wr)) (fun _ iv _ => l.length - (intOf iv).toNat)
 case atStart => exact ⟨0, by omega, rfl, H0, HBU⟩
 case round =>
  clear H0 HBU
  obtain ⟨j, hj, rfl, HO, HB⟩ := hrel
  by_cases hjl : j < l.length
  ·have hw1 : IntKind.i64.wrap ((j : Int) + 1) = (j : Int) + 1 := IntWalk.i64_in _ (by omega)
   have HBF : Hid (Below U.heap.size U wr) := Lib.hid HB.out
   have hjE : j < E0.length := by rw [HEL.out]; exact hjl
   obtain ⟨be, oe, rfl, -, q0⟩ := (HK.out.below HBF.out).at_ hjE
   obtain ⟨ba, ao, rfl, -, r0, r1, r2, r3, r4, r5⟩ := (HAA.out.below HBF.out).at_ hjl
   have HNX := Lib.hid (HTN.out j hjl)
   have hle := HLN.out j
   have hel2 : (E0.length : Int) = (l.length : Int) := by rw [HEL.out]
   generalize E0[j] = er at *
   generalize l[j] = x at *
   generalize takenE _ (l.take j) = E at *
   by_cases h0 : er = 0
   ·have z0 : (er == 0) = true := beq_iff_eq.2 h0
    rw [if_pos h0] at HNX
    clear h0 hel2
    have hb3 := below_one wr (.cells #[.int .i64 x.kind, .int .i64 x.at_, .string x.user, .string x.other, .int .i64 x.n, .int .i64 x.status] 47)
    have HO2 := Lib.hid (own_below HO.out hb3)
    have HB3 := Lib.hid (HB.out.trans (hb3.mono HB.out.size))
    have HS3 := Lib.hid HB3.out.size
    clear hb3
    go_wp2_with (at_builtin; refine wpList_append_own _ rfl (.tmp 26) (.tmp 31) 28 rfl U.heap.size 47 i0 _ 6 64 Tryz.underlying28 hi0 hz0 hz1 hz2 rfl (by decide) _ _ _ rfl HO2.out ⟨wr.heap.size, 0, none⟩ 1 1 [.int .i64 x.kind, .int .i64 x.at_, .string x.user, .string x.other, .int .i64 x.n, .int .i64 x.status] rfl rfl (news_at _ _ _ _ rfl) (six_cells x) (by unfold maxLen; omega) (by omega) HS3.out ?_; intro v' w3 hown' hgrow hiff)
    have HB4 := Lib.hid (app_below HB3.out HS3.out HO2.out hgrow)
    have HO4 : Hid (w3.ownsRow U.heap.size 47 6 v' (E ++ [x]).length (evs (E ++ [x]))) := Lib.hid (by rw [evs_snoc, List.length_append]; exact hown')
    clear hown' hgrow hiff HB3 HS3 HO2 HO HB
    go_wp2
    go_roundw
    case rel => exact ⟨j + 1, by omega, by go_num, Lib.hid (by rw [HNX.out]; exact HO4.out), HB4⟩
    case measure => simp [intOf]; omega
   ·have z0 : (er == 0) = false := beq_false_of_ne h0
    rw [if_neg h0, List.append_nil] at HNX
    clear h0 hel2
    go_wp2
    go_roundw
    case rel => exact ⟨j + 1, by omega, by go_num, Lib.hid (by rw [HNX.out]; exact HO.out), HB⟩
    case measure => simp [intOf]; omega
  ·obtain rfl : j = l.length := by omega
   rw [HTE.out] at HO
   have HBF : Hid (Below w.heap.size w wr) := Lib.hid (HF2.out.trans (HB.out.mono HF2.out.size))
   obtain ⟨b', q', rfl, k1, k2, k3, k4⟩ := own_ev2 HO.out
   have HH := Lib.hid (And.intro k1 (And.intro k2 (And.intro k3 (And.intro k4 HBF.out))))
   clear HO HB k1 k2 k3 k4 HBF HTN HLN HTE
   go_wp2
   go_ret
   exact ⟨b', q', rfl, HH.out⟩
theorem h_rtaken (x : SaL) {M : SaM} (hm : x.m = M) (a : Option Addr) (c : Nat) (l : List EvM) (V : World) (h : SaAt V x) (hr : RightS M) (hs : EvSl V a l) (hf : FitsV l) (hc : stCnt M + l.length ≤ 200) : Calls Tryz.prog 32 #[saV x, .slice a l.length c] V (RowsTo V (takenE M l)) := by
 subst hm
 exact dtaken_any x a c l V h hr hs hf hc
end Go.Proofs.YtmfpjapiijgdgaaGreat
