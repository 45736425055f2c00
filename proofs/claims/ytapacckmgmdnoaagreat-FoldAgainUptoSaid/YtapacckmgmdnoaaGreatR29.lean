/- Texts of mine, one behind the other, of each what is wanted. -/
import Derived.Test.YtapacckmgmdnoaaGreatR00
import Derived.Test.YtapacckmgmdnoaaGreatShelf
import Derived.Test.YtapacckmgmdnoaaGreatRows
import Derived.Test.YtapacckmgmdnoaaGreatR01
import Derived.Test.YtapacckmgmdnoaaGreatR03
import Derived.Test.YtapacckmgmdnoaaGreatR04
import Derived.Test.YtapacckmgmdnoaaGreatR07
import Derived.Test.YtapacckmgmdnoaaGreatR14
import Derived.Test.YtapacckmgmdnoaaGreatR18
import Derived.Test.YtapacckmgmdnoaaGreatR28
namespace Go.Proofs.YtapacckmgmdnoaaGreat
open Go.RowKit Go.Proofs
set_option linter.unusedVariables false
set_option maxRecDepth 100000
set_option maxRecDepth 100000
structure EB (w : World) (g : Nat) (t : TypeId) (e : EvM) (W : World) : Prop where
 blk : W.heap[g]? = some (.cells #[.int .i64 e.kind, .int .i64 e.at_, .string e.user, .string e.other, .int .i64 e.n, .int .i64 e.status] t (0, 0))
 ge : w.heap.size ≤ g
theorem EB.below {w W W' : World} {g : Nat} {t : TypeId} {e : EvM} (h : EB w g t e W) (q : Below W.heap.size W W') : EB w g t e W' := ⟨(q.block g (heap_lt h.blk)).trans h.blk, h.ge⟩
theorem EB.far {w W : World} {g g' i : Nat} {t : TypeId} {e : EvM} {v : Value} (h : EB w g t e W) (hne : g ≠ g') : EB w g t e (W.setCell ⟨g', i, none⟩ v) := ⟨(block_far hne).trans h.blk, h.ge⟩
theorem three_SB {w : World} {x : SaL} (h : SaAt w x) (e : EvM) (t te t' : TypeId) : SB w w.heap.size t x (((w.alloc (.cells (saC x) t)).alloc (.cells #[.int .i64 e.kind, .int .i64 e.at_, .string e.user, .string e.other, .int .i64 e.n, .int .i64 e.status] te)).alloc (.cells (saC saO) t'))
  ∧ EB w (w.heap.size + 1) te e (((w.alloc (.cells (saC x) t)).alloc (.cells #[.int .i64 e.kind, .int .i64 e.at_, .string e.user, .string e.other, .int .i64 e.n, .int .i64 e.status] te)).alloc (.cells (saC saO) t'))
  ∧ SB w (w.heap.size + 2) t' saO (((w.alloc (.cells (saC x) t)).alloc (.cells #[.int .i64 e.kind, .int .i64 e.at_, .string e.user, .string e.other, .int .i64 e.n, .int .i64 e.status] te)).alloc (.cells (saC saO) t')) := by
 have S0 := SB.new (Below.refl w.heap.size w) h t
 have E0 : EB w (w.heap.size + 1) te e ((w.alloc (.cells (saC x) t)).alloc (.cells #[.int .i64 e.kind, .int .i64 e.at_, .string e.user, .string e.other, .int .i64 e.n, .int .i64 e.status] te)) := ⟨by have := heap_alloc_new (w.alloc (.cells (saC x) t)) (.cells #[.int .i64 e.kind, .int .i64 e.at_, .string e.user, .string e.other, .int .i64 e.n, .int .i64 e.status] te); rwa [size1] at this, by omega⟩
 have S1 := S0.alloc (.cells #[.int .i64 e.kind, .int .i64 e.at_, .string e.user, .string e.other, .int .i64 e.n, .int .i64 e.status] te)
 have Z0 := SB.new (S1.frame) (SaAt.zero _) t'
 rw [size1, size1] at Z0
 exact ⟨S1.alloc _, E0.below (below_one _ _), Z0⟩
theorem SB.over {w T : World} {g r : Nat} {t t' : TypeId} {x y z : SaL} (hK : SB w g t x T) (hy : SaAt T y) (hZ : SB w r t' z T) (hne : r ≠ g) : SB w g t y (setS T g y) ∧ SB w r t' z (setS T g y) := by
 have h0 := hK.setNow y.now
 have y0 := hy.setB hK.blk 0 (.int .i64 y.now)
 have h1 := h0.setHor y.hor
 have y1 := y0.setB h0.blk 1 (.int .i64 y.hor)
 have h2 := h1.setOp rfl y1.op y1.oc
 have y2 := y1.setB h1.blk 2 (.slice y.oa y.op.length y.oc)
 have h3 := h2.setUs rfl y2.us y2.uc
 have y3 := y2.setB h2.blk 3 (.slice y.ua y.us.length y.uc)
 have h4 := h3.setSu rfl y3.su y3.sc
 exact ⟨hK.set hy, (((((hZ.far hK hne 0 _).far h0 hne 1 _).far h1 hne 2 _).far h2 hne 3 _).far h3 hne 4 _).far h4 hne 5 _⟩
theorem e_grant2 (a : Option Addr) (c : Nat) (l : List EnM) (p u : ByteArray) (n : Int) (W : World) (h : EnSl W a l) (hc : Cp a l.length c) (hl : l.length ≤ 500) : Calls Tryz.prog 196 #[.slice a l.length c, .agg #[.string p, .string u], .int .i64 n] W fun e w' => ∃ x q m er, e = .returned (.tuple #[.slice x m.length q, .int .i64 er]) ∧ er = (if l.any (infE p u) = true then 90 else 0) ∧ (er = 0 → m = grantS l (mkE p u n)) ∧ Cp x m.length q ∧ EnSl w' x m ∧ Below W.heap.size W w' := by
 by_cases hi : l.any (infE p u) = true
 ·refine (e_grant_no a c l p u n W h hc.nil hl hc.le hc.mx hi).mono ?_
  rintro e w' ⟨rfl, hb⟩
  exact ⟨none, 0, [], 90, rfl, (if_pos hi).symm, fun h => absurd h (by decide), Cp.none, EnSl.nil _ _, hb⟩
 ·refine (e_grant a c l p u n W h hc.nil hl hc.le hc.mx (Bool.eq_false_iff.2 hi)).mono ?_
  rintro e w' ⟨x, q, rfl, i1, i2, i3, i4, hb⟩
  exact ⟨x, q, _, 0, rfl, (if_neg hi).symm, fun _ => rfl, ⟨i1, i2, i3⟩, i4, hb⟩
theorem e_revoke2 (a : Option Addr) (c : Nat) (l : List EnM) (p u : ByteArray) (n : Int) (W : World) (h : EnSl W a l) (hc : Cp a l.length c) (hl : l.length ≤ 500) : Calls Tryz.prog 197 #[.slice a l.length c, .agg #[.string p, .string u], .int .i64 n] W fun e w' => ∃ x q m er, e = .returned (.tuple #[.slice x m.length q, .int .i64 er]) ∧ er = (if l.any (infE p u) = true then 0 else 91) ∧ (er = 0 → m = revokeS l p u n) ∧ Cp x m.length q ∧ EnSl w' x m ∧ Below W.heap.size W w' := by
 by_cases hi : l.any (infE p u) = true
 ·refine (e_revoke a c l p u n W h hl hc.le hc.mx hi).mono ?_
  rintro e w' ⟨x, q, rfl, i1, i2, i3, i4, hb⟩
  exact ⟨x, q, _, 0, rfl, (if_pos hi).symm, fun _ => rfl, ⟨i1, i2, i3⟩, i4, hb⟩
 ·refine (e_revoke_no a c l p u n W h hl hc.le hc.mx (Bool.eq_false_iff.2 hi)).mono ?_
  rintro e w' ⟨rfl, hb⟩
  exact ⟨none, 0, [], 91, rfl, (if_neg hi).symm, fun h => absurd h (by decide), Cp.none, EnSl.nil _ _, hb⟩
theorem o_open2 (a : Option Addr) (c : Nat) (l : List OpM) (e0 : OpM) (W : World) (h : OpSl W a l) (hc : Cp a l.length c) (hl : l.length ≤ 500) : Calls Tryz.prog 192 #[.slice a l.length c, .agg #[.int .i64 e0.n, .string e0.u, .int .i64 e0.s, .int .i64 e0.f]] W fun e w' => ∃ x q m er, e = .returned (.tuple #[.slice x m.length q, .int .i64 er]) ∧ er = openC l e0 ∧ (er = 0 → m = openR l e0) ∧ Cp x m.length q ∧ OpSl w' x m ∧ Below W.heap.size W w' := by
 refine (o_open a c l e0 W h hc.nil hl hc.le hc.mx).mono ?_
 rintro e w' ⟨x, q, rfl, i1, i2, i3, i4, hb⟩
 exact ⟨x, q, _, _, rfl, rfl, fun _ => rfl, ⟨i1, i2, i3⟩, i4, hb⟩
def Told (w : World) (x : SaL) (er : Int) (s : SaM) (r : Ending) (w' : World) : Prop := ∃ y, r = .returned (.tuple #[saV y, .int .i64 er]) ∧ SaAt w' y ∧ (er = 0 → y.m = s) ∧ Below w.heap.size w w'
set_option maxHeartbeats 8000000 in
theorem behind1 (x : SaL) (a n st : Int) (u o : ByteArray) (w : World) (h : SaAt w x) (hf : Few x.m 400) (hk : RiseK UsM.u (umS x.us)) (ht : RiseK TbM.u x.tb) :
  Calls Tryz.prog 134 #[saV x, evV ⟨1, a, u, o, n, st⟩] w (Told w x (errK x.m 1 a n st u o) { goS x.m 1 a n st u o with now := x.now }) := by
 obtain ⟨HK, HE, HZ⟩ := three_SB h ⟨1, a, u, o, n, st⟩ 39 64 39
 obtain ⟨now, hor, oa, op, oc, ua, us, uc, sa, su, sc, ta, tb, tc⟩ := x
 have HCL := Lib.hid (fun V (h : OpSl V oa op) => o_open2 oa oc op ⟨n, u, st, a⟩ V h HK.at_.oc (Nat.le_trans hf.op (by decide)))
 have HS := Lib.hid HK
 have HZZ := Lib.hid HZ
 have HEE := Lib.hid HE
 obtain ⟨c0, c1, c2, c3, c4, c5⟩ := HK.cells
 obtain ⟨f0, f1, f2, f3, f4, f5⟩ := HK.free
 obtain ⟨⟨e0, e1, e2, e3, e4, e5⟩, -⟩ := cells6 HE.blk
 have hgl := HK.lt
 unfold saV evV saC at *
 dsimp only at *
 clear h hf HK HZ HE
 go_enter Tryz.func134, Tryz.ntmps134
 go_wp2_with fail
 refine (HCL.out _ HS.out.at_.op).mono ?_
 rintro e w1 ⟨x1, q1, m, er, rfl, i1, j1, k1, l1, h1⟩
 have A1 := HS.out.below h1
 have B1 := HZZ.out.below h1
 have A2 := A1.setOp rfl l1 k1
 have B2 := B1.far A1 (by omega) 2 (.slice x1 m.length q1)
 have hfin := A2.fin B2
 clear c0 c1 c2 c3 c4 c5 f0 f1 f2 f3 f4 f5 hgl e0 e1 e2 e3 e4 e5
 obtain ⟨c0, c1, c2, c3, c4, c5⟩ := A1.cells
 obtain ⟨f0, f1, f2, f3, f4, f5⟩ := A1.free
 obtain ⟨⟨e0, e1, e2, e3, e4, e5⟩, -⟩ := cells6 (HEE.out.below h1).blk
 have hgl := A1.lt
 obtain ⟨d0, d1, d2, d3, d4, d5⟩ := A2.cells
 obtain ⟨z0, z1, z2, z3, z4, z5⟩ := B2.cells
 obtain ⟨y0, y1, y2, y3, y4, y5⟩ := B2.free
 have hzl := B2.lt
 have HL := Lib.hid hfin.1
 have HFN := Lib.hid (And.intro hfin.2.1 (And.intro i1 (And.intro j1 hfin.2.2)))
 unfold setS saV saC at HL
 unfold saO at z0 z1 z2 z3 z4 z5
 dsimp only at *
 clear HS HZZ HEE A1 B1 A2 B2 hfin l1 k1 h1 HCL i1 j1
 go_wp2
 refine bodyPost_ret (v := .tuple #[saV ⟨now, hor, x1, m, q1, ua, us, uc, sa, su, sc, ta, tb, tc⟩, .int .i64 er]) ?_ rfl ?_
 ·rw [results_cellT rfl]
  unfold saV saC
  simp [asAddr, Result.andThen, HL.out]
 ·obtain ⟨g1, g2, g3, g4⟩ := HFN.out
  subst g2
  exact ⟨_, rfl, g1, fun he => by rw [g3 he]; rfl, g4⟩
set_option maxHeartbeats 8000000 in
theorem behind4 (x : SaL) (a n st : Int) (u o : ByteArray) (w : World) (h : SaAt w x) (hf : Few x.m 400) (hk : RiseK UsM.u (umS x.us)) (ht : RiseK TbM.u x.tb) :
  Calls Tryz.prog 134 #[saV x, evV ⟨4, a, u, o, n, st⟩] w (Told w x (errK x.m 4 a n st u o) { goS x.m 4 a n st u o with now := x.now }) := by
 obtain ⟨HK, HE, HZ⟩ := three_SB h ⟨4, a, u, o, n, st⟩ 39 64 39
 obtain ⟨now, hor, oa, op, oc, ua, us, uc, sa, su, sc, ta, tb, tc⟩ := x
 have HCL := Lib.hid (fun V (h : EnSl V sa su) => e_grant2 sa sc su u o a V h HK.at_.sc (Nat.le_trans hf.su (by decide)))
 have HS := Lib.hid HK
 have HZZ := Lib.hid HZ
 have HEE := Lib.hid HE
 obtain ⟨c0, c1, c2, c3, c4, c5⟩ := HK.cells
 obtain ⟨f0, f1, f2, f3, f4, f5⟩ := HK.free
 obtain ⟨⟨e0, e1, e2, e3, e4, e5⟩, -⟩ := cells6 HE.blk
 have hgl := HK.lt
 unfold saV evV saC at *
 dsimp only at *
 clear h hf HK HZ HE
 go_enter Tryz.func134, Tryz.ntmps134
 go_wp2_with fail
 refine (HCL.out _ HS.out.at_.su).mono ?_
 rintro e w1 ⟨x1, q1, m, er, rfl, i1, j1, k1, l1, h1⟩
 have A1 := HS.out.below h1
 have B1 := HZZ.out.below h1
 have A2 := A1.setSu rfl l1 k1
 have B2 := B1.far A1 (by omega) 4 (.slice x1 m.length q1)
 have hfin := A2.fin B2
 clear c0 c1 c2 c3 c4 c5 f0 f1 f2 f3 f4 f5 hgl e0 e1 e2 e3 e4 e5
 obtain ⟨c0, c1, c2, c3, c4, c5⟩ := A1.cells
 obtain ⟨f0, f1, f2, f3, f4, f5⟩ := A1.free
 obtain ⟨⟨e0, e1, e2, e3, e4, e5⟩, -⟩ := cells6 (HEE.out.below h1).blk
 have hgl := A1.lt
 obtain ⟨d0, d1, d2, d3, d4, d5⟩ := A2.cells
 obtain ⟨z0, z1, z2, z3, z4, z5⟩ := B2.cells
 obtain ⟨y0, y1, y2, y3, y4, y5⟩ := B2.free
 have hzl := B2.lt
 have HL := Lib.hid hfin.1
 have HFN := Lib.hid (And.intro hfin.2.1 (And.intro i1 (And.intro j1 hfin.2.2)))
 unfold setS saV saC at HL
 unfold saO at z0 z1 z2 z3 z4 z5
 dsimp only at *
 clear HS HZZ HEE A1 B1 A2 B2 hfin l1 k1 h1 HCL i1 j1
 go_wp2
 refine bodyPost_ret (v := .tuple #[saV ⟨now, hor, oa, op, oc, ua, us, uc, x1, m, q1, ta, tb, tc⟩, .int .i64 er]) ?_ rfl ?_
 ·rw [results_cellT rfl]
  unfold saV saC
  simp [asAddr, Result.andThen, HL.out]
 ·obtain ⟨g1, g2, g3, g4⟩ := HFN.out
  subst g2
  exact ⟨_, rfl, g1, fun he => by rw [g3 he]; rfl, g4⟩
set_option maxHeartbeats 8000000 in
theorem behind5 (x : SaL) (a n st : Int) (u o : ByteArray) (w : World) (h : SaAt w x) (hf : Few x.m 400) (hk : RiseK UsM.u (umS x.us)) (ht : RiseK TbM.u x.tb) :
  Calls Tryz.prog 134 #[saV x, evV ⟨5, a, u, o, n, st⟩] w (Told w x (errK x.m 5 a n st u o) { goS x.m 5 a n st u o with now := x.now }) := by
 obtain ⟨HK, HE, HZ⟩ := three_SB h ⟨5, a, u, o, n, st⟩ 39 64 39
 obtain ⟨now, hor, oa, op, oc, ua, us, uc, sa, su, sc, ta, tb, tc⟩ := x
 have HCL := Lib.hid (fun V (h : EnSl V sa su) => e_revoke2 sa sc su u o a V h HK.at_.sc (Nat.le_trans hf.su (by decide)))
 have HS := Lib.hid HK
 have HZZ := Lib.hid HZ
 have HEE := Lib.hid HE
 obtain ⟨c0, c1, c2, c3, c4, c5⟩ := HK.cells
 obtain ⟨f0, f1, f2, f3, f4, f5⟩ := HK.free
 obtain ⟨⟨e0, e1, e2, e3, e4, e5⟩, -⟩ := cells6 HE.blk
 have hgl := HK.lt
 unfold saV evV saC at *
 dsimp only at *
 clear h hf HK HZ HE
 go_enter Tryz.func134, Tryz.ntmps134
 go_wp2_with fail
 refine (HCL.out _ HS.out.at_.su).mono ?_
 rintro e w1 ⟨x1, q1, m, er, rfl, i1, j1, k1, l1, h1⟩
 have A1 := HS.out.below h1
 have B1 := HZZ.out.below h1
 have A2 := A1.setSu rfl l1 k1
 have B2 := B1.far A1 (by omega) 4 (.slice x1 m.length q1)
 have hfin := A2.fin B2
 clear c0 c1 c2 c3 c4 c5 f0 f1 f2 f3 f4 f5 hgl e0 e1 e2 e3 e4 e5
 obtain ⟨c0, c1, c2, c3, c4, c5⟩ := A1.cells
 obtain ⟨f0, f1, f2, f3, f4, f5⟩ := A1.free
 obtain ⟨⟨e0, e1, e2, e3, e4, e5⟩, -⟩ := cells6 (HEE.out.below h1).blk
 have hgl := A1.lt
 obtain ⟨d0, d1, d2, d3, d4, d5⟩ := A2.cells
 obtain ⟨z0, z1, z2, z3, z4, z5⟩ := B2.cells
 obtain ⟨y0, y1, y2, y3, y4, y5⟩ := B2.free
 have hzl := B2.lt
 have HL := Lib.hid hfin.1
 have HFN := Lib.hid (And.intro hfin.2.1 (And.intro i1 (And.intro j1 hfin.2.2)))
 unfold setS saV saC at HL
 unfold saO at z0 z1 z2 z3 z4 z5
 dsimp only at *
 clear HS HZZ HEE A1 B1 A2 B2 hfin l1 k1 h1 HCL i1 j1
 go_wp2
 refine bodyPost_ret (v := .tuple #[saV ⟨now, hor, oa, op, oc, ua, us, uc, x1, m, q1, ta, tb, tc⟩, .int .i64 er]) ?_ rfl ?_
 ·rw [results_cellT rfl]
  unfold saV saC
  simp [asAddr, Result.andThen, HL.out]
 ·obtain ⟨g1, g2, g3, g4⟩ := HFN.out
  subst g2
  exact ⟨_, rfl, g1, fun he => by rw [g3 he]; rfl, g4⟩
set_option maxHeartbeats 8000000 in
theorem behind3 (x : SaL) (a n st : Int) (u o : ByteArray) (w : World) (h : SaAt w x) (hf : Few x.m 400) (hk : RiseK UsM.u (umS x.us)) (ht : RiseK TbM.u x.tb) :
  Calls Tryz.prog 134 #[saV x, evV ⟨3, a, u, o, n, st⟩] w (Told w x (errK x.m 3 a n st u o) { goS x.m 3 a n st u o with now := x.now }) := by
 obtain ⟨HK, HE, HZ⟩ := three_SB h ⟨3, a, u, o, n, st⟩ 39 64 39
 obtain ⟨now, hor, oa, op, oc, ua, us, uc, sa, su, sc, ta, tb, tc⟩ := x
 have HCL := Lib.hid (fun V (h : SaAt V ⟨now, hor, oa, op, oc, ua, us, uc, sa, su, sc, ta, tb, tc⟩) => closed_any ⟨now, hor, oa, op, oc, ua, us, uc, sa, su, sc, ta, tb, tc⟩ n u a V h ⟨Nat.le_trans hf.op (by decide), Nat.le_trans hf.us (by decide), Nat.le_trans hf.su (by decide), Nat.le_trans hf.tb (by decide), fun y hy => Nat.le_trans (hf.st y hy) (by decide)⟩ hk)
 have HGE := Lib.hid (HZ.ge)
 have HS := Lib.hid HK
 have HZZ := Lib.hid HZ
 have HEE := Lib.hid HE
 obtain ⟨c0, c1, c2, c3, c4, c5⟩ := HK.cells
 obtain ⟨f0, f1, f2, f3, f4, f5⟩ := HK.free
 obtain ⟨⟨e0, e1, e2, e3, e4, e5⟩, -⟩ := cells6 HE.blk
 have hgl := HK.lt
 unfold saV evV saC at *
 dsimp only at *
 clear h hf HK HZ HE
 go_enter Tryz.func134, Tryz.ntmps134
 go_wp2_with fail
 refine (HCL.out _ HS.out.at_).mono ?_
 rintro e w1 ⟨x1, rfl, l1, j1, h1⟩
 have A1 := HS.out.below h1
 have B1 := HZZ.out.below h1
 obtain ⟨A2, B2⟩ := A1.over l1 B1 (by omega)
 have hfin := A2.fin B2
 clear c0 c1 c2 c3 c4 c5 f0 f1 f2 f3 f4 f5 hgl e0 e1 e2 e3 e4 e5
 obtain ⟨c0, c1, c2, c3, c4, c5⟩ := A1.cells
 obtain ⟨f0, f1, f2, f3, f4, f5⟩ := A1.free
 obtain ⟨⟨e0, e1, e2, e3, e4, e5⟩, -⟩ := cells6 (HEE.out.below h1).blk
 have hgl := A1.lt
 obtain ⟨d0, d1, d2, d3, d4, d5⟩ := A2.cells
 obtain ⟨z0, z1, z2, z3, z4, z5⟩ := B2.cells
 obtain ⟨y0, y1, y2, y3, y4, y5⟩ := B2.free
 have hzl := B2.lt
 have HL := Lib.hid hfin.1
 have HFN := Lib.hid (And.intro hfin.2.1 (And.intro j1 hfin.2.2))
 obtain ⟨now1, hor1, oa1, op1, oc1, ua1, us1, uc1, sa1, su1, sc1, ta1, tb1, tc1⟩ := x1
 unfold setS saV saC at *
 unfold saO at z0 z1 z2 z3 z4 z5
 dsimp only at *
 clear HS HZZ HEE A1 B1 A2 B2 hfin l1 h1 HCL j1
 go_wp2
 refine bodyPost_ret (v := .tuple #[saV ⟨now1, hor1, oa1, op1, oc1, ua1, us1, uc1, sa1, su1, sc1, ta1, tb1, tc1⟩, .int .i64 (findC op n u)]) ?_ rfl ?_
 ·rw [results_cellT rfl]
  unfold saV saC
  simp [asAddr, Result.andThen, HL.out]
 ·obtain ⟨g1, g2, g3⟩ := HFN.out
  exact ⟨_, rfl, g1, fun he => by rw [g2]; rfl, g3⟩
set_option maxHeartbeats 8000000 in
theorem behind7 (x : SaL) (a n st : Int) (u o : ByteArray) (w : World) (h : SaAt w x) (hf : Few x.m 400) (hk : RiseK UsM.u (umS x.us)) (ht : RiseK TbM.u x.tb) :
  Calls Tryz.prog 134 #[saV x, evV ⟨7, a, u, o, n, st⟩] w (Told w x (errK x.m 7 a n st u o) { goS x.m 7 a n st u o with now := x.now }) := by
 obtain ⟨HK, HE, HZ⟩ := three_SB h ⟨7, a, u, o, n, st⟩ 39 64 39
 obtain ⟨now, hor, oa, op, oc, ua, us, uc, sa, su, sc, ta, tb, tc⟩ := x
 have HCL := Lib.hid (fun V (h : SaAt V ⟨now, hor, oa, op, oc, ua, us, uc, sa, su, sc, ta, tb, tc⟩) => erased_any ⟨now, hor, oa, op, oc, ua, us, uc, sa, su, sc, ta, tb, tc⟩ u a V h ⟨Nat.le_trans hf.op (by decide), Nat.le_trans hf.us (by decide), Nat.le_trans hf.su (by decide), Nat.le_trans hf.tb (by decide), fun y hy => Nat.le_trans (hf.st y hy) (by decide)⟩ hk ht)
 have HGE := Lib.hid (HZ.ge)
 have HS := Lib.hid HK
 have HZZ := Lib.hid HZ
 have HEE := Lib.hid HE
 obtain ⟨c0, c1, c2, c3, c4, c5⟩ := HK.cells
 obtain ⟨f0, f1, f2, f3, f4, f5⟩ := HK.free
 obtain ⟨⟨e0, e1, e2, e3, e4, e5⟩, -⟩ := cells6 HE.blk
 have hgl := HK.lt
 unfold saV evV saC at *
 dsimp only at *
 clear h hf HK HZ HE
 go_enter Tryz.func134, Tryz.ntmps134
 go_wp2_with fail
 refine (HCL.out _ HS.out.at_).mono ?_
 rintro e w1 ⟨x1, rfl, l1, j1, h1⟩
 have A1 := HS.out.below h1
 have B1 := HZZ.out.below h1
 obtain ⟨A2, B2⟩ := A1.over l1 B1 (by omega)
 have hfin := A2.fin B2
 clear c0 c1 c2 c3 c4 c5 f0 f1 f2 f3 f4 f5 hgl e0 e1 e2 e3 e4 e5
 obtain ⟨c0, c1, c2, c3, c4, c5⟩ := A1.cells
 obtain ⟨f0, f1, f2, f3, f4, f5⟩ := A1.free
 obtain ⟨⟨e0, e1, e2, e3, e4, e5⟩, -⟩ := cells6 (HEE.out.below h1).blk
 have hgl := A1.lt
 obtain ⟨d0, d1, d2, d3, d4, d5⟩ := A2.cells
 obtain ⟨z0, z1, z2, z3, z4, z5⟩ := B2.cells
 obtain ⟨y0, y1, y2, y3, y4, y5⟩ := B2.free
 have hzl := B2.lt
 have HL := Lib.hid hfin.1
 have HFN := Lib.hid (And.intro hfin.2.1 (And.intro j1 hfin.2.2))
 obtain ⟨now1, hor1, oa1, op1, oc1, ua1, us1, uc1, sa1, su1, sc1, ta1, tb1, tc1⟩ := x1
 unfold setS saV saC at *
 unfold saO at z0 z1 z2 z3 z4 z5
 dsimp only at *
 clear HS HZZ HEE A1 B1 A2 B2 hfin l1 h1 HCL j1
 go_wp2
 refine bodyPost_ret (v := .tuple #[saV ⟨now1, hor1, oa1, op1, oc1, ua1, us1, uc1, sa1, su1, sc1, ta1, tb1, tc1⟩, .int .i64 (0)]) ?_ rfl ?_
 ·rw [results_cellT rfl]
  unfold saV saC
  simp [asAddr, Result.andThen, HL.out]
 ·obtain ⟨g1, g2, g3⟩ := HFN.out
  exact ⟨_, rfl, g1, fun he => by rw [g2]; rfl, g3⟩
def IntB (W : World) (g : Nat) (t : TypeId) (a b c d : Int) : Prop := W.heap[g]? = some (.cells #[.int .i64 a, .int .i64 b, .int .i64 c, .int .i64 d] t (0, 0))
theorem four_string {W : World} {g : Nat} {t : TypeId} {a b c d : Int} (h : IntB W g t a b c d) {j : Nat} {s : ByteArray} : ¬ W.cell? ⟨g, j, none⟩ = some (.string s) := fun e => by
 rw [cell_of_row _ _ _ _ _ (0, 0) h] at e
 match j with
 | 0 => cases e
 | 1 => cases e
 | 2 => cases e
 | 3 => cases e
 | j + 4 => simp at e
theorem OpSl.setI {W : World} {g : Nat} {t : TypeId} {a b c d : Int} (h : IntB W g t a b c d) {r : Option Addr} {l : List OpM} (ho : OpSl W r l) (i : Nat) (v : Value) : OpSl (W.setCell ⟨g, i, none⟩ v) r l := fun k hk => by
 obtain ⟨b, off, e, hlt, h0, h1, h2, h3⟩ := ho k hk
 have hne : b ≠ g := fun e => by subst e; exact four_string h h1
 exact ⟨b, off, e, by rw [size_set]; exact hlt, (cell_far (p := ⟨b, off + k * 4, none⟩) hne).trans h0, (cell_far (p := ⟨b, off + k * 4 + 1, none⟩) hne).trans h1, (cell_far (p := ⟨b, off + k * 4 + 2, none⟩) hne).trans h2, (cell_far (p := ⟨b, off + k * 4 + 3, none⟩) hne).trans h3⟩
theorem EnSl.setT {T W : World} {g : Nat} (hg : T.heap.size ≤ g) {a : Option Addr} {l : List EnM} (hT : EnSl T a l) (ho : EnSl W a l) (i : Nat) (v : Value) : EnSl (W.setCell ⟨g, i, none⟩ v) a l := fun k hk => by
 obtain ⟨b, off, e, hlt, h0, h1, h2, h3⟩ := ho k hk
 obtain ⟨b', off', e', hlt', -⟩ := hT k hk
 rw [e] at e'; cases e'
 have hne : b ≠ g := by omega
 exact ⟨b, off, e, by rw [size_set]; exact hlt, (cell_far (p := ⟨b, off + k * 4, none⟩) hne).trans h0, (cell_far (p := ⟨b, off + k * 4 + 1, none⟩) hne).trans h1, (cell_far (p := ⟨b, off + k * 4 + 2, none⟩) hne).trans h2, (cell_far (p := ⟨b, off + k * 4 + 3, none⟩) hne).trans h3⟩
theorem StSl.setT {T W : World} {g : Nat} (hg : T.heap.size ≤ g) {a : Option Addr} {l : List StM} (hT : StSl T a l) (ho : StSl W a l) (i : Nat) (v : Value) : StSl (W.setCell ⟨g, i, none⟩ v) a l := fun k hk => by
 obtain ⟨b, off, e, hlt, h0, h1, h2, h3⟩ := ho k hk
 obtain ⟨b', off', e', hlt', -⟩ := hT k hk
 rw [e] at e'; cases e'
 have hne : b ≠ g := by omega
 exact ⟨b, off, e, by rw [size_set]; exact hlt, (cell_far (p := ⟨b, off + k * 4, none⟩) hne).trans h0, (cell_far (p := ⟨b, off + k * 4 + 1, none⟩) hne).trans h1, (cell_far (p := ⟨b, off + k * 4 + 2, none⟩) hne).trans h2, (cell_far (p := ⟨b, off + k * 4 + 3, none⟩) hne).trans h3⟩
theorem PpSl.setT {T W : World} {g : Nat} (hg : T.heap.size ≤ g) {a : Option Addr} {l : List (Value × Value)} (hT : PpSl T a l) (ho : PpSl W a l) (i : Nat) (v : Value) : PpSl (W.setCell ⟨g, i, none⟩ v) a l := fun k hk => by
 obtain ⟨b, off, e, hlt, h0, h1⟩ := ho k hk
 obtain ⟨b', off', e', hlt', -⟩ := hT k hk
 rw [e] at e'; cases e'
 have hne : b ≠ g := by omega
 exact ⟨b, off, e, by rw [size_set]; exact hlt, (cell_far (p := ⟨b, off + k * 2, none⟩) hne).trans h0, (cell_far (p := ⟨b, off + k * 2 + 1, none⟩) hne).trans h1⟩
theorem UsSl.setT {T W : World} {g : Nat} (hg : T.heap.size ≤ g) {a : Option Addr} {D : List UsL} (hT : UsSl T a D) (ho : UsSl W a D) (i : Nat) (v : Value) : UsSl (W.setCell ⟨g, i, none⟩ v) a D :=
 ⟨hT.row.setT hg ho.row i v, fun y hy => ⟨(hT.at_ y hy).st.setT hg (ho.at_ y hy).st i v, (ho.at_ y hy).le, (ho.at_ y hy).mx, (ho.at_ y hy).nil⟩⟩
structure SaT (T : World) (x : SaL) : Prop where
 us : UsSl T x.ua x.us
 su : EnSl T x.sa x.su
 tb : TbSl T x.ta x.tb
def setSt (W : World) (g : Nat) (s : StM) : World := (((W.setCell ⟨g, 0, none⟩ (.int .i64 s.f)).setCell ⟨g, 1, none⟩ (.int .i64 s.t)).setCell ⟨g, 2, none⟩ (.int .i64 s.n)).setCell ⟨g, 3, none⟩ (.int .i64 s.s)
theorem SB.setI {w T W : World} {r g : Nat} {t t' : TypeId} {x : SaL} {a b c d : Int} (hI : IntB W g t' a b c d) (h : SB w r t x W) (hT : SaT T x) (hg : T.heap.size ≤ g) (hw : w.heap.size ≤ g) (hne : r ≠ g) (i : Nat) (v : Value) : SB w r t x (W.setCell ⟨g, i, none⟩ v) :=
 ⟨(block_far hne).trans h.blk, h.ge, h.frame.setCell (p := ⟨g, i, none⟩) hw _, ⟨h.at_.op.setI hI i v, hT.us.setT hg h.at_.us i v, hT.su.setT hg h.at_.su i v, PpSl.setT hg hT.tb h.at_.tb i v, h.at_.oc, h.at_.uc, h.at_.sc, h.at_.tc⟩⟩
theorem SB.setSt {w T W : World} {r g : Nat} {t t' : TypeId} {x : SaL} {a b c d : Int} (hI : IntB W g t' a b c d) (h : SB w r t x W) (hT : SaT T x) (hg : T.heap.size ≤ g) (hw : w.heap.size ≤ g) (hne : r ≠ g) (s : StM) : SB w r t x (setSt W g s) ∧ IntB (YtapacckmgmdnoaaGreat.setSt W g s) g t' s.f s.t s.n s.s := by
 have i0 : IntB _ g t' s.f b c d := heap_setCell_at hI 0 (.int .i64 s.f)
 have i1 : IntB _ g t' s.f s.t c d := heap_setCell_at i0 1 (.int .i64 s.t)
 have i2 : IntB _ g t' s.f s.t s.n d := heap_setCell_at i1 2 (.int .i64 s.n)
 have i3 : IntB _ g t' s.f s.t s.n s.s := heap_setCell_at i2 3 (.int .i64 s.s)
 exact ⟨((((h.setI hI hT hg hw hne 0 _).setI i0 hT hg hw hne 1 _).setI i1 hT hg hw hne 2 _).setI i2 hT hg hw hne 3 _), i3⟩
theorem SaT.zero (T : World) : SaT T saO := ⟨UsSl.nil _ _, EnSl.nil _ _, TbSl.nil _ _⟩
set_option maxHeartbeats 8000000 in
theorem behind2 (x : SaL) (a n st : Int) (u o : ByteArray) (w : World) (h : SaAt w x) (hf : Few x.m 400) (hk : RiseK UsM.u (umS x.us)) (ht : RiseK TbM.u x.tb) :
  Calls Tryz.prog 134 #[saV x, evV ⟨2, a, u, o, n, st⟩] w (Told w x (errK x.m 2 a n st u o) { goS x.m 2 a n st u o with now := x.now }) := by
 obtain ⟨HK, HE, HZ⟩ := three_SB h ⟨2, a, u, o, n, st⟩ 39 64 39
 obtain ⟨now, hor, oa, op, oc, ua, us, uc, sa, su, sc, ta, tb, tc⟩ := x
 have hun : us.length ≤ 400 := by have := hf.us; unfold SaL.m at this; simp only at this; rwa [umS_len] at this
 have HCL := Lib.hid (fun V (h : OpSl V oa op) => o_change oa oc op n u st a V h (Nat.le_trans hf.op (by decide)) HK.at_.oc.le HK.at_.oc.mx)
 have HWS := Lib.hid (fun V (h : UsSl V ua us) => withStay_any ua uc us u (fndS op n u a) V h HK.at_.uc hk (by omega) (fun y hy => by have := umS_st hf.st y hy; omega))
 unfold stV at HWS
 generalize hst : fndS op n u a = s at HCL HWS
 have HT := Lib.hid HK.at_
 have hwg := HK.ge
 have HS := Lib.hid HK
 have HZZ := Lib.hid HZ
 have HEE := Lib.hid HE
 obtain ⟨c0, c1, c2, c3, c4, c5⟩ := HK.cells
 obtain ⟨f0, f1, f2, f3, f4, f5⟩ := HK.free
 obtain ⟨⟨e0, e1, e2, e3, e4, e5⟩, -⟩ := cells6 HE.blk
 have hgl := HK.lt
 unfold saV evV saC at *
 dsimp only at *
 clear h hf HK HZ HE
 go_enter Tryz.func134, Tryz.ntmps134
 go_wp2_with fail
 have hbs := below_one (((w.alloc (.cells #[.int .i64 now, .int .i64 hor, .slice oa op.length oc, .slice ua us.length uc, .slice sa su.length sc, .slice ta tb.length tc] 39)).alloc (.cells #[.int .i64 2, .int .i64 a, .string u, .string o, .int .i64 n, .int .i64 st] 64)).alloc (.cells (saC saO) 39)) (.cells #[.int .i64 0, .int .i64 0, .int .i64 0, .int .i64 0] 111)
 have ST := heap_alloc_new (((w.alloc (.cells #[.int .i64 now, .int .i64 hor, .slice oa op.length oc, .slice ua us.length uc, .slice sa su.length sc, .slice ta tb.length tc] 39)).alloc (.cells #[.int .i64 2, .int .i64 a, .string u, .string o, .int .i64 n, .int .i64 st] 64)).alloc (.cells (saC saO) 39)) (.cells #[.int .i64 0, .int .i64 0, .int .i64 0, .int .i64 0] 111)
 have HTS : ((((w.alloc (.cells #[.int .i64 now, .int .i64 hor, .slice oa op.length oc, .slice ua us.length uc, .slice sa su.length sc, .slice ta tb.length tc] 39)).alloc (.cells #[.int .i64 2, .int .i64 a, .string u, .string o, .int .i64 n, .int .i64 st] 64)).alloc (.cells (saC saO) 39))).heap.size = w.heap.size + 3 := by rw [size1, size1, size1]
 unfold saC at hbs ST HTS
 try dsimp only at hbs ST HTS
 rw [HTS] at ST
 have A0 := HS.out.below hbs
 have B0 := HZZ.out.below hbs
 have E0 := HEE.out.below hbs
 refine (HCL.out _ A0.at_.op).mono ?_
 rintro e w1 ⟨x1, q1, rfl, i1, j1, k1, l1, h1⟩
 have A1 := A0.below h1
 have B1 := B0.below h1
 have I1 : IntB w1 (w.heap.size + 3) 111 0 0 0 0 := (h1.block _ (heap_lt ST)).trans ST
 have A2 := A1.setOp rfl l1 ⟨i1, j1, k1⟩
 have B2 := B1.far A1 (by omega) 2 (.slice x1 (chgR op n u st a).length q1)
 have I2 : IntB (w1.setCell ⟨w.heap.size, 2, none⟩ (.slice x1 (chgR op n u st a).length q1)) (w.heap.size + 3) 111 0 0 0 0 := (block_far (by omega)).trans I1
 have E2 := (E0.below h1).far (i := 2) (v := .slice x1 (chgR op n u st a).length q1) (show w.heap.size + 1 ≠ w.heap.size by omega)
 obtain ⟨A3, I3⟩ := A2.setSt I2 (T := _) ⟨HT.out.us, HT.out.su, HT.out.tb⟩ (Nat.le_of_eq HTS) (by omega) (by omega) s
 obtain ⟨B3, -⟩ := B2.setSt I2 (SaT.zero _) (Nat.le_of_eq HTS) (by omega) (by omega) s
 have E3 := (((E2.far (i := 0) (v := .int .i64 s.f) (show w.heap.size + 1 ≠ w.heap.size + 3 by omega)).far (i := 1) (v := .int .i64 s.t) (show w.heap.size + 1 ≠ w.heap.size + 3 by omega)).far (i := 2) (v := .int .i64 s.n) (show w.heap.size + 1 ≠ w.heap.size + 3 by omega)).far (i := 3) (v := .int .i64 s.s) (show w.heap.size + 1 ≠ w.heap.size + 3 by omega)
 clear c0 c1 c2 c3 c4 c5 f0 f1 f2 f3 f4 f5 hgl e0 e1 e2 e3 e4 e5
 obtain ⟨f0, f1, f2, f3, f4, f5⟩ := A1.free
 have hgl := A1.lt
 have hg3 := heap_lt I1
 have n0 := frozen_of_row _ _ 0 _ _ I1
 have n1 := frozen_of_row _ _ 1 _ _ I1
 have n2 := frozen_of_row _ _ 2 _ _ I1
 have n3 := frozen_of_row _ _ 3 _ _ I1
 obtain ⟨s0, s1, s2, s3⟩ := cells4 I3
 obtain ⟨p0, p1, p2, p3⟩ := cells4 I1
 obtain ⟨b0, b1, b2, b3, b4, b5⟩ := A1.cells
 obtain ⟨c0, c1, c2, c3, c4, c5⟩ := A3.cells
 obtain ⟨⟨e0, e1, e2, e3, e4, e5⟩, -⟩ := cells6 E3.blk
 have HS3 := Lib.hid A3
 have HZ3 := Lib.hid B3
 have HE3 := Lib.hid E3
 unfold setSt at A3 I3 B3 c0 c1 c2 c3 c4 c5 s0 s1 s2 s3 HS3 HZ3
 dsimp only at c0 c1 c2 c3 c4 c5 e0 e1 e2 e3 e4 e5 b0 b1 b2 b3 b4 b5
 clear HS HZZ HEE A0 B0 E0 A1 B1 A2 B2 A3 B3 E2 E3 I1 I2 I3 ST hbs HTS l1 k1 h1 HCL i1 j1 HT
 go_wp2_with fail
 refine (HWS.out _ HS3.out.at_.us).mono ?_
 rintro e w2 ⟨x2, q2, L, rfl, z2, p2, m2, h2⟩
 have A4 := HS3.out.below h2
 have B4 := HZ3.out.below h2
 have A5 := A4.setUs rfl z2 p2
 have B5 := B4.far A4 (by omega) 3 (.slice x2 L.length q2)
 have hfin := A5.fin B5
 clear s0 s1 s2 s3 c0 c1 c2 c3 c4 c5 f0 f1 f2 f3 f4 f5 hgl e0 e1 e2 e3 e4 e5
 obtain ⟨c0, c1, c2, c3, c4, c5⟩ := A4.cells
 obtain ⟨f0, f1, f2, f3, f4, f5⟩ := A4.free
 obtain ⟨⟨e0, e1, e2, e3, e4, e5⟩, -⟩ := cells6 (HE3.out.below h2).blk
 have hgl := A4.lt
 obtain ⟨d0, d1, d2, d3, d4, d5⟩ := A5.cells
 obtain ⟨t0, t1, t2, t3, t4, t5⟩ := B5.cells
 obtain ⟨y0, y1, y2, y3, y4, y5⟩ := B5.free
 have hzl := B5.lt
 have HL := Lib.hid hfin.1
 have HFN := Lib.hid (And.intro hfin.2.1 (And.intro m2 hfin.2.2))
 unfold setS saV saC at HL
 unfold saO at t0 t1 t2 t3 t4 t5
 dsimp only at *
 clear HS3 HZ3 HE3 A4 B4 A5 B5 hfin z2 p2 m2 h2 HWS
 go_wp2
 refine bodyPost_ret (v := .tuple #[saV ⟨now, hor, x1, chgR op n u st a, q1, x2, L, q2, sa, su, sc, ta, tb, tc⟩, .int .i64 (findC op n u)]) ?_ rfl ?_
 ·rw [results_cellT rfl]
  unfold saV saC
  simp [asAddr, Result.andThen, HL.out]
 ·obtain ⟨g1, g2, g3⟩ := HFN.out
  exact ⟨_, rfl, g1, fun he => by unfold SaL.m; simp only; rw [g2, ← hst]; rfl, g3⟩
theorem fin_new {w : World} {y : SaL} (h : SaAt w y) (o1 o2 : Obj) (t : TypeId) : (loadVar 39 ⟨w.heap.size + 2, 0, none⟩).run Tryz.prog (((w.alloc o1).alloc o2).alloc (.cells (saC y) t)) = .ok (saV y) (((w.alloc o1).alloc o2).alloc (.cells (saC y) t)) ∧ SaAt (((w.alloc o1).alloc o2).alloc (.cells (saC y) t)) y ∧ Below w.heap.size w (((w.alloc o1).alloc o2).alloc (.cells (saC y) t)) := by
 have h1 := below_one w o1
 have h2 := h1.trans ((below_one (w.alloc o1) o2).mono h1.size)
 have h3 := h2.trans ((below_one ((w.alloc o1).alloc o2) (.cells (saC y) t)).mono h2.size)
 have h4 := heap_alloc_new ((w.alloc o1).alloc o2) (.cells (saC y) t)
 rw [size1, size1] at h4
 exact ⟨loadS6 h4, h.below h3, h3⟩
set_option maxHeartbeats 8000000 in
theorem behind6 (x : SaL) (a n st : Int) (u o : ByteArray) (w : World) (h : SaAt w x) (hf : Few x.m 400) (hk : RiseK UsM.u (umS x.us)) (ht : RiseK TbM.u x.tb) :
  Calls Tryz.prog 134 #[saV x, evV ⟨6, a, u, o, n, st⟩] w (Told w x (errK x.m 6 a n st u o) { goS x.m 6 a n st u o with now := x.now }) := by
 obtain ⟨HK, HE, HZ⟩ := three_SB h ⟨6, a, u, o, n, st⟩ 39 64 39
 obtain ⟨now, hor, oa, op, oc, ua, us, uc, sa, su, sc, ta, tb, tc⟩ := x
 have HFN := Lib.hid (fun o1 o2 => fin_new (y := ⟨now, max hor n, oa, op, oc, ua, us, uc, sa, su, sc, ta, tb, tc⟩) ⟨h.op, h.us, h.su, h.tb, h.oc, h.uc, h.sc, h.tc⟩ o1 o2 39)
 have HS := Lib.hid HK
 have HZZ := Lib.hid HZ
 have HEE := Lib.hid HE
 obtain ⟨c0, c1, c2, c3, c4, c5⟩ := HK.cells
 obtain ⟨f0, f1, f2, f3, f4, f5⟩ := HK.free
 obtain ⟨⟨e0, e1, e2, e3, e4, e5⟩, -⟩ := cells6 HE.blk
 have hgl := HK.lt
 unfold saV evV saC at *
 dsimp only at *
 clear h hf HK HZ HE
 go_enter Tryz.func134, Tryz.ntmps134
 obtain ⟨z0, z1, z2, z3, z4, z5⟩ := HZZ.out.cells
 obtain ⟨y0, y1, y2, y3, y4, y5⟩ := HZZ.out.free
 have hzl := HZZ.out.lt
 unfold saO at z0 z1 z2 z3 z4 z5
 dsimp only at *
 clear HS HZZ HEE
 go_wp2
 refine bodyPost_ret (v := .tuple #[saV ⟨now, max hor n, oa, op, oc, ua, us, uc, sa, su, sc, ta, tb, tc⟩, .int .i64 0]) ?_ rfl ?_
 ·rw [results_cellT rfl]
  unfold saV saC
  simp [asAddr, Result.andThen, (HFN.out _ _).1]
 ·exact ⟨_, rfl, (HFN.out _ _).2.1, fun he => rfl, (HFN.out _ _).2.2⟩
end Go.Proofs.YtapacckmgmdnoaaGreat
