/- Texts of mine, one behind the other, of each what is wanted. -/
import Derived.Test.YtjhdhfokhkcamaaGreatQ00
import Derived.Test.YtjhdhfokhkcamaaGreatShelf
import Derived.Test.YtjhdhfokhkcamaaGreatRows
import Derived.Test.YtjhdhfokhkcamaaGreatQ01
import Derived.Test.YtjhdhfokhkcamaaGreatQ02
import Derived.Test.YtjhdhfokhkcamaaGreatQ03
import Derived.Test.YtjhdhfokhkcamaaGreatQ05
import Derived.Test.YtjhdhfokhkcamaaGreatQ09
import Derived.Test.YtjhdhfokhkcamaaGreatQ11
import Derived.Test.YtjhdhfokhkcamaaGreatQ13
import Derived.Test.YtjhdhfokhkcamaaGreatQ14
import Derived.Test.YtjhdhfokhkcamaaGreatQ19
import Derived.Test.YtjhdhfokhkcamaaGreatQ23
import Derived.Test.YtjhdhfokhkcamaaGreatQ27
import Derived.Test.YtjhdhfokhkcamaaGreatQ28
import Derived.Test.YtjhdhfokhkcamaaGreatQ32
import Derived.Test.YtjhdhfokhkcamaaGreatQ33
import Derived.Test.YtjhdhfokhkcamaaGreatQ34
import Derived.Test.YtjhdhfokhkcamaaGreatQ35
import Derived.Test.YtjhdhfokhkcamaaGreatQ36
namespace Go.Proofs.YtjhdhfokhkcamaaGreat
open Go.RowKit Go.Proofs
set_option linter.unusedVariables false
set_option maxRecDepth 100000
theorem two_states {w : World} {x y : SaL} (h : SaAt w x) (k : SaAt w y) (t t' : TypeId) : SB w w.heap.size t x ((w.alloc (.cells (saC x) t)).alloc (.cells (saC y) t')) ∧ SB w (w.heap.size + 1) t' y ((w.alloc (.cells (saC x) t)).alloc (.cells (saC y) t')) := by
 have S0 := SB.new (Below.refl w.heap.size w) h t
 have Z0 := SB.new (S0.frame) (k.below (below_one w (.cells (saC x) t))) t'
 rw [size1] at Z0
 exact ⟨S0.alloc _, Z0⟩
set_option maxHeartbeats 8000000 in
theorem same_any11 (x y : SaL) (w : World) (h : SaAt w x) (k : SaAt w y) (hf : Few x.m 900) (kf : Few y.m 900) :
  Calls Tryz.prog 26 #[saV x, saV y] w fun e w' => e = .returned (.bool (sameS x.m y.m)) ∧ Below w.heap.size w w' := by
 obtain ⟨HK, HZ⟩ := two_states h k 38 38
 have HS := Lib.hid HK
 have HT := Lib.hid HZ
 have hux : x.us.length ≤ 900 := by have := hf.us; unfold SaL.m at this; simp only at this; rwa [umS_len] at this
 have huy : y.us.length ≤ 900 := by have := kf.us; unfold SaL.m at this; simp only at this; rwa [umS_len] at this
 have hop := hf.op
 have kop := kf.op
 have hsu := hf.su
 have ksu := kf.su
 have htb := hf.tb
 have ktb := kf.tb
 have H1 := Lib.hid (fun V (p : OpSl V x.oa x.op) (q : OpSl V y.oa y.op) => osame_any x.oa y.oa x.oc y.oc x.op y.op V p q (Nat.le_trans hop (by unfold maxLen; decide)) (Nat.le_trans kop (by unfold maxLen; decide)))
 have H2 := Lib.hid (fun V (p : UsSl V x.ua x.us) (q : UsSl V y.ua y.us) => ueq_any x.ua y.ua x.uc y.uc x.us y.us V p q (by omega) (by omega) (fun z hz => Nat.le_trans (umS_st hf.st z hz) (by decide)) (fun z hz => Nat.le_trans (umS_st kf.st z hz) (by decide)))
 have H3 := Lib.hid (fun V (p : EnSl V x.sa x.su) (q : EnSl V y.sa y.su) => esame_any x.sa y.sa x.sc y.sc x.su y.su V p q (Nat.le_trans hsu (by unfold maxLen; decide)) (Nat.le_trans ksu (by unfold maxLen; decide)))
 have H4 := Lib.hid (fun V (p : TbSl V x.ta x.tb) (q : TbSl V y.ta y.tb) => teq_any x.ta y.ta x.tc y.tc x.tb y.tb V p q (Nat.le_trans htb (by unfold maxLen; decide)) (Nat.le_trans ktb (by unfold maxLen; decide)))
 have heq := fun V => eqNs x.now x.hor 0 0 y.now y.hor 0 0 V
 have hb0 : ((x.now == y.now) && ((x.hor == y.hor) && (((0 : Int) == 0) && ((0 : Int) == 0)))) = (decide (x.now = y.now) && decide (x.hor = y.hor)) := by
  rw [Bool.eq_iff_iff]
  simp
 rw [hb0] at heq
 have hsm : sameS x.m y.m = ((decide (x.now = y.now) && decide (x.hor = y.hor)) && decide (x.op = y.op) && decide (umS x.us = umS y.us) && decide (x.su = y.su) && decide (x.tb = y.tb)) := rfl
 rw [hsm]
 obtain ⟨c0, c1, c2, c3, c4, c5⟩ := HK.cells
 obtain ⟨d0, d1, d2, d3, d4, d5⟩ := HZ.cells
 generalize (decide (x.now = y.now) && decide (x.hor = y.hor)) = b0 at *
 generalize decide (x.op = y.op) = b1 at *
 generalize decide (umS x.us = umS y.us) = b2 at *
 generalize decide (x.su = y.su) = b3 at *
 generalize decide (x.tb = y.tb) = b4 at *
 obtain ⟨now, hor, oa, op, oc, ua, us, uc, sa, su, sc, ta, tb, tc⟩ := x
 obtain ⟨nowy, hory, oay, opy, ocy, uay, usy, ucy, say, suy, scy, tay, tby, tcy⟩ := y
 unfold saV saC at *
 dsimp only at *
 clear h k hf kf HK HZ hb0 hsm hop kop hsu ksu htb ktb hux huy
 cases b0
 ·go_enter Tryz.func26, Tryz.ntmps26
  have HF := Lib.hid HS.out.frame
  go_wp2
  go_ret
  exact ⟨retB (by simp), HF.out⟩
 ·
  cases b1
  ·go_enter Tryz.func26, Tryz.ntmps26
   go_wp2_with fail
   refine (H1.out _ HS.out.at_.op HT.out.at_.op).mono ?_
   rintro e w1 ⟨rfl, h1⟩
   have S1 := Lib.hid (HS.out.below h1)
   have T1 := Lib.hid (HT.out.below h1)
   clear c0 c1 c2 c3 c4 c5 d0 d1 d2 d3 d4 d5 HS HT h1 H1
   obtain ⟨c0, c1, c2, c3, c4, c5⟩ := S1.out.cells
   obtain ⟨d0, d1, d2, d3, d4, d5⟩ := T1.out.cells
   dsimp only at *
   have HF := Lib.hid S1.out.frame
   go_wp2
   go_ret
   exact ⟨retB (by simp), HF.out⟩
  ·
   cases b2
   ·go_enter Tryz.func26, Tryz.ntmps26
    go_wp2_with fail
    refine (H1.out _ HS.out.at_.op HT.out.at_.op).mono ?_
    rintro e w1 ⟨rfl, h1⟩
    have S1 := Lib.hid (HS.out.below h1)
    have T1 := Lib.hid (HT.out.below h1)
    clear c0 c1 c2 c3 c4 c5 d0 d1 d2 d3 d4 d5 HS HT h1 H1
    obtain ⟨c0, c1, c2, c3, c4, c5⟩ := S1.out.cells
    obtain ⟨d0, d1, d2, d3, d4, d5⟩ := T1.out.cells
    dsimp only at *
    go_wp2_with fail
    refine (H2.out _ S1.out.at_.us T1.out.at_.us).mono ?_
    rintro e w2 ⟨rfl, h2⟩
    have S2 := Lib.hid (S1.out.below h2)
    have T2 := Lib.hid (T1.out.below h2)
    clear c0 c1 c2 c3 c4 c5 d0 d1 d2 d3 d4 d5 S1 T1 h2 H2
    obtain ⟨c0, c1, c2, c3, c4, c5⟩ := S2.out.cells
    obtain ⟨d0, d1, d2, d3, d4, d5⟩ := T2.out.cells
    dsimp only at *
    have HF := Lib.hid S2.out.frame
    go_wp2
    go_ret
    exact ⟨retB (by simp), HF.out⟩
   ·
    cases b3
    ·go_enter Tryz.func26, Tryz.ntmps26
     go_wp2_with fail
     refine (H1.out _ HS.out.at_.op HT.out.at_.op).mono ?_
     rintro e w1 ⟨rfl, h1⟩
     have S1 := Lib.hid (HS.out.below h1)
     have T1 := Lib.hid (HT.out.below h1)
     clear c0 c1 c2 c3 c4 c5 d0 d1 d2 d3 d4 d5 HS HT h1 H1
     obtain ⟨c0, c1, c2, c3, c4, c5⟩ := S1.out.cells
     obtain ⟨d0, d1, d2, d3, d4, d5⟩ := T1.out.cells
     dsimp only at *
     go_wp2_with fail
     refine (H2.out _ S1.out.at_.us T1.out.at_.us).mono ?_
     rintro e w2 ⟨rfl, h2⟩
     have S2 := Lib.hid (S1.out.below h2)
     have T2 := Lib.hid (T1.out.below h2)
     clear c0 c1 c2 c3 c4 c5 d0 d1 d2 d3 d4 d5 S1 T1 h2 H2
     obtain ⟨c0, c1, c2, c3, c4, c5⟩ := S2.out.cells
     obtain ⟨d0, d1, d2, d3, d4, d5⟩ := T2.out.cells
     dsimp only at *
     go_wp2_with fail
     refine (H3.out _ S2.out.at_.su T2.out.at_.su).mono ?_
     rintro e w3 ⟨rfl, h3⟩
     have S3 := Lib.hid (S2.out.below h3)
     have T3 := Lib.hid (T2.out.below h3)
     clear c0 c1 c2 c3 c4 c5 d0 d1 d2 d3 d4 d5 S2 T2 h3 H3
     obtain ⟨c0, c1, c2, c3, c4, c5⟩ := S3.out.cells
     obtain ⟨d0, d1, d2, d3, d4, d5⟩ := T3.out.cells
     dsimp only at *
     have HF := Lib.hid S3.out.frame
     go_wp2
     go_ret
     exact ⟨retB (by simp), HF.out⟩
    ·
     go_enter Tryz.func26, Tryz.ntmps26
     go_wp2_with fail
     refine (H1.out _ HS.out.at_.op HT.out.at_.op).mono ?_
     rintro e w1 ⟨rfl, h1⟩
     have S1 := Lib.hid (HS.out.below h1)
     have T1 := Lib.hid (HT.out.below h1)
     clear c0 c1 c2 c3 c4 c5 d0 d1 d2 d3 d4 d5 HS HT h1 H1
     obtain ⟨c0, c1, c2, c3, c4, c5⟩ := S1.out.cells
     obtain ⟨d0, d1, d2, d3, d4, d5⟩ := T1.out.cells
     dsimp only at *
     go_wp2_with fail
     refine (H2.out _ S1.out.at_.us T1.out.at_.us).mono ?_
     rintro e w2 ⟨rfl, h2⟩
     have S2 := Lib.hid (S1.out.below h2)
     have T2 := Lib.hid (T1.out.below h2)
     clear c0 c1 c2 c3 c4 c5 d0 d1 d2 d3 d4 d5 S1 T1 h2 H2
     obtain ⟨c0, c1, c2, c3, c4, c5⟩ := S2.out.cells
     obtain ⟨d0, d1, d2, d3, d4, d5⟩ := T2.out.cells
     dsimp only at *
     go_wp2_with fail
     refine (H3.out _ S2.out.at_.su T2.out.at_.su).mono ?_
     rintro e w3 ⟨rfl, h3⟩
     have S3 := Lib.hid (S2.out.below h3)
     have T3 := Lib.hid (T2.out.below h3)
     clear c0 c1 c2 c3 c4 c5 d0 d1 d2 d3 d4 d5 S2 T2 h3 H3
     obtain ⟨c0, c1, c2, c3, c4, c5⟩ := S3.out.cells
     obtain ⟨d0, d1, d2, d3, d4, d5⟩ := T3.out.cells
     dsimp only at *
     go_wp2_with fail
     refine (H4.out _ S3.out.at_.tb T3.out.at_.tb).mono ?_
     rintro e w4 ⟨rfl, h4⟩
     have S4 := Lib.hid (S3.out.below h4)
     have T4 := Lib.hid (T3.out.below h4)
     clear c0 c1 c2 c3 c4 c5 d0 d1 d2 d3 d4 d5 S3 T3 h4 H4
     obtain ⟨c0, c1, c2, c3, c4, c5⟩ := S4.out.cells
     obtain ⟨d0, d1, d2, d3, d4, d5⟩ := T4.out.cells
     dsimp only at *
     have HF := Lib.hid S4.out.frame
     go_wp2
     go_ret
     exact ⟨retB (by simp), HF.out⟩
theorem o_ropen2 (a : Option Addr) (c : Nat) (l : List OpM) (e0 : OpM) (W : World) (h : OpSl W a l) (hc : Cp a l.length c) (hl : l.length ≤ 500) : Calls Tryz.prog 121 #[.slice a l.length c, .agg #[.int .i64 e0.n, .string e0.u, .int .i64 e0.s, .int .i64 e0.f]] W fun e w' => ∃ x q m er, e = .returned (.tuple #[.slice x m.length q, .int .i64 er]) ∧ er = openC l e0 ∧ (er = 0 → m = openR l e0) ∧ Cp x m.length q ∧ OpSl w' x m ∧ Below W.heap.size W w' := by
 refine (o_ropen a c l e0 W h hc.nil hl hc.le hc.mx).mono ?_
 rintro e w' ⟨x, q, rfl, i1, i2, i3, i4, hb⟩
 exact ⟨x, q, _, _, rfl, rfl, fun _ => rfl, ⟨i1, i2, i3⟩, i4, hb⟩
theorem e_rgrant2 (a : Option Addr) (c : Nat) (l : List EnM) (p u : ByteArray) (n : Int) (W : World) (h : EnSl W a l) (hsz : SzE l) (hp : p.size ≤ maxLen) (hu : u.size ≤ maxLen) (hc : Cp a l.length c) (hl : l.length ≤ 500) : Calls Tryz.prog 48 #[.slice a l.length c, .agg #[.string p, .string u], .int .i64 n] W fun e w' => ∃ x q m er, e = .returned (.tuple #[.slice x m.length q, .int .i64 er]) ∧ er = (if l.any (infE p u) = true then 90 else 0) ∧ (er = 0 → m = grantS l (mkE p u n)) ∧ Cp x m.length q ∧ EnSl w' x m ∧ Below W.heap.size W w' := by
 by_cases hi : l.any (infE p u) = true
 ·refine (e_rgrant_no a c l p u n W h hsz hp hu hc.nil hl hc.le hc.mx hi).mono ?_
  rintro e w' ⟨rfl, hb⟩
  exact ⟨none, 0, [], 90, rfl, (if_pos hi).symm, fun h => absurd h (by decide), Cp.none, EnSl.nil _ _, hb⟩
 ·refine (e_rgrant a c l p u n W h hsz hp hu hc.nil hl hc.le hc.mx (Bool.eq_false_iff.2 hi)).mono ?_
  rintro e w' ⟨x, q, rfl, i1, i2, i3, i4, hb⟩
  exact ⟨x, q, _, 0, rfl, (if_neg hi).symm, fun _ => rfl, ⟨i1, i2, i3⟩, i4, hb⟩
theorem e_rrevoke2 (a : Option Addr) (c : Nat) (l : List EnM) (p u : ByteArray) (n : Int) (W : World) (h : EnSl W a l) (hl : l.length ≤ 500) : Calls Tryz.prog 49 #[.slice a l.length c, .agg #[.string p, .string u], .int .i64 n] W fun e w' => ∃ x q m er, e = .returned (.tuple #[.slice x m.length q, .int .i64 er]) ∧ er = (if l.any (infE p u) = true then 0 else 91) ∧ (er = 0 → m = revokeS l p u n) ∧ Cp x m.length q ∧ EnSl w' x m ∧ Below W.heap.size W w' := by
 by_cases hi : l.any (infE p u) = true
 ·refine (e_rrevoke a c l p u n W h hl hi).mono ?_
  rintro e w' ⟨x, q, rfl, i1, i2, i3, i4, hb⟩
  exact ⟨x, q, _, 0, rfl, (if_pos hi).symm, fun _ => rfl, ⟨i1, i2, i3⟩, i4, hb⟩
 ·refine (e_rrevoke_no a c l p u n W h hl (Bool.eq_false_iff.2 hi)).mono ?_
  rintro e w' ⟨rfl, hb⟩
  exact ⟨none, 0, [], 91, rfl, (if_neg hi).symm, fun h => absurd h (by decide), Cp.none, EnSl.nil _ _, hb⟩
theorem OpSl.setSt {W : World} {g : Nat} {t : TypeId} {a b c d : Int} (hI : IntB W g t a b c d) {r : Option Addr} {l : List OpM} (ho : OpSl W r l) (s : StM) : OpSl (setSt W g s) r l := by
 have i0 : IntB _ g t s.f b c d := heap_setCell_at hI 0 (.int .i64 s.f)
 have i1 : IntB _ g t s.f s.t c d := heap_setCell_at i0 1 (.int .i64 s.t)
 have i2 : IntB _ g t s.f s.t s.n d := heap_setCell_at i1 2 (.int .i64 s.n)
 exact (((ho.setI hI 0 _).setI i0 1 _).setI i1 2 _).setI i2 3 _
set_option maxHeartbeats 8000000 in
theorem rsess1 (x : SaL) (a n st : Int) (u o : ByteArray) (w : World) (h : SaAt w x) (hf : Few x.m 400) (hk : RiseK UsM.u (umS x.us)) (hu : u.size ≤ maxLen) (hs : ∀ y ∈ x.us, y.u.size ≤ maxLen) :
  Calls Tryz.prog 47 #[saV x, evV ⟨1, a, u, o, n, st⟩] w (Told w x (errK x.m 1 a n st u o) { goS x.m 1 a n st u o with now := x.now }) := by
 obtain ⟨HK, HE, HZ⟩ := three_SB h ⟨1, a, u, o, n, st⟩ 27 29 27
 rw [show goS x.m 1 a n st u o = _ from rfl]
 obtain ⟨now, hor, oa, op, oc, ua, us, uc, sa, su, sc, ta, tb, tc⟩ := x
 have HCL := Lib.hid (fun V (h : OpSl V oa op) => o_ropen2 oa oc op ⟨n, u, st, a⟩ V h HK.at_.oc (Nat.le_trans hf.op (by decide)))
 have HS := Lib.hid HK
 have HZZ := Lib.hid HZ
 have HEE := Lib.hid HE
 obtain ⟨c0, c1, c2, c3, c4, c5⟩ := HK.cells
 obtain ⟨f0, f1, f2, f3, f4, f5⟩ := HK.free
 obtain ⟨⟨e0, e1, e2, e3, e4, e5⟩, -⟩ := cells6 HE.blk
 have hgl := HK.lt
 unfold saV evV saC at *
 dsimp only at *
 clear h hf HK HZ HE
 go_enter Tryz.func47, Tryz.ntmps47
 go_wp2_with fail
 refine (HCL.out _ HS.out.at_.op).mono ?_
 rintro e w1 ⟨x1, q1, m, er, rfl, i1, j1, k1, l1, h1⟩
 have A1 := HS.out.below h1
 have B1 := HZZ.out.below h1
 have A2 := A1.setOp rfl l1 k1
 have B2 := B1.far A1 (by omega) 2 (.slice x1 m.length q1)
 have hfin := A2.finR B2
 clear c0 c1 c2 c3 c4 c5 f0 f1 f2 f3 f4 f5 hgl e0 e1 e2 e3 e4 e5
 obtain ⟨c0, c1, c2, c3, c4, c5⟩ := A1.cells
 obtain ⟨f0, f1, f2, f3, f4, f5⟩ := A1.free
 obtain ⟨⟨e0, e1, e2, e3, e4, e5⟩, -⟩ := cells6 (HEE.out.below h1).blk
 have hgl := A1.lt
 obtain ⟨d0, d1, d2, d3, d4, d5⟩ := A2.cells
 obtain ⟨z0, z1, z2, z3, z4, z5⟩ := B2.cells
 obtain ⟨y0, y1, y2, y3, y4, y5⟩ := B2.free
 have hzl := B2.lt
 have HL := Lib.hid hfin.1
 have HFN := Lib.hid (And.intro hfin.2.1 (And.intro i1 (And.intro j1 hfin.2.2)))
 unfold setS saV saC at HL
 unfold saO at z0 z1 z2 z3 z4 z5
 dsimp only at *
 clear HS HZZ HEE A1 B1 A2 B2 hfin l1 k1 h1 HCL i1 j1
 go_wp2
 refine bodyPost_ret (v := .tuple #[saV ⟨now, hor, x1, m, q1, ua, us, uc, sa, su, sc, ta, tb, tc⟩, .int .i64 er]) ?_ rfl ?_
 ·rw [results_cellT rfl]
  unfold saV saC
  simp [asAddr, Result.andThen, HL.out]
 ·obtain ⟨g1, g2, g3, g4⟩ := HFN.out
  subst g2
  exact ⟨_, rfl, g1, fun he => by rw [g3 he]; rfl, g4⟩
set_option maxHeartbeats 8000000 in
theorem rsess3 (x : SaL) (a n st : Int) (u o : ByteArray) (w : World) (h : SaAt w x) (hf : Few x.m 400) (hk : RiseK UsM.u (umS x.us)) (hu : u.size ≤ maxLen) (hs : ∀ y ∈ x.us, y.u.size ≤ maxLen) :
  Calls Tryz.prog 47 #[saV x, evV ⟨3, a, u, o, n, st⟩] w (Told w x (errK x.m 3 a n st u o) { goS x.m 3 a n st u o with now := x.now }) := by
 obtain ⟨HK, HE, HZ⟩ := three_SB h ⟨3, a, u, o, n, st⟩ 27 29 27
 rw [show goS x.m 3 a n st u o = _ from rfl]
 obtain ⟨now, hor, oa, op, oc, ua, us, uc, sa, su, sc, ta, tb, tc⟩ := x
 have HCL := Lib.hid (fun V (h : OpSl V oa op) => o_rclose oa oc op n u a V h (Nat.le_trans hf.op (by decide)))
 have HAD := Lib.hid (fun x1 q1 V (h : SaAt V ⟨now, hor, x1, cloR op n u, q1, ua, us, uc, sa, su, sc, ta, tb, tc⟩) => radd_any ⟨now, hor, x1, cloR op n u, q1, ua, us, uc, sa, su, sc, ta, tb, tc⟩ u (fndS op n u a) V h ⟨Nat.le_trans (cloR_len _ _ _) (Nat.le_trans hf.op (by decide)), Nat.le_trans hf.us (by decide), Nat.le_trans hf.su (by decide), Nat.le_trans hf.tb (by decide), fun y hy => Nat.le_trans (hf.st y hy) (by decide)⟩ hk hu hs)
 unfold stV at HAD
 generalize hst : fndS op n u a = s at HCL HAD
 have HS := Lib.hid HK
 have HZZ := Lib.hid HZ
 have HEE := Lib.hid HE
 obtain ⟨c0, c1, c2, c3, c4, c5⟩ := HK.cells
 obtain ⟨f0, f1, f2, f3, f4, f5⟩ := HK.free
 obtain ⟨⟨e0, e1, e2, e3, e4, e5⟩, -⟩ := cells6 HE.blk
 have hgl := HK.lt
 unfold saV evV saC at *
 dsimp only at *
 clear h hf HK HZ HE
 go_enter Tryz.func47, Tryz.ntmps47
 go_wp2_with fail
 refine (HCL.out _ HS.out.at_.op).mono ?_
 rintro e w1 ⟨x1, q1, rfl, i1, j1, k1, l1, h1⟩
 have A1 := HS.out.below h1
 have B1 := HZZ.out.below h1
 have E1 := HEE.out.below h1
 have A2 := A1.setOp rfl l1 ⟨i1, j1, k1⟩
 have B2 := B1.far A1 (by omega) 2 (.slice x1 (cloR op n u).length q1)
 have E2 := E1.far (i := 2) (v := .slice x1 (cloR op n u).length q1) (show w.heap.size + 1 ≠ w.heap.size by omega)
 have hbs := below_one (w1.setCell ⟨w.heap.size, 2, none⟩ (.slice x1 (cloR op n u).length q1)) (.cells #[.int .i64 s.f, .int .i64 s.t, .int .i64 s.n, .int .i64 s.s] 135)
 have ST := heap_alloc_new (w1.setCell ⟨w.heap.size, 2, none⟩ (.slice x1 (cloR op n u).length q1)) (.cells #[.int .i64 s.f, .int .i64 s.t, .int .i64 s.n, .int .i64 s.s] 135)
 rw [size_set] at ST
 have A3 := A2.below hbs
 have B3 := B2.below hbs
 have E3 := E2.below hbs
 clear c0 c1 c2 c3 c4 c5 f0 f1 f2 f3 f4 f5 hgl e0 e1 e2 e3 e4 e5
 obtain ⟨f0, f1, f2, f3, f4, f5⟩ := A1.free
 have hgl := A1.lt
 obtain ⟨s0, s1, s2, s3⟩ := cells4 ST
 obtain ⟨b0, b1, b2, b3, b4, b5⟩ := A1.cells
 obtain ⟨c0, c1, c2, c3, c4, c5⟩ := A3.cells
 obtain ⟨⟨e0, e1, e2, e3, e4, e5⟩, -⟩ := cells6 E3.blk
 obtain ⟨⟨m0, m1, m2, m3, m4, m5⟩, -⟩ := cells6 (E1.below (below_one w1 (.cells #[.int .i64 s.f, .int .i64 s.t, .int .i64 s.n, .int .i64 s.s] 135))).blk
 have HS3 := Lib.hid A3
 have HZ3 := Lib.hid B3
 have HE3 := Lib.hid E3
 dsimp only at *
 clear HS HZZ HEE A1 B1 E1 A2 B2 E2 A3 B3 E3 ST hbs l1 h1 HCL i1 j1 k1
 go_wp2_with fail
 refine (HAD.out x1 q1 _ HS3.out.at_).mono ?_
 rintro e w2 ⟨y2, rfl, l2, m2, h2⟩
 clear m0 m1 m3 m4 m5 b0 b1 b2 b3 b4 b5 f0 f1 f2 f3 f4 f5
 clear e0 e1 e2 e3 e4 e5 c0 c1 c2 c3 c4 c5 s0 s1 s2 s3
 have B5 := HZ3.out.below h2
 have hfin := SB.finVR l2 B5
 obtain ⟨z0, z1, z2, z3, z4, z5⟩ := B5.cells
 obtain ⟨y0, y1, y2', y3, y4, y5⟩ := B5.free
 have hzl := B5.lt
 have HL := Lib.hid hfin.1
 have HFN := Lib.hid (And.intro hfin.2.1 (And.intro m2 hfin.2.2))
 obtain ⟨now1, hor1, oa1, op1, oc1, ua1, us1, uc1, sa1, su1, sc1, ta1, tb1, tc1⟩ := y2
 unfold setS saV saC at HL
 (try unfold saV at *)
 (try unfold saC at *)
 unfold saO at z0 z1 z2 z3 z4 z5
 dsimp only at *
 clear HS3 HZ3 HE3 B5 hfin l2 m2 h2 HAD
 go_wp2
 refine bodyPost_ret (v := .tuple #[saV ⟨now1, hor1, oa1, op1, oc1, ua1, us1, uc1, sa1, su1, sc1, ta1, tb1, tc1⟩, .int .i64 (findC op n u)]) ?_ rfl ?_
 ·rw [results_cellT rfl]
  unfold saV saC
  simp [asAddr, Result.andThen, HL.out]
 ·obtain ⟨g1, g2, g3⟩ := HFN.out
  exact ⟨_, rfl, g1, fun he => by rw [g2, ← hst]; rfl, g3⟩
set_option maxHeartbeats 8000000 in
theorem rsess2 (x : SaL) (a n st : Int) (u o : ByteArray) (w : World) (h : SaAt w x) (hf : Few x.m 400) (hk : RiseK UsM.u (umS x.us)) (hu : u.size ≤ maxLen) (hs : ∀ y ∈ x.us, y.u.size ≤ maxLen) :
  Calls Tryz.prog 47 #[saV x, evV ⟨2, a, u, o, n, st⟩] w (Told w x (errK x.m 2 a n st u o) { goS x.m 2 a n st u o with now := x.now }) := by
 obtain ⟨HK, HE, HZ⟩ := three_SB h ⟨2, a, u, o, n, st⟩ 27 29 27
 rw [show goS x.m 2 a n st u o = _ from rfl]
 obtain ⟨now, hor, oa, op, oc, ua, us, uc, sa, su, sc, ta, tb, tc⟩ := x
 have HCL := Lib.hid (fun V (h : OpSl V oa op) => o_rclose oa oc op n u a V h (Nat.le_trans hf.op (by decide)))
 have HCH := Lib.hid (fun V (h : OpSl V oa op) => o_rchange oa oc op n u st a V h (Nat.le_trans hf.op (by decide)) HK.at_.oc.le HK.at_.oc.mx)
 have HAD := Lib.hid (fun x1 q1 V (h : SaAt V ⟨now, hor, x1, chgR op n u st a, q1, ua, us, uc, sa, su, sc, ta, tb, tc⟩) => radd_any ⟨now, hor, x1, chgR op n u st a, q1, ua, us, uc, sa, su, sc, ta, tb, tc⟩ u (fndS op n u a) V h ⟨Nat.le_trans (chgR_len _ _ _ _ _) (Nat.le_trans hf.op (by decide)), Nat.le_trans hf.us (by decide), Nat.le_trans hf.su (by decide), Nat.le_trans hf.tb (by decide), fun y hy => Nat.le_trans (hf.st y hy) (by decide)⟩ hk hu hs)
 unfold stV at HAD
 generalize hst : fndS op n u a = s at HCL HAD HCH
 have HS := Lib.hid HK
 have HZZ := Lib.hid HZ
 have HEE := Lib.hid HE
 obtain ⟨c0, c1, c2, c3, c4, c5⟩ := HK.cells
 obtain ⟨f0, f1, f2, f3, f4, f5⟩ := HK.free
 obtain ⟨⟨e0, e1, e2, e3, e4, e5⟩, -⟩ := cells6 HE.blk
 have hgl := HK.lt
 unfold saV evV saC at *
 dsimp only at *
 clear h hf HK HZ HE
 go_enter Tryz.func47, Tryz.ntmps47
 go_wp2_with fail
 refine (HCL.out _ HS.out.at_.op).mono ?_
 rintro e w1 ⟨x0, q0, rfl, i0, j0, k0, l0, h1⟩
 have hbs := below_one w1 (.cells #[.int .i64 s.f, .int .i64 s.t, .int .i64 s.n, .int .i64 s.s] 135)
 have ST := heap_alloc_new w1 (.cells #[.int .i64 s.f, .int .i64 s.t, .int .i64 s.n, .int .i64 s.s] 135)
 have A0 := (HS.out.below h1).below hbs
 have B0 := (HZZ.out.below h1).below hbs
 have E0 := (HEE.out.below h1).below hbs
 have HTS := size1 w1 (.cells #[.int .i64 s.f, .int .i64 s.t, .int .i64 s.n, .int .i64 s.s] 135)
 have HT := Lib.hid (HS.out.below h1).at_
 clear c0 c1 c2 c3 c4 c5 f0 f1 f2 f3 f4 f5 hgl e0 e1 e2 e3 e4 e5
 obtain ⟨c0, c1, c2, c3, c4, c5⟩ := A0.cells
 obtain ⟨⟨e0, e1, e2, e3, e4, e5⟩, -⟩ := cells6 E0.blk
 have HS1 := Lib.hid A0
 have HZ1 := Lib.hid B0
 have HE1 := Lib.hid E0
 have HST := Lib.hid ST
 have HB1 := Lib.hid hbs
 have HLT : Hid (w.heap.size + 2 < w1.heap.size) := (HZZ.out.below h1).lt
 have HWL : Hid (w.heap.size ≤ w1.heap.size) := by have := (HZZ.out.below h1).lt; unfold Hid; omega
 dsimp only at *
 clear HS HZZ HEE A0 B0 E0 ST hbs HTS h1 HCL i0 j0 k0 l0
 go_wp2_with fail
 refine (HCH.out _ HS1.out.at_.op).mono ?_
 rintro e w2 ⟨x1, q1, rfl, i1, j1, k1, l1, h1⟩
 have hlt := HLT.out
 have hwl := HWL.out
 have A1 := HS1.out.below h1
 have B1 := HZ1.out.below h1
 have E1 := HE1.out.below h1
 have I1 : IntB w2 w1.heap.size 135 s.f s.t s.n s.s := (h1.block _ (heap_lt HST.out)).trans HST.out
 obtain ⟨A2, I2⟩ := A1.setSt I1 (T := w1) ⟨HT.out.us, HT.out.su, HT.out.tb⟩ (Nat.le_refl _) hwl (by omega) s
 obtain ⟨B2, -⟩ := B1.setSt I1 (SaT.zero w1) (Nat.le_refl _) hwl (by omega) s
 have E2 := (((E1.far (i := 0) (v := .int .i64 s.f) (show w.heap.size + 1 ≠ w1.heap.size by omega)).far (i := 1) (v := .int .i64 s.t) (show w.heap.size + 1 ≠ w1.heap.size by omega)).far (i := 2) (v := .int .i64 s.n) (show w.heap.size + 1 ≠ w1.heap.size by omega)).far (i := 3) (v := .int .i64 s.s) (show w.heap.size + 1 ≠ w1.heap.size by omega)
 have L2 := l1.setSt I1 s
 have A3 := A2.setOp rfl L2 ⟨i1, j1, k1⟩
 have B3 := B2.far A2 (by omega) 2 (.slice x1 (chgR op n u st a).length q1)
 have E3 := E2.far (i := 2) (v := .slice x1 (chgR op n u st a).length q1) (show w.heap.size + 1 ≠ w.heap.size by omega)
 have I3 : IntB _ w1.heap.size 135 s.f s.t s.n s.s := (block_far (g := w.heap.size) (i := 2) (v := .slice x1 (chgR op n u st a).length q1) (by omega)).trans I2
 clear c0 c1 c2 c3 c4 c5 e0 e1 e2 e3 e4 e5
 obtain ⟨f0, f1, f2, f3, f4, f5⟩ := A2.free
 have hgl := A1.lt
 have hg3 := heap_lt I1
 have n0 := frozen_of_row _ _ 0 _ _ I1
 have n1 := frozen_of_row _ _ 1 _ _ I1
 have n2 := frozen_of_row _ _ 2 _ _ I1
 have n3 := frozen_of_row _ _ 3 _ _ I1
 obtain ⟨p0, p1, p2, p3⟩ := cells4 I1
 obtain ⟨b0, b1, b2, b3, b4, b5⟩ := A2.cells
 obtain ⟨c0, c1, c2, c3, c4, c5⟩ := A3.cells
 obtain ⟨⟨e0, e1, e2, e3, e4, e5⟩, -⟩ := cells6 E3.blk
 obtain ⟨s0, s1, s2, s3⟩ := cells4 I3
 have HS3 := Lib.hid A3
 have HZ3 := Lib.hid B3
 have HE3 := Lib.hid E3
 unfold setSt at c0 c1 c2 c3 c4 c5 s0 s1 s2 s3 b0 b1 b2 b3 b4 b5 f0 f1 f2 f3 f4 f5 HS3 HZ3
 dsimp only at *
 clear HS1 HZ1 HE1 A1 B1 E1 A2 B2 E2 A3 B3 E3 L2 I1 I2 I3 HST HB1 l1 h1 HCH i1 j1 k1 HT HLT HWL
 go_wp2_with fail
 refine (HAD.out x1 q1 _ HS3.out.at_).mono ?_
 rintro e w3 ⟨y2, rfl, l2, m2, h2⟩
 clear p0 p1 p2 p3 b0 b1 b2 b3 b4 b5 f0 f1 f2 f3 f4 f5 n0 n1 n2 n3
 clear e0 e1 e2 e3 e4 e5 c0 c1 c2 c3 c4 c5 s0 s1 s2 s3
 have B5 := HZ3.out.below h2
 have hfin := SB.finVR l2 B5
 obtain ⟨z0, z1, z2, z3, z4, z5⟩ := B5.cells
 obtain ⟨y0, y1, y2', y3, y4, y5⟩ := B5.free
 have hzl := B5.lt
 have HL := Lib.hid hfin.1
 have HFN := Lib.hid (And.intro hfin.2.1 (And.intro m2 hfin.2.2))
 obtain ⟨now1, hor1, oa1, op1, oc1, ua1, us1, uc1, sa1, su1, sc1, ta1, tb1, tc1⟩ := y2
 unfold setS saV saC at HL
 (try unfold saV at *)
 (try unfold saC at *)
 unfold saO at z0 z1 z2 z3 z4 z5
 dsimp only at *
 clear HS3 HZ3 HE3 B5 hfin l2 m2 h2 HAD
 go_wp2
 refine bodyPost_ret (v := .tuple #[saV ⟨now1, hor1, oa1, op1, oc1, ua1, us1, uc1, sa1, su1, sc1, ta1, tb1, tc1⟩, .int .i64 (findC op n u)]) ?_ rfl ?_
 ·rw [results_cellT rfl]
  unfold saV saC
  simp [asAddr, Result.andThen, HL.out]
 ·obtain ⟨g1, g2, g3⟩ := HFN.out
  exact ⟨_, rfl, g1, fun he => by rw [g2, ← hst]; rfl, g3⟩
theorem SB.finZR {w T : World} {r : Nat} {t : TypeId} {z : SaL} (hZ : SB w r t z T) : (loadVar 27 ⟨r, 0, none⟩).run Tryz.prog ((((((T.setCell ⟨r, 0, none⟩ (.int .i64 0)).setCell ⟨r, 1, none⟩ (.int .i64 0)).setCell ⟨r, 2, none⟩ (.slice none 0 0)).setCell ⟨r, 3, none⟩ (.slice none 0 0)).setCell ⟨r, 4, none⟩ (.slice none 0 0)).setCell ⟨r, 5, none⟩ (.slice none 0 0)) = .ok (.agg #[.int .i64 0, .int .i64 0, .slice none 0 0, .slice none 0 0, .slice none 0 0, .slice none 0 0]) ((((((T.setCell ⟨r, 0, none⟩ (.int .i64 0)).setCell ⟨r, 1, none⟩ (.int .i64 0)).setCell ⟨r, 2, none⟩ (.slice none 0 0)).setCell ⟨r, 3, none⟩ (.slice none 0 0)).setCell ⟨r, 4, none⟩ (.slice none 0 0)).setCell ⟨r, 5, none⟩ (.slice none 0 0)) ∧ SaAt (setS T r saO) saO ∧ Below w.heap.size w (setS T r saO) := by
 have h := SB.finVR (SaAt.zero T) hZ
 have h1 := h.1
 unfold setS saV saC saO at h1
 simp only [List.length_nil] at h1
 exact ⟨h1, h.2⟩
theorem tellS_ok {s : SaM} {k a n st : Int} {u o : ByteArray} (hv : RightV k a n st u o) (hle : ¬ a < s.now) : errS s k a n st u o = errK s k a n st u o ∧ (errK s k a n st u o = 0 → tellS s k a n st u o = goS s k a n st u o) ∧ (errK s k a n st u o ≠ 0 → tellS s k a n st u o = saZ) := by
 have h1 : errS s k a n st u o = errK s k a n st u o := by unfold errS; rw [if_pos hv, if_neg hle]
 refine ⟨h1, fun h => ?_, fun h => ?_⟩
 ·unfold tellS; rw [h1, if_pos h]
 ·unfold tellS; rw [h1, if_neg h]
set_option maxHeartbeats 8000000 in
theorem rap1 (x : SaL) (a n st : Int) (u o : ByteArray) (w : World) (h : SaAt w x) (hf : Few x.m 400) (hk : RiseK UsM.u (umS x.us)) (ht : RiseK TbM.u x.tb) (hz : SzS x.m) (hu : u.size ≤ maxLen) (ho : o.size ≤ maxLen) (hv : RightV 1 a n st u o) (hle : ¬ a < x.now) :
  Calls Tryz.prog 17 #[saV x, evV ⟨1, a, u, o, n, st⟩] w (Tells w (tellS x.m 1 a n st u o) (errS x.m 1 a n st u o)) := by
 obtain ⟨HK, HE, HZ⟩ := three_SB h ⟨1, a, u, o, n, st⟩ 27 29 27
 have HR := Lib.hid (fun V => evrefRight_any ⟨1, a, u, o, n, st⟩ ⟨hu, ho⟩ V)
 rw [(rightE_iff 1 a n st u o).2 hv] at HR
 have hus : ∀ y ∈ x.us, y.u.size ≤ maxLen := fun y hy => hz.us y.m (List.mem_map_of_mem hy)
 obtain ⟨hes, htg, htz⟩ := tellS_ok hv (show ¬ a < x.m.now from hle)
 rw [hes]
 have HSE := Lib.hid (fun V (h : SaAt V x) => rsess1 x a n st u o V h hf hk hu hus)
 have hone := errK_one x.m 1 a n st u o
 have hnow := goS_now x.m 1 a n st u o
 generalize errK x.m 1 a n st u o = er at *
 generalize goS x.m 1 a n st u o = G at *
 generalize tellS x.m 1 a n st u o = R at *
 obtain ⟨now, hor, oa, op, oc, ua, us, uc, sa, su, sc, ta, tb, tc⟩ := x
 have HS := Lib.hid HK
 have HZZ := Lib.hid HZ
 have HEE := Lib.hid HE
 obtain ⟨c0, c1, c2, c3, c4, c5⟩ := HK.cells
 obtain ⟨⟨e0, e1, e2, e3, e4, e5⟩, -⟩ := cells6 HE.blk
 unfold saV evV saC at *
 dsimp only at *
 clear h hf HK HZ HE hv hus hk ht hz hu ho
 go_enter Tryz.func17, Tryz.ntmps17
 go_wp2_with fail
 refine (HR.out _).mono ?_
 rintro e w1 ⟨rfl, h1⟩
 have hbp := below_one w1 (.cells #[.string u, .string o] 96)
 have PB := pcell2 (heap_alloc_new w1 (.cells #[.string u, .string o] 96))
 have A0 := HS.out.below h1
 have E0 := HEE.out.below h1
 have A1 := A0.below hbp
 have B1 := (HZZ.out.below h1).below hbp
 have E1 := E0.below hbp
 clear c0 c1 c2 c3 c4 c5 e0 e1 e2 e3 e4 e5
 obtain ⟨b0, b1, b2, b3, b4, b5⟩ := A0.cells
 obtain ⟨⟨m0, m1, m2, m3, m4, m5⟩, -⟩ := cells6 E0.blk
 obtain ⟨c0, c1, c2, c3, c4, c5⟩ := A1.cells
 obtain ⟨⟨e0, e1, e2, e3, e4, e5⟩, -⟩ := cells6 E1.blk
 obtain ⟨p0, p1⟩ := PB
 have HS1 := Lib.hid A1
 have HZ1 := Lib.hid B1
 have HE1 := Lib.hid E1
 dsimp only at *
 clear HS HZZ HEE A0 E0 A1 B1 E1 hbp h1 HR
 go_wp2_with fail
 refine (HSE.out _ HS1.out.at_).mono ?_
 rintro e w2 ⟨y, rfl, l2, mm, h2⟩
 have A2 := HS1.out.below h2
 have B2 := HZ1.out.below h2
 have E2 := HE1.out.below h2
 obtain ⟨A3, B3⟩ := A2.over l2 B2 (by omega)
 have E3 := E2.set (y := y) (show w.heap.size + 1 ≠ w.heap.size by omega)
 clear b0 b1 b2 b3 b4 b5 m0 m1 m2 m3 m4 m5 c0 c1 c2 c3 c4 c5 e0 e1 e2 e3 e4 e5 p0 p1
 obtain ⟨c0, c1, c2, c3, c4, c5⟩ := A2.cells
 obtain ⟨f0, f1, f2, f3, f4, f5⟩ := A2.free
 have hg2 := A2.lt
 obtain ⟨now1, hor1, oa1, op1, oc1, ua1, us1, uc1, sa1, su1, sc1, ta1, tb1, tc1⟩ := y
 unfold saV saC at *
 dsimp only at *
 clear A2 B2 E2 HS1 HZ1 HE1 h2 HSE l2
 by_cases he : er = 0
 ·have hR := htg he
  have hy := mm he
  subst hR
  have hym : (⟨a, hor1, oa1, op1, oc1, ua1, us1, uc1, sa1, su1, sc1, ta1, tb1, tc1⟩ : SaL).m = R := by
   unfold SaL.m at hy ⊢
   obtain ⟨Gn, Gh, Go, Gu, Gs, Gt⟩ := R
   simp only at hy hnow ⊢
   injection hy with _ g1 g2 g3 g4 g5
   rw [hnow, g1, g2, g3, g4, g5]
  subst he
  clear htz htg hone hnow mm hy
  have A8 := A3.setNow a
  have B8 := B3.far A3 (by omega) 0 (.int .i64 a)
  have hfin := A8.finR B8
  obtain ⟨d0, d1, d2, d3, d4, d5⟩ := A8.cells
  obtain ⟨z0, z1, z2, z3, z4, z5⟩ := B8.cells
  obtain ⟨y0, y1, y2, y3, y4, y5⟩ := B8.free
  obtain ⟨g0, g1, g2, g3, g4, g5⟩ := A3.free
  obtain ⟨r0, r1, r2, r3, r4, r5⟩ := A3.cells
  obtain ⟨⟨e0, e1, e2, e3, e4, e5⟩, -⟩ := cells6 E3.blk
  have hzl := B8.lt
  have hgl := A3.lt
  have HL := Lib.hid hfin.1
  have HFN := Lib.hid (And.intro hfin.2.1 (And.intro hym hfin.2.2))
  unfold setS saV saC at HL
  (try unfold setS at *)
  unfold saO at z0 z1 z2 z3 z4 z5
  dsimp only at *
  clear A8 B8 hfin A3 B3 E3 hym
  go_wp2
  refine bodyPost_ret (v := .tuple #[saV ⟨a, hor1, oa1, op1, oc1, ua1, us1, uc1, sa1, su1, sc1, ta1, tb1, tc1⟩, .int .i64 0]) ?_ rfl ⟨_, rfl, HFN.out⟩
  rw [results_cellT rfl]
  unfold saV saC
  simp [asAddr, Result.andThen, HL.out]
 ·clear mm hnow
  have hfin := B3.finZR
  have hR := htz he
  subst hR
  obtain ⟨z0, z1, z2, z3, z4, z5⟩ := B3.cells
  obtain ⟨y0, y1, y2, y3, y4, y5⟩ := B3.free
  have hzl := B3.lt
  have HL := Lib.hid hfin.1
  have HFN := Lib.hid hfin.2
  (try unfold setS at *)
  unfold saO at z0 z1 z2 z3 z4 z5
  dsimp only at *
  clear hfin htz htg A3 B3 E3
  rcases hone with h9 | h9 | h9 | h9 | h9 | h9 | h9
  ·exact absurd h9 he
  all_goals
   clear he
   subst h9
   go_wp2
   refine bodyPost_ret (v := .tuple #[saV saO, .int .i64 _]) ?_ rfl ⟨_, rfl, HFN.out.1, rfl, HFN.out.2⟩
   rw [results_cellT rfl]
   unfold saV saC saO
   simp [asAddr, Result.andThen, HL.out]
set_option maxHeartbeats 8000000 in
theorem rap2 (x : SaL) (a n st : Int) (u o : ByteArray) (w : World) (h : SaAt w x) (hf : Few x.m 400) (hk : RiseK UsM.u (umS x.us)) (ht : RiseK TbM.u x.tb) (hz : SzS x.m) (hu : u.size ≤ maxLen) (ho : o.size ≤ maxLen) (hv : RightV 2 a n st u o) (hle : ¬ a < x.now) :
  Calls Tryz.prog 17 #[saV x, evV ⟨2, a, u, o, n, st⟩] w (Tells w (tellS x.m 2 a n st u o) (errS x.m 2 a n st u o)) := by
 obtain ⟨HK, HE, HZ⟩ := three_SB h ⟨2, a, u, o, n, st⟩ 27 29 27
 have HR := Lib.hid (fun V => evrefRight_any ⟨2, a, u, o, n, st⟩ ⟨hu, ho⟩ V)
 rw [(rightE_iff 2 a n st u o).2 hv] at HR
 have hus : ∀ y ∈ x.us, y.u.size ≤ maxLen := fun y hy => hz.us y.m (List.mem_map_of_mem hy)
 obtain ⟨hes, htg, htz⟩ := tellS_ok hv (show ¬ a < x.m.now from hle)
 rw [hes]
 have HSE := Lib.hid (fun V (h : SaAt V x) => rsess2 x a n st u o V h hf hk hu hus)
 have hone := errK_one x.m 2 a n st u o
 have hnow := goS_now x.m 2 a n st u o
 generalize errK x.m 2 a n st u o = er at *
 generalize goS x.m 2 a n st u o = G at *
 generalize tellS x.m 2 a n st u o = R at *
 obtain ⟨now, hor, oa, op, oc, ua, us, uc, sa, su, sc, ta, tb, tc⟩ := x
 have HS := Lib.hid HK
 have HZZ := Lib.hid HZ
 have HEE := Lib.hid HE
 obtain ⟨c0, c1, c2, c3, c4, c5⟩ := HK.cells
 obtain ⟨⟨e0, e1, e2, e3, e4, e5⟩, -⟩ := cells6 HE.blk
 unfold saV evV saC at *
 dsimp only at *
 clear h hf HK HZ HE hv hus hk ht hz hu ho
 go_enter Tryz.func17, Tryz.ntmps17
 go_wp2_with fail
 refine (HR.out _).mono ?_
 rintro e w1 ⟨rfl, h1⟩
 have hbp := below_one w1 (.cells #[.string u, .string o] 96)
 have PB := pcell2 (heap_alloc_new w1 (.cells #[.string u, .string o] 96))
 have A0 := HS.out.below h1
 have E0 := HEE.out.below h1
 have A1 := A0.below hbp
 have B1 := (HZZ.out.below h1).below hbp
 have E1 := E0.below hbp
 clear c0 c1 c2 c3 c4 c5 e0 e1 e2 e3 e4 e5
 obtain ⟨b0, b1, b2, b3, b4, b5⟩ := A0.cells
 obtain ⟨⟨m0, m1, m2, m3, m4, m5⟩, -⟩ := cells6 E0.blk
 obtain ⟨c0, c1, c2, c3, c4, c5⟩ := A1.cells
 obtain ⟨⟨e0, e1, e2, e3, e4, e5⟩, -⟩ := cells6 E1.blk
 obtain ⟨p0, p1⟩ := PB
 have HS1 := Lib.hid A1
 have HZ1 := Lib.hid B1
 have HE1 := Lib.hid E1
 dsimp only at *
 clear HS HZZ HEE A0 E0 A1 B1 E1 hbp h1 HR
 go_wp2_with fail
 refine (HSE.out _ HS1.out.at_).mono ?_
 rintro e w2 ⟨y, rfl, l2, mm, h2⟩
 have A2 := HS1.out.below h2
 have B2 := HZ1.out.below h2
 have E2 := HE1.out.below h2
 obtain ⟨A3, B3⟩ := A2.over l2 B2 (by omega)
 have E3 := E2.set (y := y) (show w.heap.size + 1 ≠ w.heap.size by omega)
 clear b0 b1 b2 b3 b4 b5 m0 m1 m2 m3 m4 m5 c0 c1 c2 c3 c4 c5 e0 e1 e2 e3 e4 e5 p0 p1
 obtain ⟨c0, c1, c2, c3, c4, c5⟩ := A2.cells
 obtain ⟨f0, f1, f2, f3, f4, f5⟩ := A2.free
 have hg2 := A2.lt
 obtain ⟨now1, hor1, oa1, op1, oc1, ua1, us1, uc1, sa1, su1, sc1, ta1, tb1, tc1⟩ := y
 unfold saV saC at *
 dsimp only at *
 clear A2 B2 E2 HS1 HZ1 HE1 h2 HSE l2
 by_cases he : er = 0
 ·have hR := htg he
  have hy := mm he
  subst hR
  have hym : (⟨a, hor1, oa1, op1, oc1, ua1, us1, uc1, sa1, su1, sc1, ta1, tb1, tc1⟩ : SaL).m = R := by
   unfold SaL.m at hy ⊢
   obtain ⟨Gn, Gh, Go, Gu, Gs, Gt⟩ := R
   simp only at hy hnow ⊢
   injection hy with _ g1 g2 g3 g4 g5
   rw [hnow, g1, g2, g3, g4, g5]
  subst he
  clear htz htg hone hnow mm hy
  have A8 := A3.setNow a
  have B8 := B3.far A3 (by omega) 0 (.int .i64 a)
  have hfin := A8.finR B8
  obtain ⟨d0, d1, d2, d3, d4, d5⟩ := A8.cells
  obtain ⟨z0, z1, z2, z3, z4, z5⟩ := B8.cells
  obtain ⟨y0, y1, y2, y3, y4, y5⟩ := B8.free
  obtain ⟨g0, g1, g2, g3, g4, g5⟩ := A3.free
  obtain ⟨r0, r1, r2, r3, r4, r5⟩ := A3.cells
  obtain ⟨⟨e0, e1, e2, e3, e4, e5⟩, -⟩ := cells6 E3.blk
  have hzl := B8.lt
  have hgl := A3.lt
  have HL := Lib.hid hfin.1
  have HFN := Lib.hid (And.intro hfin.2.1 (And.intro hym hfin.2.2))
  unfold setS saV saC at HL
  (try unfold setS at *)
  unfold saO at z0 z1 z2 z3 z4 z5
  dsimp only at *
  clear A8 B8 hfin A3 B3 E3 hym
  go_wp2
  refine bodyPost_ret (v := .tuple #[saV ⟨a, hor1, oa1, op1, oc1, ua1, us1, uc1, sa1, su1, sc1, ta1, tb1, tc1⟩, .int .i64 0]) ?_ rfl ⟨_, rfl, HFN.out⟩
  rw [results_cellT rfl]
  unfold saV saC
  simp [asAddr, Result.andThen, HL.out]
 ·clear mm hnow
  have hfin := B3.finZR
  have hR := htz he
  subst hR
  obtain ⟨z0, z1, z2, z3, z4, z5⟩ := B3.cells
  obtain ⟨y0, y1, y2, y3, y4, y5⟩ := B3.free
  have hzl := B3.lt
  have HL := Lib.hid hfin.1
  have HFN := Lib.hid hfin.2
  (try unfold setS at *)
  unfold saO at z0 z1 z2 z3 z4 z5
  dsimp only at *
  clear hfin htz htg A3 B3 E3
  rcases hone with h9 | h9 | h9 | h9 | h9 | h9 | h9
  ·exact absurd h9 he
  all_goals
   clear he
   subst h9
   go_wp2
   refine bodyPost_ret (v := .tuple #[saV saO, .int .i64 _]) ?_ rfl ⟨_, rfl, HFN.out.1, rfl, HFN.out.2⟩
   rw [results_cellT rfl]
   unfold saV saC saO
   simp [asAddr, Result.andThen, HL.out]
set_option maxHeartbeats 8000000 in
theorem rap3 (x : SaL) (a n st : Int) (u o : ByteArray) (w : World) (h : SaAt w x) (hf : Few x.m 400) (hk : RiseK UsM.u (umS x.us)) (ht : RiseK TbM.u x.tb) (hz : SzS x.m) (hu : u.size ≤ maxLen) (ho : o.size ≤ maxLen) (hv : RightV 3 a n st u o) (hle : ¬ a < x.now) :
  Calls Tryz.prog 17 #[saV x, evV ⟨3, a, u, o, n, st⟩] w (Tells w (tellS x.m 3 a n st u o) (errS x.m 3 a n st u o)) := by
 obtain ⟨HK, HE, HZ⟩ := three_SB h ⟨3, a, u, o, n, st⟩ 27 29 27
 have HR := Lib.hid (fun V => evrefRight_any ⟨3, a, u, o, n, st⟩ ⟨hu, ho⟩ V)
 rw [(rightE_iff 3 a n st u o).2 hv] at HR
 have hus : ∀ y ∈ x.us, y.u.size ≤ maxLen := fun y hy => hz.us y.m (List.mem_map_of_mem hy)
 obtain ⟨hes, htg, htz⟩ := tellS_ok hv (show ¬ a < x.m.now from hle)
 rw [hes]
 have HSE := Lib.hid (fun V (h : SaAt V x) => rsess3 x a n st u o V h hf hk hu hus)
 have hone := errK_one x.m 3 a n st u o
 have hnow := goS_now x.m 3 a n st u o
 generalize errK x.m 3 a n st u o = er at *
 generalize goS x.m 3 a n st u o = G at *
 generalize tellS x.m 3 a n st u o = R at *
 obtain ⟨now, hor, oa, op, oc, ua, us, uc, sa, su, sc, ta, tb, tc⟩ := x
 have HS := Lib.hid HK
 have HZZ := Lib.hid HZ
 have HEE := Lib.hid HE
 obtain ⟨c0, c1, c2, c3, c4, c5⟩ := HK.cells
 obtain ⟨⟨e0, e1, e2, e3, e4, e5⟩, -⟩ := cells6 HE.blk
 unfold saV evV saC at *
 dsimp only at *
 clear h hf HK HZ HE hv hus hk ht hz hu ho
 go_enter Tryz.func17, Tryz.ntmps17
 go_wp2_with fail
 refine (HR.out _).mono ?_
 rintro e w1 ⟨rfl, h1⟩
 have hbp := below_one w1 (.cells #[.string u, .string o] 96)
 have PB := pcell2 (heap_alloc_new w1 (.cells #[.string u, .string o] 96))
 have A0 := HS.out.below h1
 have E0 := HEE.out.below h1
 have A1 := A0.below hbp
 have B1 := (HZZ.out.below h1).below hbp
 have E1 := E0.below hbp
 clear c0 c1 c2 c3 c4 c5 e0 e1 e2 e3 e4 e5
 obtain ⟨b0, b1, b2, b3, b4, b5⟩ := A0.cells
 obtain ⟨⟨m0, m1, m2, m3, m4, m5⟩, -⟩ := cells6 E0.blk
 obtain ⟨c0, c1, c2, c3, c4, c5⟩ := A1.cells
 obtain ⟨⟨e0, e1, e2, e3, e4, e5⟩, -⟩ := cells6 E1.blk
 obtain ⟨p0, p1⟩ := PB
 have HS1 := Lib.hid A1
 have HZ1 := Lib.hid B1
 have HE1 := Lib.hid E1
 dsimp only at *
 clear HS HZZ HEE A0 E0 A1 B1 E1 hbp h1 HR
 go_wp2_with fail
 refine (HSE.out _ HS1.out.at_).mono ?_
 rintro e w2 ⟨y, rfl, l2, mm, h2⟩
 have A2 := HS1.out.below h2
 have B2 := HZ1.out.below h2
 have E2 := HE1.out.below h2
 obtain ⟨A3, B3⟩ := A2.over l2 B2 (by omega)
 have E3 := E2.set (y := y) (show w.heap.size + 1 ≠ w.heap.size by omega)
 clear b0 b1 b2 b3 b4 b5 m0 m1 m2 m3 m4 m5 c0 c1 c2 c3 c4 c5 e0 e1 e2 e3 e4 e5 p0 p1
 obtain ⟨c0, c1, c2, c3, c4, c5⟩ := A2.cells
 obtain ⟨f0, f1, f2, f3, f4, f5⟩ := A2.free
 have hg2 := A2.lt
 obtain ⟨now1, hor1, oa1, op1, oc1, ua1, us1, uc1, sa1, su1, sc1, ta1, tb1, tc1⟩ := y
 unfold saV saC at *
 dsimp only at *
 clear A2 B2 E2 HS1 HZ1 HE1 h2 HSE l2
 by_cases he : er = 0
 ·have hR := htg he
  have hy := mm he
  subst hR
  have hym : (⟨a, hor1, oa1, op1, oc1, ua1, us1, uc1, sa1, su1, sc1, ta1, tb1, tc1⟩ : SaL).m = R := by
   unfold SaL.m at hy ⊢
   obtain ⟨Gn, Gh, Go, Gu, Gs, Gt⟩ := R
   simp only at hy hnow ⊢
   injection hy with _ g1 g2 g3 g4 g5
   rw [hnow, g1, g2, g3, g4, g5]
  subst he
  clear htz htg hone hnow mm hy
  have A8 := A3.setNow a
  have B8 := B3.far A3 (by omega) 0 (.int .i64 a)
  have hfin := A8.finR B8
  obtain ⟨d0, d1, d2, d3, d4, d5⟩ := A8.cells
  obtain ⟨z0, z1, z2, z3, z4, z5⟩ := B8.cells
  obtain ⟨y0, y1, y2, y3, y4, y5⟩ := B8.free
  obtain ⟨g0, g1, g2, g3, g4, g5⟩ := A3.free
  obtain ⟨r0, r1, r2, r3, r4, r5⟩ := A3.cells
  obtain ⟨⟨e0, e1, e2, e3, e4, e5⟩, -⟩ := cells6 E3.blk
  have hzl := B8.lt
  have hgl := A3.lt
  have HL := Lib.hid hfin.1
  have HFN := Lib.hid (And.intro hfin.2.1 (And.intro hym hfin.2.2))
  unfold setS saV saC at HL
  (try unfold setS at *)
  unfold saO at z0 z1 z2 z3 z4 z5
  dsimp only at *
  clear A8 B8 hfin A3 B3 E3 hym
  go_wp2
  refine bodyPost_ret (v := .tuple #[saV ⟨a, hor1, oa1, op1, oc1, ua1, us1, uc1, sa1, su1, sc1, ta1, tb1, tc1⟩, .int .i64 0]) ?_ rfl ⟨_, rfl, HFN.out⟩
  rw [results_cellT rfl]
  unfold saV saC
  simp [asAddr, Result.andThen, HL.out]
 ·clear mm hnow
  have hfin := B3.finZR
  have hR := htz he
  subst hR
  obtain ⟨z0, z1, z2, z3, z4, z5⟩ := B3.cells
  obtain ⟨y0, y1, y2, y3, y4, y5⟩ := B3.free
  have hzl := B3.lt
  have HL := Lib.hid hfin.1
  have HFN := Lib.hid hfin.2
  (try unfold setS at *)
  unfold saO at z0 z1 z2 z3 z4 z5
  dsimp only at *
  clear hfin htz htg A3 B3 E3
  rcases hone with h9 | h9 | h9 | h9 | h9 | h9 | h9
  ·exact absurd h9 he
  all_goals
   clear he
   subst h9
   go_wp2
   refine bodyPost_ret (v := .tuple #[saV saO, .int .i64 _]) ?_ rfl ⟨_, rfl, HFN.out.1, rfl, HFN.out.2⟩
   rw [results_cellT rfl]
   unfold saV saC saO
   simp [asAddr, Result.andThen, HL.out]
end Go.Proofs.YtjhdhfokhkcamaaGreat
