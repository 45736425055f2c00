/- Texts of mine, one behind the other, of each what is wanted. -/
import Derived.Test.YtapacckmgmdnoaaGreatR00
import Derived.Test.YtapacckmgmdnoaaGreatShelf
import Derived.Test.YtapacckmgmdnoaaGreatRows
import Derived.Test.YtapacckmgmdnoaaGreatR01
import Derived.Test.YtapacckmgmdnoaaGreatR03
import Derived.Test.YtapacckmgmdnoaaGreatR04
import Derived.Test.YtapacckmgmdnoaaGreatR07
import Derived.Test.YtapacckmgmdnoaaGreatR14
import Derived.Test.YtapacckmgmdnoaaGreatR18
import Derived.Test.YtapacckmgmdnoaaGreatR19
import Derived.Test.YtapacckmgmdnoaaGreatR20
import Derived.Test.YtapacckmgmdnoaaGreatR25
import Derived.Test.YtapacckmgmdnoaaGreatR28
import Derived.Test.YtapacckmgmdnoaaGreatR29
namespace Go.Proofs.YtapacckmgmdnoaaGreat
open Go.RowKit Go.Proofs
set_option linter.unusedVariables false
set_option maxRecDepth 100000
set_option maxRecDepth 100000
theorem noT_iff (s : ByteArray) : noT s = true ↔ s = ⟨#[]⟩ := by
 unfold noT
 rw [beq_iff_eq]
 constructor
 ·intro h
  rw [show (⟨#[]⟩ : ByteArray) = tx [] from rfl, toList_tx, ByteArray.toList_eq] at h
  rcases s with ⟨d⟩
  exact congrArg ByteArray.mk (Array.toList_eq_nil_iff.1 h)
 ·rintro rfl; rfl
theorem inB_iff (a b n : Int) : inB a b n = true ↔ a ≤ n ∧ n ≤ b := by unfold inB; simp
theorem nameB_nil : nameB ⟨#[]⟩ = false := by decide
theorem rightE_iff (k a n st : Int) (u o : ByteArray) : rightE ⟨k, a, u, o, n, st⟩ = true ↔ RightV k a n st u o := by
 unfold rightE RightV
 dsimp only
 have hcase : k = 1 ∨ k = 2 ∨ k = 3 ∨ k = 7 ∨ k = 4 ∨ k = 5 ∨ k = 6 ∨ (k < 1 ∨ 7 < k) := by omega
 have hn : ∀ s, isN s = nameB s := fun _ => rfl
 rcases hcase with rfl | rfl | rfl | rfl | rfl | rfl | rfl | hk
 all_goals try (by_cases hA : nameB u = true <;> by_cases hB : nameB o = true <;> by_cases hC : o = ⟨#[]⟩ <;> by_cases hD : u = ⟨#[]⟩ <;> simp [shK, isK, rText, Bool.and_eq_true, inB_iff, hn, noT_iff, hA, hB, hC, hD, nameB_nil] <;> (try omega))
theorem behind_any (x : SaL) (k a n st : Int) (u o : ByteArray) (w : World) (h : SaAt w x) (hf : Few x.m 400) (hk : RiseK UsM.u (umS x.us)) (ht : RiseK TbM.u x.tb) (h7 : 1 ≤ k ∧ k ≤ 7) :
  Calls Tryz.prog 134 #[saV x, evV ⟨k, a, u, o, n, st⟩] w (Told w x (errK x.m k a n st u o) { goS x.m k a n st u o with now := x.now }) := by
 have hcase : k = 1 ∨ k = 2 ∨ k = 3 ∨ k = 4 ∨ k = 5 ∨ k = 6 ∨ k = 7 := by omega
 rcases hcase with rfl | rfl | rfl | rfl | rfl | rfl | rfl
 ·exact behind1 x a n st u o w h hf hk ht
 ·exact behind2 x a n st u o w h hf hk ht
 ·exact behind3 x a n st u o w h hf hk ht
 ·exact behind4 x a n st u o w h hf hk ht
 ·exact behind5 x a n st u o w h hf hk ht
 ·exact behind6 x a n st u o w h hf hk ht
 ·exact behind7 x a n st u o w h hf hk ht
theorem few_of {s : SaM} (h : RightS s) {n : Nat} (hc : stCnt s ≤ n) : Few s n := by
 have hu : ∀ l : List UsM, (∀ x ∈ l, x.l ≠ []) → l.length ≤ cntU l ∧ ∀ x ∈ l, x.l.length ≤ cntU l := by
  intro l
  induction l with
  | nil => intro _; exact ⟨Nat.zero_le _, fun x hx => by cases hx⟩
  | cons y l ih =>
   intro hl
   obtain ⟨h1, h2⟩ := ih fun x hx => hl x (List.mem_cons_of_mem _ hx)
   have h3 : 0 < y.l.length := List.length_pos_iff.2 (hl y (List.mem_cons_self ..))
   rw [cntU_cons]
   refine ⟨by rw [List.length_cons]; omega, fun x hx => ?_⟩
   rcases List.mem_cons.1 hx with rfl | hx
   ·omega
   ·have := h2 x hx; omega
 obtain ⟨h1, h2⟩ := hu s.us fun x hx => (h.us x hx).2.1
 unfold stCnt at hc
 exact ⟨by omega, by omega, by omega, by omega, fun x hx => by have := h2 x hx; omega⟩
theorem Few.mono {s : SaM} {a b : Nat} (h : Few s a) (hab : a ≤ b) : Few s b := ⟨Nat.le_trans h.op hab, Nat.le_trans h.us hab, Nat.le_trans h.su hab, Nat.le_trans h.tb hab, fun x hx => Nat.le_trans (h.st x hx) hab⟩
theorem errK_one (s : SaM) (k a n st : Int) (u o : ByteArray) : errK s k a n st u o = 0 ∨ errK s k a n st u o = 90 ∨ errK s k a n st u o = 91 ∨ errK s k a n st u o = 100 ∨ errK s k a n st u o = 101 ∨ errK s k a n st u o = 102 ∨ errK s k a n st u o = 103 := by
 unfold errK openC
 rcases fc_three s.op n u with ⟨h1, _⟩ | ⟨h1 | h1, _⟩
 all_goals
  rw [h1]
  repeat' split
  all_goals simp
theorem goS_now (s : SaM) (k a n st : Int) (u o : ByteArray) : (goS s k a n st u o).now = a := by
 unfold goS
 repeat' split
 all_goals rfl
def Tells (w : World) (s : SaM) (er : Int) (r : Ending) (w' : World) : Prop := ∃ y, r = .returned (.tuple #[saV y, .int .i64 er]) ∧ SaAt w' y ∧ y.m = s ∧ Below w.heap.size w w'
theorem SB.finZ {w T : World} {r : Nat} {t : TypeId} {z : SaL} (hZ : SB w r t z T) : (loadVar 39 ⟨r, 0, none⟩).run Tryz.prog ((((((T.setCell ⟨r, 0, none⟩ (.int .i64 0)).setCell ⟨r, 1, none⟩ (.int .i64 0)).setCell ⟨r, 2, none⟩ (.slice none 0 0)).setCell ⟨r, 3, none⟩ (.slice none 0 0)).setCell ⟨r, 4, none⟩ (.slice none 0 0)).setCell ⟨r, 5, none⟩ (.slice none 0 0)) = .ok (.agg #[.int .i64 0, .int .i64 0, .slice none 0 0, .slice none 0 0, .slice none 0 0, .slice none 0 0]) ((((((T.setCell ⟨r, 0, none⟩ (.int .i64 0)).setCell ⟨r, 1, none⟩ (.int .i64 0)).setCell ⟨r, 2, none⟩ (.slice none 0 0)).setCell ⟨r, 3, none⟩ (.slice none 0 0)).setCell ⟨r, 4, none⟩ (.slice none 0 0)).setCell ⟨r, 5, none⟩ (.slice none 0 0)) ∧ SaAt (setS T r saO) saO ∧ Below w.heap.size w (setS T r saO) := by
 have h := SB.finV (SaAt.zero T) hZ
 have h1 := h.1
 unfold setS saV saC saO at h1
 simp only [List.length_nil] at h1
 exact ⟨h1, h.2⟩
set_option maxHeartbeats 8000000 in
theorem apply_any (x : SaL) (k a n st : Int) (u o : ByteArray) (w : World) (h : SaAt w x) (hr : RightS x.m) (hc : stCnt x.m ≤ 200) (hu : u.size ≤ maxLen) (ho : o.size ≤ maxLen) :
  Calls Tryz.prog 62 #[saV x, evV ⟨k, a, u, o, n, st⟩] w (Tells w (tellS x.m k a n st u o) (errS x.m k a n st u o)) := by
 obtain ⟨HK, HE, HZ⟩ := three_SB h ⟨k, a, u, o, n, st⟩ 39 64 39
 have HR := Lib.hid (fun V => evright_any ⟨k, a, u, o, n, st⟩ ⟨hu, ho⟩ V)
 have HS := Lib.hid HK
 have HZZ := Lib.hid HZ
 have HEE := Lib.hid HE
 by_cases hv : RightV k a n st u o
 ·rw [(rightE_iff k a n st u o).2 hv] at HR
  by_cases hlt : a < x.now
  ·-- a time that is past
   have he : errS x.m k a n st u o = 111 := by unfold errS; rw [if_pos hv, if_pos (show a < x.m.now from hlt)]
   have ht : tellS x.m k a n st u o = saZ := by unfold tellS; rw [he, if_neg (by decide)]
   rw [he, ht]
   obtain ⟨⟨e0, e1, e2, e3, e4, e5⟩, -⟩ := cells6 HE.blk
   obtain ⟨now, hor, oa, op, oc, ua, us, uc, sa, su, sc, ta, tb, tc⟩ := x
   unfold saV evV saC at *
   dsimp only at *
   clear h hr hc HK HZ HE
   go_enter Tryz.func62, Tryz.ntmps62
   go_wp2_with fail
   refine (HR.out _).mono ?_
   rintro e w1 ⟨rfl, h1⟩
   have B1 := HZZ.out.below h1
   have A1 := HS.out.below h1
   have hfin := B1.finZ
   clear e0 e1 e2 e3 e4 e5
   obtain ⟨⟨e0, e1, e2, e3, e4, e5⟩, -⟩ := cells6 (HEE.out.below h1).blk
   obtain ⟨c0, c1, c2, c3, c4, c5⟩ := A1.cells
   obtain ⟨z0, z1, z2, z3, z4, z5⟩ := B1.cells
   obtain ⟨y0, y1, y2, y3, y4, y5⟩ := B1.free
   have hzl := B1.lt
   have HL := Lib.hid hfin.1
   have HFN := Lib.hid hfin.2
   unfold saO at z0 z1 z2 z3 z4 z5
   dsimp only at *
   clear HS HZZ HEE A1 B1 hfin h1 HR
   go_wp2
   refine bodyPost_ret (v := .tuple #[saV saO, .int .i64 111]) ?_ rfl ⟨_, rfl, HFN.out.1, rfl, HFN.out.2⟩
   rw [results_cellT rfl]
   unfold saV saC saO
   simp [asAddr, Result.andThen, HL.out]
  ·-- what the event does
   have h7 : 1 ≤ k ∧ k ≤ 7 := by
    obtain ⟨_, _, hh⟩ := hv
    omega
   have hf := few_of hr hc
   have HB := Lib.hid (fun V (h : SaAt V x) => behind_any x k a n st u o V h (hf.mono (by decide)) hr.ur hr.tr h7)
   have hes : errS x.m k a n st u o = errK x.m k a n st u o := by unfold errS; rw [if_pos hv, if_neg (show ¬ a < x.m.now from hlt)]
   have hgo : errK x.m k a n st u o = 0 → Few (goS x.m k a n st u o) 10000 := fun he => (few_of (right_go hr (hes.trans he)) (cnt_go x.m k a n st u o)).mono (by omega)
   have htz : errK x.m k a n st u o ≠ 0 → tellS x.m k a n st u o = saZ := fun he => by unfold tellS; rw [hes, if_neg he]
   have htg : errK x.m k a n st u o = 0 → tellS x.m k a n st u o = goS x.m k a n st u o := fun he => by unfold tellS; rw [hes, if_pos he]
   have hnow := goS_now x.m k a n st u o
   rw [hes]
   have hone := errK_one x.m k a n st u o
   generalize errK x.m k a n st u o = er at *
   generalize goS x.m k a n st u o = G at *
   generalize tellS x.m k a n st u o = R at *
   obtain ⟨⟨e0, e1, e2, e3, e4, e5⟩, -⟩ := cells6 HE.blk
   obtain ⟨now, hor, oa, op, oc, ua, us, uc, sa, su, sc, ta, tb, tc⟩ := x
   unfold saV evV saC at *
   dsimp only at *
   clear h hr hc HK HZ HE hf hv
   go_enter Tryz.func62, Tryz.ntmps62
   go_wp2_with fail
   refine (HR.out _).mono ?_
   rintro e w1 ⟨rfl, h1⟩
   have B1 := Lib.hid (HZZ.out.below h1)
   have A1 := Lib.hid (HS.out.below h1)
   have E1 := Lib.hid (HEE.out.below h1)
   clear e0 e1 e2 e3 e4 e5
   obtain ⟨⟨e0, e1, e2, e3, e4, e5⟩, -⟩ := cells6 E1.out.blk
   obtain ⟨c0, c1, c2, c3, c4, c5⟩ := A1.out.cells
   dsimp only at *
   clear HS HZZ HEE h1 HR
   go_wp2_with fail
   refine (HB.out _ A1.out.at_).mono ?_
   rintro e w2 ⟨y, rfl, y1, y2, h2⟩
   have B2 := Lib.hid (B1.out.below h2)
   have E2 := Lib.hid (E1.out.below h2)
   obtain ⟨now1, hor1, oa1, op1, oc1, ua1, us1, uc1, sa1, su1, sc1, ta1, tb1, tc1⟩ := y
   unfold saV saC at *
   dsimp only at *
   clear e0 e1 e2 e3 e4 e5 c0 c1 c2 c3 c4 c5
   obtain ⟨⟨e0, e1, e2, e3, e4, e5⟩, -⟩ := cells6 E2.out.blk
   have hel := heap_lt E2.out.blk
   by_cases he : er = 0
   ·have y3 := y2 he
    have hR := htg he
    subst hR
    have hy : SaAt w2 ⟨a, hor1, oa1, op1, oc1, ua1, us1, uc1, sa1, su1, sc1, ta1, tb1, tc1⟩ := ⟨y1.op, y1.us, y1.su, y1.tb, y1.oc, y1.uc, y1.sc, y1.tc⟩
    have hym : (⟨a, hor1, oa1, op1, oc1, ua1, us1, uc1, sa1, su1, sc1, ta1, tb1, tc1⟩ : SaL).m = R := by
     unfold SaL.m at y3 ⊢
     obtain ⟨Gn, Gh, Go, Gu, Gs, Gt⟩ := R
     simp only at y3 hnow ⊢
     injection y3 with _ g1 g2 g3 g4 g5
     rw [hnow, g1, g2, g3, g4, g5]
    have HC := Lib.hid (fun V (q : Below w2.heap.size w2 V) => copied_any _ V (hy.below q) (hym.symm ▸ hgo he))
    rw [hym] at HC
    unfold saV saC at HC
    subst he
    dsimp only at *
    clear A1 E1 B1 E2 HB htz htg hgo hnow y1 y2 y3 hy hym h2 hlt h7 hes hone
    go_wp2_with fail
    refine (HC.out _ (below_one _ _)).mono ?_
    rintro e w3 ⟨z, rfl, z1, z2, h3⟩
    have B3 := (B2.out.below (below_one w2 _)).below h3
    have hfin := SB.finV z1 B3
    clear e0 e1 e2 e3 e4 e5 hel
    obtain ⟨c0, c1, c2, c3, c4, c5⟩ := B3.cells
    obtain ⟨f0, f1, f2, f3, f4, f5⟩ := B3.free
    have hzl := B3.lt
    have HL := Lib.hid hfin.1
    have HFN := Lib.hid (And.intro hfin.2.1 (And.intro z2 hfin.2.2))
    obtain ⟨now2, hor2, oa2, op2, oc2, ua2, us2, uc2, sa2, su2, sc2, ta2, tb2, tc2⟩ := z
    unfold setS saV saC at HL
    unfold saV saC at *
    unfold saO at c0 c1 c2 c3 c4 c5
    dsimp only at *
    clear B2 B3 hfin z1 z2 h3 HC
    go_wp2
    refine bodyPost_ret (v := .tuple #[saV ⟨now2, hor2, oa2, op2, oc2, ua2, us2, uc2, sa2, su2, sc2, ta2, tb2, tc2⟩, .int .i64 0]) ?_ rfl ⟨_, rfl, HFN.out⟩
    rw [results_cellT rfl]
    unfold saV saC
    simp [asAddr, Result.andThen, HL.out]
   ·have hR := htz he
    subst hR
    have B3 := B2.out.below (below_one w2 (.cells #[.int .i64 now1, .int .i64 hor1, .slice oa1 op1.length oc1, .slice ua1 us1.length uc1, .slice sa1 su1.length sc1, .slice ta1 tb1.length tc1] 39))
    have hfin := B3.finZ
    have HB3 := Lib.hid B3
    have HL := Lib.hid hfin.1
    have HFN := Lib.hid hfin.2
    clear A1 E1 B1 E2 HB htz htg hgo hnow y1 y2 h2 hlt h7 hes B2 B3 hfin
    rcases hone with h9 | h9 | h9 | h9 | h9 | h9 | h9
    ·exact absurd h9 he
    all_goals
     clear he
     subst h9
     go_upto_region 7 with fail
     clear e0 e1 e2 e3 e4 e5 hel
     generalize hW : w2.alloc _ = W3 at *
     clear hW
     obtain ⟨z0, z1, z2, z3, z4, z5⟩ := HB3.out.cells
     obtain ⟨f0, f1, f2, f3, f4, f5⟩ := HB3.out.free
     have hzl := HB3.out.lt
     unfold saO at z0 z1 z2 z3 z4 z5
     dsimp only at *
     clear HB3
     go_wp2
     refine bodyPost_ret (v := .tuple #[saV saO, .int .i64 _]) ?_ rfl ⟨_, rfl, HFN.out.1, rfl, HFN.out.2⟩
     rw [results_cellT rfl]
     unfold saV saC saO
     simp [asAddr, Result.andThen, HL.out]
 ·have he : errS x.m k a n st u o = 110 := by unfold errS; rw [if_neg hv]
  have ht : tellS x.m k a n st u o = saZ := by unfold tellS; rw [he, if_neg (by decide)]
  rw [he, ht]
  have hE : rightE ⟨k, a, u, o, n, st⟩ = false := Bool.eq_false_iff.2 fun e => hv ((rightE_iff k a n st u o).1 e)
  rw [hE] at HR
  obtain ⟨⟨e0, e1, e2, e3, e4, e5⟩, -⟩ := cells6 HE.blk
  obtain ⟨now, hor, oa, op, oc, ua, us, uc, sa, su, sc, ta, tb, tc⟩ := x
  unfold saV evV saC at *
  dsimp only at *
  clear h hr hc HK HZ HE
  go_enter Tryz.func62, Tryz.ntmps62
  go_wp2_with fail
  refine (HR.out _).mono ?_
  rintro e w1 ⟨rfl, h1⟩
  have B1 := HZZ.out.below h1
  have hfin := B1.finZ
  clear e0 e1 e2 e3 e4 e5
  obtain ⟨z0, z1, z2, z3, z4, z5⟩ := B1.cells
  obtain ⟨y0, y1, y2, y3, y4, y5⟩ := B1.free
  have hzl := B1.lt
  have HL := Lib.hid hfin.1
  have HFN := Lib.hid hfin.2
  unfold saO at z0 z1 z2 z3 z4 z5
  dsimp only at *
  clear HS HZZ HEE B1 hfin h1 HR
  go_wp2
  refine bodyPost_ret (v := .tuple #[saV saO, .int .i64 110]) ?_ rfl ⟨_, rfl, HFN.out.1, rfl, HFN.out.2⟩
  rw [results_cellT rfl]
  unfold saV saC saO
  simp [asAddr, Result.andThen, HL.out]
def y3 (oa ua sa ta : Option Addr) (oc uc sc tc : Nat) : SaL := ⟨9, 0, oa, [], oc, ua, [], uc, sa, [], sc, ta, [⟨an11, 9⟩], tc⟩
def y4 (oa ua sa ta a : Option Addr) (oc uc sc tc c : Nat) : SaL := ⟨7, 0, oa, [], oc, ua, [⟨an11, a, [⟨3, 7, 1, 1⟩], c⟩], uc, sa, [], sc, ta, [], tc⟩
end Go.Proofs.YtapacckmgmdnoaaGreat
namespace Go.Proofs.YtapacckmgmdnoaaGreat
open Go.ChangeShapes Go.WideShapes Go.ChangeAt Go.RowKit
set_option linter.unusedVariables false
set_option maxRecDepth 100000
set_option maxRecDepth 100000
section
variable {H : Type} {enc : TypeId × Value → H} {P : Program} {w : World} {base : Nat} {spare : Nat → Bool} {held : Bool}
theorem trod_six {e : TypeId} {f0 f1 f2 f3 f4 f5 : Field} {fuel : Nat} {v0 v1 v2 v3 v4 v5 : Value} {x : DataW H × List MemPlace} (he : P.underlying e = some (.struct #[f0, f1, f2, f3, f4, f5]))
  (o0 : f0.offset = 0) (o1 : f1.offset = 1) (o2 : f2.offset = 2) (o3 : f3.offset = 3) (o4 : f4.offset = 4) (o5 : f5.offset = 5) (c0 : P.cellsOf f0.type = 1) (c1 : P.cellsOf f1.type = 1) (c2 : P.cellsOf f2.type = 1) (c3 : P.cellsOf f3.type = 1) (c4 : P.cellsOf f4.type = 1) (c5 : P.cellsOf f5.type = 1)
  (h : DataW.trod enc P w base spare held fuel e [v0, v1, v2, v3, v4, v5] = some x) :
  ∃ (y0 y1 y2 y3 y4 y5 : DataW H × List MemPlace) (n : Nat), x.1 = .agg [y0.1, y1.1, y2.1, y3.1, y4.1, y5.1] ∧ DataW.trod enc P w base spare held n f0.type [v0] = some y0 ∧ DataW.trod enc P w base spare held n f1.type [v1] = some y1 ∧ DataW.trod enc P w base spare held n f2.type [v2] = some y2 ∧ DataW.trod enc P w base spare held n f3.type [v3] = some y3 ∧ DataW.trod enc P w base spare held n f4.type [v4] = some y4 ∧ DataW.trod enc P w base spare held n f5.type [v5] = some y5 := by
 obtain ⟨xs, k, _, rfl, _, hxl, hf⟩ := DataW.trod_struct he h
 match xs, hxl with
 | [y0, y1, y2, y3, y4, y5], _ =>
  have g0 := hf 0 f0 rfl
  have g1 := hf 1 f1 rfl
  have g2 := hf 2 f2 rfl
  have g3 := hf 3 f3 rfl
  have g4 := hf 4 f4 rfl
  have g5 := hf 5 f5 rfl
  simp [o0, c0, o1, c1, o2, c2, o3, c3, o4, c4, o5, c5] at g0 g1 g2 g3 g4 g5
  exact ⟨y0, y1, y2, y3, y4, y5, k, rfl, g0, g1, g2, g3, g4, g5⟩
end
theorem evFields : ∃ f0 f1 f2 f3 f4 f5 : Field, Tryz.prog.underlying 47 = some (.struct #[f0, f1, f2, f3, f4, f5]) ∧ f0.offset = 0 ∧ f1.offset = 1 ∧ f2.offset = 2 ∧ f3.offset = 3 ∧ f4.offset = 4 ∧ f5.offset = 5 ∧ f0.type = 3 ∧ f1.type = 3 ∧ f2.type = 9 ∧ f3.type = 9 ∧ f4.type = 3 ∧ f5.type = 3 := ⟨_, _, _, _, _, _, Tryz.underlying47, rfl, rfl, rfl, rfl, rfl, rfl, rfl, rfl, rfl, rfl, rfl, rfl⟩
theorem six_event {H : Type} {enc : TypeId × Value → H} {W : World} {base : Nat} {spare : Nat → Bool} {held : Bool} {fuel : Nat} {v0 v1 v2 v3 v4 v5 : Value} {x : DataW H × List MemPlace}
  (h : DataW.trod enc Tryz.prog W base spare held fuel 47 [v0, v1, v2, v3, v4, v5] = some x) :
  ∃ e : EvM, [v0, v1, v2, v3, v4, v5] = evc e ∧ EFits e := by
 obtain ⟨f0, f1, f2, f3, f4, f5, he, o0, o1, o2, o3, o4, o5, t0, t1, t2, t3, t4, t5⟩ := evFields
 have ci : Tryz.prog.cellsOf 3 = 1 := by kernel_rfl
 have cs : Tryz.prog.cellsOf 9 = 1 := by kernel_rfl
 obtain ⟨y0, y1, y2, y3, y4, y5, n, hx, g0, g1, g2, g3, g4, g5⟩ := trod_six he o0 o1 o2 o3 o4 o5 (by rw [t0]; exact ci) (by rw [t1]; exact ci) (by rw [t2]; exact cs) (by rw [t3]; exact cs) (by rw [t4]; exact ci) (by rw [t5]; exact ci) h
 rw [t0] at g0
 rw [t1] at g1
 rw [t2] at g2
 rw [t3] at g3
 rw [t4] at g4
 rw [t5] at g5
 obtain ⟨z0, e0, _, w0⟩ := DataW.trod_int Tryz.underlying3 g0
 obtain ⟨z1, e1, _, w1⟩ := DataW.trod_int Tryz.underlying3 g1
 obtain ⟨z2, e2, _, w2⟩ := DataW.trod_string Tryz.underlying9 g2
 obtain ⟨z3, e3, _, w3⟩ := DataW.trod_string Tryz.underlying9 g3
 obtain ⟨z4, e4, _, w4⟩ := DataW.trod_int Tryz.underlying3 g4
 obtain ⟨z5, e5, _, w5⟩ := DataW.trod_int Tryz.underlying3 g5
 simp at e0 e1 e2 e3 e4 e5
 subst e0 e1 e2 e3 e4 e5
 exact ⟨⟨z0, z1, z2, z3, z4, z5⟩, rfl, ⟨w2, w3⟩⟩
set_option maxRecDepth 100000 in
/-- a row of events that came in -/
theorem open_events {H : Type} {enc : TypeId × Value → H} {W : World} {base : Nat} {v : Value} {d : DataW H} {p : List MemPlace}
  (hok : Value.okWide Tryz.prog W .any base 28 v) (h : DataW.Trod enc Tryz.prog W 0 (fun _ => true) true 28 v d p) :
  ∃ (a : Option Addr) (c : Nat) (l : List EvM), v = .slice a l.length c ∧ EvSl W a l ∧ FitsV l ∧ l.length ≤ c ∧ c ≤ maxLen ∧ (a = none → c = 0) := by
 obtain ⟨a0, len, cap, rfl⟩ := okWide_slice Tryz.underlying28 hok
 obtain ⟨fuel, hf⟩ := h
 have ce : Tryz.prog.cellsOf 47 = 6 := by kernel_rfl
 rcases Go.Deep.open_slice Tryz.underlying28 hf with ⟨hcs, _⟩ | ⟨a, len', cap', m, n, D, Pl, hcs, hb, hl, hm, hmm, hd, hx⟩
 ·simp [Value.cells] at hcs
  obtain ⟨rfl, rfl, rfl⟩ := hcs
  exact ⟨none, 0, [], rfl, EvSl.nil _ _, fun o ho => by (cases ho), by simp, by decide, fun _ => rfl⟩
 ·simp [Value.cells] at hcs
  obtain ⟨rfl, rfl, rfl⟩ := hcs
  have hlm : len ≤ m := by rw [hmm]; split <;> omega
  have each : ∀ i, i < len → ∃ x : EvM, (∀ j, j < 6 → W.cell? (a.add (i * 6 + j)) = (evc x)[j]?) ∧ EFits x := fun i hi => by
   obtain ⟨cs', h1, h2⟩ := hx i (by omega)
   rw [ce] at h1
   obtain ⟨_, hlen, hcell⟩ := World.cells?_some h1
   match cs', hlen with
   | [v0, v1, v2, v3, v4, v5], _ =>
    obtain ⟨x, hc, q1⟩ := six_event h2
    refine ⟨x, fun j hj => ?_, q1⟩
    have := hcell j (by omega)
    rw [Go.Deep.add_add] at this
    rw [this, ← hc]
  have some_x : ∃ f : Nat → EvM, ∀ i, i < len → (∀ j, j < 6 → W.cell? (a.add (i * 6 + j)) = (evc (f i))[j]?) ∧ EFits (f i) := by
   refine ⟨fun i => if h : i < len then (each i h).choose else ⟨0, 0, ⟨#[]⟩, ⟨#[]⟩, 0, 0⟩, fun i hi => ?_⟩
   simp only [hi, ↓reduceDIte]
   exact (each i hi).choose_spec
  obtain ⟨f, hf2⟩ := some_x
  have hlen : ((List.range len).map f).length = len := by simp
  refine ⟨some a, cap, (List.range len).map f, by rw [hlen], fun k hk => ?_, fun x hxm => ?_, by omega, hm, fun h => by cases h⟩
  ·rw [hlen] at hk
   obtain ⟨b, off, spot⟩ := a
   have h0 := (hf2 0 (by omega)).1 0 (by omega)
   have hspot : spot = none := by
    have h1 : W.cell? ((⟨b, off, spot⟩ : Addr).add 0) = some (.int .i64 (f 0).kind) := h0
    simpa [Addr.add] using World.cell?_spot h1
   subst hspot
   have g := (hf2 k hk).1
   refine ⟨b, off, rfl, ?_, fun i hi => ?_⟩
   ·have h1 := g 0 (by omega)
    rw [Go.WideShapes.add_plain] at h1
    exact World.block_lt_of_cell? W ⟨b, off + (k * 6 + 0), none⟩ (h1.trans rfl)
   ·have h1 := g i hi
    rw [Go.WideShapes.add_plain] at h1
    rw [Nat.add_assoc, h1]
    simp only [List.getElem_map, List.getElem_range]
  ·obtain ⟨i, hi, rfl⟩ := List.mem_map.1 hxm
   exact (hf2 i (List.mem_range.1 hi)).2
end Go.Proofs.YtapacckmgmdnoaaGreat
namespace Go.Proofs.YtapacckmgmdnoaaGreat
open Go.RowKit Go.Proofs
set_option linter.unusedVariables false
set_option maxRecDepth 100000
set_option maxRecDepth 100000
section
variable {M : SaM} (x y : SaL) (V : World) (h : SaAt V x) (k : SaAt V y) (hm : x.m = M) (km : y.m = M)
include h hm
include k km
theorem g_same (hf : Few M 900) : Calls Tryz.prog 35 #[saV x, saV y] V fun r w' => r = .returned (.bool true) ∧ Below V.heap.size V w' := by
 subst hm
 have := same_any11 x y V h k hf (by rw [km]; exact hf)
 rwa [(sameS_iff _ _).2 km.symm] at this
end
def erV (s : SaM) (e : EvM) : Int := errS s e.kind e.at_ e.n e.status e.user e.other
def teV (s : SaM) (e : EvM) : SaM := tellS s e.kind e.at_ e.n e.status e.user e.other
theorem te_ok {s : SaM} {e : EvM} (h : RightS s) (he : erV s e = 0) : RightS (teV s e) ∧ stCnt (teV s e) ≤ stCnt s + 1 ∧ teV s e = goS s e.kind e.at_ e.n e.status e.user e.other := by
 have h1 : teV s e = goS s e.kind e.at_ e.n e.status e.user e.other := by unfold teV tellS; exact if_pos he
 rw [h1]
 exact ⟨right_go h he, cnt_go _ _ _ _ _ _ _, rfl⟩
theorem g_apply {M : SaM} (x : SaL) (e : EvM) (V : World) (h : SaAt V x) (hm : x.m = M) (hr : RightS M) (hc : stCnt M ≤ 200) (hw : EFits e) : Calls Tryz.prog 62 #[saV x, evV e] V (Tells V (teV M e) (erV M e)) := by
 subst hm
 exact apply_any x e.kind e.at_ e.n e.status e.user e.other V h hr hc hw.1 hw.2
end Go.Proofs.YtapacckmgmdnoaaGreat
