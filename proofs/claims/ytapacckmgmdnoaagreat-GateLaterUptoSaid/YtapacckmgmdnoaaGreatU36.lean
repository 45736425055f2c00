/- Texts of mine, one behind the other, of each what is wanted. -/
import Derived.Test.YtapacckmgmdnoaaGreatU00
import Derived.Test.YtapacckmgmdnoaaGreatShelf
import Derived.Test.YtapacckmgmdnoaaGreatRows
import Derived.Test.YtapacckmgmdnoaaGreatU01
import Derived.Test.YtapacckmgmdnoaaGreatU02
import Derived.Test.YtapacckmgmdnoaaGreatU04
import Derived.Test.YtapacckmgmdnoaaGreatU07
import Derived.Test.YtapacckmgmdnoaaGreatU09
import Derived.Test.YtapacckmgmdnoaaGreatU11
import Derived.Test.YtapacckmgmdnoaaGreatU16
import Derived.Test.YtapacckmgmdnoaaGreatU21
import Derived.Test.YtapacckmgmdnoaaGreatU22
import Derived.Test.YtapacckmgmdnoaaGreatU23
import Derived.Test.YtapacckmgmdnoaaGreatU27
import Derived.Test.YtapacckmgmdnoaaGreatU28
import Derived.Test.YtapacckmgmdnoaaGreatU30
import Derived.Test.YtapacckmgmdnoaaGreatU32
import Derived.Test.YtapacckmgmdnoaaGreatU33
import Derived.Test.YtapacckmgmdnoaaGreatU35
namespace Go.Proofs.YtapacckmgmdnoaaGreat
open Go.RowKit Go.Proofs
set_option linter.unusedVariables false
set_option maxRecDepth 100000
set_option maxRecDepth 100000
theorem noT_iff (s : ByteArray) : noT s = true ↔ s = ⟨#[]⟩ := by
 unfold noT
 rw [beq_iff_eq]
 constructor
 ·intro h
  rw [show (⟨#[]⟩ : ByteArray) = tx [] from rfl, toList_tx, ByteArray.toList_eq] at h
  rcases s with ⟨d⟩
  exact congrArg ByteArray.mk (Array.toList_eq_nil_iff.1 h)
 ·rintro rfl; rfl
theorem inB_iff (a b n : Int) : inB a b n = true ↔ a ≤ n ∧ n ≤ b := by unfold inB; simp
theorem nameB_nil : nameB ⟨#[]⟩ = false := by decide
theorem rightE_iff (k a n st : Int) (u o : ByteArray) : rightE ⟨k, a, u, o, n, st⟩ = true ↔ RightV k a n st u o := by
 unfold rightE RightV
 dsimp only
 have hcase : k = 1 ∨ k = 2 ∨ k = 3 ∨ k = 7 ∨ k = 4 ∨ k = 5 ∨ k = 6 ∨ (k < 1 ∨ 7 < k) := by omega
 have hn : ∀ s, isN s = nameB s := fun _ => rfl
 rcases hcase with rfl | rfl | rfl | rfl | rfl | rfl | rfl | hk
 all_goals try (by_cases hA : nameB u = true <;> by_cases hB : nameB o = true <;> by_cases hC : o = ⟨#[]⟩ <;> by_cases hD : u = ⟨#[]⟩ <;> simp [shK, isK, rText, Bool.and_eq_true, inB_iff, hn, noT_iff, hA, hB, hC, hD, nameB_nil] <;> (try omega))
theorem behind_any (x : SaL) (k a n st : Int) (u o : ByteArray) (w : World) (h : SaAt w x) (hf : Few x.m 400) (hk : RiseK UsM.u (umS x.us)) (ht : RiseK TbM.u x.tb) (h7 : 1 ≤ k ∧ k ≤ 7) :
  Calls Tryz.prog 134 #[saV x, evV ⟨k, a, u, o, n, st⟩] w (Told w x (errK x.m k a n st u o) { goS x.m k a n st u o with now := x.now }) := by
 have hcase : k = 1 ∨ k = 2 ∨ k = 3 ∨ k = 4 ∨ k = 5 ∨ k = 6 ∨ k = 7 := by omega
 rcases hcase with rfl | rfl | rfl | rfl | rfl | rfl | rfl
 ·exact behind1 x a n st u o w h hf hk ht
 ·exact behind2 x a n st u o w h hf hk ht
 ·exact behind3 x a n st u o w h hf hk ht
 ·exact behind4 x a n st u o w h hf hk ht
 ·exact behind5 x a n st u o w h hf hk ht
 ·exact behind6 x a n st u o w h hf hk ht
 ·exact behind7 x a n st u o w h hf hk ht
theorem few_of {s : SaM} (h : RightS s) {n : Nat} (hc : stCnt s ≤ n) : Few s n := by
 have hu : ∀ l : List UsM, (∀ x ∈ l, x.l ≠ []) → l.length ≤ cntU l ∧ ∀ x ∈ l, x.l.length ≤ cntU l := by
  intro l
  induction l with
  | nil => intro _; exact ⟨Nat.zero_le _, fun x hx => by cases hx⟩
  | cons y l ih =>
   intro hl
   obtain ⟨h1, h2⟩ := ih fun x hx => hl x (List.mem_cons_of_mem _ hx)
   have h3 : 0 < y.l.length := List.length_pos_iff.2 (hl y (List.mem_cons_self ..))
   rw [cntU_cons]
   refine ⟨by rw [List.length_cons]; omega, fun x hx => ?_⟩
   rcases List.mem_cons.1 hx with rfl | hx
   ·omega
   ·have := h2 x hx; omega
 obtain ⟨h1, h2⟩ := hu s.us fun x hx => (h.us x hx).2.1
 unfold stCnt at hc
 exact ⟨by omega, by omega, by omega, by omega, fun x hx => by have := h2 x hx; omega⟩
theorem Few.mono {s : SaM} {a b : Nat} (h : Few s a) (hab : a ≤ b) : Few s b := ⟨Nat.le_trans h.op hab, Nat.le_trans h.us hab, Nat.le_trans h.su hab, Nat.le_trans h.tb hab, fun x hx => Nat.le_trans (h.st x hx) hab⟩
theorem errK_one (s : SaM) (k a n st : Int) (u o : ByteArray) : errK s k a n st u o = 0 ∨ errK s k a n st u o = 90 ∨ errK s k a n st u o = 91 ∨ errK s k a n st u o = 100 ∨ errK s k a n st u o = 101 ∨ errK s k a n st u o = 102 ∨ errK s k a n st u o = 103 := by
 unfold errK openC
 rcases fc_three s.op n u with ⟨h1, _⟩ | ⟨h1 | h1, _⟩
 all_goals
  rw [h1]
  repeat' split
  all_goals simp
theorem goS_now (s : SaM) (k a n st : Int) (u o : ByteArray) : (goS s k a n st u o).now = a := by
 unfold goS
 repeat' split
 all_goals rfl
def Tells (w : World) (s : SaM) (er : Int) (r : Ending) (w' : World) : Prop := ∃ y, r = .returned (.tuple #[saV y, .int .i64 er]) ∧ SaAt w' y ∧ y.m = s ∧ Below w.heap.size w w'
theorem SB.finZ {w T : World} {r : Nat} {t : TypeId} {z : SaL} (hZ : SB w r t z T) : (loadVar 39 ⟨r, 0, none⟩).run Tryz.prog ((((((T.setCell ⟨r, 0, none⟩ (.int .i64 0)).setCell ⟨r, 1, none⟩ (.int .i64 0)).setCell ⟨r, 2, none⟩ (.slice none 0 0)).setCell ⟨r, 3, none⟩ (.slice none 0 0)).setCell ⟨r, 4, none⟩ (.slice none 0 0)).setCell ⟨r, 5, none⟩ (.slice none 0 0)) = .ok (.agg #[.int .i64 0, .int .i64 0, .slice none 0 0, .slice none 0 0, .slice none 0 0, .slice none 0 0]) ((((((T.setCell ⟨r, 0, none⟩ (.int .i64 0)).setCell ⟨r, 1, none⟩ (.int .i64 0)).setCell ⟨r, 2, none⟩ (.slice none 0 0)).setCell ⟨r, 3, none⟩ (.slice none 0 0)).setCell ⟨r, 4, none⟩ (.slice none 0 0)).setCell ⟨r, 5, none⟩ (.slice none 0 0)) ∧ SaAt (setS T r saO) saO ∧ Below w.heap.size w (setS T r saO) := by
 have h := SB.finV (SaAt.zero T) hZ
 have h1 := h.1
 unfold setS saV saC saO at h1
 simp only [List.length_nil] at h1
 exact ⟨h1, h.2⟩
set_option maxHeartbeats 8000000 in
theorem apply_any (x : SaL) (k a n st : Int) (u o : ByteArray) (w : World) (h : SaAt w x) (hr : RightS x.m) (hc : stCnt x.m ≤ 200) (hu : u.size ≤ maxLen) (ho : o.size ≤ maxLen) :
  Calls Tryz.prog 62 #[saV x, evV ⟨k, a, u, o, n, st⟩] w (Tells w (tellS x.m k a n st u o) (errS x.m k a n st u o)) := by
 obtain ⟨HK, HE, HZ⟩ := three_SB h ⟨k, a, u, o, n, st⟩ 39 64 39
 have HR := Lib.hid (fun V => evright_any ⟨k, a, u, o, n, st⟩ ⟨hu, ho⟩ V)
 have HS := Lib.hid HK
 have HZZ := Lib.hid HZ
 have HEE := Lib.hid HE
 by_cases hv : RightV k a n st u o
 ·rw [(rightE_iff k a n st u o).2 hv] at HR
  by_cases hlt : a < x.now
  ·-- a time that is past
   have he : errS x.m k a n st u o = 111 := by unfold errS; rw [if_pos hv, if_pos (show a < x.m.now from hlt)]
   have ht : tellS x.m k a n st u o = saZ := by unfold tellS; rw [he, if_neg (by decide)]
   rw [he, ht]
   obtain ⟨⟨e0, e1, e2, e3, e4, e5⟩, -⟩ := cells6 HE.blk
   obtain ⟨now, hor, oa, op, oc, ua, us, uc, sa, su, sc, ta, tb, tc⟩ := x
   unfold saV evV saC at *
   dsimp only at *
   clear h hr hc HK HZ HE
   go_enter Tryz.func62, Tryz.ntmps62
   go_wp2_with fail
   refine (HR.out _).mono ?_
   rintro e w1 ⟨rfl, h1⟩
   have B1 := HZZ.out.below h1
   have A1 := HS.out.below h1
   have hfin := B1.finZ
   clear e0 e1 e2 e3 e4 e5
   obtain ⟨⟨e0, e1, e2, e3, e4, e5⟩, -⟩ := cells6 (HEE.out.below h1).blk
   obtain ⟨c0, c1, c2, c3, c4, c5⟩ := A1.cells
   obtain ⟨z0, z1, z2, z3, z4, z5⟩ := B1.cells
   obtain ⟨y0, y1, y2, y3, y4, y5⟩ := B1.free
   have hzl := B1.lt
   have HL := Lib.hid hfin.1
   have HFN := Lib.hid hfin.2
   unfold saO at z0 z1 z2 z3 z4 z5
   dsimp only at *
   clear HS HZZ HEE A1 B1 hfin h1 HR
   go_wp2
   refine bodyPost_ret (v := .tuple #[saV saO, .int .i64 111]) ?_ rfl ⟨_, rfl, HFN.out.1, rfl, HFN.out.2⟩
   rw [results_cellT rfl]
   unfold saV saC saO
   simp [asAddr, Result.andThen, HL.out]
  ·-- what the event does
   have h7 : 1 ≤ k ∧ k ≤ 7 := by
    obtain ⟨_, _, hh⟩ := hv
    omega
   have hf := few_of hr hc
   have HB := Lib.hid (fun V (h : SaAt V x) => behind_any x k a n st u o V h (hf.mono (by decide)) hr.ur hr.tr h7)
   have hes : errS x.m k a n st u o = errK x.m k a n st u o := by unfold errS; rw [if_pos hv, if_neg (show ¬ a < x.m.now from hlt)]
   have hgo : errK x.m k a n st u o = 0 → Few (goS x.m k a n st u o) 10000 := fun he => (few_of (right_go hr (hes.trans he)) (cnt_go x.m k a n st u o)).mono (by omega)
   have htz : errK x.m k a n st u o ≠ 0 → tellS x.m k a n st u o = saZ := fun he => by unfold tellS; rw [hes, if_neg he]
   have htg : errK x.m k a n st u o = 0 → tellS x.m k a n st u o = goS x.m k a n st u o := fun he => by unfold tellS; rw [hes, if_pos he]
   have hnow := goS_now x.m k a n st u o
   rw [hes]
   have hone := errK_one x.m k a n st u o
   generalize errK x.m k a n st u o = er at *
   generalize goS x.m k a n st u o = G at *
   generalize tellS x.m k a n st u o = R at *
   obtain ⟨⟨e0, e1, e2, e3, e4, e5⟩, -⟩ := cells6 HE.blk
   obtain ⟨now, hor, oa, op, oc, ua, us, uc, sa, su, sc, ta, tb, tc⟩ := x
   unfold saV evV saC at *
   dsimp only at *
   clear h hr hc HK HZ HE hf hv
   go_enter Tryz.func62, Tryz.ntmps62
   go_wp2_with fail
   refine (HR.out _).mono ?_
   rintro e w1 ⟨rfl, h1⟩
   have B1 := Lib.hid (HZZ.out.below h1)
   have A1 := Lib.hid (HS.out.below h1)
   have E1 := Lib.hid (HEE.out.below h1)
   clear e0 e1 e2 e3 e4 e5
   obtain ⟨⟨e0, e1, e2, e3, e4, e5⟩, -⟩ := cells6 E1.out.blk
   obtain ⟨c0, c1, c2, c3, c4, c5⟩ := A1.out.cells
   dsimp only at *
   clear HS HZZ HEE h1 HR
   go_wp2_with fail
   refine (HB.out _ A1.out.at_).mono ?_
   rintro e w2 ⟨y, rfl, y1, y2, h2⟩
   have B2 := Lib.hid (B1.out.below h2)
   have E2 := Lib.hid (E1.out.below h2)
   obtain ⟨now1, hor1, oa1, op1, oc1, ua1, us1, uc1, sa1, su1, sc1, ta1, tb1, tc1⟩ := y
   unfold saV saC at *
   dsimp only at *
   clear e0 e1 e2 e3 e4 e5 c0 c1 c2 c3 c4 c5
   obtain ⟨⟨e0, e1, e2, e3, e4, e5⟩, -⟩ := cells6 E2.out.blk
   have hel := heap_lt E2.out.blk
   by_cases he : er = 0
   ·have y3 := y2 he
    have hR := htg he
    subst hR
    have hy : SaAt w2 ⟨a, hor1, oa1, op1, oc1, ua1, us1, uc1, sa1, su1, sc1, ta1, tb1, tc1⟩ := ⟨y1.op, y1.us, y1.su, y1.tb, y1.oc, y1.uc, y1.sc, y1.tc⟩
    have hym : (⟨a, hor1, oa1, op1, oc1, ua1, us1, uc1, sa1, su1, sc1, ta1, tb1, tc1⟩ : SaL).m = R := by
     unfold SaL.m at y3 ⊢
     obtain ⟨Gn, Gh, Go, Gu, Gs, Gt⟩ := R
     simp only at y3 hnow ⊢
     injection y3 with _ g1 g2 g3 g4 g5
     rw [hnow, g1, g2, g3, g4, g5]
    have HC := Lib.hid (fun V (q : Below w2.heap.size w2 V) => copied_any _ V (hy.below q) (hym.symm ▸ hgo he))
    rw [hym] at HC
    unfold saV saC at HC
    subst he
    dsimp only at *
    clear A1 E1 B1 E2 HB htz htg hgo hnow y1 y2 y3 hy hym h2 hlt h7 hes hone
    go_wp2_with fail
    refine (HC.out _ (below_one _ _)).mono ?_
    rintro e w3 ⟨z, rfl, z1, z2, h3⟩
    have B3 := (B2.out.below (below_one w2 _)).below h3
    have hfin := SB.finV z1 B3
    clear e0 e1 e2 e3 e4 e5 hel
    obtain ⟨c0, c1, c2, c3, c4, c5⟩ := B3.cells
    obtain ⟨f0, f1, f2, f3, f4, f5⟩ := B3.free
    have hzl := B3.lt
    have HL := Lib.hid hfin.1
    have HFN := Lib.hid (And.intro hfin.2.1 (And.intro z2 hfin.2.2))
    obtain ⟨now2, hor2, oa2, op2, oc2, ua2, us2, uc2, sa2, su2, sc2, ta2, tb2, tc2⟩ := z
    unfold setS saV saC at HL
    unfold saV saC at *
    unfold saO at c0 c1 c2 c3 c4 c5
    dsimp only at *
    clear B2 B3 hfin z1 z2 h3 HC
    go_wp2
    refine bodyPost_ret (v := .tuple #[saV ⟨now2, hor2, oa2, op2, oc2, ua2, us2, uc2, sa2, su2, sc2, ta2, tb2, tc2⟩, .int .i64 0]) ?_ rfl ⟨_, rfl, HFN.out⟩
    rw [results_cellT rfl]
    unfold saV saC
    simp [asAddr, Result.andThen, HL.out]
   ·have hR := htz he
    subst hR
    have B3 := B2.out.below (below_one w2 (.cells #[.int .i64 now1, .int .i64 hor1, .slice oa1 op1.length oc1, .slice ua1 us1.length uc1, .slice sa1 su1.length sc1, .slice ta1 tb1.length tc1] 39))
    have hfin := B3.finZ
    have HB3 := Lib.hid B3
    have HL := Lib.hid hfin.1
    have HFN := Lib.hid hfin.2
    clear A1 E1 B1 E2 HB htz htg hgo hnow y1 y2 h2 hlt h7 hes B2 B3 hfin
    rcases hone with h9 | h9 | h9 | h9 | h9 | h9 | h9
    ·exact absurd h9 he
    all_goals
     clear he
     subst h9
     go_upto_region 7 with fail
     clear e0 e1 e2 e3 e4 e5 hel
     generalize hW : w2.alloc _ = W3 at *
     clear hW
     obtain ⟨z0, z1, z2, z3, z4, z5⟩ := HB3.out.cells
     obtain ⟨f0, f1, f2, f3, f4, f5⟩ := HB3.out.free
     have hzl := HB3.out.lt
     unfold saO at z0 z1 z2 z3 z4 z5
     dsimp only at *
     clear HB3
     go_wp2
     refine bodyPost_ret (v := .tuple #[saV saO, .int .i64 _]) ?_ rfl ⟨_, rfl, HFN.out.1, rfl, HFN.out.2⟩
     rw [results_cellT rfl]
     unfold saV saC saO
     simp [asAddr, Result.andThen, HL.out]
 ·have he : errS x.m k a n st u o = 110 := by unfold errS; rw [if_neg hv]
  have ht : tellS x.m k a n st u o = saZ := by unfold tellS; rw [he, if_neg (by decide)]
  rw [he, ht]
  have hE : rightE ⟨k, a, u, o, n, st⟩ = false := Bool.eq_false_iff.2 fun e => hv ((rightE_iff k a n st u o).1 e)
  rw [hE] at HR
  obtain ⟨⟨e0, e1, e2, e3, e4, e5⟩, -⟩ := cells6 HE.blk
  obtain ⟨now, hor, oa, op, oc, ua, us, uc, sa, su, sc, ta, tb, tc⟩ := x
  unfold saV evV saC at *
  dsimp only at *
  clear h hr hc HK HZ HE
  go_enter Tryz.func62, Tryz.ntmps62
  go_wp2_with fail
  refine (HR.out _).mono ?_
  rintro e w1 ⟨rfl, h1⟩
  have B1 := HZZ.out.below h1
  have hfin := B1.finZ
  clear e0 e1 e2 e3 e4 e5
  obtain ⟨z0, z1, z2, z3, z4, z5⟩ := B1.cells
  obtain ⟨y0, y1, y2, y3, y4, y5⟩ := B1.free
  have hzl := B1.lt
  have HL := Lib.hid hfin.1
  have HFN := Lib.hid hfin.2
  unfold saO at z0 z1 z2 z3 z4 z5
  dsimp only at *
  clear HS HZZ HEE B1 hfin h1 HR
  go_wp2
  refine bodyPost_ret (v := .tuple #[saV saO, .int .i64 110]) ?_ rfl ⟨_, rfl, HFN.out.1, rfl, HFN.out.2⟩
  rw [results_cellT rfl]
  unfold saV saC saO
  simp [asAddr, Result.andThen, HL.out]
theorem staysO_few (l : List OpM) (u : ByteArray) (t : Int) {n : Nat} (h : l.length ≤ n) : (staysO l u t).length ≤ n := by
 have := staysO_len l u t l.length
 rw [List.take_length] at this
 omega
theorem ofU_few {s : SaM} {n : Nat} (h : Few s n) (u : ByteArray) : (ofU s.us u).length ≤ n := by
 rcases ofU_cases s.us u with h1 | h1
 ·rw [h1]; exact Nat.zero_le _
 ·exact h.st _ h1
set_option maxHeartbeats 8000000 in
theorem stays_any11 (x : SaL) (u : ByteArray) (t : Int) (w : World) (h : SaAt w x) (hf : Few x.m 400) :
  Calls Tryz.prog 39 #[saV x, .string u, .int .i64 t] w fun e w' => ∃ a q, e = .returned (.slice a (staysS x.m u t).length q) ∧ StSl w' a (staysS x.m u t) ∧ Below w.heap.size w w' := by
 have HK := SB.new (Below.refl w.heap.size w) h 39
 have hol : (ofU x.m.us u).length ≤ 400 := ofU_few hf u
 have hsl : (staysO x.m.op u t).length ≤ 400 := staysO_few _ _ _ hf.op
 have HSO := Lib.hid (fun V (h : UsSl V x.ua x.us) => staysOf_any x.ua x.uc x.us u V h (by have := hf.us; unfold SaL.m at this; simp only at this; rw [umS_len] at this; omega))
 have HOS := Lib.hid (fun V (h : OpSl V x.oa x.op) => o_stays x.oa x.oc x.op u t V h (Nat.le_trans hf.op (by decide)))
 have HCL := Lib.hid (fun V a c (h : StSl V a (ofU x.m.us u)) (k : Cp a (ofU x.m.us u).length c) => clone_st a c (ofU x.m.us u) V h k (by omega))
 have HAN := Lib.hid (fun j (hj : j < (staysO x.m.op u t).length) => addsS_next (staysO x.m.op u t) (ofU x.m.us u) j hj)
 have HAL := Lib.hid (fun j => addsS_len ((staysO x.m.op u t).take j) (ofU x.m.us u))
 have HAD := Lib.hid (fun V a c (l : List StM) (s : StM) (h : StSl V a l) (k : Cp a l.length c) (hl : l.length ≤ 1000) => add8_any a c l s V h k.nil hl k.le k.mx)
 have HS := Lib.hid HK
 obtain ⟨c0, c1, c2, c3, c4, c5⟩ := HK.cells
 rw [show staysS x.m u t = addsS (staysO x.m.op u t) (ofU x.m.us u) from rfl]
 rw [show umS x.us = x.m.us from rfl] at HSO
 rw [show x.op = x.m.op from rfl] at HOS c2
 generalize hL : staysO x.m.op u t = L at *
 generalize ofU x.m.us u = O at *
 obtain ⟨now, hor, oa, op, oc, ua, us, uc, sa, su, sc, ta, tb, tc⟩ := x
 unfold saV saC stV at *
 dsimp only at *
 clear h hf HK hL
 go_enter Tryz.func39, Tryz.ntmps39
 go_wp2_with fail
 refine (HSO.out _ HS.out.at_.us).mono ?_
 rintro e w1 ⟨x1, q1, rfl, l1, k1, h1⟩
 have A1 := Lib.hid (HS.out.below h1)
 have L1 := Lib.hid l1
 clear c0 c1 c2 c3 c4 c5 h1 l1 HS HSO
 go_wp2_with fail
 refine (HCL.out _ _ _ L1.out k1).mono ?_
 rintro e w2 ⟨v2, rfl, o2, h2⟩
 obtain ⟨x2, q2, rfl, i2, j2, k2, l2⟩ := own_st o2
 have A2 := Lib.hid (A1.out.below h2)
 have L2 := Lib.hid k2
 obtain ⟨c0, c1, c2, c3, c4, c5⟩ := A2.out.cells
 dsimp only at *
 clear A1 L1 HCL k1 h2 o2 k2
 go_wp2_with fail
 refine (HOS.out _ A2.out.at_.op).mono ?_
 rintro e w3 ⟨x3, q3, rfl, i3, j3, k3, l3, h3⟩
 have L3 := Lib.hid (L2.out.below h3)
 have M3 := Lib.hid l3
 have B3 := Lib.hid (A2.out.frame.trans (h3.mono A2.out.frame.size))
 have C2 := Lib.hid (Cp.mk i2 j2 l2)
 clear c0 c1 c2 c3 c4 c5 A2 L2 HOS i2 j2 l2 i3 j3 k3 l3 h3
 go_wp2
 go_loopw [7, 21] (fun v iv wr => ∃ (j : Nat) (a : Option Addr) (c : Nat), j ≤ L.length ∧ iv = .int .i64 j ∧ v = .slice a (addsS (L.take j) O).length c ∧ Hid (StSl wr a (addsS (L.take j) O)) ∧ Hid (Cp a (addsS (L.take j) O).length c) ∧ Hid (Below w3.heap.size w3 wr)) (fun _ iv _ => L.length - (intOf iv).toNat)
 case atStart => exact ⟨0, _, _, by omega, rfl, rfl, L3.out, C2.out, Below.refl _ _⟩
 case round =>
  clear L3 C2
  obtain ⟨j, a, c, hj, rfl, rfl, HR, HC, HB⟩ := hrel
  by_cases hjl : j < L.length
  ·obtain ⟨b, off, rfl, hbl, r0, r1, r2, r3⟩ := (M3.out.below HB.out) j hjl
   have hb1 := below_one wr (.cells #[.int .i64 L[j].f, .int .i64 L[j].t, .int .i64 L[j].n, .int .i64 L[j].s] 111)
   have HN := Lib.hid (HAN.out j hjl)
   have hal := HAL.out j
   have hal2 : (L.take j).length ≤ 400 := by rw [List.length_take]; omega
   have HAJ := Lib.hid (HAD.out _ a c (addsS (L.take j) O) L[j] (HR.out.below hb1) HC.out (by omega))
   have HB1 := Lib.hid (HB.out.trans (hb1.mono HB.out.size))
   clear hb1 HAN HAL HAD HR HC HB hal hal2
   generalize addsS (L.take j) O = R at *
   generalize L[j] = s at *
   go_wp2_with fail
   refine HAJ.out.mono ?_
   rintro e w4 ⟨v4, rfl, o4, h4⟩
   obtain ⟨x4, q4, rfl, i4, j4, k4, l4⟩ := own_st o4
   have HB2 := Lib.hid (HB1.out.trans (h4.mono HB1.out.size))
   have HC2 := Lib.hid (Cp.mk i4 j4 l4)
   have HS4 := Lib.hid k4
   clear HAJ HB1 h4 o4 i4 j4 k4 l4 r0 r1 r2 r3
   go_wp2
   go_roundw
   case rel => exact ⟨j + 1, x4, q4, by omega, by go_num, by rw [HN.out], (by unfold Hid; rw [HN.out]; exact HS4.out), (by unfold Hid; rw [HN.out]; exact HC2.out), HB2.out⟩
   case measure => simp [intOf]; omega
  ·obtain rfl : j = L.length := by omega
   rw [List.take_length] at HR HC
   rw [List.take_length]
   have HF := Lib.hid (B3.out.trans (HB.out.mono B3.out.size))
   clear HAN HAL HAD HC HB B3 M3
   go_wp2
   go_ret
   exact ⟨a, c, rfl, HR.out, HF.out⟩
end Go.Proofs.YtapacckmgmdnoaaGreat
namespace Go.Proofs.YtapacckmgmdnoaaGreat
open Go.RowKit Go.Proofs
set_option linter.unusedVariables false
set_option maxRecDepth 100000
def GTold (s : SaM) (q : AskM) (m : List StM) : Prop := (whyV s q.w q.u q.n = 0 → IsRange s q.w q.u q.f q.t q.n m) ∧ (whyV s q.w q.u q.n ≠ 0 → m = [])
theorem GTold.no {s : SaM} {q : AskM} (h : whyV s q.w q.u q.n ≠ 0) : GTold s q [] := ⟨fun k => absurd k h, fun _ => rfl⟩
theorem SQ.cells {w W : World} {g k : Nat} {T U : TypeId} {x : SaL} {q : AskM} (h : SQ w g k T U x q W) : W.cell? ⟨g, 0, none⟩ = some (.int .i64 x.now) ∧ W.cell? ⟨g, 1, none⟩ = some (.int .i64 x.hor) ∧ W.cell? ⟨g, 2, none⟩ = some (.slice x.oa x.op.length x.oc) ∧ W.cell? ⟨g, 3, none⟩ = some (.slice x.ua x.us.length x.uc) ∧ W.cell? ⟨g, 4, none⟩ = some (.slice x.sa x.su.length x.sc) ∧ W.cell? ⟨g, 5, none⟩ = some (.slice x.ta x.tb.length x.tc) ∧ W.cell? ⟨k, 0, none⟩ = some (.string q.w) ∧ W.cell? ⟨k, 1, none⟩ = some (.string q.u) ∧ W.cell? ⟨k, 2, none⟩ = some (.int .i64 q.f) ∧ W.cell? ⟨k, 3, none⟩ = some (.int .i64 q.t) ∧ W.cell? ⟨k, 4, none⟩ = some (.int .i64 q.n) :=
 ⟨h.s.cells.1, h.s.cells.2.1, h.s.cells.2.2.1, h.s.cells.2.2.2.1, h.s.cells.2.2.2.2.1, h.s.cells.2.2.2.2.2, h.q.cells⟩
theorem stays_few13 {s : SaM} {n : Nat} (h : Few s n) (u : ByteArray) (t : Int) : (staysS s u t).length ≤ n + n := by
 have h1 := (stays_perm s u t).length_eq
 rw [List.length_append] at h1
 have h2 := ofU_few h u
 have h3 : (rawO s.op u t).length ≤ s.op.length := by
  unfold rawO
  rw [List.length_map]
  exact List.length_filter_le _ _
 have := h.op
 omega
set_option maxHeartbeats 4000000 in
theorem range_any13 (x : SaL) (q : AskM) (w : World) (h : SaAt w x) (hf : Few x.m 200) (hw : q.w.size ≤ maxLen) (hu : q.u.size ≤ maxLen) :
  Calls Tryz.prog 48 #[saV x, askV q] w fun e w' => ∃ y c m, e = .returned (.tuple #[.slice y m.length c, .int .i64 (whyV x.m q.w q.u q.n)]) ∧ GTold x.m q m ∧ m.length ≤ 90000 ∧ StSl w' y m ∧ Below w.heap.size w w' := by
 have SS := SQ.new w q h 39 92
 have HS := Lib.hid SS
 have HV : Hid (whyV x.m q.w q.u q.n = if nameB q.w = true ∧ nameB q.u = true then (if q.n < x.now ∨ 1099511627776 ≤ q.n then 130 else 0) else 1) := rfl
 have HR : Hid (∀ (b : Bool) V, (nameB q.w && nameB q.u) = b → Calls Tryz.prog 99 #[.agg #[.string q.w, .string q.u]] V fun e w' => e = .returned (.bool b) ∧ Below V.heap.size V w') := fun b V h => by rw [← h]; exact pairRight_any q.w q.u V hw hu
 have HST := Lib.hid (fun V (h : SaAt V x) => stays_any11 x q.u q.n V h (hf.mono (by decide)))
 have HTO := Lib.hid (fun V (h : SaAt V x) => told_any13 x q V h (Nat.le_trans hf.su (by decide)))
 have hsl := stays_few13 hf q.u q.n
 have HC : Hid (∀ V a c y d (r : List SpM), StSl V a (staysS x.m q.u q.n) → SpSl V y r → IsSet (gateP x.m q.w q.u q.f q.t) r → r.length ≤ x.m.su.length + 1 → r.length ≤ d → d ≤ maxLen → Calls Tryz.prog 64 #[.slice a (staysS x.m q.u q.n).length c, .slice y r.length d] V fun e w' => ∃ z p m, e = .returned (.slice z m.length p) ∧ IsRange x.m q.w q.u q.f q.t q.n m ∧ m.length ≤ 90000 ∧ StSl w' z m ∧ Below V.heap.size V w') := fun V a c y d r h1 h2 h3 h4 h5 h6 => by
  have hsu := hf.su
  have hmul : (staysS x.m q.u q.n).length * r.length ≤ 400 * 201 := Nat.mul_le_mul (by omega) (by omega)
  refine (cut_any a c _ y d r V h1 h2 (by omega) (by omega) h5 h6 (by omega)).mono ?_
  rintro e w' ⟨v, m, rfl, k1, k2, ho, hb⟩
  obtain ⟨z, p, rfl, _, _, k3, _⟩ := own_st ho
  exact ⟨z, p, m, rfl, IsCut.congr k1 h3.2, by omega, k3, hb⟩
 have HF := Lib.hid SS.s.frame
 have HTN : Hid (whyV x.m q.w q.u q.n ≠ 0 → GTold x.m q []) := GTold.no
 have HTY : Hid (∀ m, whyV x.m q.w q.u q.n = 0 → IsRange x.m q.w q.u q.f q.t q.n m → GTold x.m q m) := fun m h k => ⟨fun _ => k, fun h' => absurd h h'⟩
 generalize GTold x.m q = TD at *
 generalize IsRange x.m q.w q.u q.f q.t q.n = RG at *
 generalize gateP x.m q.w q.u q.f q.t = P at *
 generalize whyV x.m q.w q.u q.n = Y at *
 generalize staysS x.m q.u q.n = L at *
 generalize x.m.su.length = n5 at *
 have HSC := Lib.hid (fun V (k : SQ w w.heap.size (w.heap.size + 1) 39 92 x q V) => k.cells)
 obtain ⟨c0, c1, c2, c3, c4, c5, a0, a1, a2, a3, a4⟩ := SS.cells
 obtain ⟨now, hor, oa, op, oc, ua, us, uc, sa, su, sc, ta, tb, tc⟩ := x
 obtain ⟨qw, qu, qf, qt, qn⟩ := q
 unfold saV saC askV askC at *
 dsimp only at *
 clear h SS hf hsl
 cases hb : (nameB qw && nameB qu)
 ·have hn1 : ¬ (nameB qw = true ∧ nameB qu = true) := by rw [← Bool.and_eq_true, hb]; decide
  have HY : Hid (Y = 1) := by unfold Hid; rw [HV.out, if_neg hn1]
  clear HV HST HTO HC HTY HSC hn1
  go_enter Tryz.func48, Tryz.ntmps48
  go_wp2_with fail
  refine (HR.out _ _ hb).mono ?_
  rintro e w1 ⟨rfl, h1⟩
  have HF1 := Lib.hid (HF.out.trans (h1.mono HF.out.size))
  clear c0 c1 c2 c3 c4 c5 a0 a1 a2 a3 a4 HR HS HF h1
  go_wp2
  go_ret2
  exact ⟨none, 0, [], by rw [HY.out]; rfl, HTN.out (by rw [HY.out]; decide), Nat.zero_le _, StSl.nil _ _, HF1.out⟩
 ·have hn1 : nameB qw = true ∧ nameB qu = true := by rw [← Bool.and_eq_true, hb]
  by_cases h3 : qn < now
  ·have HY : Hid (Y = 130) := by unfold Hid; rw [HV.out, if_pos hn1, if_pos (Or.inl h3)]
   clear HV HST HTO HC HTY HSC hn1
   go_enter Tryz.func48, Tryz.ntmps48
   go_wp2_with fail
   refine (HR.out _ _ hb).mono ?_
   rintro e w1 ⟨rfl, h1⟩
   have A1 := Lib.hid (HS.out.below h1)
   clear c0 c1 c2 c3 c4 c5 a0 a1 a2 a3 a4 HR HS HF h1
   obtain ⟨c0, c1, c2, c3, c4, c5, a0, a1, a2, a3, a4⟩ := A1.out.cells
   dsimp only at *
   go_wp2
   go_ret2
   exact ⟨none, 0, [], by rw [HY.out]; rfl, HTN.out (by rw [HY.out]; decide), Nat.zero_le _, StSl.nil _ _, A1.out.s.frame⟩
  ·by_cases h4 : 1099511627776 ≤ qn
   ·have HY : Hid (Y = 130) := by unfold Hid; rw [HV.out, if_pos hn1, if_pos (Or.inr h4)]
    clear HV HST HTO HC HTY HSC hn1
    go_enter Tryz.func48, Tryz.ntmps48
    go_wp2_with fail
    refine (HR.out _ _ hb).mono ?_
    rintro e w1 ⟨rfl, h1⟩
    have A1 := Lib.hid (HS.out.below h1)
    clear c0 c1 c2 c3 c4 c5 a0 a1 a2 a3 a4 HR HS HF h1
    obtain ⟨c0, c1, c2, c3, c4, c5, a0, a1, a2, a3, a4⟩ := A1.out.cells
    dsimp only at *
    go_wp2
    go_ret2
    exact ⟨none, 0, [], by rw [HY.out]; rfl, HTN.out (by rw [HY.out]; decide), Nat.zero_le _, StSl.nil _ _, A1.out.s.frame⟩
   ·have HY : Hid (Y = 0) := by unfold Hid; rw [HV.out, if_pos hn1, if_neg (by omega)]
    clear HV HTN hn1
    go_enter Tryz.func48, Tryz.ntmps48
    go_wp2_with fail
    refine (HR.out _ _ hb).mono ?_
    rintro e w1 ⟨rfl, h1⟩
    have KK := HS.out.below h1
    clear c0 c1 c2 c3 c4 c5 a0 a1 a2 a3 a4 HR HS HF h1
    obtain ⟨c0, c1, c2, c3, c4, c5, a0, a1, a2, a3, a4⟩ := KK.cells
    dsimp only at *
    go_wp2_with fail
    clear c0 c1 c2 c3 c4 c5 a0 a1 a2 a3 a4
    have K0 := KK.drew
    clear KK
    go_region_held3 (fun V => V.cell? ⟨w.heap.size, 0, none⟩ = some (.int .i64 now) ∧ V.cell? ⟨w.heap.size, 1, none⟩ = some (.int .i64 hor) ∧ V.cell? ⟨w.heap.size, 2, none⟩ = some (.slice oa op.length oc) ∧ V.cell? ⟨w.heap.size, 3, none⟩ = some (.slice ua us.length uc) ∧ V.cell? ⟨w.heap.size, 4, none⟩ = some (.slice sa su.length sc) ∧ V.cell? ⟨w.heap.size, 5, none⟩ = some (.slice ta tb.length tc) ∧ V.cell? ⟨w.heap.size + 1, 0, none⟩ = some (.string qw) ∧ V.cell? ⟨w.heap.size + 1, 1, none⟩ = some (.string qu) ∧ V.cell? ⟨w.heap.size + 1, 2, none⟩ = some (.int .i64 qf) ∧ V.cell? ⟨w.heap.size + 1, 3, none⟩ = some (.int .i64 qt) ∧ V.cell? ⟨w.heap.size + 1, 4, none⟩ = some (.int .i64 qn))
     (first | with_reducible exact HSC.out _ K3 | with_reducible exact HSC.out _ K2 | with_reducible exact HSC.out _ K1s | with_reducible exact HSC.out _ K1t | with_reducible exact HSC.out _ K0)
     (first | (have hseen := K2; clear hseen; go_at_call 64; refine (HC.out _ _ _ _ _ _ s2 t6 t1 t2 t3 t4).mono ?_; rintro e v3 ⟨z, p, m, rfl, l1, l2, l3, h3'⟩; have K3 := K2.below h3') | (have hseen := K0; clear hseen; go_at_call 39; (first | (refine (HST.out _ K1t.s.at_).mono ?_; rintro e v2 ⟨a, c, rfl, s2, h2⟩; have K2 := K1t.below h2; have t6 := t6.below h2) | (refine (HST.out _ K0.s.at_).mono ?_; rintro e v1 ⟨a, c, rfl, s2, h1⟩; have K1s := K0.below h1))) | (have hseen := K0; clear hseen; go_at_call 100; (first | (refine (HTO.out _ K1s.s.at_).mono ?_; rintro e v2 ⟨y, d, r, rfl, t1, t2, t3, t4, t6, h2⟩; have K2 := K1s.below h2; have s2 := s2.below h2) | (refine (HTO.out _ K0.s.at_).mono ?_; rintro e v1 ⟨y, d, r, rfl, t1, t2, t3, t4, t6, h1⟩; have K1t := K0.below h1))))
    all_goals
     have HF := Lib.hid K3.s.frame
     have HL := Lib.hid (And.intro (HTY.out _ HY.out l1) (And.intro l2 l3))
     clear K0 K2 K3 l1 l2 l3 h1 h2 h3' t1 t2 t3 t4 t6 s2 HST HTO HC HSC HTY
     go_wp2
     go_ret2
     exact ⟨z, p, m, by rw [HY.out]; rfl, HL.out.1, HL.out.2.1, HL.out.2.2, HF.out⟩
theorem infoErr : (Tryz.prog.info? 60).map (fun i => (i.zero, i.size, i.bytes)) = some (some (.int .i64 0), 1, 8) := by kernel_rfl
theorem zero_cells (n : Nat) : (Builtin.zeroCells (Value.int .i64 0).cells n).toList = List.replicate n (.int .i64 0) := by
 apply List.ext_getElem
 ·simp [Builtin.zeroCells, Value.cells]
 ·intro k h1 h2
  simp [Builtin.zeroCells, Value.cells, Nat.mod_one]
theorem made_cells (n : Nat) : (madeCells (Value.int .i64 0).cells n).toList = List.replicate n (.int .i64 0) := by
 apply List.ext_getElem
 ·simp [madeCells, Value.cells]
 ·intro k h1 h2
  simp [madeCells, Value.cells, Nat.mod_one]
def erc (E : List Int) (m : Nat) : List Value := ers E ++ List.replicate m (.int .i64 0)
theorem erc_int {E : List Int} {m j : Nat} {v : Value} (h : (erc E m)[j]? = some v) : ∃ n, v = .int .i64 n := by
 have hm := List.mem_of_getElem? h
 rcases List.mem_append.1 hm with h | h
 ·obtain ⟨n, -, rfl⟩ := List.mem_map.1 h; exact ⟨n, rfl⟩
 ·exact ⟨0, List.eq_of_mem_replicate h⟩
theorem erc_spare {E : List Int} {m j : Nat} {v : Value} (hj : E.length ≤ j) (h : (erc E m)[j]? = some v) : v = .int .i64 0 := by
 unfold erc at h
 rw [List.getElem?_append_right (by rw [ers_len]; exact hj)] at h
 exact List.eq_of_mem_replicate (List.mem_of_getElem? h)
theorem erc_more (E : List Int) (m : Nat) (n : Int) : ers E ++ [.int .i64 n] ++ List.replicate m (.int .i64 0) = erc (E ++ [n]) m := by
 unfold erc
 rw [ers_snoc]
theorem erc_same {E : List Int} {m : Nat} {n : Int} {j : Nat} (hj : j ≠ E.length) : (erc (E ++ [n]) m)[j]? = (erc E (m + 1))[j]? := by
 unfold erc
 rw [ers_snoc, List.append_assoc]
 rcases Nat.lt_or_ge j (ers E).length with h | h
 ·rw [List.getElem?_append_left h, List.getElem?_append_left h]
 ·rw [List.getElem?_append_right h, List.getElem?_append_right h]
  rw [ers_len] at h ⊢
  obtain ⟨d, hd⟩ : ∃ d, j - E.length = d + 1 := ⟨j - E.length - 1, by omega⟩
  rw [hd]
  simp [List.replicate_succ]
def ErO (W : World) (B : Nat) (v : Value) (E : List Int) : Prop :=
 (v = .slice none 0 0 ∧ E = []) ∨ ∃ g m, v = .slice (some ⟨g, 0, none⟩) E.length (E.length + m) ∧ B ≤ g ∧ W.heap[g]? = some (.cells (erc E m).toArray 60 (0, 0)) ∧ E.length + m ≤ maxLen
theorem ErO.below {w w' : World} {B : Nat} {v : Value} {E : List Int} (h : ErO w B v E) (q : Below w.heap.size w w') : ErO w' B v E := by
 rcases h with h | ⟨g, m, h1, h2, h3, h4⟩
 ·exact .inl h
 ·exact .inr ⟨g, m, h1, h2, (q.block g (heap_lt h3)).trans h3, h4⟩
theorem ErO.row {w : World} {B : Nat} {v : Value} {E : List Int} (h : ErO w B v E) : ∃ a c, v = .slice a E.length c ∧ E.length ≤ c ∧ c ≤ maxLen ∧ ErSl w a E ∧ (a = none → c = 0) := by
 rcases h with ⟨rfl, rfl⟩ | ⟨g, m, rfl, h2, h3, h4⟩
 ·exact ⟨none, 0, rfl, Nat.le_refl _, by unfold maxLen; omega, ErSl.nil _ _, fun _ => rfl⟩
 ·refine ⟨_, _, rfl, by omega, h4, fun k hk => ⟨g, 0, rfl, heap_lt h3, ?_⟩, fun e => by cases e⟩
  rw [cell_of_row w g (0 + k) _ _ (0, 0) h3, Nat.zero_add]
  simp only [List.getElem?_toArray]
  unfold erc
  rw [List.getElem?_append_left hk, List.getElem?_eq_getElem hk]
theorem ErO.low {w : World} {B : Nat} {v : Value} {E : List Int} (h : ErO w B v E) : ∀ a n c, v = .slice a n c → ∀ k o, a = some ⟨k, o, none⟩ → B ≤ k := by
 intro a n c e k o e2
 rcases h with ⟨rfl, -⟩ | ⟨g, m, rfl, h2, -, -⟩
 ·injection e with e; subst e; cases e2
 ·injection e with e; subst e; injection e2 with e2; injection e2 with e2; omega
def Spot (W W' : World) : Prop := ∃ (g : Nat) (E : List Int) (m : Nat) (n : Int), W.heap[g]? = some (.cells (erc E (m + 1)).toArray 60 (0, 0)) ∧ W'.heap[g]? = some (.cells (erc (E ++ [n]) m).toArray 60 (0, 0)) ∧ W.grownBy W' (some g)
def Er12 (W W' : World) : Prop := Below W.heap.size W W' ∨ Spot W W'
theorem Er12.size {W W' : World} (h : Er12 W W') : W.heap.size ≤ W'.heap.size := by
 rcases h with h | ⟨g, E, m, n, -, -, h⟩
 ·exact h.size
 ·exact h.size
theorem Er12.block {W W' : World} (h : Er12 W W') {g : Nat} {cs : Array Value} {t : TypeId} (hb : W.heap[g]? = some (.cells cs t (0, 0))) (ht : t ≠ 60) : W'.heap[g]? = some (.cells cs t (0, 0)) := by
 rcases h with h | ⟨g', E, m, n, h1, -, h⟩
 ·exact (h.block g (heap_lt hb)).trans hb
 ·refine (h.block g (heap_lt hb) ?_).trans hb
  intro e
  injection e with e
  subst e
  rw [h1] at hb
  injection hb with hb
  injection hb with _ hb
  exact ht hb.symm
theorem Er12.text {W W' : World} (h : Er12 W W') {b i : Nat} {v : Value} (hlt : b < W.heap.size) (hv : ∀ n, v ≠ .int .i64 n) (hc : W.cell? ⟨b, i, none⟩ = some v) (j : Nat) : W'.cell? ⟨b, j, none⟩ = W.cell? ⟨b, j, none⟩ := by
 rcases h with h | ⟨g, E, m, n, h1, h2, h⟩
 ·exact h.cell (p := ⟨b, j, none⟩) hlt
 ·have hne : b ≠ g := fun e => by
   subst e
   rw [cell_of_row W b i _ _ (0, 0) h1] at hc
   simp only [List.getElem?_toArray] at hc
   obtain ⟨n, rfl⟩ := erc_int hc
   exact hv n rfl
  exact World.cell?_of_block (w := W) (h.block b hlt (fun e => by injection e with e; exact hne e))
theorem Er12.cell {W W' : World} (h : Er12 W W') {b i : Nat} {v : Value} (hlt : b < W.heap.size) (hc : W.cell? ⟨b, i, none⟩ = some v) (hv : v ≠ .int .i64 0 ∨ ∃ j u, i ≤ j ∧ W.cell? ⟨b, j, none⟩ = some u ∧ u ≠ .int .i64 0) : W'.cell? ⟨b, i, none⟩ = some v := by
 rcases h with h | ⟨g, E, m, n, h1, h2, h⟩
 ·exact (h.cell (p := ⟨b, i, none⟩) hlt).trans hc
 ·by_cases hbg : b = g
  ·subst hbg
   rw [cell_of_row W b i _ _ (0, 0) h1] at hc
   simp only [List.getElem?_toArray] at hc
   have hi : i < E.length := by
    rcases Nat.lt_or_ge i E.length with h3 | h3
    ·exact h3
    ·exfalso
     rcases hv with hv | ⟨j, u, hij, hu, hne⟩
     ·exact hv (erc_spare h3 hc)
     ·rw [cell_of_row W b j _ _ (0, 0) h1] at hu
      simp only [List.getElem?_toArray] at hu
      exact hne (erc_spare (Nat.le_trans h3 hij) hu)
   rw [cell_of_row W' b i _ _ (0, 0) h2]
   simp only [List.getElem?_toArray]
   rw [erc_same (Nat.ne_of_lt hi)]
   exact hc
  ·exact (World.cell?_of_block (w := W) (h.block b hlt (fun e => by injection e with e; exact hbg e))).trans hc
theorem EvSl.er {W W' : World} (h : Er12 W W') {a : Option Addr} {l : List EvM} (ho : EvSl W a l) : EvSl W' a l := fun k hk => by
 obtain ⟨b, off, e, hlt, h0⟩ := ho k hk
 have h2 : W.cell? ⟨b, off + k * 6 + 2, none⟩ = some (.string l[k].user) := h0 2 (by decide)
 exact ⟨b, off, e, Nat.lt_of_lt_of_le hlt h.size, fun i hi => (h.text hlt (fun n e => by cases e) h2 _).trans (h0 i hi)⟩
theorem OpSl.er {W W' : World} (h : Er12 W W') {a : Option Addr} {l : List OpM} (ho : OpSl W a l) : OpSl W' a l := fun k hk => by
 obtain ⟨b, off, e, hlt, h0, h1, h2, h3⟩ := ho k hk
 have hx := h.text hlt (fun n e => by cases e) h1
 exact ⟨b, off, e, Nat.lt_of_lt_of_le hlt h.size, (hx _).trans h0, (hx _).trans h1, (hx _).trans h2, (hx _).trans h3⟩
theorem EnSl.er {W W' : World} (h : Er12 W W') {a : Option Addr} {l : List EnM} (ho : EnSl W a l) : EnSl W' a l := fun k hk => by
 obtain ⟨b, off, e, hlt, h0, h1, h2, h3⟩ := ho k hk
 have hx := h.text hlt (fun n e => by cases e) h0
 exact ⟨b, off, e, Nat.lt_of_lt_of_le hlt h.size, (hx _).trans h0, (hx _).trans h1, (hx _).trans h2, (hx _).trans h3⟩
theorem PpSl.er {W W' : World} (h : Er12 W W') {a : Option Addr} {l : List (Value × Value)} (hs : ∀ y ∈ l, ∃ s, y.1 = .string s) (ho : PpSl W a l) : PpSl W' a l := fun k hk => by
 obtain ⟨b, off, e, hlt, h0, h1⟩ := ho k hk
 obtain ⟨s, es⟩ := hs _ (List.getElem_mem hk)
 have hx := h.text hlt (v := l[k].1) (fun n e => by rw [es] at e; cases e) h0
 exact ⟨b, off, e, Nat.lt_of_lt_of_le hlt h.size, (hx _).trans h0, (hx _).trans h1⟩
theorem StSl.er {W W' : World} (h : Er12 W W') {a : Option Addr} {l : List StM} (hl : ∀ x ∈ l, 0 ≤ x.f ∧ x.f < x.t ∧ 1 ≤ x.n ∧ 1 ≤ x.s) (ho : StSl W a l) : StSl W' a l := fun k hk => by
 obtain ⟨b, off, e, hlt, h0, h1, h2, h3⟩ := ho k hk
 obtain ⟨r0, r1, r2, r3⟩ := hl _ (List.getElem_mem hk)
 have n1 : (Value.int .i64 l[k].t) ≠ .int .i64 0 := fun e => by injection e with _ e; omega
 have n2 : (Value.int .i64 l[k].n) ≠ .int .i64 0 := fun e => by injection e with _ e; omega
 have n3 : (Value.int .i64 l[k].s) ≠ .int .i64 0 := fun e => by injection e with _ e; omega
 exact ⟨b, off, e, Nat.lt_of_lt_of_le hlt h.size, h.cell hlt h0 (.inr ⟨_, _, Nat.le_add_right _ 1, h1, n1⟩), h.cell hlt h1 (.inl n1), h.cell hlt h2 (.inl n2), h.cell hlt h3 (.inl n3)⟩
theorem SaAt.er {W W' : World} (h : Er12 W W') {x : SaL} (hr : RightS x.m) (ho : SaAt W x) : SaAt W' x := by
 refine ⟨ho.op.er h, ⟨ho.us.row.er h (fun y hy => ?_), fun y hy => ?_⟩, ho.su.er h, PpSl.er h (fun y hy => ?_) ho.tb, ho.oc, ho.uc, ho.sc, ho.tc⟩
 ·obtain ⟨z, -, rfl⟩ := List.mem_map.1 hy; exact ⟨_, rfl⟩
 ·have h1 := ho.us.at_ y hy
  obtain ⟨-, -, h2, h3⟩ := hr.us y.m (List.mem_map_of_mem hy)
  refine ⟨h1.st.er h (fun s hs => ?_), h1.le, h1.mx, h1.nil⟩
  obtain ⟨k0, -, k1, -, k2, -⟩ := h3 s hs
  exact ⟨k0, (rise_iff.1 h2).1 s hs, k1, k2⟩
 ·obtain ⟨z, -, rfl⟩ := List.mem_map.1 hy; exact ⟨_, rfl⟩
theorem SB.er {w W W' : World} (h : Er12 W W') {g : Nat} {t : TypeId} {x : SaL} (ho : SB w g t x W) (hr : RightS x.m) (ht : t ≠ 60) (hf : Below w.heap.size w W') : SB w g t x W' := ⟨h.block ho.blk ht, ho.ge, hf, ho.at_.er h hr⟩
theorem ErO.apart {W : World} {B g i : Nat} {t : TypeId} {v u : Value} {E : List Int} {cs : Array Value} (h : ErO W B v E) (hb : W.heap[g]? = some (.cells cs t (0, 0))) (hne : t ≠ 60) : ErO (W.setCell ⟨g, i, none⟩ u) B v E := by
 rcases h with h1 | ⟨g', m, h1, h2, h3, h4⟩
 ·exact .inl h1
 ·refine .inr ⟨g', m, h1, h2, (block_far ?_).trans h3, h4⟩
  rintro rfl
  rw [hb] at h3
  injection h3 with h3
  injection h3 with _ h3
  exact hne h3
theorem ErO.setT {w W : World} {B g : Nat} {x y : SaL} {t : TypeId} {v : Value} {E : List Int} (h : SB w g t x W) (hy : SaAt W y) (ho : ErO W B v E) (hne : t ≠ 60) : ErO (setS W g y) B v E := by
 have h0 := SB.setNow h y.now
 have y0 := SaAt.setB h.blk hy 0 (.int .i64 y.now)
 have o0 := ho.apart (i := 0) (u := .int .i64 y.now) h.blk hne
 have h1 := SB.setHor h0 y.hor
 have y1 := SaAt.setB h0.blk y0 1 (.int .i64 y.hor)
 have o1 := o0.apart (i := 1) (u := .int .i64 y.hor) h0.blk hne
 have h2 := SB.setOp h1 rfl y1.op y1.oc
 have y2 := SaAt.setB h1.blk y1 2 (.slice y.oa y.op.length y.oc)
 have o2 := o1.apart (i := 2) (u := .slice y.oa y.op.length y.oc) h1.blk hne
 have h3 := SB.setUs h2 rfl y2.us y2.uc
 have y3 := SaAt.setB h2.blk y2 3 (.slice y.ua y.us.length y.uc)
 have o3 := o2.apart (i := 3) (u := .slice y.ua y.us.length y.uc) h2.blk hne
 have h4 := SB.setSu h3 rfl y3.su y3.sc
 have o4 := o3.apart (i := 4) (u := .slice y.sa y.su.length y.sc) h3.blk hne
 exact o4.apart (i := 5) (u := .slice y.ta y.tb.length y.tc) h4.blk hne
theorem er_append (w : World) (B : Nat) (ty : TypeId) (v : Value) (E : List Int) (hE : ErO w B v E) (ad : Addr) (c : Nat) (n : Int) (hn : w.cell? ad = some (.int .i64 n)) (hlen : E.length ≤ 1000000) (hB : B ≤ w.heap.size) :
  ∃ v' w', (Builtin.append_ #[40, 40] ty #[v, .slice (some ad) 1 c]).run Tryz.prog w = .ok v' w' ∧ ErO w' B v' (E ++ [n]) ∧ Er12 w w' ∧ Below B w w' := by
 obtain ⟨i0, hi, hz0, hz1, hz2⟩ := info_parts infoErr
 have hnews : ∀ j u, ([Value.int .i64 n] : List Value)[j]? = some u → w.cell? (ad.add j) = some u := fun j u hu => by
  cases j with
  | zero => simp at hu; subst hu; rw [show ad.add 0 = ad from by unfold Addr.add; simp]; exact hn
  | succ j => simp at hu
 rcases hE with ⟨rfl, rfl⟩ | ⟨g, m, rfl, hg, hh, hm⟩
 ·have hr := run_append_nil (P := Tryz.prog) w 40 ty 60 i0 _ Tryz.underlying40 hi hz0 ad 1 c [.int .i64 n] (by rw [hz1]; rfl) hnews (by decide) (by decide) (by rw [hz2]; decide)
  have hge := grownCap_ge w 1 0 60
  have hle := grownCap_le_maxLen w 1 0 60 (by unfold maxLen; decide)
  refine ⟨_, _, hr, .inr ⟨w.heap.size, grownCap w 1 0 60 - 1, ?_, hB, ?_, ?_⟩, .inl ((Below.refl _ _).drew.alloc (Nat.le_refl _) _), (Below.refl _ _).drew.alloc hB _⟩
  ·have e : ([] ++ [n] : List Int).length + (grownCap w 1 0 60 - 1) = grownCap w 1 0 60 := by simp; omega
   rw [e]
   rfl
  ·have hn2 := heap_alloc_new w.drew (.cells (#[.int .i64 n] ++ Builtin.zeroCells (Value.int .i64 0).cells (grownCap w 1 0 60 - 1)) 60)
   have e : (#[.int .i64 n] ++ Builtin.zeroCells (Value.int .i64 0).cells (grownCap w 1 0 60 - 1) : Array Value) = (erc ([] ++ [n]) (grownCap w 1 0 60 - 1)).toArray := by
    apply Array.toList_inj.1
    rw [Array.toList_append, zero_cells]
    rfl
   rw [e] at hn2
   rw [← e] at hn2 ⊢
   exact hn2
  ·simp
   omega
 ·cases m with
  | zero =>
   have holds : ∀ j u, (ers E)[j]? = some u → w.cell? ((⟨g, 0, none⟩ : Addr).add j) = some u := fun j u hu => by
    rw [Go.WideShapes.add_plain, cell_of_row w g (0 + j) _ _ (0, 0) hh, Nat.zero_add]
    simp only [List.getElem?_toArray]
    unfold erc
    rw [List.getElem?_append_left (List.getElem?_eq_some_iff.1 hu).1]
    exact hu
   have hr := run_append_grow (P := Tryz.prog) w 40 ty 60 i0 _ Tryz.underlying40 hi hz0 ⟨g, 0, none⟩ E.length E.length (ers E) (by rw [hz1, ers_len]; omega) holds ad 1 c [.int .i64 n] (by rw [hz1]; rfl) hnews (by omega) (by omega) (growslice_fits (by omega) (by rw [hz2]; omega))
   have hge := grownCap_ge w (E.length + 1) E.length 60
   have hle := grownCap_le_maxLen w (E.length + 1) E.length 60 (by unfold maxLen; omega)
   refine ⟨_, _, hr, .inr ⟨w.heap.size, grownCap w (E.length + 1) E.length 60 - (E.length + 1), ?_, hB, ?_, ?_⟩, .inl ((Below.refl _ _).drew.alloc (Nat.le_refl _) _), (Below.refl _ _).drew.alloc hB _⟩
   ·rw [List.length_append, List.length_singleton, show E.length + 1 + (grownCap w (E.length + 1) E.length 60 - (E.length + 1)) = grownCap w (E.length + 1) E.length 60 by omega]
   ·have hn2 := heap_alloc_new w.drew (.cells ((ers E).toArray ++ #[.int .i64 n] ++ Builtin.zeroCells (Value.int .i64 0).cells (grownCap w (E.length + 1) E.length 60 - (E.length + 1))) 60)
    have e : ((ers E).toArray ++ #[.int .i64 n] ++ Builtin.zeroCells (Value.int .i64 0).cells (grownCap w (E.length + 1) E.length 60 - (E.length + 1)) : Array Value) = (erc (E ++ [n]) (grownCap w (E.length + 1) E.length 60 - (E.length + 1))).toArray := by
     apply Array.toList_inj.1
     rw [Array.toList_append, Array.toList_append, zero_cells, ← erc_more]
    rw [← e]
    exact hn2
   ·rw [List.length_append, List.length_singleton]
    omega
  | succ m =>
   have hsz : (erc E (m + 1)).toArray.size = E.length + (m + 1) := by simp [erc, ers]
   have hr := run_append_room (P := Tryz.prog) w 40 ty 60 i0 Tryz.underlying40 hi g E.length (E.length + (m + 1)) _ hh ad 1 c [.int .i64 n] (by rw [hz1]; rfl) hnews (by intro u hu; simp at hu; subst hu; rfl) (by omega) (by rw [hz1, hsz, Nat.mul_one]; show E.length + 1 ≤ _; omega)
   have e : ((erc E (m + 1)).toArray.toList.take (E.length * i0.size) ++ [Value.int .i64 n] ++ (erc E (m + 1)).toArray.toList.drop (E.length * i0.size + [Value.int .i64 n].length)).toArray = (erc (E ++ [n]) m).toArray := by
    rw [hz1, Nat.mul_one, ← erc_more]
    congr 1
    have e1 : (erc E (m + 1)).take E.length = ers E := by
     unfold erc
     rw [List.take_append_of_le_length (by rw [ers_len]; exact Nat.le_refl _), List.take_of_length_le (by rw [ers_len]; exact Nat.le_refl _)]
    have e2 : (erc E (m + 1)).drop (E.length + 1) = List.replicate m (.int .i64 0) := by
     unfold erc
     rw [show E.length + 1 = (ers E).length + 1 by rw [ers_len], List.drop_append, List.drop_of_length_le (by omega)]
     simp [List.replicate_succ]
    show (erc E (m + 1)).take E.length ++ _ ++ (erc E (m + 1)).drop (E.length + 1) = _
    rw [e1, e2]
   rw [e] at hr
   have hset := setRow_heap w g _ (erc (E ++ [n]) m).toArray 60 _ hh
   have hgb : w.grownBy (w.setRow g (erc (E ++ [n]) m).toArray) (some g) := ⟨rfl, rfl, rfl, by simp, fun k _ hk => setRow_other w g k _ (fun e => hk (by rw [e]))⟩
   refine ⟨_, _, hr, .inr ⟨g, m, ?_, hg, hset, ?_⟩, .inr ⟨g, E, m, n, hh, hset, hgb⟩, (Below.refl _ _).grown hgb hB (fun k hk => by injection hk with hk; omega)⟩
   ·rw [List.length_append, List.length_singleton, show E.length + 1 + m = E.length + (m + 1) by omega]
   ·rw [List.length_append, List.length_singleton]
    omega
theorem wpList_append_er (w : World) {ops : Array Oper} {rest : List Oper} {o : Oper} {a : Act} {Q : Exit → Act → World → Prop} (hgd : o.guard = none) (s x : Operand)
  (ho : o.op = .call { callee := .builtin .append, args := #[s, x], argTypes := #[40, 40] }) (B : Nat) (v : Value) (E : List Int) (hs : a.eval s = v) (hE : ErO w B v E) (ad : Addr) (c : Nat) (n : Int) (hx : a.eval x = .slice (some ad) 1 c) (hn : w.cell? ad = some (.int .i64 n)) (hlen : E.length ≤ 1000000) (hB : B ≤ w.heap.size)
  (h : ∀ v' w', ErO w' B v' (E ++ [n]) → Er12 w w' → Below B w w' → wpList Tryz.prog ops Q rest (a.put o.dst v') w') : wpList Tryz.prog ops Q (o :: rest) a w := by
 obtain ⟨v', w', hr, h1, h2, h3⟩ := er_append w B o.type v E hE ad c n hn hlen hB
 exact Lib.wpList_append_run w hgd s x _ _ ho _ _ hs hx v' w' hr (h v' w' h1 h2 h3)
structure FoK (w : World) (t : TypeId) (a : Option Addr) (l : List EvM) (q : SaL) (E : List Int) (v : Value) (W : World) : Prop where
 s : SB w w.heap.size t q W
 z : SB w (w.heap.size + 1) t saO W
 o : ErO W w.heap.size v E
 l : EvSl W a l
theorem FoK.below {w W W' : World} {t : TypeId} {a : Option Addr} {l : List EvM} {q : SaL} {E : List Int} {v : Value} (h : FoK w t a l q E v W) (qB : Below W.heap.size W W') : FoK w t a l q E v W' := ⟨h.s.below qB, h.z.below qB, h.o.below qB, h.l.below qB⟩
theorem FoK.take {w U : World} {t : TypeId} {a : Option Addr} {l : List EvM} {q y : SaL} {E : List Int} {v : Value} {g : Nat} {t' : TypeId} (h : FoK w t a l q E v U) (k : SB w g t' y U) (hne : t ≠ 60) : FoK w t a l y E v (setS U w.heap.size y) :=
 ⟨SB.set h.s k.at_, (SB.over h.s k.at_ h.z (Nat.ne_of_gt (Nat.lt_succ_self _))).2, ErO.setT h.s k.at_ h.o hne, evsl_setS h.s k.at_ h.l⟩
theorem FoK.more {w W W' : World} {t : TypeId} {a : Option Addr} {l : List EvM} {q : SaL} {E F : List Int} {v v' : Value} (h : FoK w t a l q E v W) (hr : RightS q.m) (ht : t ≠ 60) (ho : ErO W' w.heap.size v' F) (hg : Er12 W W') (hB : Below w.heap.size W W') : FoK w t a l q F v' W' :=
 ⟨h.s.er hg hr ht (h.s.frame.trans hB), h.z.er hg RightS.zero ht (h.s.frame.trans hB), ho, h.l.er hg⟩
def FoldsTo (w : World) (M : SaM) (E : List Int) (r : Ending) (w' : World) : Prop := ∃ y b c, r = .returned (.tuple #[saV y, .slice b E.length c]) ∧ SaAt w' y ∧ y.m = M ∧ ErSl w' b E ∧ E.length ≤ c ∧ c ≤ maxLen ∧ Below w.heap.size w w'
def FoldsTo2 (w : World) (M : SaM) (E : List Int) (r : Ending) (w' : World) : Prop := ∃ y b c, r = .returned (.tuple #[saV y, .slice b E.length c]) ∧ SaAt w' y ∧ y.m = M ∧ ErSl w' b E ∧ E.length ≤ c ∧ c ≤ maxLen ∧ Below w.heap.size w w' ∧ ∀ k o, b = some ⟨k, o, none⟩ → w.heap.size ≤ k
theorem FoldsTo2.one {w : World} {M : SaM} {E : List Int} {r : Ending} {w' : World} (h : FoldsTo2 w M E r w') : FoldsTo w M E r w' := by
 obtain ⟨y, b, c, e, h1, h2, h3, h4, h5, h6, -⟩ := h
 exact ⟨y, b, c, e, h1, h2, h3, h4, h5, h6⟩
end Go.Proofs.YtapacckmgmdnoaaGreat
namespace Go.Proofs.YtapacckmgmdnoaaGreat
open Go.ChangeShapes Go.WideShapes Go.ChangeAt Go.RowKit Go.Proofs
set_option linter.unusedVariables false
set_option maxRecDepth 100000
theorem infoAskP : (Tryz.prog.info? 92).map (fun i => i.size) = some 5 := by kernel_rfl
theorem loadAsk {W : World} {g : Nat} {q : AskM} {t : TypeId} (h : W.heap[g]? = some (.cells (askC q) t (0, 0))) : (loadVar 92 ⟨g, 0, none⟩).run Tryz.prog W = .ok (askV q) W :=
 run_loadVar_mid (P := Tryz.prog) W g 0 92 (askC q).toList _ (fun j v hv => by
  rw [Nat.zero_add, cell_of_row _ _ _ _ _ (0, 0) h]
  rw [Array.getElem?_toList] at hv
  exact hv) Tryz.underlying92 rfl infoAskP
set_option maxHeartbeats 2000000 in
theorem gnew_any (q : AskM) (w : World) : Calls Tryz.prog 49 #[askV q] w fun e w' => e = .returned (askV q) ∧ Below w.heap.size w w' := by
 have HL : Hid (∀ o1 : Obj, (loadVar 92 ⟨w.heap.size + 1, 0, none⟩).run Tryz.prog ((w.alloc o1).alloc (.cells (askC q) 92)) = .ok (askV q) ((w.alloc o1).alloc (.cells (askC q) 92))) := Lib.hid fun o1 => by
  have := heap_alloc_new (w.alloc o1) (.cells (askC q) 92)
  rw [size1] at this
  exact loadAsk this
 have HB : Hid (∀ o p, Below w.heap.size w ((w.alloc o).alloc p)) := fun o p => ((Below.refl _ _).alloc (Nat.le_refl _) _).alloc (by simp) _
 obtain ⟨qw, qu, qf, qt, qn⟩ := q
 unfold askV askC at *
 dsimp only at *
 go_enter Tryz.func49, Tryz.ntmps49
 go_wp2
 refine bodyPost_ret (v := .agg #[.string qw, .string qu, .int .i64 qf, .int .i64 qt, .int .i64 qn]) ?_ rfl ?_
 ·rw [results_cell1 rfl]
  simp [asAddr, Result.andThen, HL.out]
 ·exact ⟨rfl, HB.out _ _⟩
theorem array5 {α : Type} {cs : Array α} (h : cs.size = 5) : ∃ c0 c1 c2 c3 c4, cs = #[c0, c1, c2, c3, c4] := by
 obtain ⟨l⟩ := cs
 match l, h with
 | [c0, c1, c2, c3, c4], _ => exact ⟨c0, c1, c2, c3, c4, rfl⟩
theorem open_ask {H : Type} {enc : TypeId × Value → H} {W : World} {base : Nat} {v : Value} {d : DataW H} {p : List MemPlace}
  (hok : Value.okWide Tryz.prog W .any base 86 v) (h : DataW.Trod enc Tryz.prog W 0 (fun _ => true) true 86 v d p) :
  ∃ q : AskM, v = askV q ∧ q.w.size ≤ maxLen ∧ q.u.size ≤ maxLen ∧ (I64 q.f ∧ I64 q.t ∧ I64 q.n) := by
 obtain ⟨f0, f1, f2, f3, f4, he, o0, o1, o2, o3, o4, t0, t1, t2, t3, t4⟩ : ∃ f0 f1 f2 f3 f4 : Field, Tryz.prog.underlying 86 = some (.struct #[f0, f1, f2, f3, f4]) ∧ f0.offset = 0 ∧ f1.offset = 1 ∧ f2.offset = 2 ∧ f3.offset = 3 ∧ f4.offset = 4 ∧ f0.type = 9 ∧ f1.type = 9 ∧ f2.type = 3 ∧ f3.type = 3 ∧ f4.type = 3 := ⟨_, _, _, _, _, Tryz.underlying86, rfl, rfl, rfl, rfl, rfl, rfl, rfl, rfl, rfl, rfl⟩
 obtain ⟨cs, rfl, hsz⟩ := okWide_struct he hok
 obtain ⟨v0, v1, v2, v3, v4, rfl⟩ := array5 (hsz.trans (by kernel_rfl))
 obtain ⟨fuel, hf⟩ := h
 have hf' : DataW.trod enc Tryz.prog W 0 (fun _ => true) true fuel 86 [v0, v1, v2, v3, v4] = some (d, p) := by simpa [Value.cells] using hf
 have ci : Tryz.prog.cellsOf 3 = 1 := by kernel_rfl
 have cs : Tryz.prog.cellsOf 9 = 1 := by kernel_rfl
 obtain ⟨xs, k, _, _, _, hxl, hg⟩ := DataW.trod_struct he hf'
 match xs, hxl with
 | [y0, y1, y2, y3, y4], _ =>
  have g0 := hg 0 f0 rfl
  have g1 := hg 1 f1 rfl
  have g2 := hg 2 f2 rfl
  have g3 := hg 3 f3 rfl
  have g4 := hg 4 f4 rfl
  simp [o0, o1, o2, o3, o4, t0, t1, t2, t3, t4, ci, cs] at g0 g1 g2 g3 g4
  obtain ⟨z0, e0, _, w0⟩ := DataW.trod_string Tryz.underlying9 g0
  obtain ⟨z1, e1, _, w1⟩ := DataW.trod_string Tryz.underlying9 g1
  obtain ⟨z2, e2, _, w2⟩ := DataW.trod_int Tryz.underlying3 g2
  obtain ⟨z3, e3, _, w3⟩ := DataW.trod_int Tryz.underlying3 g3
  obtain ⟨z4, e4, _, w4⟩ := DataW.trod_int Tryz.underlying3 g4
  simp at e0 e1 e2 e3 e4
  subst e0 e1 e2 e3 e4
  exact ⟨⟨z0, z1, z2, z3, z4⟩, rfl, w0, w1, wf64 w2, wf64 w3, wf64 w4⟩
end Go.Proofs.YtapacckmgmdnoaaGreat
