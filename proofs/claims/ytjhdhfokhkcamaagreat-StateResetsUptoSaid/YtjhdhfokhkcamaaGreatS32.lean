/- Texts of mine, one behind the other, of each what is wanted. -/
import Derived.Test.YtjhdhfokhkcamaaGreatS00
import Derived.Test.YtjhdhfokhkcamaaGreatShelf
import Derived.Test.YtjhdhfokhkcamaaGreatRows
import Derived.Test.YtjhdhfokhkcamaaGreatS01
import Derived.Test.YtjhdhfokhkcamaaGreatS02
import Derived.Test.YtjhdhfokhkcamaaGreatS03
import Derived.Test.YtjhdhfokhkcamaaGreatS04
import Derived.Test.YtjhdhfokhkcamaaGreatS06
import Derived.Test.YtjhdhfokhkcamaaGreatS07
import Derived.Test.YtjhdhfokhkcamaaGreatS09
import Derived.Test.YtjhdhfokhkcamaaGreatS11
import Derived.Test.YtjhdhfokhkcamaaGreatS14
import Derived.Test.YtjhdhfokhkcamaaGreatS17
import Derived.Test.YtjhdhfokhkcamaaGreatS21
import Derived.Test.YtjhdhfokhkcamaaGreatS23
import Derived.Test.YtjhdhfokhkcamaaGreatS24
import Derived.Test.YtjhdhfokhkcamaaGreatS29
import Derived.Test.YtjhdhfokhkcamaaGreatS31
namespace Go.Proofs.YtjhdhfokhkcamaaGreat
open Go.RowKit Go.Proofs
set_option linter.unusedVariables false
set_option maxRecDepth 100000
theorem noT_iff (s : ByteArray) : noT s = true ↔ s = ⟨#[]⟩ := by
 unfold noT
 rw [beq_iff_eq]
 constructor
 ·intro h
  rw [show (⟨#[]⟩ : ByteArray) = tx [] from rfl, toList_tx, ByteArray.toList_eq] at h
  rcases s with ⟨d⟩
  exact congrArg ByteArray.mk (Array.toList_eq_nil_iff.1 h)
 ·rintro rfl; rfl
theorem inB_iff (a b n : Int) : inB a b n = true ↔ a ≤ n ∧ n ≤ b := by unfold inB; simp
theorem nameB_nil : nameB ⟨#[]⟩ = false := by decide
theorem rightE_iff (k a n st : Int) (u o : ByteArray) : rightE ⟨k, a, u, o, n, st⟩ = true ↔ RightV k a n st u o := by
 unfold rightE RightV
 dsimp only
 have hcase : k = 1 ∨ k = 2 ∨ k = 3 ∨ k = 7 ∨ k = 4 ∨ k = 5 ∨ k = 6 ∨ (k < 1 ∨ 7 < k) := by omega
 have hn : ∀ s, isN s = nameB s := fun _ => rfl
 rcases hcase with rfl | rfl | rfl | rfl | rfl | rfl | rfl | hk
 all_goals try (by_cases hA : nameB u = true <;> by_cases hB : nameB o = true <;> by_cases hC : o = ⟨#[]⟩ <;> by_cases hD : u = ⟨#[]⟩ <;> simp [shK, isK, rText, Bool.and_eq_true, inB_iff, hn, noT_iff, hA, hB, hC, hD, nameB_nil] <;> (try omega))
theorem behind_any (x : SaL) (k a n st : Int) (u o : ByteArray) (w : World) (h : SaAt w x) (hf : Few x.m 400) (hk : RiseK UsM.u (umS x.us)) (ht : RiseK TbM.u x.tb) (h7 : 1 ≤ k ∧ k ≤ 7) :
  Calls Tryz.prog 44 #[saV x, evV ⟨k, a, u, o, n, st⟩] w (Told w x (errK x.m k a n st u o) { goS x.m k a n st u o with now := x.now }) := by
 have hcase : k = 1 ∨ k = 2 ∨ k = 3 ∨ k = 4 ∨ k = 5 ∨ k = 6 ∨ k = 7 := by omega
 rcases hcase with rfl | rfl | rfl | rfl | rfl | rfl | rfl
 ·exact behind1 x a n st u o w h hf hk ht
 ·exact behind2 x a n st u o w h hf hk ht
 ·exact behind3 x a n st u o w h hf hk ht
 ·exact behind4 x a n st u o w h hf hk ht
 ·exact behind5 x a n st u o w h hf hk ht
 ·exact behind6 x a n st u o w h hf hk ht
 ·exact behind7 x a n st u o w h hf hk ht
theorem few_of {s : SaM} (h : RightS s) {n : Nat} (hc : stCnt s ≤ n) : Few s n := by
 have hu : ∀ l : List UsM, (∀ x ∈ l, x.l ≠ []) → l.length ≤ cntU l ∧ ∀ x ∈ l, x.l.length ≤ cntU l := by
  intro l
  induction l with
  | nil => intro _; exact ⟨Nat.zero_le _, fun x hx => by cases hx⟩
  | cons y l ih =>
   intro hl
   obtain ⟨h1, h2⟩ := ih fun x hx => hl x (List.mem_cons_of_mem _ hx)
   have h3 : 0 < y.l.length := List.length_pos_iff.2 (hl y (List.mem_cons_self ..))
   rw [cntU_cons]
   refine ⟨by rw [List.length_cons]; omega, fun x hx => ?_⟩
   rcases List.mem_cons.1 hx with rfl | hx
   ·omega
   ·have := h2 x hx; omega
 obtain ⟨h1, h2⟩ := hu s.us fun x hx => (h.us x hx).2.1
 unfold stCnt at hc
 exact ⟨by omega, by omega, by omega, by omega, fun x hx => by have := h2 x hx; omega⟩
theorem Few.mono {s : SaM} {a b : Nat} (h : Few s a) (hab : a ≤ b) : Few s b := ⟨Nat.le_trans h.op hab, Nat.le_trans h.us hab, Nat.le_trans h.su hab, Nat.le_trans h.tb hab, fun x hx => Nat.le_trans (h.st x hx) hab⟩
theorem errK_one (s : SaM) (k a n st : Int) (u o : ByteArray) : errK s k a n st u o = 0 ∨ errK s k a n st u o = 90 ∨ errK s k a n st u o = 91 ∨ errK s k a n st u o = 100 ∨ errK s k a n st u o = 101 ∨ errK s k a n st u o = 102 ∨ errK s k a n st u o = 103 := by
 unfold errK openC
 rcases fc_three s.op n u with ⟨h1, _⟩ | ⟨h1 | h1, _⟩
 all_goals
  rw [h1]
  repeat' split
  all_goals simp
theorem goS_now (s : SaM) (k a n st : Int) (u o : ByteArray) : (goS s k a n st u o).now = a := by
 unfold goS
 repeat' split
 all_goals rfl
def Tells (w : World) (s : SaM) (er : Int) (r : Ending) (w' : World) : Prop := ∃ y, r = .returned (.tuple #[saV y, .int .i64 er]) ∧ SaAt w' y ∧ y.m = s ∧ Below w.heap.size w w'
theorem SB.finZ {w T : World} {r : Nat} {t : TypeId} {z : SaL} (hZ : SB w r t z T) : (loadVar 38 ⟨r, 0, none⟩).run Tryz.prog ((((((T.setCell ⟨r, 0, none⟩ (.int .i64 0)).setCell ⟨r, 1, none⟩ (.int .i64 0)).setCell ⟨r, 2, none⟩ (.slice none 0 0)).setCell ⟨r, 3, none⟩ (.slice none 0 0)).setCell ⟨r, 4, none⟩ (.slice none 0 0)).setCell ⟨r, 5, none⟩ (.slice none 0 0)) = .ok (.agg #[.int .i64 0, .int .i64 0, .slice none 0 0, .slice none 0 0, .slice none 0 0, .slice none 0 0]) ((((((T.setCell ⟨r, 0, none⟩ (.int .i64 0)).setCell ⟨r, 1, none⟩ (.int .i64 0)).setCell ⟨r, 2, none⟩ (.slice none 0 0)).setCell ⟨r, 3, none⟩ (.slice none 0 0)).setCell ⟨r, 4, none⟩ (.slice none 0 0)).setCell ⟨r, 5, none⟩ (.slice none 0 0)) ∧ SaAt (setS T r saO) saO ∧ Below w.heap.size w (setS T r saO) := by
 have h := SB.finV (SaAt.zero T) hZ
 have h1 := h.1
 unfold setS saV saC saO at h1
 simp only [List.length_nil] at h1
 exact ⟨h1, h.2⟩
set_option maxHeartbeats 8000000 in
theorem apply_any (x : SaL) (k a n st : Int) (u o : ByteArray) (w : World) (h : SaAt w x) (hr : RightS x.m) (hc : stCnt x.m ≤ 200) (hu : u.size ≤ maxLen) (ho : o.size ≤ maxLen) :
  Calls Tryz.prog 16 #[saV x, evV ⟨k, a, u, o, n, st⟩] w (Tells w (tellS x.m k a n st u o) (errS x.m k a n st u o)) := by
 obtain ⟨HK, HE, HZ⟩ := three_SB h ⟨k, a, u, o, n, st⟩ 38 43 38
 have HR := Lib.hid (fun V => evright_any ⟨k, a, u, o, n, st⟩ ⟨hu, ho⟩ V)
 have HS := Lib.hid HK
 have HZZ := Lib.hid HZ
 have HEE := Lib.hid HE
 by_cases hv : RightV k a n st u o
 ·rw [(rightE_iff k a n st u o).2 hv] at HR
  by_cases hlt : a < x.now
  ·-- a time that is past
   have he : errS x.m k a n st u o = 111 := by unfold errS; rw [if_pos hv, if_pos (show a < x.m.now from hlt)]
   have ht : tellS x.m k a n st u o = saZ := by unfold tellS; rw [he, if_neg (by decide)]
   rw [he, ht]
   obtain ⟨⟨e0, e1, e2, e3, e4, e5⟩, -⟩ := cells6 HE.blk
   obtain ⟨now, hor, oa, op, oc, ua, us, uc, sa, su, sc, ta, tb, tc⟩ := x
   unfold saV evV saC at *
   dsimp only at *
   clear h hr hc HK HZ HE
   go_enter Tryz.func16, Tryz.ntmps16
   go_wp2_with fail
   refine (HR.out _).mono ?_
   rintro e w1 ⟨rfl, h1⟩
   have B1 := HZZ.out.below h1
   have A1 := HS.out.below h1
   have hfin := B1.finZ
   clear e0 e1 e2 e3 e4 e5
   obtain ⟨⟨e0, e1, e2, e3, e4, e5⟩, -⟩ := cells6 (HEE.out.below h1).blk
   obtain ⟨c0, c1, c2, c3, c4, c5⟩ := A1.cells
   obtain ⟨z0, z1, z2, z3, z4, z5⟩ := B1.cells
   obtain ⟨y0, y1, y2, y3, y4, y5⟩ := B1.free
   have hzl := B1.lt
   have HL := Lib.hid hfin.1
   have HFN := Lib.hid hfin.2
   unfold saO at z0 z1 z2 z3 z4 z5
   dsimp only at *
   clear HS HZZ HEE A1 B1 hfin h1 HR
   go_wp2
   refine bodyPost_ret (v := .tuple #[saV saO, .int .i64 111]) ?_ rfl ⟨_, rfl, HFN.out.1, rfl, HFN.out.2⟩
   rw [results_cellT rfl]
   unfold saV saC saO
   simp [asAddr, Result.andThen, HL.out]
  ·-- what the event does
   have h7 : 1 ≤ k ∧ k ≤ 7 := by
    obtain ⟨_, _, hh⟩ := hv
    omega
   have hf := few_of hr hc
   have HB := Lib.hid (fun V (h : SaAt V x) => behind_any x k a n st u o V h (hf.mono (by decide)) hr.ur hr.tr h7)
   have hes : errS x.m k a n st u o = errK x.m k a n st u o := by unfold errS; rw [if_pos hv, if_neg (show ¬ a < x.m.now from hlt)]
   have hgo : errK x.m k a n st u o = 0 → Few (goS x.m k a n st u o) 10000 := fun he => (few_of (right_go hr (hes.trans he)) (cnt_go x.m k a n st u o)).mono (by omega)
   have htz : errK x.m k a n st u o ≠ 0 → tellS x.m k a n st u o = saZ := fun he => by unfold tellS; rw [hes, if_neg he]
   have htg : errK x.m k a n st u o = 0 → tellS x.m k a n st u o = goS x.m k a n st u o := fun he => by unfold tellS; rw [hes, if_pos he]
   have hnow := goS_now x.m k a n st u o
   rw [hes]
   have hone := errK_one x.m k a n st u o
   generalize errK x.m k a n st u o = er at *
   generalize goS x.m k a n st u o = G at *
   generalize tellS x.m k a n st u o = R at *
   obtain ⟨⟨e0, e1, e2, e3, e4, e5⟩, -⟩ := cells6 HE.blk
   obtain ⟨now, hor, oa, op, oc, ua, us, uc, sa, su, sc, ta, tb, tc⟩ := x
   unfold saV evV saC at *
   dsimp only at *
   clear h hr hc HK HZ HE hf hv
   go_enter Tryz.func16, Tryz.ntmps16
   go_wp2_with fail
   refine (HR.out _).mono ?_
   rintro e w1 ⟨rfl, h1⟩
   have B1 := Lib.hid (HZZ.out.below h1)
   have A1 := Lib.hid (HS.out.below h1)
   have E1 := Lib.hid (HEE.out.below h1)
   clear e0 e1 e2 e3 e4 e5
   obtain ⟨⟨e0, e1, e2, e3, e4, e5⟩, -⟩ := cells6 E1.out.blk
   obtain ⟨c0, c1, c2, c3, c4, c5⟩ := A1.out.cells
   dsimp only at *
   clear HS HZZ HEE h1 HR
   go_wp2_with fail
   refine (HB.out _ A1.out.at_).mono ?_
   rintro e w2 ⟨y, rfl, y1, y2, h2⟩
   have B2 := Lib.hid (B1.out.below h2)
   have E2 := Lib.hid (E1.out.below h2)
   obtain ⟨now1, hor1, oa1, op1, oc1, ua1, us1, uc1, sa1, su1, sc1, ta1, tb1, tc1⟩ := y
   unfold saV saC at *
   dsimp only at *
   clear e0 e1 e2 e3 e4 e5 c0 c1 c2 c3 c4 c5
   obtain ⟨⟨e0, e1, e2, e3, e4, e5⟩, -⟩ := cells6 E2.out.blk
   have hel := heap_lt E2.out.blk
   by_cases he : er = 0
   ·have y3 := y2 he
    have hR := htg he
    subst hR
    have hy : SaAt w2 ⟨a, hor1, oa1, op1, oc1, ua1, us1, uc1, sa1, su1, sc1, ta1, tb1, tc1⟩ := ⟨y1.op, y1.us, y1.su, y1.tb, y1.oc, y1.uc, y1.sc, y1.tc⟩
    have hym : (⟨a, hor1, oa1, op1, oc1, ua1, us1, uc1, sa1, su1, sc1, ta1, tb1, tc1⟩ : SaL).m = R := by
     unfold SaL.m at y3 ⊢
     obtain ⟨Gn, Gh, Go, Gu, Gs, Gt⟩ := R
     simp only at y3 hnow ⊢
     injection y3 with _ g1 g2 g3 g4 g5
     rw [hnow, g1, g2, g3, g4, g5]
    have HC := Lib.hid (fun V (q : Below w2.heap.size w2 V) => copied_any _ V (hy.below q) (hym.symm ▸ hgo he))
    rw [hym] at HC
    unfold saV saC at HC
    subst he
    dsimp only at *
    clear A1 E1 B1 E2 HB htz htg hgo hnow y1 y2 y3 hy hym h2 hlt h7 hes hone
    go_wp2_with fail
    refine (HC.out _ (below_one _ _)).mono ?_
    rintro e w3 ⟨z, rfl, z1, z2, h3⟩
    have B3 := (B2.out.below (below_one w2 _)).below h3
    have hfin := SB.finV z1 B3
    clear e0 e1 e2 e3 e4 e5 hel
    obtain ⟨c0, c1, c2, c3, c4, c5⟩ := B3.cells
    obtain ⟨f0, f1, f2, f3, f4, f5⟩ := B3.free
    have hzl := B3.lt
    have HL := Lib.hid hfin.1
    have HFN := Lib.hid (And.intro hfin.2.1 (And.intro z2 hfin.2.2))
    obtain ⟨now2, hor2, oa2, op2, oc2, ua2, us2, uc2, sa2, su2, sc2, ta2, tb2, tc2⟩ := z
    unfold setS saV saC at HL
    unfold saV saC at *
    unfold saO at c0 c1 c2 c3 c4 c5
    dsimp only at *
    clear B2 B3 hfin z1 z2 h3 HC
    go_wp2
    refine bodyPost_ret (v := .tuple #[saV ⟨now2, hor2, oa2, op2, oc2, ua2, us2, uc2, sa2, su2, sc2, ta2, tb2, tc2⟩, .int .i64 0]) ?_ rfl ⟨_, rfl, HFN.out⟩
    rw [results_cellT rfl]
    unfold saV saC
    simp [asAddr, Result.andThen, HL.out]
   ·have hR := htz he
    subst hR
    have B3 := B2.out.below (below_one w2 (.cells #[.int .i64 now1, .int .i64 hor1, .slice oa1 op1.length oc1, .slice ua1 us1.length uc1, .slice sa1 su1.length sc1, .slice ta1 tb1.length tc1] 38))
    have hfin := B3.finZ
    have HB3 := Lib.hid B3
    have HL := Lib.hid hfin.1
    have HFN := Lib.hid hfin.2
    clear A1 E1 B1 E2 HB htz htg hgo hnow y1 y2 h2 hlt h7 hes B2 B3 hfin
    rcases hone with h9 | h9 | h9 | h9 | h9 | h9 | h9
    ·exact absurd h9 he
    all_goals
     clear he
     subst h9
     go_upto_region 7 with fail
     clear e0 e1 e2 e3 e4 e5 hel
     generalize hW : w2.alloc _ = W3 at *
     clear hW
     obtain ⟨z0, z1, z2, z3, z4, z5⟩ := HB3.out.cells
     obtain ⟨f0, f1, f2, f3, f4, f5⟩ := HB3.out.free
     have hzl := HB3.out.lt
     unfold saO at z0 z1 z2 z3 z4 z5
     dsimp only at *
     clear HB3
     go_wp2
     refine bodyPost_ret (v := .tuple #[saV saO, .int .i64 _]) ?_ rfl ⟨_, rfl, HFN.out.1, rfl, HFN.out.2⟩
     rw [results_cellT rfl]
     unfold saV saC saO
     simp [asAddr, Result.andThen, HL.out]
 ·have he : errS x.m k a n st u o = 110 := by unfold errS; rw [if_neg hv]
  have ht : tellS x.m k a n st u o = saZ := by unfold tellS; rw [he, if_neg (by decide)]
  rw [he, ht]
  have hE : rightE ⟨k, a, u, o, n, st⟩ = false := Bool.eq_false_iff.2 fun e => hv ((rightE_iff k a n st u o).1 e)
  rw [hE] at HR
  obtain ⟨⟨e0, e1, e2, e3, e4, e5⟩, -⟩ := cells6 HE.blk
  obtain ⟨now, hor, oa, op, oc, ua, us, uc, sa, su, sc, ta, tb, tc⟩ := x
  unfold saV evV saC at *
  dsimp only at *
  clear h hr hc HK HZ HE
  go_enter Tryz.func16, Tryz.ntmps16
  go_wp2_with fail
  refine (HR.out _).mono ?_
  rintro e w1 ⟨rfl, h1⟩
  have B1 := HZZ.out.below h1
  have hfin := B1.finZ
  clear e0 e1 e2 e3 e4 e5
  obtain ⟨z0, z1, z2, z3, z4, z5⟩ := B1.cells
  obtain ⟨y0, y1, y2, y3, y4, y5⟩ := B1.free
  have hzl := B1.lt
  have HL := Lib.hid hfin.1
  have HFN := Lib.hid hfin.2
  unfold saO at z0 z1 z2 z3 z4 z5
  dsimp only at *
  clear HS HZZ HEE B1 hfin h1 HR
  go_wp2
  refine bodyPost_ret (v := .tuple #[saV saO, .int .i64 110]) ?_ rfl ⟨_, rfl, HFN.out.1, rfl, HFN.out.2⟩
  rw [results_cellT rfl]
  unfold saV saC saO
  simp [asAddr, Result.andThen, HL.out]
theorem head_find (e : OpM) (l : List OpM) : (e :: l).find? (hasN e.n) = some e := by
 rw [List.find?_cons_of_pos]
 exact hasN_iff.2 rfl
theorem head_findC (e : OpM) (l : List OpM) : findC (e :: l) e.n e.u = 0 := by
 unfold findC
 rw [head_find]
 exact if_pos rfl
theorem head_findE (e : OpM) (l : List OpM) : findE (e :: l) e.n e.u = e := by
 unfold findE
 rw [head_find]
 exact if_pos rfl
theorem head_findP (e : OpM) (l : List OpM) : findP (e :: l) e.n e.u = 0 := by
 unfold findP
 rw [if_pos (head_findC e l), List.findIdx_cons, hasN_iff.2 rfl]
 rfl
theorem head_clo (e : OpM) (l : List OpM) : cloR (e :: l) e.n e.u = l := by
 unfold cloR cutAt
 rw [if_pos (head_findC e l), head_findP]
 rfl
theorem head_fnd (e : OpM) (l : List OpM) (t : Int) : fndS (e :: l) e.n e.u t = stayO e t := by
 unfold fndS
 rw [if_pos (head_findC e l), head_findE]
def midS (s : SaM) (j : Nat) : SaM := { s with op := s.op.drop j, us := resetU (s.op.take j) s.now s.us }
theorem midS_all (s : SaM) : midS s s.op.length = resetS s := by
 unfold midS resetS
 rw [List.drop_length, List.take_length]
theorem midS_next (s : SaM) (j : Nat) (h : j < s.op.length) : midS s (j + 1) = { midS s j with op := cloR (midS s j).op s.op[j].n s.op[j].u, us := addU (midS s j).us s.op[j].u (fndS (midS s j).op s.op[j].n s.op[j].u s.now) } := by
 unfold midS
 simp only
 rw [List.drop_eq_getElem_cons h, head_clo, head_fnd, List.take_succ_eq_append_getElem h]
 unfold resetU
 rw [List.foldl_append]
 rfl
theorem midS_right {s : SaM} (h : RightS s) : ∀ j, j ≤ s.op.length → RightS (midS s j) ∧ stCnt (midS s j) ≤ stCnt s
 | 0, _ => ⟨h, Nat.le_refl _⟩
 | j + 1, hj => by
  obtain ⟨h1, h2⟩ := midS_right h j (by omega)
  have h3 : (midS s j).op = s.op[j] :: s.op.drop (j + 1) := List.drop_eq_getElem_cons (by omega)
  rw [midS_next s j (by omega)]
  refine ⟨right_close (a := s.now) h1 (Int.le_refl _) h.now.2 (by rw [h3]; exact head_findC _ _), ?_⟩
  have h4 := cntU_add (midS s j).us s.op[j].u (fndS (midS s j).op s.op[j].n s.op[j].u s.now)
  unfold stCnt at h2 ⊢
  simp only
  rw [h3, head_clo]
  rw [h3, List.length_cons] at h2
  rw [h3] at h4
  omega
def Is (w : World) (s : SaM) (r : Ending) (w' : World) : Prop := ∃ y, r = .returned (saV y) ∧ SaAt w' y ∧ y.m = s ∧ Below w.heap.size w w'
set_option maxHeartbeats 8000000 in
theorem reset_any11 (x : SaL) (w : World) (h : SaAt w x) (hr : RightS x.m) (hc : stCnt x.m ≤ 220) :
  Calls Tryz.prog 22 #[saV x] w (Is w (resetS x.m)) := by
 obtain ⟨HK, HZ⟩ := two_SB h 38 38
 have HS := Lib.hid HK
 have HZZ := Lib.hid HZ
 have hmid := midS_right hr
 have HCL : Hid (∀ V (y : SaL) (j : Nat) (hj : j < x.m.op.length), y.m = midS x.m j → SaAt V y → Calls Tryz.prog 75 #[saV y, .int .i64 x.m.op[j].n, .string x.m.op[j].u, .int .i64 x.m.now] V fun e w' => ∃ y2, e = .returned (.tuple #[saV y2, .int .i64 0]) ∧ SaAt w' y2 ∧ y2.m = midS x.m (j + 1) ∧ Below V.heap.size V w') := fun V y j hj hm hy => by
  have h1 := hmid j (by omega)
  have h2 : y.op = x.m.op[j] :: x.m.op.drop (j + 1) := by have := congrArg SaM.op hm; exact this.trans (List.drop_eq_getElem_cons hj)
  refine (closed_any y x.m.op[j].n x.m.op[j].u x.m.now V hy (hm ▸ few_of h1.1 (n := 450) (by omega)) (by have := h1.1.ur; rw [← hm] at this; exact this)).mono ?_
  rintro e w' ⟨y2, rfl, g1, g2, g3⟩
  refine ⟨y2, by rw [h2, head_findC], g1, g2.trans ?_, g3⟩
  rw [midS_next x.m j hj, ← hm]
  rfl
 have HCP := Lib.hid (fun V (y : SaL) (hm : y.m = resetS x.m) (hy : SaAt V y) => copied_any y V hy (hm ▸ few_of (right_reset hr) (n := 10000) (by have := cnt_reset x.m; omega)))
 have HMA := Lib.hid (midS_all x.m)
 have hol : x.op.length ≤ 1000 := by have := (few_of hr hc).op; have e : x.m.op = x.op := rfl; rw [e] at this; omega
 have HOP := Lib.hid h.op
 generalize hs : x.m = s at *
 have hop : s.op = x.op := by rw [← hs]; rfl
 have hnow : s.now = x.now := by rw [← hs]; rfl
 obtain ⟨c0, c1, c2, c3, c4, c5⟩ := HK.cells
 obtain ⟨now, hor, oa, op, oc, ua, us, uc, sa, su, sc, ta, tb, tc⟩ := x
 unfold saV saC at *
 dsimp only at *
 subst hop
 subst hnow
 clear h hr hc HK HZ hmid
 go_enter Tryz.func22, Tryz.ntmps22
 go_wp2
 go_loopw [8] (fun iv wr => ∃ (j : Nat) (y : SaL), j ≤ s.op.length ∧ iv = .int .i64 j ∧ Hid (y.m = midS s j) ∧ Hid (SB w w.heap.size 38 y wr) ∧ Hid (SB w (w.heap.size + 1) 38 saO wr)) (fun iv _ => s.op.length - (intOf iv).toNat)
 case atStart => exact ⟨0, _, by omega, rfl, hs, HS.out, HZZ.out⟩
 case round =>
  clear HS HZZ c0 c1 c2 c3 c4 c5
  obtain ⟨j, y, hj, rfl, HM, HY, HZ⟩ := hrel
  by_cases hjl : j < s.op.length
  ·obtain ⟨b, off, rfl, hbl, r0, r1, r2, r3⟩ := (HOP.out.below HY.out.frame) j hjl
   have hb1 := below_one wr (.cells #[.int .i64 s.op[j].n, .string s.op[j].u, .int .i64 s.op[j].s, .int .i64 s.op[j].f] 112)
   have Y1 := Lib.hid (HY.out.below hb1)
   have Z1 := Lib.hid (HZ.out.below hb1)
   have hyn : y.now = s.now := by have := congrArg SaM.now HM.out; exact this
   have HCJ := Lib.hid (fun V (hy : SaAt V y) => HCL.out V y j hjl HM.out hy)
   obtain ⟨c0, c1, c2, c3, c4, c5⟩ := HY.out.cells
   have hgl := HY.out.lt
   generalize s.op[j] = e at *
   obtain ⟨now1, hor1, oa1, op1, oc1, ua1, us1, uc1, sa1, su1, sc1, ta1, tb1, tc1⟩ := y
   (try unfold saV at *)
   (try unfold saC at *)
   dsimp only at *
   subst hyn
   clear hb1 HCL HM HMA HY HZ HCP
   go_wp2_with fail
   refine (HCJ.out _ Y1.out.at_).mono ?_
   rintro e1 w1 ⟨y2, rfl, l1, m1, h1⟩
   have A1 := Y1.out.below h1
   have B1 := Z1.out.below h1
   obtain ⟨A2, B2⟩ := A1.over l1 B1 (by omega)
   have HA2 := Lib.hid A2
   have HB2 := Lib.hid B2
   have HM2 := Lib.hid m1
   clear c0 c1 c2 c3 c4 c5 hgl r0 r1 r2 r3
   obtain ⟨c0, c1, c2, c3, c4, c5⟩ := A1.cells
   obtain ⟨f0, f1, f2, f3, f4, f5⟩ := A1.free
   have hgl := A1.lt
   obtain ⟨now2, hor2, oa2, op2, oc2, ua2, us2, uc2, sa2, su2, sc2, ta2, tb2, tc2⟩ := y2
   unfold setS at *
   (try unfold saV at *)
   (try unfold saC at *)
   dsimp only at *
   clear Y1 Z1 A1 B1 A2 B2 l1 m1 h1 HCJ
   go_wp2
   go_roundw
   case rel => exact ⟨j + 1, _, by omega, by go_num, HM2.out, HA2.out, HB2.out⟩
   case measure => simp [intOf]; omega
  ·obtain rfl : j = s.op.length := by omega
   have HCY := Lib.hid (fun V (hy : SaAt V y) => HCP.out V y (HM.out.trans HMA.out) hy)
   have Y1 := Lib.hid HY.out
   have Z1 := Lib.hid HZ.out
   obtain ⟨c0, c1, c2, c3, c4, c5⟩ := HY.out.cells
   have hgl := HY.out.lt
   have HR := Lib.hid (HM.out.trans HMA.out)
   obtain ⟨now1, hor1, oa1, op1, oc1, ua1, us1, uc1, sa1, su1, sc1, ta1, tb1, tc1⟩ := y
   (try unfold saV at *)
   (try unfold saC at *)
   dsimp only at *
   clear HCL HM HMA HY HZ HCP
   go_wp2_with fail
   refine (HCY.out _ Y1.out.at_).mono ?_
   rintro e1 w1 ⟨y2, rfl, l1, m1, h1⟩
   have B1 := Z1.out.below h1
   have hfin := SB.finV l1 B1
   clear c0 c1 c2 c3 c4 c5 hgl
   obtain ⟨c0, c1, c2, c3, c4, c5⟩ := B1.cells
   obtain ⟨f0, f1, f2, f3, f4, f5⟩ := B1.free
   have hzl := B1.lt
   have HL := Lib.hid hfin.1
   have HFN := Lib.hid (And.intro hfin.2.1 (And.intro (m1.trans HR.out) hfin.2.2))
   obtain ⟨now2, hor2, oa2, op2, oc2, ua2, us2, uc2, sa2, su2, sc2, ta2, tb2, tc2⟩ := y2
   unfold setS saV saC at HL
   (try unfold saV at *)
   (try unfold saC at *)
   unfold saO at c0 c1 c2 c3 c4 c5
   dsimp only at *
   clear Y1 Z1 B1 hfin l1 m1 h1 HCY HR
   go_wp2
   refine bodyPost_ret (v := saV ⟨now2, hor2, oa2, op2, oc2, ua2, us2, uc2, sa2, su2, sc2, ta2, tb2, tc2⟩) ?_ rfl ⟨_, rfl, HFN.out⟩
   rw [results_cell1 rfl]
   unfold saV saC
   simp [asAddr, Result.andThen, HL.out]
theorem own_grown {w w' : World} {B B2 : Nat} {e e2 : TypeId} {k k2 n n2 : Nat} {v v2 : Value} {xs xs2 : List Value} (hv : w.ownsRow B e k v n xs) (h2 : w.ownsRow B2 e2 k2 v2 n2 xs2) (hne : e ≠ e2) (hg : w.grownBy w' v.ownBlock) : w'.ownsRow B2 e2 k2 v2 n2 xs2 := by
 refine ⟨h2.1, ?_⟩
 rcases h2.2 with ⟨h3, h4⟩ | ⟨g, cap, cur, h3, h4, h5, h6⟩
 ·exact .inl ⟨h3, h4⟩
 ·refine .inr ⟨g, cap, cur, h3, h4, ?_, h6⟩
  rw [hg.block g (heap_lt h5) ?_, h5]
  rcases hv.2 with ⟨h7, _⟩ | ⟨g', cap', cur', h7, _, h8, _⟩
  ·rw [h7]; simp [Value.ownBlock]
  ·rw [h7]
   intro e1
   simp only [Value.ownBlock] at e1
   injection e1 with e1
   subst e1
   rw [h5] at h8
   injection h8 with h8
   injection h8 with _ h8
   exact hne h8.symm
theorem own_from {w : World} {B B' : Nat} {e : TypeId} {k n : Nat} {v : Value} {xs : List Value} (h : w.ownsRow B e k v n xs) (hb : B' ≤ B) : w.ownsRow B' e k v n xs :=
 ⟨h.1, h.2.imp id fun ⟨g, cap, cur, h1, h2, h3⟩ => ⟨g, cap, cur, h1, Nat.le_trans hb h2, h3⟩⟩
def OwnSt (W : World) (B : Nat) (y : UsL) : Prop := W.ownsRow B 86 4 (.slice y.a y.l.length y.c) y.l.length (sts y.l)
theorem OwnSt.at_ {W : World} {B : Nat} {y : UsL} (h : OwnSt W B y) : UsAt W y := by
 obtain ⟨x, q, h1, h2, h3, h4, h5⟩ := own_st h
 injection h1 with k1 k2 k3
 subst k1 k3
 exact ⟨h4, h2, h3, h5⟩
theorem s_after11 (a : Option Addr) (c : Nat) (l : List StM) (t : Int) (u : ByteArray) (W : World) (h : StSl W a l) (hl : l.length ≤ 1000) : Calls Tryz.prog 76 #[.slice a l.length c, .int .i64 t] W fun e w' => ∃ x q, e = .returned (.slice x (aftS l t).length q) ∧ OwnSt w' W.heap.size ⟨u, x, aftS l t, q⟩ ∧ Below W.heap.size W w' := by
 refine Calls.mono (after_any a c l t W h ?_) ?_
 ·omega
 rintro e w' ⟨v, rfl, ho, hb⟩
 obtain ⟨x, q, rfl, h1, h2, h3, h4⟩ := own_st ho
 exact ⟨x, q, rfl, ho, hb⟩
theorem stay_user : 89 ≠ 86 := by decide
theorem pruneU_next (l : List UsM) (t : Int) (j : Nat) (h : j < l.length) : pruneU (l.take (j + 1)) t = pruneU (l.take j) t ++ (if (aftS l[j].l t).isEmpty = true then [] else [⟨l[j].u, aftS l[j].l t⟩]) := by
 unfold pruneU
 rw [List.take_succ_eq_append_getElem h, List.map_append, List.filter_append]
 congr 1
 rw [List.map_cons, List.map_nil, List.filter_cons]
 cases (aftS l[j].l t).isEmpty <;> rfl
theorem usv_snoc (D : List UsL) (y : UsL) : usv (D ++ [y]) = usv D ++ [.string y.u, .slice y.a y.l.length y.c] := by
 unfold usv
 rw [List.map_append]
 exact pps_snoc _ _
set_option maxHeartbeats 8000000 in
theorem prune_any11 (x : SaL) (w : World) (h : SaAt w x) (hr : RightS x.m) (hc : stCnt x.m ≤ 220) :
  Calls Tryz.prog 23 #[saV x] w (Is w (pruneS x.m)) := by
 obtain ⟨HK, HZ⟩ := two_SB h 38 38
 obtain ⟨i0, hi, hz0, hz1, hz2⟩ := info_parts infoUs
 have hf := few_of hr hc
 have HS := Lib.hid HK
 have HZZ := Lib.hid HZ
 have HCP := Lib.hid (fun V (y : SaL) (hm : y.m = pruneS x.m) (hy : SaAt V y) => copied_any y V hy (hm ▸ few_of (right_prune hr) (n := 10000) (by have := cnt_prune x.m; omega)))
 obtain ⟨c0, c1, c2, c3, c4, c5⟩ := HK.cells
 obtain ⟨now, hor, oa, op, oc, ua, us, uc, sa, su, sc, ta, tb, tc⟩ := x
 have hun : us.length ≤ 220 := by have := hf.us; unfold SaL.m at this; simp only at this; rwa [umS_len] at this
 have hst : ∀ y ∈ us, y.l.length ≤ 220 := umS_st hf.st
 have HSA := Lib.hid (fun V (h : EnSl V sa su) => e_after sa sc su hor V h (Nat.le_trans hf.su (by decide)))
 have HAF := Lib.hid (fun V (y : UsL) (hy : y ∈ us) (h : StSl V y.a y.l) => s_after11 y.a y.c y.l hor y.u V h (by have := hst y hy; omega))
 have HPN := Lib.hid (fun j (hj : j < (umS us).length) => pruneU_next (umS us) hor j hj)
 have HML := Lib.hid (umS_len us)
 have HSZ : Hid (((w.alloc (.cells (saC ⟨now, hor, oa, op, oc, ua, us, uc, sa, su, sc, ta, tb, tc⟩) 38)).alloc (.cells (saC saO) 38)).heap.size = w.heap.size + 2) := by unfold Hid; rw [size1, size1]
 unfold saV saC at *
 dsimp only at *
 clear h hr hc HK HZ hf hst
 go_enter Tryz.func23, Tryz.ntmps23
 go_wp2
 obtain ⟨T, hT⟩ : ∃ T, T = ((w.alloc (.cells #[.int .i64 now, .int .i64 hor, .slice oa op.length oc, .slice ua us.length uc, .slice sa su.length sc, .slice ta tb.length tc] 38)).alloc (.cells #[.int .i64 0, .int .i64 0, .slice none 0 0, .slice none 0 0, .slice none 0 0, .slice none 0 0] 38)) := ⟨_, rfl⟩
 rw [← hT]
 have HS1 : Hid (SB w w.heap.size 38 ⟨now, hor, oa, op, oc, ua, us, uc, sa, su, sc, ta, tb, tc⟩ T) := by rw [hT]; exact HS.out
 have HZ1 : Hid (SB w (w.heap.size + 1) 38 saO T) := by rw [hT]; exact HZZ.out
 have hsz : T.heap.size = w.heap.size + 2 := by rw [hT]; exact HSZ.out
 have HSZ1 := Lib.hid hsz
 clear HS HZZ HSZ hT c0 c1 c2 c3 c4 c5 hsz
 go_loopw [3, 10] (fun v iv wr => ∃ (j : Nat) (D : List UsL), j ≤ us.length ∧ iv = .int .i64 j ∧ D.length ≤ j ∧ Hid (wr.ownsRow T.heap.size 89 2 v D.length (usv D)) ∧ Hid (∀ y ∈ D, OwnSt wr T.heap.size y) ∧ Hid (umS D = pruneU ((umS us).take j) hor) ∧ Hid (Below T.heap.size T wr)) (fun _ iv _ => us.length - (intOf iv).toNat)
 case atStart => exact ⟨0, [], by omega, rfl, Nat.le_refl _, ⟨rfl, .inl ⟨rfl, rfl⟩⟩, (fun y hy => by cases hy), rfl, Below.refl _ _⟩
 case round =>
  obtain ⟨j, D, hj, rfl, hD, HO, HD, HM, HB⟩ := hrel
  by_cases hjl : j < us.length
  ·have hS := HS1.out.below HB.out
   obtain ⟨b, off, rfl, hbl, r0, r1, hat⟩ := hS.at_.us.get hjl
   have hb1 := below_one wr (.cells #[.string us[j].u, .slice us[j].a us[j].l.length us[j].c] 89)
   obtain ⟨-, d1, -, -, -, -⟩ := hS.cells
   have hgl := hS.lt
   have HPJ : Hid (pruneU ((umS us).take (j + 1)) hor = pruneU ((umS us).take j) hor ++ (if (aftS us[j].l hor).isEmpty = true then [] else [⟨us[j].u, aftS us[j].l hor⟩])) := by
    have := HPN.out j (by rw [HML.out]; exact hjl)
    rw [show (umS us)[j]'(by rw [HML.out]; exact hjl) = (us[j]).m by simp [umS]] at this
    exact this
   have HCA := Lib.hid (HAF.out _ us[j] (List.getElem_mem hjl) (hat.st.below hb1))
   have HO1 := Lib.hid (own_below HO.out hb1)
   have HD1 : Hid (∀ y ∈ D, OwnSt (wr.alloc (.cells #[.string us[j].u, .slice us[j].a us[j].l.length us[j].c] 89)) T.heap.size y) := fun y hy => own_below (HD.out y hy) hb1
   have HB1 := Lib.hid (HB.out.trans (hb1.mono HB.out.size))
   have HBK := Lib.hid (heap_alloc_new wr (.cells #[.string us[j].u, .slice us[j].a us[j].l.length us[j].c] 89))
   have hzl : wr.heap.size < (wr.alloc (.cells #[.string us[j].u, .slice us[j].a us[j].l.length us[j].c] 89)).heap.size := by rw [size1]; omega
   have HZL := Lib.hid hzl
   clear hb1 HO HD HB HAF HPN hat hS hzl
   generalize us[j] = y at *
   go_wp2_with fail
   refine HCA.out.mono ?_
   rintro e w1 ⟨x1, q1, rfl, l1, h1⟩
   have hu : w1.cell? ⟨wr.heap.size, 0, none⟩ = some (.string y.u) := (pcell2 ((h1.block _ HZL.out).trans HBK.out)).1
   have hul := Nat.lt_of_lt_of_le HZL.out h1.size
   have HO2 := Lib.hid (own_below HO1.out h1)
   have HD2 : Hid (∀ y ∈ D, OwnSt w1 T.heap.size y) := fun y hy => own_below (HD1.out y hy) h1
   have HB2 := Lib.hid (HB1.out.trans (h1.mono HB1.out.size))
   have HL1 := Lib.hid (own_from l1 HB1.out.size)
   clear HO1 HD1 HB1 HBK HCA r0 r1 d1 hgl l1 h1 HZL
   by_cases hemp : (aftS y.l hor).length = 0
   ·have HN : Hid (umS D = pruneU ((umS us).take (j + 1)) hor) := by
     unfold Hid
     rw [HPJ.out, if_pos (by rw [List.isEmpty_iff]; exact List.eq_nil_of_length_eq_zero hemp), List.append_nil]
     exact HM.out
    clear HPJ HM
    go_wp2
    go_roundw
    case rel => exact ⟨j + 1, D, by omega, by go_num, by omega, HO2.out, HD2.out, HN.out, HB2.out⟩
    case measure => simp [intOf]; omega
   ·have HN : Hid (umS (D ++ [(⟨y.u, x1, aftS y.l hor, q1⟩ : UsL)]) = pruneU ((umS us).take (j + 1)) hor) := by
     unfold Hid
     rw [HPJ.out, if_neg (by rw [List.isEmpty_iff]; intro e; rw [e] at hemp; exact hemp rfl), ← HM.out]
     unfold umS
     rw [List.map_append]
     rfl
    have hb2 := below_one w1 (.cells #[.string y.u, .slice x1 (aftS y.l hor).length q1] 89)
    have HO3 := Lib.hid (own_below HO2.out hb2)
    have HB3 := Lib.hid (HB2.out.trans (hb2.mono HB2.out.size))
    have HS3 := Lib.hid HB3.out.size
    have HD3 : Hid (∀ z ∈ D ++ [(⟨y.u, x1, aftS y.l hor, q1⟩ : UsL)], OwnSt (w1.alloc (.cells #[.string y.u, .slice x1 (aftS y.l hor).length q1] 89)) T.heap.size z) := fun z hz => by
     rcases List.mem_append.1 hz with h | h
     ·exact own_below (HD2.out z h) hb2
     ·rw [List.mem_singleton.1 h]; exact own_below HL1.out hb2
    have hlen : (D ++ [(⟨y.u, x1, aftS y.l hor, q1⟩ : UsL)]).length ≤ j + 1 := by rw [List.length_append, List.length_singleton]; omega
    have hpos : 0 < (aftS y.l hor).length := by omega
    clear HPJ HM hb2
    go_wp2_with (at_builtin; refine wpList_append_own _ rfl (.tmp 22) (.tmp 27) 34 rfl T.heap.size 89 i0 _ 2 40 Tryz.underlying34 hi hz0 hz1 hz2 rfl (by decide) _ _ _ rfl HO3.out ⟨w1.heap.size, 0, none⟩ 1 1 [.string y.u, .slice x1 (aftS y.l hor).length q1] rfl rfl (news_at _ _ _ _ rfl) (by intro u hu; simp at hu; rcases hu with rfl | rfl <;> rfl) (by unfold maxLen; omega) (by omega) HS3.out ?_; intro v' w2 hown' hgrow hiff)
    have HB4 := Lib.hid (app_below HB3.out HS3.out HO3.out hgrow)
    have HO4 : Hid (w2.ownsRow T.heap.size 89 2 v' (D ++ [(⟨y.u, x1, aftS y.l hor, q1⟩ : UsL)]).length (usv (D ++ [(⟨y.u, x1, aftS y.l hor, q1⟩ : UsL)]))) := by unfold Hid; rw [usv_snoc, List.length_append]; exact hown'
    have HD4 : Hid (∀ z ∈ D ++ [(⟨y.u, x1, aftS y.l hor, q1⟩ : UsL)], OwnSt w2 T.heap.size z) := fun z hz => own_grown HO3.out (HD3.out z hz) stay_user hgrow
    clear hown' hgrow hiff HO2 HD2 HB2 HO3 HD3 HB3 HS3 HL1 hu hul
    go_wp2
    go_roundw
    case rel => exact ⟨j + 1, D ++ [(⟨y.u, x1, aftS y.l hor, q1⟩ : UsL)], by omega, by go_num, hlen, HO4.out, HD4.out, HN.out, HB4.out⟩
    case measure => simp [intOf]; omega
  ·obtain rfl : j = us.length := by omega
   have hS := HS1.out.below HB.out
   have hZ := HZ1.out.below HB.out
   rw [List.take_of_length_le (by rw [HML.out]; exact Nat.le_refl _)] at HM
   obtain ⟨xu, qu, rfl, hlu, hmu, hru, hnu⟩ := own_us (D := D) HO.out
   have hUS : UsSl wr xu D := ⟨hru, fun y hy => (HD.out y hy).at_⟩
   have HU := Lib.hid (And.intro hUS (Cp.mk hlu hmu hnu))
   have HK1 := Lib.hid hS
   have HZ2 := Lib.hid hZ
   obtain ⟨c0, c1, c2, c3, c4, c5⟩ := hS.cells
   dsimp only at *
   clear hS hZ hUS HO HD HB HAF HPN hru HS1 HZ1 HSZ1 HML
   go_wp2_with fail
   refine (HSA.out _ HK1.out.at_.su).mono ?_
   rintro e w1 ⟨x3, q3, rfl, i3, j3, k3, l3, h3⟩
   have A1 := HK1.out.below h3
   have B1 := HZ2.out.below h3
   have A2 := A1.setUs rfl (HU.out.1.below h3) HU.out.2
   have A3 := A2.setSu rfl (l3.setB A1.blk 3 (.slice xu D.length qu)) ⟨i3, j3, k3⟩
   have B2 := B1.far A1 (by omega) 3 (.slice xu D.length qu)
   have B3 := B2.far A2 (by omega) 4 (.slice x3 (su.filter (afE hor)).length q3)
   have hym : (⟨now, hor, oa, op, oc, xu, D, qu, x3, su.filter (afE hor), q3, ta, tb, tc⟩ : SaL).m = pruneS (⟨now, hor, oa, op, oc, ua, us, uc, sa, su, sc, ta, tb, tc⟩ : SaL).m := by
    unfold SaL.m pruneS
    simp only
    rw [HM.out]
    rfl
   have HCY := Lib.hid (fun V (hy : SaAt V _) => HCP.out V _ hym hy)
   have HYM := Lib.hid hym
   have HA := Lib.hid A3
   have HBB := Lib.hid B3
   clear c0 c1 c2 c3 c4 c5
   obtain ⟨c0, c1, c2, c3, c4, c5⟩ := A1.cells
   obtain ⟨f0, f1, f2, f3, f4, f5⟩ := A1.free
   have hgl := A1.lt
   obtain ⟨d0, d1, d2, d3, d4, d5⟩ := A3.cells
   dsimp only at *
   clear A1 B1 A2 A3 B2 B3 HSA HK1 HZ2 HU i3 j3 k3 l3 h3 HCP HM hym
   go_wp2_with fail
   refine (HCY.out _ HA.out.at_).mono ?_
   rintro e1 w2 ⟨y2, rfl, l1, m1, h1⟩
   have B1 := HBB.out.below h1
   have hfin := SB.finV l1 B1
   clear c0 c1 c2 c3 c4 c5 f0 f1 f2 f3 f4 f5 hgl d0 d1 d2 d3 d4 d5
   obtain ⟨c0, c1, c2, c3, c4, c5⟩ := B1.cells
   obtain ⟨f0, f1, f2, f3, f4, f5⟩ := B1.free
   have hzl := B1.lt
   have HL := Lib.hid hfin.1
   have HFN := Lib.hid (And.intro hfin.2.1 (And.intro (m1.trans HYM.out) hfin.2.2))
   obtain ⟨now2, hor2, oa2, op2, oc2, ua2, us2, uc2, sa2, su2, sc2, ta2, tb2, tc2⟩ := y2
   unfold setS saV saC at HL
   (try unfold saV at *)
   (try unfold saC at *)
   unfold saO at c0 c1 c2 c3 c4 c5
   dsimp only at *
   clear HA HBB B1 hfin l1 m1 h1 HCY HYM
   go_wp2
   refine bodyPost_ret (v := saV ⟨now2, hor2, oa2, op2, oc2, ua2, us2, uc2, sa2, su2, sc2, ta2, tb2, tc2⟩) ?_ rfl ⟨_, rfl, HFN.out⟩
   rw [results_cell1 rfl]
   unfold saV saC
   simp [asAddr, Result.andThen, HL.out]
end Go.Proofs.YtjhdhfokhkcamaaGreat
