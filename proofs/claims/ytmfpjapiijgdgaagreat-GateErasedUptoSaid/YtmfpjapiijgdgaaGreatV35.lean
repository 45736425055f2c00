/- Texts of mine, one behind the other, of each what is wanted. -/
import Derived.Test.YtmfpjapiijgdgaaGreatV00
import Derived.Test.YtmfpjapiijgdgaaGreatRows
import Derived.Test.YtmfpjapiijgdgaaGreatShelf
import Derived.Test.YtmfpjapiijgdgaaGreatV01
import Derived.Test.YtmfpjapiijgdgaaGreatV03
import Derived.Test.YtmfpjapiijgdgaaGreatV04
import Derived.Test.YtmfpjapiijgdgaaGreatV05
import Derived.Test.YtmfpjapiijgdgaaGreatV06
import Derived.Test.YtmfpjapiijgdgaaGreatV07
import Derived.Test.YtmfpjapiijgdgaaGreatV13
import Derived.Test.YtmfpjapiijgdgaaGreatV17
import Derived.Test.YtmfpjapiijgdgaaGreatV20
import Derived.Test.YtmfpjapiijgdgaaGreatV25
import Derived.Test.YtmfpjapiijgdgaaGreatV28
import Derived.Test.YtmfpjapiijgdgaaGreatV29
namespace Go.Proofs.YtmfpjapiijgdgaaGreat
open Go.ChangeShapes Go.WideShapes Go.ChangeAt Go.RowKit
open Go.ChangeMaps (open_string shut_string)
set_option linter.unusedVariables false
set_option maxRecDepth 100000
theorem own : ownKnob Tryz.prog.godebug = none := by kernel_rfl
theorem laidOut : laidOutB Tryz.prog = true := by kernel_rfl
section
variable {H : Type} {enc : TypeId × Value → H}
def tyOk (P : Program) (t : TypeId) : Bool := P.readableRec t && decide (t < P.types.size)
theorem trodAll_keep {P : Program} (hP : laidOutB P = true) {W W' : World} (hb : Below W.heap.size W W') (ts : List TypeId) : ∀ {vs : List Value} {ds : List (DataW H)} {ps : List MemPlace}, ts.all (tyOk P) = true → (∀ p ∈ ps, p.block < W.heap.size) →
  DataW.TrodAll enc P W 0 (fun _ => true) true ts vs ds ps → DataW.TrodAll enc P W' 0 (fun b => decide (b < W.heap.size)) true ts vs ds ps := by
 induction ts with
 | nil =>
  intro vs ds ps _ _ h
  obtain ⟨rfl, rfl, rfl⟩ := trodAll_nil h
  exact trodAll_mk0
 | cons t ts ih =>
  intro vs ds ps ht hlt h
  obtain ⟨v, vs', d, ds', p, q, rfl, rfl, rfl, h1, h2⟩ := trodAll_cons h
  rw [List.all_cons, Bool.and_eq_true] at ht
  have ht1 := ht.1
  unfold tyOk at ht1
  rw [Bool.and_eq_true, decide_eq_true_eq] at ht1
  exact trodAll_cons_mk (Below.trod hP ht1.1 ht1.2 h1 hb (fun x hx => hlt x (List.mem_append_left _ hx))) (ih ht.2 (fun x hx => hlt x (List.mem_append_right _ hx)) h2)
theorem law_post {f : Func} {s : ChangeSpec} {W W' : World} {args : Array Value} {ds gs : List (DataW H)} {before : List MemPlace} (hv : s.vars = [])
  (hW : DataW.Whole enc Tryz.prog f.params.toList s.vars false W args.toList ds gs before) (hs : ∀ ds : List (DataW H), ds.length = f.params.toList.length → s.fn H ds = { results := [.lit (.bool true)], args := ds })
  (hl : ds.length = f.params.toList.length) (ht : f.params.toList.all (tyOk Tryz.prog) = true) (hr : f.resultTypes = #[4]) (hb : Below W.heap.size W W') :
  s.post enc Tryz.prog f false true false false W args (.bool true) W' := by
 obtain ⟨p, q, hA, hV, rfl, hfz, hnd⟩ := hW
 have hV0 := hV
 rw [hv] at hV
 obtain ⟨rfl, rfl⟩ := trodVars_none hV
 have hlt : ∀ x ∈ p ++ [], x.block < W.heap.size := DataW.Whole.lt ⟨p, [], hA, hV0, rfl, hfz, hnd⟩
 have e : s.fn H (ds ++ []) = { results := [.lit (.bool true)], args := ds } := by rw [List.append_nil]; exact hs ds hl
 refine ⟨ds, [], p ++ [], [], p, [], ⟨p, [], hA, hV0, rfl, hfz, hnd⟩, ?_, ?_, ?_, hb.frame _, fun h => by cases h⟩
 ·rw [e, hr]
  exact trodAll_cons_mk (shut_bool Tryz.underlying4 _) trodAll_mk0
 ·rw [e]
  exact trodAll_keep laidOut hb _ ht (fun x hx => hlt x (by simpa using hx)) hA
 ·rw [e, hv]
  rfl
end
end Go.Proofs.YtmfpjapiijgdgaaGreat
namespace Go.Proofs.YtmfpjapiijgdgaaGreat
open Go.RowKit Go.Proofs
set_option linter.unusedVariables false
set_option maxRecDepth 100000
set_option maxRecDepth 100000
theorem noT_iff (s : ByteArray) : noT s = true ↔ s = ⟨#[]⟩ := by
 unfold noT
 rw [beq_iff_eq]
 constructor
 ·intro h
  rw [show (⟨#[]⟩ : ByteArray) = tx [] from rfl, toList_tx, ByteArray.toList_eq] at h
  rcases s with ⟨d⟩
  exact congrArg ByteArray.mk (Array.toList_eq_nil_iff.1 h)
 ·rintro rfl; rfl
theorem inB_iff (a b n : Int) : inB a b n = true ↔ a ≤ n ∧ n ≤ b := by unfold inB; simp
theorem nameB_nil : nameB ⟨#[]⟩ = false := by decide
theorem rightE_iff (k a n st : Int) (u o : ByteArray) : rightE ⟨k, a, u, o, n, st⟩ = true ↔ RightV k a n st u o := by
 unfold rightE RightV
 dsimp only
 have hcase : k = 1 ∨ k = 2 ∨ k = 3 ∨ k = 7 ∨ k = 4 ∨ k = 5 ∨ k = 6 ∨ (k < 1 ∨ 7 < k) := by omega
 have hn : ∀ s, isN s = nameB s := fun _ => rfl
 rcases hcase with rfl | rfl | rfl | rfl | rfl | rfl | rfl | hk
 all_goals try (by_cases hA : nameB u = true <;> by_cases hB : nameB o = true <;> by_cases hC : o = ⟨#[]⟩ <;> by_cases hD : u = ⟨#[]⟩ <;> simp [shK, isK, rText, Bool.and_eq_true, inB_iff, hn, noT_iff, hA, hB, hC, hD, nameB_nil] <;> (try omega))
theorem behind_any (x : SaL) (k a n st : Int) (u o : ByteArray) (w : World) (h : SaAt w x) (hf : Few x.m 400) (hk : RiseK UsM.u (umS x.us)) (ht : RiseK TbM.u x.tb) (h7 : 1 ≤ k ∧ k ≤ 7) :
  Calls Tryz.prog 134 #[saV x, evV ⟨k, a, u, o, n, st⟩] w (Told w x (errK x.m k a n st u o) { goS x.m k a n st u o with now := x.now }) := by
 have hcase : k = 1 ∨ k = 2 ∨ k = 3 ∨ k = 4 ∨ k = 5 ∨ k = 6 ∨ k = 7 := by omega
 rcases hcase with rfl | rfl | rfl | rfl | rfl | rfl | rfl
 ·exact behind1 x a n st u o w h hf hk ht
 ·exact behind2 x a n st u o w h hf hk ht
 ·exact behind3 x a n st u o w h hf hk ht
 ·exact behind4 x a n st u o w h hf hk ht
 ·exact behind5 x a n st u o w h hf hk ht
 ·exact behind6 x a n st u o w h hf hk ht
 ·exact behind7 x a n st u o w h hf hk ht
theorem few_of {s : SaM} (h : RightS s) {n : Nat} (hc : stCnt s ≤ n) : Few s n := by
 have hu : ∀ l : List UsM, (∀ x ∈ l, x.l ≠ []) → l.length ≤ cntU l ∧ ∀ x ∈ l, x.l.length ≤ cntU l := by
  intro l
  induction l with
  | nil => intro _; exact ⟨Nat.zero_le _, fun x hx => by cases hx⟩
  | cons y l ih =>
   intro hl
   obtain ⟨h1, h2⟩ := ih fun x hx => hl x (List.mem_cons_of_mem _ hx)
   have h3 : 0 < y.l.length := List.length_pos_iff.2 (hl y (List.mem_cons_self ..))
   rw [cntU_cons]
   refine ⟨by rw [List.length_cons]; omega, fun x hx => ?_⟩
   rcases List.mem_cons.1 hx with rfl | hx
   ·omega
   ·have := h2 x hx; omega
 obtain ⟨h1, h2⟩ := hu s.us fun x hx => (h.us x hx).2.1
 unfold stCnt at hc
 exact ⟨by omega, by omega, by omega, by omega, fun x hx => by have := h2 x hx; omega⟩
theorem Few.mono {s : SaM} {a b : Nat} (h : Few s a) (hab : a ≤ b) : Few s b := ⟨Nat.le_trans h.op hab, Nat.le_trans h.us hab, Nat.le_trans h.su hab, Nat.le_trans h.tb hab, fun x hx => Nat.le_trans (h.st x hx) hab⟩
theorem errK_one (s : SaM) (k a n st : Int) (u o : ByteArray) : errK s k a n st u o = 0 ∨ errK s k a n st u o = 90 ∨ errK s k a n st u o = 91 ∨ errK s k a n st u o = 100 ∨ errK s k a n st u o = 101 ∨ errK s k a n st u o = 102 ∨ errK s k a n st u o = 103 := by
 unfold errK openC
 rcases fc_three s.op n u with ⟨h1, _⟩ | ⟨h1 | h1, _⟩
 all_goals
  rw [h1]
  repeat' split
  all_goals simp
theorem goS_now (s : SaM) (k a n st : Int) (u o : ByteArray) : (goS s k a n st u o).now = a := by
 unfold goS
 repeat' split
 all_goals rfl
def Tells (w : World) (s : SaM) (er : Int) (r : Ending) (w' : World) : Prop := ∃ y, r = .returned (.tuple #[saV y, .int .i64 er]) ∧ SaAt w' y ∧ y.m = s ∧ Below w.heap.size w w'
theorem SB.finZ {w T : World} {r : Nat} {t : TypeId} {z : SaL} (hZ : SB w r t z T) : (loadVar 39 ⟨r, 0, none⟩).run Tryz.prog ((((((T.setCell ⟨r, 0, none⟩ (.int .i64 0)).setCell ⟨r, 1, none⟩ (.int .i64 0)).setCell ⟨r, 2, none⟩ (.slice none 0 0)).setCell ⟨r, 3, none⟩ (.slice none 0 0)).setCell ⟨r, 4, none⟩ (.slice none 0 0)).setCell ⟨r, 5, none⟩ (.slice none 0 0)) = .ok (.agg #[.int .i64 0, .int .i64 0, .slice none 0 0, .slice none 0 0, .slice none 0 0, .slice none 0 0]) ((((((T.setCell ⟨r, 0, none⟩ (.int .i64 0)).setCell ⟨r, 1, none⟩ (.int .i64 0)).setCell ⟨r, 2, none⟩ (.slice none 0 0)).setCell ⟨r, 3, none⟩ (.slice none 0 0)).setCell ⟨r, 4, none⟩ (.slice none 0 0)).setCell ⟨r, 5, none⟩ (.slice none 0 0)) ∧ SaAt (setS T r saO) saO ∧ Below w.heap.size w (setS T r saO) := by
 have h := SB.finV (SaAt.zero T) hZ
 have h1 := h.1
 unfold setS saV saC saO at h1
 simp only [List.length_nil] at h1
 exact ⟨h1, h.2⟩
set_option maxHeartbeats 8000000 in
theorem apply_any (x : SaL) (k a n st : Int) (u o : ByteArray) (w : World) (h : SaAt w x) (hr : RightS x.m) (hc : stCnt x.m ≤ 200) (hu : u.size ≤ maxLen) (ho : o.size ≤ maxLen) :
  Calls Tryz.prog 62 #[saV x, evV ⟨k, a, u, o, n, st⟩] w (Tells w (tellS x.m k a n st u o) (errS x.m k a n st u o)) := by
 obtain ⟨HK, HE, HZ⟩ := three_SB h ⟨k, a, u, o, n, st⟩ 39 64 39
 have HR := Lib.hid (fun V => evright_any ⟨k, a, u, o, n, st⟩ ⟨hu, ho⟩ V)
 have HS := Lib.hid HK
 have HZZ := Lib.hid HZ
 have HEE := Lib.hid HE
 by_cases hv : RightV k a n st u o
 ·rw [(rightE_iff k a n st u o).2 hv] at HR
  by_cases hlt : a < x.now
  ·-- a time that is past
   have he : errS x.m k a n st u o = 111 := by unfold errS; rw [if_pos hv, if_pos (show a < x.m.now from hlt)]
   have ht : tellS x.m k a n st u o = saZ := by unfold tellS; rw [he, if_neg (by decide)]
   rw [he, ht]
   obtain ⟨⟨e0, e1, e2, e3, e4, e5⟩, -⟩ := cells6 HE.blk
   obtain ⟨now, hor, oa, op, oc, ua, us, uc, sa, su, sc, ta, tb, tc⟩ := x
   unfold saV evV saC at *
   dsimp only at *
   clear h hr hc HK HZ HE
   go_enter Tryz.func62, Tryz.ntmps62
   go_wp2_with fail
   refine (HR.out _).mono ?_
   rintro e w1 ⟨rfl, h1⟩
   have B1 := HZZ.out.below h1
   have A1 := HS.out.below h1
   have hfin := B1.finZ
   clear e0 e1 e2 e3 e4 e5
   obtain ⟨⟨e0, e1, e2, e3, e4, e5⟩, -⟩ := cells6 (HEE.out.below h1).blk
   obtain ⟨c0, c1, c2, c3, c4, c5⟩ := A1.cells
   obtain ⟨z0, z1, z2, z3, z4, z5⟩ := B1.cells
   obtain ⟨y0, y1, y2, y3, y4, y5⟩ := B1.free
   have hzl := B1.lt
   have HL := Lib.hid hfin.1
   have HFN := Lib.hid hfin.2
   unfold saO at z0 z1 z2 z3 z4 z5
   dsimp only at *
   clear HS HZZ HEE A1 B1 hfin h1 HR
   go_wp2
   refine bodyPost_ret (v := .tuple #[saV saO, .int .i64 111]) ?_ rfl ⟨_, rfl, HFN.out.1, rfl, HFN.out.2⟩
   rw [results_cellT rfl]
   unfold saV saC saO
   simp [asAddr, Result.andThen, HL.out]
  ·-- what the event does
   have h7 : 1 ≤ k ∧ k ≤ 7 := by
    obtain ⟨_, _, hh⟩ := hv
    omega
   have hf := few_of hr hc
   have HB := Lib.hid (fun V (h : SaAt V x) => behind_any x k a n st u o V h (hf.mono (by decide)) hr.ur hr.tr h7)
   have hes : errS x.m k a n st u o = errK x.m k a n st u o := by unfold errS; rw [if_pos hv, if_neg (show ¬ a < x.m.now from hlt)]
   have hgo : errK x.m k a n st u o = 0 → Few (goS x.m k a n st u o) 10000 := fun he => (few_of (right_go hr (hes.trans he)) (cnt_go x.m k a n st u o)).mono (by omega)
   have htz : errK x.m k a n st u o ≠ 0 → tellS x.m k a n st u o = saZ := fun he => by unfold tellS; rw [hes, if_neg he]
   have htg : errK x.m k a n st u o = 0 → tellS x.m k a n st u o = goS x.m k a n st u o := fun he => by unfold tellS; rw [hes, if_pos he]
   have hnow := goS_now x.m k a n st u o
   rw [hes]
   have hone := errK_one x.m k a n st u o
   generalize errK x.m k a n st u o = er at *
   generalize goS x.m k a n st u o = G at *
   generalize tellS x.m k a n st u o = R at *
   obtain ⟨⟨e0, e1, e2, e3, e4, e5⟩, -⟩ := cells6 HE.blk
   obtain ⟨now, hor, oa, op, oc, ua, us, uc, sa, su, sc, ta, tb, tc⟩ := x
   unfold saV evV saC at *
   dsimp only at *
   clear h hr hc HK HZ HE hf hv
   go_enter Tryz.func62, Tryz.ntmps62
   go_wp2_with fail
   refine (HR.out _).mono ?_
   rintro e w1 ⟨rfl, h1⟩
   have B1 := Lib.hid (HZZ.out.below h1)
   have A1 := Lib.hid (HS.out.below h1)
   have E1 := Lib.hid (HEE.out.below h1)
   clear e0 e1 e2 e3 e4 e5
   obtain ⟨⟨e0, e1, e2, e3, e4, e5⟩, -⟩ := cells6 E1.out.blk
   obtain ⟨c0, c1, c2, c3, c4, c5⟩ := A1.out.cells
   dsimp only at *
   clear HS HZZ HEE h1 HR
   go_wp2_with fail
   refine (HB.out _ A1.out.at_).mono ?_
   rintro e w2 ⟨y, rfl, y1, y2, h2⟩
   have B2 := Lib.hid (B1.out.below h2)
   have E2 := Lib.hid (E1.out.below h2)
   obtain ⟨now1, hor1, oa1, op1, oc1, ua1, us1, uc1, sa1, su1, sc1, ta1, tb1, tc1⟩ := y
   unfold saV saC at *
   dsimp only at *
   clear e0 e1 e2 e3 e4 e5 c0 c1 c2 c3 c4 c5
   obtain ⟨⟨e0, e1, e2, e3, e4, e5⟩, -⟩ := cells6 E2.out.blk
   have hel := heap_lt E2.out.blk
   by_cases he : er = 0
   ·have y3 := y2 he
    have hR := htg he
    subst hR
    have hy : SaAt w2 ⟨a, hor1, oa1, op1, oc1, ua1, us1, uc1, sa1, su1, sc1, ta1, tb1, tc1⟩ := ⟨y1.op, y1.us, y1.su, y1.tb, y1.oc, y1.uc, y1.sc, y1.tc⟩
    have hym : (⟨a, hor1, oa1, op1, oc1, ua1, us1, uc1, sa1, su1, sc1, ta1, tb1, tc1⟩ : SaL).m = R := by
     unfold SaL.m at y3 ⊢
     obtain ⟨Gn, Gh, Go, Gu, Gs, Gt⟩ := R
     simp only at y3 hnow ⊢
     injection y3 with _ g1 g2 g3 g4 g5
     rw [hnow, g1, g2, g3, g4, g5]
    have HC := Lib.hid (fun V (q : Below w2.heap.size w2 V) => copied_any _ V (hy.below q) (hym.symm ▸ hgo he))
    rw [hym] at HC
    unfold saV saC at HC
    subst he
    dsimp only at *
    clear A1 E1 B1 E2 HB htz htg hgo hnow y1 y2 y3 hy hym h2 hlt h7 hes hone
    go_wp2_with fail
    refine (HC.out _ (below_one _ _)).mono ?_
    rintro e w3 ⟨z, rfl, z1, z2, h3⟩
    have B3 := (B2.out.below (below_one w2 _)).below h3
    have hfin := SB.finV z1 B3
    clear e0 e1 e2 e3 e4 e5 hel
    obtain ⟨c0, c1, c2, c3, c4, c5⟩ := B3.cells
    obtain ⟨f0, f1, f2, f3, f4, f5⟩ := B3.free
    have hzl := B3.lt
    have HL := Lib.hid hfin.1
    have HFN := Lib.hid (And.intro hfin.2.1 (And.intro z2 hfin.2.2))
    obtain ⟨now2, hor2, oa2, op2, oc2, ua2, us2, uc2, sa2, su2, sc2, ta2, tb2, tc2⟩ := z
    unfold setS saV saC at HL
    unfold saV saC at *
    unfold saO at c0 c1 c2 c3 c4 c5
    dsimp only at *
    clear B2 B3 hfin z1 z2 h3 HC
    go_wp2
    refine bodyPost_ret (v := .tuple #[saV ⟨now2, hor2, oa2, op2, oc2, ua2, us2, uc2, sa2, su2, sc2, ta2, tb2, tc2⟩, .int .i64 0]) ?_ rfl ⟨_, rfl, HFN.out⟩
    rw [results_cellT rfl]
    unfold saV saC
    simp [asAddr, Result.andThen, HL.out]
   ·have hR := htz he
    subst hR
    have B3 := B2.out.below (below_one w2 (.cells #[.int .i64 now1, .int .i64 hor1, .slice oa1 op1.length oc1, .slice ua1 us1.length uc1, .slice sa1 su1.length sc1, .slice ta1 tb1.length tc1] 39))
    have hfin := B3.finZ
    have HB3 := Lib.hid B3
    have HL := Lib.hid hfin.1
    have HFN := Lib.hid hfin.2
    clear A1 E1 B1 E2 HB htz htg hgo hnow y1 y2 h2 hlt h7 hes B2 B3 hfin
    rcases hone with h9 | h9 | h9 | h9 | h9 | h9 | h9
    ·exact absurd h9 he
    all_goals
     clear he
     subst h9
     go_upto_region 7 with fail
     clear e0 e1 e2 e3 e4 e5 hel
     generalize hW : w2.alloc _ = W3 at *
     clear hW
     obtain ⟨z0, z1, z2, z3, z4, z5⟩ := HB3.out.cells
     obtain ⟨f0, f1, f2, f3, f4, f5⟩ := HB3.out.free
     have hzl := HB3.out.lt
     unfold saO at z0 z1 z2 z3 z4 z5
     dsimp only at *
     clear HB3
     go_wp2
     refine bodyPost_ret (v := .tuple #[saV saO, .int .i64 _]) ?_ rfl ⟨_, rfl, HFN.out.1, rfl, HFN.out.2⟩
     rw [results_cellT rfl]
     unfold saV saC saO
     simp [asAddr, Result.andThen, HL.out]
 ·have he : errS x.m k a n st u o = 110 := by unfold errS; rw [if_neg hv]
  have ht : tellS x.m k a n st u o = saZ := by unfold tellS; rw [he, if_neg (by decide)]
  rw [he, ht]
  have hE : rightE ⟨k, a, u, o, n, st⟩ = false := Bool.eq_false_iff.2 fun e => hv ((rightE_iff k a n st u o).1 e)
  rw [hE] at HR
  obtain ⟨⟨e0, e1, e2, e3, e4, e5⟩, -⟩ := cells6 HE.blk
  obtain ⟨now, hor, oa, op, oc, ua, us, uc, sa, su, sc, ta, tb, tc⟩ := x
  unfold saV evV saC at *
  dsimp only at *
  clear h hr hc HK HZ HE
  go_enter Tryz.func62, Tryz.ntmps62
  go_wp2_with fail
  refine (HR.out _).mono ?_
  rintro e w1 ⟨rfl, h1⟩
  have B1 := HZZ.out.below h1
  have hfin := B1.finZ
  clear e0 e1 e2 e3 e4 e5
  obtain ⟨z0, z1, z2, z3, z4, z5⟩ := B1.cells
  obtain ⟨y0, y1, y2, y3, y4, y5⟩ := B1.free
  have hzl := B1.lt
  have HL := Lib.hid hfin.1
  have HFN := Lib.hid hfin.2
  unfold saO at z0 z1 z2 z3 z4 z5
  dsimp only at *
  clear HS HZZ HEE B1 hfin h1 HR
  go_wp2
  refine bodyPost_ret (v := .tuple #[saV saO, .int .i64 110]) ?_ rfl ⟨_, rfl, HFN.out.1, rfl, HFN.out.2⟩
  rw [results_cellT rfl]
  unfold saV saC saO
  simp [asAddr, Result.andThen, HL.out]
end Go.Proofs.YtmfpjapiijgdgaaGreat
namespace Go.Proofs.YtmfpjapiijgdgaaGreat
open Go.RowKit Go.Sort Go.Proofs
set_option linter.unusedVariables false
set_option maxRecDepth 100000
theorem count_mono (p : Nat → Bool) : ∀ n, (∀ a b, a ≤ b → b < n → p a = true → p b = true) → (List.range n).countP (fun i => !p i) ≤ n ∧ (∀ j, j < (List.range n).countP (fun i => !p i) → p j = false) ∧ (∀ j, (List.range n).countP (fun i => !p i) ≤ j → j < n → p j = true)
 | 0, _ => ⟨by simp, fun j h => absurd h (by simp), fun j _ h => absurd h (by omega)⟩
 | n + 1, h => by
  obtain ⟨h1, h2, h3⟩ := count_mono p n (fun a b hab hb => h a b hab (by omega))
  rw [List.range_succ, List.countP_append]
  generalize (List.range n).countP (fun i => !p i) = k at *
  by_cases hp : p n = true
  ·have e : [n].countP (fun i => !p i) = 0 := by simp [hp]
   rw [e, Nat.add_zero]
   refine ⟨by omega, h2, fun j hj hjn => ?_⟩
   rcases Nat.lt_or_ge j n with h4 | h4
   ·exact h3 j hj h4
   ·obtain rfl : j = n := by omega
    exact hp
  ·have hp' : p n = false := by simpa using hp
   have e : [n].countP (fun i => !p i) = 1 := by simp [hp']
   have hk : k = n := by
    rcases Nat.lt_or_ge k n with h4 | h4
    ·exact absurd (h k n (by omega) (by omega) (h3 k (Nat.le_refl _) h4)) hp
    ·omega
   subst hk
   rw [e]
   refine ⟨Nat.le_refl _, fun j hj => ?_, fun j hj hjn => absurd hjn (by omega)⟩
   rcases Nat.lt_or_ge j k with h4 | h4
   ·exact h2 j h4
   ·obtain rfl : j = k := by omega
    exact hp'
def pS (f : Int) (r : List SpM) (i : Nat) : Bool := decide (f < (r.getD i ⟨0, 0⟩).t)
theorem pS_at {f : Int} {r : List SpM} {i : Nat} (h : i < r.length) : pS f r i = decide (f < r[i].t) := by
 unfold pS
 rw [List.getD_eq_getElem?_getD, List.getElem?_eq_getElem h]
 rfl
theorem norm_up {r : List SpM} (h : NormL r) : ∀ a b, a ≤ b → ∀ (hb : b < r.length), ∀ (ha : a < r.length), r[a].t ≤ r[b].t := by
 induction r with
 | nil => intro a b _ hb; exact absurd hb (by simp)
 | cons s r ih =>
  intro a b hab hb ha
  cases a with
  | zero =>
   cases b with
   | zero => exact Int.le_refl _
   | succ b =>
    have hb' : b < r.length := by simpa using hb
    have h1 := h.1.2.1 r[b] (List.getElem_mem hb')
    have h2 := h.2 r[b] (List.mem_cons_of_mem _ (List.getElem_mem hb'))
    show s.t ≤ r[b].t
    omega
  | succ a =>
   cases b with
   | zero => omega
   | succ b => exact ih h.tail a b (by omega) (by simpa using hb) (by simpa using ha)
theorem pS_mono {f : Int} {r : List SpM} (h : NormL r) : ∀ a b, a ≤ b → b < r.length → pS f r a = true → pS f r b = true := fun a b hab hb hp => by
 rw [pS_at (by omega)] at hp
 rw [pS_at hb]
 have h1 := norm_up h a b hab hb (by omega)
 have h2 := of_decide_eq_true hp
 exact decide_eq_true (by omega)
theorem norm_drop : ∀ {r : List SpM} (k : Nat), NormL r → NormL (r.drop k)
 | [], k, h => by simpa using h
 | s :: r, 0, h => h
 | s :: r, k + 1, h => norm_drop k h.tail
theorem rowOf_stop {s : SpM} {q : List SpM} {j : Nat} (hq : NormL q) (ht : ∀ n ∈ q, s.f < n.t) (hj : j < q.length) (h : ¬ (meetS s q[j]).f < (meetS s q[j]).t) : rowOf s (q.take j) = rowOf s q := by
 have h1 := rowOf_append s (q.take j) (q.drop j)
 rw [List.take_append_drop, List.drop_eq_getElem_cons hj] at h1
 have h2 := norm_drop j hq
 rw [List.drop_eq_getElem_cons hj] at h2
 rw [rowOf_rest h2 (ht _ (List.getElem_mem hj)) h, List.append_nil] at h1
 exact h1.symm
def cntS (f : Int) (r : List SpM) : Nat := (List.range r.length).countP (fun i => !pS f r i)
theorem cntS_is {s : SpM} {r : List SpM} (h : NormL r) : cntS s.f r ≤ r.length ∧ rowOf s (r.drop (cntS s.f r)) = rowOf s r ∧ (∀ n ∈ r.drop (cntS s.f r), s.f < n.t) := by
 obtain ⟨h1, h2, h3⟩ := count_mono (pS s.f r) r.length (pS_mono h)
 refine ⟨h1, rowOf_drop fun j hj hjk => ?_, fun n hn => ?_⟩
 ·have := h2 j hjk
  rw [pS_at hj] at this
  have := of_decide_eq_false this
  omega
 ·obtain ⟨j, hj, hkj, rfl⟩ := mem_drop_get hn
  have := h3 j hkj hj
  rw [pS_at hj] at this
  exact of_decide_eq_true this
set_option maxHeartbeats 1000000 in
theorem closure8_any (x : StM) (b off c p g i : Nat) (r : List SpM) (W : World) (hi : i < r.length) (hr : SpSl W (some ⟨b, off, none⟩) r)
  (hp : W.cell? ⟨p, 0, none⟩ = some (.slice (some ⟨b, off, none⟩) r.length c)) (hg : W.cell? ⟨g, 0, none⟩ = some (.int .i64 x.f)) (hl : r.length ≤ 1000000) :
  Calls Tryz.prog 200 #[.int .i64 i, .pointer (some ⟨p, 0, none⟩), .pointer (some ⟨g, 0, none⟩)] W fun e w' => e = .returned (.bool (pS x.f r i)) ∧ Grew W w' := by
 obtain ⟨b1, o1, e1, hb1, hc0, hc1⟩ := hr.at_ hi
 cases e1
 have HE := Lib.hid (pS_at (f := x.f) hi)
 rw [HE.out]
 clear hr
 generalize r[i] = y at *
 generalize x.f = f at *
 go_enter Tryz.func200, Tryz.ntmps200
 go_wp2
 go_quiet (fail)
 go_wp2
 go_ret
 exact ⟨rfl, ⟨_, #[], by rw [grow_empty]⟩⟩
structure PcK (w : World) (g : Nat) (x : StM) (a : Option Addr) (l : List SpM) (W : World) : Prop where
 box : W.heap[g]? = some (.cells #[.int .i64 x.f, .int .i64 x.t, .int .i64 x.n, .int .i64 x.s] 111 (0, 0))
 row : SpSl W a l
 frame : Below w.heap.size w W
theorem PcK.below {w W W' : World} {g : Nat} {x : StM} {a : Option Addr} {l : List SpM} (h : PcK w g x a l W) (q : Below W.heap.size W W') : PcK w g x a l W' :=
 ⟨(q.block _ (heap_lt h.box)).trans h.box, h.row.below q, h.frame.trans (q.mono h.frame.size)⟩
theorem PcK.app {w w4 w5 : World} {x : StM} {X : Option Addr} {q : List SpM} {o : Obj} {v : Value} {e k n : Nat} {xs : List Value} (h : PcK w w.heap.size x X q w4) (hr : SpSl w X q) (hs : w.heap.size + 2 ≤ w4.heap.size) (ho : (w4.alloc o).ownsRow (w.heap.size + 2) e k v n xs) (hg : (w4.alloc o).grownBy w5 v.ownBlock) : PcK w w.heap.size x X q w5 ∧ w.heap.size + 2 ≤ w5.heap.size := by
 have hs' : w.heap.size + 2 ≤ (w4.alloc o).heap.size := by rw [size1]; omega
 have h1 := app_below (Below.refl _ _) hs' ho hg
 have h2 : Below w.heap.size w (w4.alloc o) := h.frame.trans ((below_one w4 o).mono h.frame.size)
 have h3 := app_below h2 h2.size (own_low ho (by omega)) hg
 refine ⟨⟨?_, hr.below h3, h3⟩, Nat.le_trans hs' h1.size⟩
 rw [h1.block _ (by omega), (below_one w4 o).block _ (heap_lt h.box)]
 exact h.box
theorem SpSl.sdrop {w : World} {b off : Nat} {l : List SpM} (h : SpSl w (some ⟨b, off, none⟩) l) (n : Nat) : SpSl w (some ⟨b, off + n * 2, none⟩) (l.drop n) := fun k hk => by
 obtain ⟨b', off', e, hlt, h0, h1⟩ := h (n + k) (by simp at hk; omega)
 cases e
 rw [List.getElem_drop]
 exact ⟨b, off + n * 2, rfl, hlt, by rw [show off + n * 2 + k * 2 = off + (n + k) * 2 by omega]; exact h0, by rw [show off + n * 2 + k * 2 + 1 = off + (n + k) * 2 + 1 by omega]; exact h1⟩
theorem pieces_take {x : StM} {q : List SpM} {j : Nat} (h : j < q.length) (k : (meetS x.sp q[j]).f < (meetS x.sp q[j]).t) : piecesS x (q.take (j + 1)) = piecesS x (q.take j) ++ [ofSp x (meetS x.sp q[j])] := by
 unfold piecesS
 rw [rowOf_take x.sp q j h, if_pos k, List.map_append]
 rfl
theorem enters8 : ∀ args w, (callFunc 200 args).run Tryz.prog w = .ok (.enter 200 args) w := enters_of Tryz.func200 (by kernel_rfl) rfl
theorem search_any (x : StM) (b off c p g : Nat) (r : List SpM) (W : World) (hn : NormL r) (hr : SpSl W (some ⟨b, off, none⟩) r) (hpl : p < W.heap.size) (hgl : g < W.heap.size)
  (hp : W.cell? ⟨p, 0, none⟩ = some (.slice (some ⟨b, off, none⟩) r.length c)) (hg : W.cell? ⟨g, 0, none⟩ = some (.int .i64 x.f)) (hl : r.length ≤ 1000000) :
  Calls Tryz.prog 199 #[.int .i64 r.length, .func (.func 200) #[] #[.pointer (some ⟨p, 0, none⟩), .pointer (some ⟨g, 0, none⟩)]] W fun e w' => e = .returned (.int .i64 (cntS x.f r : Nat)) ∧ Grew W w' :=
 Any.sort_Search Tryz.laysSearch 200 #[.pointer (some ⟨p, 0, none⟩), .pointer (some ⟨g, 0, none⟩)] r.length (pS x.f r) W enters8 (by omega)
  (fun m os i hi => by
   have hb := below_grown_sl W.heap.size W m os (Nat.le_refl _)
   exact closure8_any x b off c p g i r _ hi (hr.below hb) ((hb.cell (p := ⟨p, 0, none⟩) hpl).trans hp) ((hb.cell (p := ⟨g, 0, none⟩) hgl).trans hg) hl) (pS_mono hn)
theorem search_none (x : StM) (p g : Nat) (W : World) :
  Calls Tryz.prog 199 #[.int .i64 0, .func (.func 200) #[] #[.pointer (some ⟨p, 0, none⟩), .pointer (some ⟨g, 0, none⟩)]] W fun e w' => e = .returned (.int .i64 0) ∧ Grew W w' :=
 Any.sort_Search Tryz.laysSearch 200 #[.pointer (some ⟨p, 0, none⟩), .pointer (some ⟨g, 0, none⟩)] 0 (fun _ => false) W enters8 (by omega) (fun m os i hi => absurd hi (by omega)) (fun a b h hb => absurd hb (by omega))
set_option maxHeartbeats 4000000 in
theorem pieces_any (a : Option Addr) (c : Nat) (r : List SpM) (x : StM) (w : World) (hr : SpSl w a r) (hn : NormL r) (hsh : (a = none ∧ c = 0) ∨ ∃ b off, a = some ⟨b, off, none⟩) (hl : r.length ≤ 1000) (hc : r.length ≤ c) (hcm : c ≤ maxLen) :
  Calls Tryz.prog 135 #[stV x, .slice a r.length c] w fun e w' => ∃ v, e = .returned v ∧ w'.ownsRow w.heap.size 111 4 v (piecesS x r).length (sts (piecesS x r)) ∧ Below w.heap.size w w' := by
 obtain ⟨i0, hi, hz0, hz1, hz2⟩ := info_parts infoStay
 have HNO := Lib.hid none_any
 have HMT := Lib.hid (fun n W => smeet_any x.sp n W)
 unfold spV StM.sp at HMT
 unfold maxLen at hcm
 rcases hsh with ⟨rfl, rfl⟩ | ⟨b, off, rfl⟩
 ·have hr0 : r = [] := List.eq_nil_of_length_eq_zero (by omega)
  subst hr0
  have HSE := Lib.hid search_none
  have HB := Lib.hid (below_two w (.cells #[.int .i64 x.f, .int .i64 x.t, .int .i64 x.n, .int .i64 x.s] 111) (.cells #[.slice none 0 0] 76))
  have HPC : Hid (∀ W, Below (w.heap.size + 2) ((w.alloc (.cells #[.int .i64 x.f, .int .i64 x.t, .int .i64 x.n, .int .i64 x.s] 111)).alloc (.cells #[.slice none 0 0] 76)) W → W.cell? ⟨w.heap.size + 1, 0, none⟩ = some (.slice none 0 0)) := fun W h => by
   have h1 := heap_alloc_new (w.alloc (.cells #[.int .i64 x.f, .int .i64 x.t, .int .i64 x.n, .int .i64 x.s] 111)) (.cells #[.slice none 0 0] 76)
   rw [size1] at h1
   exact cell_of_row _ _ _ _ _ _ ((h.block _ (by omega)).trans h1)
  unfold stV
  clear hr HNO HMT
  go_enter Tryz.func135, Tryz.ntmps135
  go_wp2_with fail
  refine (HSE.out x _ _ _).mono ?_
  rintro e w2 ⟨rfl, hg⟩
  have hpc := HPC.out w2 (hg.below (by rw [size1, size1]; omega))
  have HB2 := Lib.hid (HB.out.trans (hg.below HB.out.size))
  clear hg
  go_wp2
  go_loopw [6, 18] (fun v i wr => i = .int .i64 0 ∧ v = .slice none 0 0 ∧ Hid (Below w.heap.size w wr)) (fun _ i _ => 1)
  case atStart => exact ⟨rfl, rfl, HB2.out⟩
  case round =>
   obtain ⟨rfl, rfl, HB3⟩ := hrel
   go_wp2
   go_ret
   exact ⟨_, rfl, ⟨rfl, .inl ⟨rfl, rfl⟩⟩, HB3.out⟩
 ·have K0 : Hid (PcK w w.heap.size x (some ⟨b, off, none⟩) r ((w.alloc (.cells #[.int .i64 x.f, .int .i64 x.t, .int .i64 x.n, .int .i64 x.s] 111)).alloc (.cells #[.slice (some ⟨b, off, none⟩) r.length c] 76))) :=
   ⟨(Below.heap_alloc _ _ _ (by rw [size1]; omega)).trans (heap_alloc_new w _), hr.below (below_two _ _ _), below_two _ _ _⟩
  have P0 : Hid (((w.alloc (.cells #[.int .i64 x.f, .int .i64 x.t, .int .i64 x.n, .int .i64 x.s] 111)).alloc (.cells #[.slice (some ⟨b, off, none⟩) r.length c] 76)).heap[w.heap.size + 1]? = some (.cells #[.slice (some ⟨b, off, none⟩) r.length c] 76 (0, 0))) := by
   have h1 := heap_alloc_new (w.alloc (.cells #[.int .i64 x.f, .int .i64 x.t, .int .i64 x.n, .int .i64 x.s] 111)) (.cells #[.slice (some ⟨b, off, none⟩) r.length c] 76)
   rwa [size1] at h1
  have HSE := Lib.hid (search_any x b off c (w.heap.size + 1) w.heap.size r _ hn K0.out.row (heap_lt P0.out) (heap_lt K0.out.box) (cell_of_row _ _ _ _ _ _ P0.out) (cells4 K0.out.box).1 (by omega))
  obtain ⟨hk, hrd, hrt⟩ := cntS_is (s := x.sp) hn
  change cntS x.f r ≤ r.length at hk
  change rowOf x.sp (r.drop (cntS x.f r)) = rowOf x.sp r at hrd
  change ∀ n ∈ r.drop (cntS x.f r), x.f < n.t at hrt
  have hqn := norm_drop (cntS x.f r) hn
  generalize cntS x.f r = k at *
  have HPR : Hid (piecesS x (r.drop k) = piecesS x r) := by unfold Hid piecesS; rw [hrd]
  have HST : Hid (∀ j (hj : j < (r.drop k).length), ¬ (meetS x.sp (r.drop k)[j]).f < (meetS x.sp (r.drop k)[j]).t → piecesS x ((r.drop k).take j) = piecesS x (r.drop k)) := fun j hj h => by
   unfold piecesS
   rw [rowOf_stop hqn hrt hj h]
  have HRW0 := Lib.hid (hr.sdrop k)
  clear hrd hrt hqn hr hn
  unfold stV
  go_enter Tryz.func135, Tryz.ntmps135
  go_wp2_with fail
  refine HSE.out.mono ?_
  rintro e w2 ⟨rfl, hg⟩
  have hb := hg.below (Nat.le_refl _)
  have hpc : w2.cell? ⟨w.heap.size + 1, 0, none⟩ = some (.slice (some ⟨b, off, none⟩) r.length c) := cell_of_row _ _ _ _ _ _ ((hb.block _ (heap_lt P0.out)).trans P0.out)
  have K2 := Lib.hid (K0.out.below hb)
  have HSZ : Hid (w.heap.size + 2 ≤ w2.heap.size) := by
   have := hb.size
   rw [size1, size1] at this
   exact this
  clear hg hb HSE P0 K0
  have hkc : k ≤ c := by omega
  by_cases hkr : k < r.length
  ·have hck : ¬ c = k := by omega
   have HLQ : Hid ((r.drop k).length = r.length - k) := List.length_drop ..
   have KQ : Hid (PcK w w.heap.size x (some ⟨b, off + k * 2, none⟩) (r.drop k) w2) := ⟨K2.out.box, K2.out.row.sdrop k, K2.out.frame⟩
   clear K2
   go_wp2
   rw [← HLQ.out]
   generalize r.drop k = q at *
   have hql : q.length ≤ 1000 := by have := HLQ.out; omega
   have HRW := Lib.hid HRW0.out
   clear HLQ hpc HRW0
   generalize hX : (off + k * 2) = o2 at *
   clear hX
   go_loopw [6, 18] (fun v i wr => ∃ (j : Nat), j ≤ q.length ∧ i = .int .i64 j ∧ Hid ((piecesS x (q.take j)).length ≤ j) ∧ Hid (wr.ownsRow (w.heap.size + 2) 111 4 v (piecesS x (q.take j)).length (sts (piecesS x (q.take j)))) ∧ Hid (PcK w w.heap.size x (some ⟨b, o2, none⟩) q wr ∧ w.heap.size + 2 ≤ wr.heap.size)) (fun _ i _ => q.length - (intOf i).toNat)
   case atStart => exact ⟨0, by omega, rfl, by simp [Hid, piecesS, rowOf], ⟨rfl, .inl ⟨rfl, rfl⟩⟩, KQ.out, HSZ.out⟩
   case round =>
    obtain ⟨j, hj, rfl, HLN, HO, HKK⟩ := hrel
    have HK := Lib.hid HKK.out.1
    have HZ := Lib.hid HKK.out.2
    clear HKK
    by_cases hjl : j < q.length
    ·obtain ⟨b1, off1, e1, hbl, hc0, hc1⟩ := HK.out.row.at_ hjl
     cases e1
     obtain ⟨g0, g1, g2, g3⟩ := cells4 HK.out.box
     have hgl := heap_lt HK.out.box
     have HM := Lib.hid (HMT.out q[j])
     have HN := Lib.hid (HNO.out (meetS x.sp q[j]).f (meetS x.sp q[j]).t)
     have HTK := Lib.hid (pieces_take (x := x) hjl)
     have HSP := Lib.hid (HST.out j hjl)
     change Hid (∀ W, Calls Tryz.prog 163 #[.agg #[.int .i64 x.f, .int .i64 x.t], .agg #[.int .i64 q[j].f, .int .i64 q[j].t]] W fun e w' => e = .returned (.agg #[.int .i64 (meetS x.sp q[j]).f, .int .i64 (meetS x.sp q[j]).t]) ∧ Below W.heap.size W w') at HM
     generalize meetS x.sp q[j] = m at *
     generalize q[j] = n at *
     obtain ⟨mf, mt⟩ := m
     dsimp only at HM HN HTK HSP
     have K1 := Lib.hid (HK.out.below (below_one wr (.cells #[.int .i64 n.f, .int .i64 n.t] 90)))
     have O1 := Lib.hid (own_below HO.out (below_one wr (.cells #[.int .i64 n.f, .int .i64 n.t] 90)))
     clear HMT HNO
     go_wp2_with fail
     refine (HM.out _).mono ?_
     rintro e w3 ⟨rfl, hb3⟩
     have HZ3 := Lib.hid (Nat.le_trans (Nat.le_trans HZ.out (below_one wr (.cells #[.int .i64 n.f, .int .i64 n.t] 90)).size) hb3.size)
     have K2 := Lib.hid ((K1.out.below hb3).below (below_one w3 (.cells #[.int .i64 mf, .int .i64 mt] 90)))
     have O2 := Lib.hid (own_below (own_below O1.out hb3) (below_one w3 (.cells #[.int .i64 mf, .int .i64 mt] 90)))
     have C2 := Lib.hid (heap_alloc_new w3 (.cells #[.int .i64 mf, .int .i64 mt] 90))
     clear hb3 K1 O1 g0 g1 g2 g3 hgl hc0 hc1 hbl
     by_cases h1 : mt ≤ mf
     ·have HN1 : Hid (∀ W, Calls Tryz.prog 108 #[.agg #[.int .i64 mf, .int .i64 mt]] W fun e w' => e = .returned (.bool true) ∧ Below W.heap.size W w') := fun W => by
       have := HN.out W
       rwa [decide_eq_true h1] at this
      have HE := Lib.hid (HSP.out (by omega))
      clear HN HTK HSP h1
      go_wp2_with fail
      refine (HN1.out _).mono ?_
      rintro e w4 ⟨rfl, hb4⟩
      have K3 := Lib.hid (K2.out.below hb4)
      have O3 := Lib.hid (own_below O2.out hb4)
      go_wp2
      go_ret
      exact ⟨_, rfl, by rw [← HPR.out, ← HE.out]; exact own_low O3.out (Nat.le_add_right _ _), K3.out.frame⟩
     ·have HN1 : Hid (∀ W, Calls Tryz.prog 108 #[.agg #[.int .i64 mf, .int .i64 mt]] W fun e w' => e = .returned (.bool false) ∧ Below W.heap.size W w') := fun W => by
       have := HN.out W
       rwa [decide_eq_false h1] at this
      have HE := Lib.hid (HTK.out (by omega))
      clear HN HTK HSP h1
      go_wp2_with fail
      refine (HN1.out _).mono ?_
      rintro e w4 ⟨rfl, hb4⟩
      have K3 := Lib.hid (K2.out.below hb4)
      have O3 := Lib.hid (own_below (own_below O2.out hb4) (below_one w4 (.cells #[.int .i64 mf, .int .i64 mt, .int .i64 x.n, .int .i64 x.s] 111)))
      have hcm2 := (hb4.block _ (heap_lt C2.out)).trans C2.out
      have hm0 : w4.cell? ⟨w3.heap.size, 0, none⟩ = some (.int .i64 mf) := cell_of_row _ _ _ _ _ _ hcm2
      have hm1 : w4.cell? ⟨w3.heap.size, 1, none⟩ = some (.int .i64 mt) := cell_of_row _ _ _ _ _ _ hcm2
      obtain ⟨g0, g1, g2, g3⟩ := cells4 K3.out.box
      have HZ4 := Lib.hid (Nat.le_trans (Nat.le_trans HZ3.out (below_one w3 (.cells #[.int .i64 mf, .int .i64 mt] 90)).size) hb4.size)
      have HS2 : Hid (w.heap.size + 2 ≤ (w4.alloc (.cells #[.int .i64 mf, .int .i64 mt, .int .i64 x.n, .int .i64 x.s] 111)).heap.size) := by
       have := HZ4.out
       unfold Hid
       rw [size1]
       omega
      have hlj := HLN.out
      clear hcm2 hb4 K2 O2 C2 HZ3 HZ
      generalize piecesS x (q.take j) = ps at *
      go_wp2_with (at_builtin; refine wpList_append_own _ rfl (.tmp 28) (.tmp 35) 69 rfl (w.heap.size + 2) 111 i0 _ 4 32 Tryz.underlying69 hi hz0 hz1 hz2 rfl (by decide) _ _ _ rfl O3.out ⟨w4.heap.size, 0, none⟩ 1 1 [.int .i64 mf, .int .i64 mt, .int .i64 x.n, .int .i64 x.s] rfl rfl (news_at _ _ _ _ rfl) (four_one _ _ _ _) (by unfold maxLen; omega) (by omega) HS2.out ?_; intro v' w5 hown' hgrow hiff)
      have HO4 := Lib.hid hown'
      have K4 := Lib.hid (K3.out.app HRW.out HZ4.out O3.out hgrow)
      have hpl : ps.length ≤ 1000 := by omega
      clear hown' hiff hgrow O3 K3 HS2 HZ4 g0 g1 g2 g3 hm0 hm1
      go_wp2
      go_roundw
      case rel => exact ⟨j + 1, by omega, by go_num, (by unfold Hid; rw [HE.out, List.length_append, List.length_singleton]; omega), (by unfold Hid; rw [HE.out, List.length_append, sts_snoc]; exact HO4.out), K4.out⟩
      case measure => simp [intOf]; omega
    ·obtain rfl : j = q.length := by omega
     rw [List.take_of_length_le (Nat.le_refl _)] at HO
     go_wp2
     go_ret
     exact ⟨_, rfl, by rw [← HPR.out]; exact own_low HO.out (Nat.le_add_right _ _), HK.out.frame⟩
  ·have hkl : k = r.length := by omega
   have HPN : Hid (piecesS x r = []) := by
    have := HPR.out
    rw [hkl, List.drop_eq_nil_of_le (Nat.le_refl _)] at this
    rw [Hid, ← this]
    rfl
   subst hkl
   clear HST HPR
   by_cases hck : c = r.length
   ·subst hck
    go_wp2
    go_loopw [6, 18] (fun v i wr => i = .int .i64 0 ∧ v = .slice none 0 0 ∧ Hid (Below w.heap.size w wr)) (fun _ i _ => 1)
    case atStart => exact ⟨rfl, rfl, K2.out.frame⟩
    case round =>
     obtain ⟨rfl, rfl, HB3⟩ := hrel
     go_wp2
     go_ret
     rw [HPN.out]
     exact ⟨_, rfl, ⟨rfl, .inl ⟨rfl, rfl⟩⟩, HB3.out⟩
   ·go_wp2
    go_loopw [6, 18] (fun v i wr => i = .int .i64 0 ∧ v = .slice none 0 0 ∧ Hid (Below w.heap.size w wr)) (fun _ i _ => 1)
    case atStart => exact ⟨rfl, rfl, K2.out.frame⟩
    case round =>
     obtain ⟨rfl, rfl, HB3⟩ := hrel
     go_wp2
     go_ret
     rw [HPN.out]
     exact ⟨_, rfl, ⟨rfl, .inl ⟨rfl, rfl⟩⟩, HB3.out⟩
theorem own_shape {w : World} {B e k n : Nat} {v : Value} {xs : List Value} (h : w.ownsRow B e k v n xs) : ∃ a c, v = .slice a n c ∧ ((a = none ∧ c = 0) ∨ ∃ b off, a = some ⟨b, off, none⟩) ∧ n ≤ c ∧ c ≤ maxLen := by
 rcases h.2 with ⟨rfl, hn⟩ | ⟨g, cap, cur, rfl, hg, hh, hn, hc, hsz, ht⟩
 ·subst hn
  exact ⟨none, 0, rfl, .inl ⟨rfl, rfl⟩, Nat.le_refl _, by unfold maxLen; omega⟩
 ·exact ⟨_, cap, rfl, .inr ⟨_, _, rfl⟩, hn, hc⟩
set_option maxHeartbeats 4000000 in
theorem cut_any (a : Option Addr) (c : Nat) (l : List StM) (xb : Option Addr) (cb : Nat) (by_ : List SpM) (w : World) (hr : StSl w a l) (hb : SpSl w xb by_) (hl : l.length ≤ 100000) (hlb : by_.length ≤ 1000) (hcb : by_.length ≤ cb) (hcm : cb ≤ maxLen) (hs : l.length * by_.length ≤ 100000) :
  Calls Tryz.prog 64 #[.slice a l.length c, .slice xb by_.length cb] w fun e w' => ∃ v m, e = .returned v ∧ IsCut l (HasL by_) m ∧ m.length ≤ l.length * by_.length ∧ w'.ownsRow w.heap.size 111 4 v m.length (sts m) ∧ Below w.heap.size w w' := by
 obtain ⟨i0, hi, hz0, hz1, hz2⟩ := info_parts infoStay
 have HR := Lib.hid hr
 have HN := Lib.hid (norm_any xb cb by_ w hb (by omega) hcb hcm)
 have HPI := Lib.hid pieces_any
 unfold stV at HPI
 have HSO := Lib.hid sort8_any
 clear hr hb
 have HSZ := Lib.hid hs
 clear hs
 unfold maxLen at hcm
 go_enter Tryz.func64, Tryz.ntmps64
 go_wp2_with fail
 refine HN.out.mono ?_
 rintro e w1 ⟨vn, r, rfl, hset, hrl, ho, hb1⟩
 obtain ⟨na, nc, rfl, hsh, hnc, hncm⟩ := own_shape ho
 have hsp : SpSl w1 na r := by
  obtain ⟨a', c', e1, _, h1⟩ := own_sp ho
  injection e1 with e1 _ _
  rw [e1]; exact h1
 have HW : Hid (∀ W x, Below w1.heap.size w1 W → Calls Tryz.prog 135 #[.agg #[.int .i64 x.f, .int .i64 x.t, .int .i64 x.n, .int .i64 x.s], .slice na r.length nc] W fun e w' => ∃ v, e = .returned v ∧ w'.ownsRow W.heap.size 111 4 v (piecesS x r).length (sts (piecesS x r)) ∧ Below W.heap.size W w') := fun W x h => HPI.out na nc r x W (hsp.below h) hset.1 hsh (by omega) hnc hncm
 have HSET := Lib.hid hset
 have HB1 := Lib.hid hb1
 have HRL : Hid (l.length * r.length ≤ l.length * by_.length) := Nat.mul_le_mul_left _ hrl
 have HRA := Lib.hid (fun j => raw_le r (l.take j))
 clear hset ho hsp hsh hb1 HN HPI hnc hncm hrl
 have hrl2 : Hid (∀ j, j ≤ l.length → (rawS (l.take j) r).length ≤ 100000) := fun j hj => by
  have h1 := HRA.out j
  have h2 : (l.take j).length * r.length ≤ l.length * r.length := Nat.mul_le_mul_right _ (by simp; omega)
  have := HRL.out
  have := HSZ.out
  omega
 go_wp2
 go_loopw [6, 13] (fun v i wr => ∃ (j : Nat), j ≤ l.length ∧ i = .int .i64 j ∧ Hid (wr.ownsRow w1.heap.size 111 4 v (rawS (l.take j) r).length (sts (rawS (l.take j) r))) ∧ Hid (Below w1.heap.size w1 wr)) (fun _ i _ => l.length - (intOf i).toNat)
 case atStart => exact ⟨0, by omega, rfl, ⟨rfl, .inl ⟨rfl, rfl⟩⟩, Below.refl _ _⟩
 case round =>
  obtain ⟨j, hj, rfl, HO, HB⟩ := hrel
  have HBW := Lib.hid (HB1.out.trans (HB.out.mono HB1.out.size))
  by_cases hjl : j < l.length
  ·obtain ⟨b, off, rfl, hbl, hc0, hc1, hc2, hc3⟩ := (HR.out.below HBW.out).at_ hjl
   have HC := Lib.hid (raw_take l r j hjl)
   have HLJ := Lib.hid (hrl2.out (j + 1) (by omega))
   generalize l[j] = x at *
   have HX := Lib.hid (fun W h => HW.out W x h)
   have HB2 := Lib.hid (HB.out.trans ((below_one wr (.cells #[.int .i64 x.f, .int .i64 x.t, .int .i64 x.n, .int .i64 x.s] 111)).mono HB.out.size))
   have HO2 := Lib.hid (own_below HO.out (below_one wr (.cells #[.int .i64 x.f, .int .i64 x.t, .int .i64 x.n, .int .i64 x.s] 111)))
   rw [HC.out, List.length_append] at HLJ
   generalize hM : rawS (l.take j) r = M at *
   go_wp2_with fail
   refine (HX.out _ HB2.out).mono ?_
   rintro e w3 ⟨v3, rfl, ho3, hb3⟩
   have HB3 := Lib.hid (HB2.out.trans (hb3.mono HB2.out.size))
   have HO3 := Lib.hid (own_below HO2.out hb3)
   obtain ⟨pa, pc, rfl, _, _, hps, hpn⟩ := own_st ho3
   have HPS := Lib.hid hps
   have HPN := Lib.hid hpn
   generalize piecesS x r = ps at *
   have hlen : M.length + ps.length ≤ 1000000 := by have := HLJ.out; omega
   clear ho3 hb3 hps hpn HB2 HO2
   go_wp2_with (at_builtin; refine wpList_append_st _ rfl (.tmp 17) (.tmp 20) 69 rfl w1.heap.size 111 i0 _ Tryz.underlying69 hi hz0 hz1 hz2 rfl _ M rfl HO3.out pa pc ps rfl HPS.out HPN.out hlen HB3.out.size ?_; intro v4 w4 hown4 hB4)
   have HO4 := Lib.hid hown4
   have HB4 := Lib.hid (HB3.out.trans hB4)
   clear hown4 hB4
   go_wp2
   go_roundw
   case rel => exact ⟨j + 1, by omega, by go_num, (by unfold Hid; rw [HC.out]; exact HO4.out), HB4.out⟩
   case measure => simp [intOf]; omega
  ·obtain rfl : j = l.length := by omega
   have HLJ := hrl2.out l.length (Nat.le_refl _)
   rw [List.take_of_length_le (Nat.le_refl _)] at HO HLJ
   have HRA2 := Lib.hid (HRA.out l.length)
   rw [List.take_of_length_le (Nat.le_refl _)] at HRA2
   generalize hM : rawS l r = M at *
   have HS := Lib.hid (HSO.out w1.heap.size _ M wr HB.out.size HO.out (by omega))
   clear HLJ
   go_wp2_with fail
   refine HS.out.mono ?_
   rintro e w5 ⟨rfl, m, hperm, hsort, ho5, hb5⟩
   go_wp2
   go_ret
   refine ⟨_, m, rfl, ⟨r, HSET.out, hM ▸ hperm, hsort⟩, ?_, own_low ho5 HB1.out.size, HB1.out.trans ((HB.out.trans hb5).mono HB1.out.size)⟩
   rw [hperm.length_eq]
   exact Nat.le_trans HRA2.out HRL.out
end Go.Proofs.YtmfpjapiijgdgaaGreat
namespace Go.Proofs.YtmfpjapiijgdgaaGreat
open Go.RowKit Go.Proofs
set_option linter.unusedVariables false
set_option maxRecDepth 100000
def GTold (s : SaM) (q : AskM) (m : List StM) : Prop := (whyV s q.w q.u q.n = 0 → IsRange s q.w q.u q.f q.t q.n m) ∧ (whyV s q.w q.u q.n ≠ 0 → m = [])
theorem GTold.no {s : SaM} {q : AskM} (h : whyV s q.w q.u q.n ≠ 0) : GTold s q [] := ⟨fun k => absurd k h, fun _ => rfl⟩
theorem SQ.cells {w W : World} {g k : Nat} {T U : TypeId} {x : SaL} {q : AskM} (h : SQ w g k T U x q W) : W.cell? ⟨g, 0, none⟩ = some (.int .i64 x.now) ∧ W.cell? ⟨g, 1, none⟩ = some (.int .i64 x.hor) ∧ W.cell? ⟨g, 2, none⟩ = some (.slice x.oa x.op.length x.oc) ∧ W.cell? ⟨g, 3, none⟩ = some (.slice x.ua x.us.length x.uc) ∧ W.cell? ⟨g, 4, none⟩ = some (.slice x.sa x.su.length x.sc) ∧ W.cell? ⟨g, 5, none⟩ = some (.slice x.ta x.tb.length x.tc) ∧ W.cell? ⟨k, 0, none⟩ = some (.string q.w) ∧ W.cell? ⟨k, 1, none⟩ = some (.string q.u) ∧ W.cell? ⟨k, 2, none⟩ = some (.int .i64 q.f) ∧ W.cell? ⟨k, 3, none⟩ = some (.int .i64 q.t) ∧ W.cell? ⟨k, 4, none⟩ = some (.int .i64 q.n) :=
 ⟨h.s.cells.1, h.s.cells.2.1, h.s.cells.2.2.1, h.s.cells.2.2.2.1, h.s.cells.2.2.2.2.1, h.s.cells.2.2.2.2.2, h.q.cells⟩
theorem stays_few13 {s : SaM} {n : Nat} (h : Few s n) (u : ByteArray) (t : Int) : (staysS s u t).length ≤ n + n := by
 have h1 := (stays_perm s u t).length_eq
 rw [List.length_append] at h1
 have h2 := ofU_few h u
 have h3 : (rawO s.op u t).length ≤ s.op.length := by
  unfold rawO
  rw [List.length_map]
  exact List.length_filter_le _ _
 have := h.op
 omega
set_option maxHeartbeats 4000000 in
theorem range_any13 (x : SaL) (q : AskM) (w : World) (h : SaAt w x) (hf : Few x.m 200) (hw : q.w.size ≤ maxLen) (hu : q.u.size ≤ maxLen) :
  Calls Tryz.prog 48 #[saV x, askV q] w fun e w' => ∃ y c m, e = .returned (.tuple #[.slice y m.length c, .int .i64 (whyV x.m q.w q.u q.n)]) ∧ GTold x.m q m ∧ m.length ≤ 90000 ∧ StSl w' y m ∧ Below w.heap.size w w' := by
 have SS := SQ.new w q h 39 92
 have HS := Lib.hid SS
 have HV : Hid (whyV x.m q.w q.u q.n = if nameB q.w = true ∧ nameB q.u = true then (if q.n < x.now ∨ 1099511627776 ≤ q.n then 130 else 0) else 1) := rfl
 have HR : Hid (∀ (b : Bool) V, (nameB q.w && nameB q.u) = b → Calls Tryz.prog 99 #[.agg #[.string q.w, .string q.u]] V fun e w' => e = .returned (.bool b) ∧ Below V.heap.size V w') := fun b V h => by rw [← h]; exact pairRight_any q.w q.u V hw hu
 have HST := Lib.hid (fun V (h : SaAt V x) => stays_any11 x q.u q.n V h (hf.mono (by decide)))
 have HTO := Lib.hid (fun V (h : SaAt V x) => told_any13 x q V h (Nat.le_trans hf.su (by decide)))
 have hsl := stays_few13 hf q.u q.n
 have HC : Hid (∀ V a c y d (r : List SpM), StSl V a (staysS x.m q.u q.n) → SpSl V y r → IsSet (gateP x.m q.w q.u q.f q.t) r → r.length ≤ x.m.su.length + 1 → r.length ≤ d → d ≤ maxLen → Calls Tryz.prog 64 #[.slice a (staysS x.m q.u q.n).length c, .slice y r.length d] V fun e w' => ∃ z p m, e = .returned (.slice z m.length p) ∧ IsRange x.m q.w q.u q.f q.t q.n m ∧ m.length ≤ 90000 ∧ StSl w' z m ∧ Below V.heap.size V w') := fun V a c y d r h1 h2 h3 h4 h5 h6 => by
  have hsu := hf.su
  have hmul : (staysS x.m q.u q.n).length * r.length ≤ 400 * 201 := Nat.mul_le_mul (by omega) (by omega)
  refine (cut_any a c _ y d r V h1 h2 (by omega) (by omega) h5 h6 (by omega)).mono ?_
  rintro e w' ⟨v, m, rfl, k1, k2, ho, hb⟩
  obtain ⟨z, p, rfl, _, _, k3, _⟩ := own_st ho
  exact ⟨z, p, m, rfl, IsCut.congr k1 h3.2, by omega, k3, hb⟩
 have HF := Lib.hid SS.s.frame
 have HTN : Hid (whyV x.m q.w q.u q.n ≠ 0 → GTold x.m q []) := GTold.no
 have HTY : Hid (∀ m, whyV x.m q.w q.u q.n = 0 → IsRange x.m q.w q.u q.f q.t q.n m → GTold x.m q m) := fun m h k => ⟨fun _ => k, fun h' => absurd h h'⟩
 generalize GTold x.m q = TD at *
 generalize IsRange x.m q.w q.u q.f q.t q.n = RG at *
 generalize gateP x.m q.w q.u q.f q.t = P at *
 generalize whyV x.m q.w q.u q.n = Y at *
 generalize staysS x.m q.u q.n = L at *
 generalize x.m.su.length = n5 at *
 have HSC := Lib.hid (fun V (k : SQ w w.heap.size (w.heap.size + 1) 39 92 x q V) => k.cells)
 obtain ⟨c0, c1, c2, c3, c4, c5, a0, a1, a2, a3, a4⟩ := SS.cells
 obtain ⟨now, hor, oa, op, oc, ua, us, uc, sa, su, sc, ta, tb, tc⟩ := x
 obtain ⟨qw, qu, qf, qt, qn⟩ := q
 unfold saV saC askV askC at *
 dsimp only at *
 clear h SS hf hsl
 cases hb : (nameB qw && nameB qu)
 ·have hn1 : ¬ (nameB qw = true ∧ nameB qu = true) := by rw [← Bool.and_eq_true, hb]; decide
  have HY : Hid (Y = 1) := by unfold Hid; rw [HV.out, if_neg hn1]
  clear HV HST HTO HC HTY HSC hn1
  go_enter Tryz.func48, Tryz.ntmps48
  go_wp2_with fail
  refine (HR.out _ _ hb).mono ?_
  rintro e w1 ⟨rfl, h1⟩
  have HF1 := Lib.hid (HF.out.trans (h1.mono HF.out.size))
  clear c0 c1 c2 c3 c4 c5 a0 a1 a2 a3 a4 HR HS HF h1
  go_wp2
  go_ret2
  exact ⟨none, 0, [], by rw [HY.out]; rfl, HTN.out (by rw [HY.out]; decide), Nat.zero_le _, StSl.nil _ _, HF1.out⟩
 ·have hn1 : nameB qw = true ∧ nameB qu = true := by rw [← Bool.and_eq_true, hb]
  by_cases h3 : qn < now
  ·have HY : Hid (Y = 130) := by unfold Hid; rw [HV.out, if_pos hn1, if_pos (Or.inl h3)]
   clear HV HST HTO HC HTY HSC hn1
   go_enter Tryz.func48, Tryz.ntmps48
   go_wp2_with fail
   refine (HR.out _ _ hb).mono ?_
   rintro e w1 ⟨rfl, h1⟩
   have A1 := Lib.hid (HS.out.below h1)
   clear c0 c1 c2 c3 c4 c5 a0 a1 a2 a3 a4 HR HS HF h1
   obtain ⟨c0, c1, c2, c3, c4, c5, a0, a1, a2, a3, a4⟩ := A1.out.cells
   dsimp only at *
   go_wp2
   go_ret2
   exact ⟨none, 0, [], by rw [HY.out]; rfl, HTN.out (by rw [HY.out]; decide), Nat.zero_le _, StSl.nil _ _, A1.out.s.frame⟩
  ·by_cases h4 : 1099511627776 ≤ qn
   ·have HY : Hid (Y = 130) := by unfold Hid; rw [HV.out, if_pos hn1, if_pos (Or.inr h4)]
    clear HV HST HTO HC HTY HSC hn1
    go_enter Tryz.func48, Tryz.ntmps48
    go_wp2_with fail
    refine (HR.out _ _ hb).mono ?_
    rintro e w1 ⟨rfl, h1⟩
    have A1 := Lib.hid (HS.out.below h1)
    clear c0 c1 c2 c3 c4 c5 a0 a1 a2 a3 a4 HR HS HF h1
    obtain ⟨c0, c1, c2, c3, c4, c5, a0, a1, a2, a3, a4⟩ := A1.out.cells
    dsimp only at *
    go_wp2
    go_ret2
    exact ⟨none, 0, [], by rw [HY.out]; rfl, HTN.out (by rw [HY.out]; decide), Nat.zero_le _, StSl.nil _ _, A1.out.s.frame⟩
   ·have HY : Hid (Y = 0) := by unfold Hid; rw [HV.out, if_pos hn1, if_neg (by omega)]
    clear HV HTN hn1
    go_enter Tryz.func48, Tryz.ntmps48
    go_wp2_with fail
    refine (HR.out _ _ hb).mono ?_
    rintro e w1 ⟨rfl, h1⟩
    have KK := HS.out.below h1
    clear c0 c1 c2 c3 c4 c5 a0 a1 a2 a3 a4 HR HS HF h1
    obtain ⟨c0, c1, c2, c3, c4, c5, a0, a1, a2, a3, a4⟩ := KK.cells
    dsimp only at *
    go_wp2_with fail
    clear c0 c1 c2 c3 c4 c5 a0 a1 a2 a3 a4
    have K0 := KK.drew
    clear KK
    go_region_held3 (fun V => V.cell? ⟨w.heap.size, 0, none⟩ = some (.int .i64 now) ∧ V.cell? ⟨w.heap.size, 1, none⟩ = some (.int .i64 hor) ∧ V.cell? ⟨w.heap.size, 2, none⟩ = some (.slice oa op.length oc) ∧ V.cell? ⟨w.heap.size, 3, none⟩ = some (.slice ua us.length uc) ∧ V.cell? ⟨w.heap.size, 4, none⟩ = some (.slice sa su.length sc) ∧ V.cell? ⟨w.heap.size, 5, none⟩ = some (.slice ta tb.length tc) ∧ V.cell? ⟨w.heap.size + 1, 0, none⟩ = some (.string qw) ∧ V.cell? ⟨w.heap.size + 1, 1, none⟩ = some (.string qu) ∧ V.cell? ⟨w.heap.size + 1, 2, none⟩ = some (.int .i64 qf) ∧ V.cell? ⟨w.heap.size + 1, 3, none⟩ = some (.int .i64 qt) ∧ V.cell? ⟨w.heap.size + 1, 4, none⟩ = some (.int .i64 qn))
     (first | with_reducible exact HSC.out _ K3 | with_reducible exact HSC.out _ K2 | with_reducible exact HSC.out _ K1s | with_reducible exact HSC.out _ K1t | with_reducible exact HSC.out _ K0)
     (first | (have hseen := K2; clear hseen; go_at_call 64; refine (HC.out _ _ _ _ _ _ s2 t6 t1 t2 t3 t4).mono ?_; rintro e v3 ⟨z, p, m, rfl, l1, l2, l3, h3'⟩; have K3 := K2.below h3') | (have hseen := K0; clear hseen; go_at_call 39; (first | (refine (HST.out _ K1t.s.at_).mono ?_; rintro e v2 ⟨a, c, rfl, s2, h2⟩; have K2 := K1t.below h2; have t6 := t6.below h2) | (refine (HST.out _ K0.s.at_).mono ?_; rintro e v1 ⟨a, c, rfl, s2, h1⟩; have K1s := K0.below h1))) | (have hseen := K0; clear hseen; go_at_call 100; (first | (refine (HTO.out _ K1s.s.at_).mono ?_; rintro e v2 ⟨y, d, r, rfl, t1, t2, t3, t4, t6, h2⟩; have K2 := K1s.below h2; have s2 := s2.below h2) | (refine (HTO.out _ K0.s.at_).mono ?_; rintro e v1 ⟨y, d, r, rfl, t1, t2, t3, t4, t6, h1⟩; have K1t := K0.below h1))))
    all_goals
     have HF := Lib.hid K3.s.frame
     have HL := Lib.hid (And.intro (HTY.out _ HY.out l1) (And.intro l2 l3))
     clear K0 K2 K3 l1 l2 l3 h1 h2 h3' t1 t2 t3 t4 t6 s2 HST HTO HC HSC HTY
     go_wp2
     go_ret2
     exact ⟨z, p, m, by rw [HY.out]; rfl, HL.out.1, HL.out.2.1, HL.out.2.2, HF.out⟩
end Go.Proofs.YtmfpjapiijgdgaaGreat
