/- Texts of mine, one behind the other, of each what is wanted. -/
import Derived.Test.YtjhdhfokhkcamaaGreatS00
import Derived.Test.YtjhdhfokhkcamaaGreatShelf
import Derived.Test.YtjhdhfokhkcamaaGreatRows
import Derived.Test.YtjhdhfokhkcamaaGreatS02
import Derived.Test.YtjhdhfokhkcamaaGreatS03
import Derived.Test.YtjhdhfokhkcamaaGreatS04
import Derived.Test.YtjhdhfokhkcamaaGreatS07
import Derived.Test.YtjhdhfokhkcamaaGreatS09
import Derived.Test.YtjhdhfokhkcamaaGreatS13
import Derived.Test.YtjhdhfokhkcamaaGreatS14
import Derived.Test.YtjhdhfokhkcamaaGreatS17
import Derived.Test.YtjhdhfokhkcamaaGreatS29
import Derived.Test.YtjhdhfokhkcamaaGreatS32
import Derived.Test.YtjhdhfokhkcamaaGreatS35
namespace Go.Proofs.YtjhdhfokhkcamaaGreat
open Go.RowKit Go.Proofs
set_option linter.unusedVariables false
set_option maxRecDepth 100000
theorem addU_ne {us : List UsM} {u : ByteArray} {x : StM} (h : ∀ y ∈ us, y.l ≠ []) : ∀ y ∈ addU us u x, y.l ≠ [] := by
 unfold addU
 split
 ·intro y hy
  rcases putU_mem.1 hy with ⟨rfl, h2⟩ | ⟨h2, _⟩
  ·exact h2
  ·exact h y h2
 ·exact h
theorem resetU_ne (now : Int) : ∀ (l : List OpM) {us : List UsM}, (∀ y ∈ us, y.l ≠ []) → ∀ y ∈ resetU l now us, y.l ≠ []
 | [], _, h => h
 | e :: l, us, h => resetU_ne now l (addU_ne h)
theorem addU_sz {us : List UsM} {u : ByteArray} {x : StM} (h : ∀ y ∈ us, y.u.size ≤ maxLen) (hu : u.size ≤ maxLen) : ∀ y ∈ addU us u x, y.u.size ≤ maxLen := by
 unfold addU
 split
 ·intro y hy
  rcases putU_mem.1 hy with ⟨rfl, h2⟩ | ⟨h2, _⟩
  ·exact hu
  ·exact h y h2
 ·exact h
theorem resetU_sz (now : Int) : ∀ (l : List OpM) {us : List UsM}, (∀ y ∈ us, y.u.size ≤ maxLen) → (∀ e ∈ l, e.u.size ≤ maxLen) → ∀ y ∈ resetU l now us, y.u.size ≤ maxLen
 | [], _, h, _ => h
 | e :: l, us, h, k => resetU_sz now l (addU_sz h (k e (List.mem_cons_self ..))) fun x hx => k x (List.mem_cons_of_mem _ hx)
theorem ne_len : ∀ {l : List UsM}, (∀ x ∈ l, x.l ≠ []) → l.length ≤ cntU l ∧ ∀ x ∈ l, x.l.length ≤ cntU l
 | [], _ => ⟨Nat.zero_le _, fun x hx => by cases hx⟩
 | y :: l, hl => by
  obtain ⟨h1, h2⟩ := ne_len fun x hx => hl x (List.mem_cons_of_mem _ hx)
  have h3 : 0 < y.l.length := List.length_pos_iff.2 (hl y (List.mem_cons_self ..))
  rw [cntU_cons]
  refine ⟨by rw [List.length_cons]; omega, fun x hx => ?_⟩
  rcases List.mem_cons.1 hx with rfl | hx
  ·omega
  ·have := h2 x hx; omega
def ridS (s : SaM) (j : Nat) : SaM := { s with us := resetU (s.op.take j) s.now s.us }
theorem ridS_next (s : SaM) (j : Nat) (h : j < s.op.length) : ridS s (j + 1) = { ridS s j with us := addU (ridS s j).us s.op[j].u ⟨s.op[j].f, s.now, s.op[j].n, s.op[j].s⟩ } := by
 unfold ridS
 simp only
 rw [List.take_succ_eq_append_getElem h]
 unfold resetU
 rw [List.foldl_append]
 rfl
theorem ridS_few {s : SaM} (h : RightS s) (hc : stCnt s ≤ 220) (hz : SzS s) (j : Nat) : Few (ridS s j) 450 ∧ RiseK UsM.u (ridS s j).us ∧ ∀ y ∈ (ridS s j).us, y.u.size ≤ maxLen := by
 have hf := few_of h hc
 have h1 := ne_len (resetU_ne s.now (s.op.take j) (us := s.us) fun x hx => (h.us x hx).2.1)
 have h2 := cntU_reset s.now (s.op.take j) s.us
 have h3 : (s.op.take j).length ≤ s.op.length := by rw [List.length_take]; omega
 have h4 : s.op.length + cntU s.us ≤ 220 := by unfold stCnt at hc; omega
 refine ⟨⟨Nat.le_trans hf.op (by decide), ?_, Nat.le_trans hf.su (by decide), Nat.le_trans hf.tb (by decide), fun x hx => ?_⟩, resetU_rise s.now _ h.ur, resetU_sz s.now _ hz.us fun e he => hz.op e (List.mem_of_mem_take he)⟩
 ·show (resetU (s.op.take j) s.now s.us).length ≤ 450
  omega
 ·have := h1.2 x hx
  omega
set_option maxHeartbeats 1000000 in
theorem rreset_any11 (x : SaL) (w : World) (h : SaAt w x) (hr : RightS x.m) (hc : stCnt x.m ≤ 220) (hz : SzS x.m) :
  Calls Tryz.prog 24 #[saV x] w (Is w (resetS x.m)) := by
 obtain ⟨HK, HZ⟩ := two_SB h 27 27
 have HS := Lib.hid HK
 have HZZ := Lib.hid HZ
 have HCL : Hid (∀ V (y : SaL) (j : Nat) (hj : j < x.m.op.length), y.m = ridS x.m j → SaAt V y → Calls Tryz.prog 78 #[saV y, .string x.m.op[j].u, .agg #[.int .i64 x.m.op[j].f, .int .i64 x.m.now, .int .i64 x.m.op[j].n, .int .i64 x.m.op[j].s]] V fun e w' => ∃ y2, e = .returned (saV y2) ∧ SaAt w' y2 ∧ y2.m = ridS x.m (j + 1) ∧ Below V.heap.size V w') := fun V y j hj hm hy => by
  obtain ⟨g1, g2, g3⟩ := ridS_few hr hc hz j
  refine (radd_any y x.m.op[j].u ⟨x.m.op[j].f, x.m.now, x.m.op[j].n, x.m.op[j].s⟩ V hy (hm ▸ g1) (by have e : umS y.us = (ridS x.m j).us := congrArg SaM.us hm; rw [e]; exact g2) (hz.op _ (List.getElem_mem hj)) (fun z hz' => by have e : umS y.us = (ridS x.m j).us := congrArg SaM.us hm; exact g3 z.m (by rw [← e]; exact List.mem_map_of_mem hz'))).mono ?_
  rintro e w' ⟨y2, rfl, k1, k2, k3⟩
  exact ⟨y2, rfl, k1, by rw [k2, hm, ridS_next x.m j hj], k3⟩
 have hol : x.op.length ≤ 1000 := by have := (few_of hr hc).op; have e : x.m.op = x.op := rfl; rw [e] at this; omega
 have HOP := Lib.hid h.op
 have hend : resetS x.m = { ridS x.m x.m.op.length with op := [] } := by unfold resetS ridS; rw [List.take_length]
 have HEND := Lib.hid hend
 generalize hs : x.m = s at *
 have hop : s.op = x.op := by rw [← hs]; rfl
 have hnow : s.now = x.now := by rw [← hs]; rfl
 obtain ⟨c0, c1, c2, c3, c4, c5⟩ := HK.cells
 obtain ⟨now, hor, oa, op, oc, ua, us, uc, sa, su, sc, ta, tb, tc⟩ := x
 unfold saV saC at *
 dsimp only at *
 subst hop
 subst hnow
 clear h hr hc HK HZ hz hend
 go_enter Tryz.func24, Tryz.ntmps24
 go_wp2
 go_loopw [4] (fun iv wr => ∃ (j : Nat) (y : SaL), j ≤ s.op.length ∧ iv = .int .i64 j ∧ Hid (y.m = ridS s j) ∧ Hid (SB w w.heap.size 27 y wr) ∧ Hid (SB w (w.heap.size + 1) 27 saO wr)) (fun iv _ => s.op.length - (intOf iv).toNat)
 case atStart => exact ⟨0, _, by omega, rfl, hs, HS.out, HZZ.out⟩
 case round =>
  clear HS HZZ c0 c1 c2 c3 c4 c5
  obtain ⟨j, y, hj, rfl, HM, HY, HZ⟩ := hrel
  by_cases hjl : j < s.op.length
  ·obtain ⟨b, off, rfl, hbl, r0, r1, r2, r3⟩ := (HOP.out.below HY.out.frame) j hjl
   have hyn : y.now = s.now := by have := congrArg SaM.now HM.out; exact this
   have HCJ := Lib.hid (fun V (hy : SaAt V y) => HCL.out V y j hjl HM.out hy)
   have HROW : Hid (∀ V, Below w.heap.size w V → V.cell? ⟨b, off + j * 4, none⟩ = some (.int .i64 (s.op[j]).n) ∧ V.cell? ⟨b, off + j * 4 + 1, none⟩ = some (.string (s.op[j]).u) ∧ V.cell? ⟨b, off + j * 4 + 2, none⟩ = some (.int .i64 (s.op[j]).s) ∧ V.cell? ⟨b, off + j * 4 + 3, none⟩ = some (.int .i64 (s.op[j]).f)) := fun V q => by
    obtain ⟨b', off', e, -, k0, k1, k2, k3⟩ := (HOP.out.below q) j hjl
    cases e
    exact ⟨k0, k1, k2, k3⟩
   have HSC : Hid (∀ V, SB w w.heap.size 27 y V → V.cell? ⟨w.heap.size, 0, none⟩ = some (.int .i64 y.now) ∧ V.cell? ⟨w.heap.size, 1, none⟩ = some (.int .i64 y.hor) ∧ V.cell? ⟨w.heap.size, 2, none⟩ = some (.slice y.oa y.op.length y.oc) ∧ V.cell? ⟨w.heap.size, 3, none⟩ = some (.slice y.ua y.us.length y.uc) ∧ V.cell? ⟨w.heap.size, 4, none⟩ = some (.slice y.sa y.su.length y.sc) ∧ V.cell? ⟨w.heap.size, 5, none⟩ = some (.slice y.ta y.tb.length y.tc) ∧ V.cell? ⟨b, off + j * 4, none⟩ = some (.int .i64 (s.op[j]).n) ∧ V.cell? ⟨b, off + j * 4 + 1, none⟩ = some (.string (s.op[j]).u) ∧ V.cell? ⟨b, off + j * 4 + 2, none⟩ = some (.int .i64 (s.op[j]).s) ∧ V.cell? ⟨b, off + j * 4 + 3, none⟩ = some (.int .i64 (s.op[j]).f)) := fun V h => by
    obtain ⟨c0, c1, c2, c3, c4, c5⟩ := h.cells
    obtain ⟨k0, k1, k2, k3⟩ := HROW.out V h.frame
    exact ⟨c0, c1, c2, c3, c4, c5, k0, k1, k2, k3⟩
   have Y1 := HY.out.below (Below.refl _ _).drew
   have Z1 := HZ.out.below (Below.refl _ _).drew
   obtain ⟨c0, c1, c2, c3, c4, c5⟩ := HY.out.cells
   have hgl := HY.out.lt
   generalize s.op[j] = e at *
   obtain ⟨now1, hor1, oa1, op1, oc1, ua1, us1, uc1, sa1, su1, sc1, ta1, tb1, tc1⟩ := y
   (try unfold saV at *)
   (try unfold saC at *)
   dsimp only at *
   subst hyn
   clear HCL HM HEND HY HZ HROW
   go_wp2_with fail
   go_still_tail 24, (by kernel_rfl)
   change wpList _ _ _ _ _ wr.drew
   generalize wr.drew = wd at *
   clear c0 c1 c2 c3 c4 c5 r0 r1 r2 r3 hgl HSC
   go_wp2_with fail
   refine (HCJ.out _ Y1.at_).mono ?_
   rintro e1 w1 ⟨y2, rfl, l1, m1, h1⟩
   have A1 := Y1.below h1
   have B1 := Z1.below h1
   obtain ⟨A2, B2⟩ := A1.over l1 B1 (by omega)
   have HA2 := Lib.hid A2
   have HB2 := Lib.hid B2
   have HM2 := Lib.hid m1
   obtain ⟨c0, c1, c2, c3, c4, c5⟩ := A1.cells
   obtain ⟨f0, f1, f2, f3, f4, f5⟩ := A1.free
   have hgl := A1.lt
   obtain ⟨now2, hor2, oa2, op2, oc2, ua2, us2, uc2, sa2, su2, sc2, ta2, tb2, tc2⟩ := y2
   unfold setS at *
   (try unfold saV at *)
   (try unfold saC at *)
   dsimp only at *
   clear Y1 Z1 A1 B1 A2 B2 l1 m1 h1 HCJ
   go_wp2
   go_roundw
   case rel => exact ⟨j + 1, _, by omega, by go_num, HM2.out, HA2.out, HB2.out⟩
   case measure => simp [intOf]; omega
  ·obtain rfl : j = s.op.length := by omega
   have Y1 := HY.out
   have Y2 := Y1.setOp rfl (OpSl.nil wr none) Cp.none
   have Z2 := HZ.out.far Y1 (by omega) 2 (.slice none 0 0)
   have hfin := Y2.finR Z2
   have hym : ({ y with oa := none, op := [], oc := 0 } : SaL).m = resetS s := by rw [HEND.out, ← HM.out]; rfl
   obtain ⟨c0, c1, c2, c3, c4, c5⟩ := Y1.cells
   obtain ⟨f0, f1, f2, f3, f4, f5⟩ := Y1.free
   obtain ⟨d0, d1, d2, d3, d4, d5⟩ := Y2.cells
   obtain ⟨z0, z1, z2, z3, z4, z5⟩ := Z2.cells
   obtain ⟨y0, y1, y2, y3, y4, y5⟩ := Z2.free
   have hgl := Y1.lt
   have hzl := Z2.lt
   have HL := Lib.hid hfin.1
   have HFN := Lib.hid (And.intro hfin.2.1 (And.intro hym hfin.2.2))
   obtain ⟨now1, hor1, oa1, op1, oc1, ua1, us1, uc1, sa1, su1, sc1, ta1, tb1, tc1⟩ := y
   unfold setS saV saC at HL
   (try unfold saV at *)
   (try unfold saC at *)
   unfold saO at z0 z1 z2 z3 z4 z5
   dsimp only at *
   simp only [List.length_nil] at d2 HL
   clear HCL HM HEND HY HZ Y1 Y2 Z2 hfin hym HOP
   go_wp2
   refine bodyPost_ret (v := saV ⟨now1, hor1, none, [], 0, ua1, us1, uc1, sa1, su1, sc1, ta1, tb1, tc1⟩) ?_ rfl ⟨_, rfl, HFN.out⟩
   rw [results_cell1 rfl]
   unfold saV saC
   simp [asAddr, Result.andThen, HL.out]
end Go.Proofs.YtjhdhfokhkcamaaGreat
