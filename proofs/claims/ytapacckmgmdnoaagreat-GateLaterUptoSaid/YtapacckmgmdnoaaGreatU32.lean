/- Texts of mine, one behind the other, of each what is wanted. -/
import Derived.Test.YtapacckmgmdnoaaGreatU00
import Derived.Test.YtapacckmgmdnoaaGreatShelf
import Derived.Test.YtapacckmgmdnoaaGreatRows
import Derived.Test.YtapacckmgmdnoaaGreatU01
import Derived.Test.YtapacckmgmdnoaaGreatU02
import Derived.Test.YtapacckmgmdnoaaGreatU04
import Derived.Test.YtapacckmgmdnoaaGreatU07
import Derived.Test.YtapacckmgmdnoaaGreatU09
import Derived.Test.YtapacckmgmdnoaaGreatU11
import Derived.Test.YtapacckmgmdnoaaGreatU12
import Derived.Test.YtapacckmgmdnoaaGreatU15
import Derived.Test.YtapacckmgmdnoaaGreatU19
import Derived.Test.YtapacckmgmdnoaaGreatU21
import Derived.Test.YtapacckmgmdnoaaGreatU30
import Derived.Test.YtapacckmgmdnoaaGreatU31
namespace Go.Proofs.YtapacckmgmdnoaaGreat
open Go.RowKit Go.Proofs
set_option linter.unusedVariables false
set_option maxRecDepth 100000
set_option maxRecDepth 100000
theorem SB.fin {w T : World} {g r : Nat} {t t' : TypeId} {y z : SaL} (hK : SB w g t y T) (hZ : SB w r t' z T) : (loadVar 39 ⟨r, 0, none⟩).run Tryz.prog (setS T r y) = .ok (saV y) (setS T r y) ∧ SaAt (setS T r y) y ∧ Below w.heap.size w (setS T r y) := by
 have hF := hZ.set hK.at_
 exact ⟨loadS6 hF.blk, hF.at_, hF.frame⟩
theorem SB.finV {w T : World} {r : Nat} {t' : TypeId} {y z : SaL} (hy : SaAt T y) (hZ : SB w r t' z T) : (loadVar 39 ⟨r, 0, none⟩).run Tryz.prog (setS T r y) = .ok (saV y) (setS T r y) ∧ SaAt (setS T r y) y ∧ Below w.heap.size w (setS T r y) := by
 have hF := hZ.set hy
 exact ⟨loadS6 hF.blk, hF.at_, hF.frame⟩
theorem two_SB {w : World} {x : SaL} (h : SaAt w x) (t t' : TypeId) : SB w w.heap.size t x ((w.alloc (.cells (saC x) t)).alloc (.cells (saC saO) t')) ∧ SB w (w.heap.size + 1) t' saO ((w.alloc (.cells (saC x) t)).alloc (.cells (saC saO) t')) := by
 have S0 := SB.new (Below.refl w.heap.size w) h t
 have Z0 := SB.new (S0.frame) (SaAt.zero (w.alloc (.cells (saC x) t))) t'
 rw [size1] at Z0
 exact ⟨S0.alloc _, Z0⟩
theorem umS_st {D : List UsL} {n : Nat} (h : ∀ u ∈ umS D, u.l.length ≤ n) : ∀ y ∈ D, y.l.length ≤ n := fun y hy => h y.m (List.mem_map_of_mem hy)
set_option maxHeartbeats 4000000 in
theorem closed_any (x : SaL) (n : Int) (u : ByteArray) (at_ : Int) (w : World) (h : SaAt w x) (hf : Few x.m 450) (hk : RiseK UsM.u (umS x.us)) :
  Calls Tryz.prog 195 #[saV x, .int .i64 n, .string u, .int .i64 at_] w fun e w' => ∃ y, e = .returned (.tuple #[saV y, .int .i64 (findC x.op n u)]) ∧ SaAt w' y ∧ y.m = { x.m with op := cloR x.op n u, us := addU (umS x.us) u (fndS x.op n u at_) } ∧ Below w.heap.size w w' := by
 obtain ⟨HK, HZ⟩ := two_SB h 39 39
 obtain ⟨now, hor, oa, op, oc, ua, us, uc, sa, su, sc, ta, tb, tc⟩ := x
 have hun : us.length ≤ 450 := by have := hf.us; unfold SaL.m at this; simp only at this; rwa [umS_len] at this
 have HCL := Lib.hid (fun V (h : OpSl V oa op) => o_close oa oc op n u at_ V h (Nat.le_trans hf.op (by decide)) HK.at_.oc.le HK.at_.oc.mx)
 have HWS := Lib.hid (fun V (h : UsSl V ua us) => withStay_any ua uc us u (fndS op n u at_) V h HK.at_.uc hk (by omega) (fun y hy => by have := umS_st hf.st y hy; omega))
 have HS := Lib.hid HK
 have HZZ := Lib.hid HZ
 obtain ⟨c0, c1, c2, c3, c4, c5⟩ := HK.cells
 unfold stV at HWS
 unfold saV saC at *
 dsimp only at *
 clear h hf HK HZ
 go_enter Tryz.func195, Tryz.ntmps195
 go_wp2_with fail
 refine (HCL.out _ HS.out.at_.op).mono ?_
 rintro e w1 ⟨x1, q1, rfl, i1, j1, k1, l1, h1⟩
 generalize hst : fndS op n u at_ = st at *
 have hb := below_one w1 (.cells #[.int .i64 st.f, .int .i64 st.t, .int .i64 st.n, .int .i64 st.s] 111)
 have S1 := (HS.out.below h1).below hb
 have Z1 := (HZZ.out.below h1).below hb
 have L1 := l1.below hb
 clear c0 c1 c2 c3 c4 c5
 obtain ⟨c0, c1, c2, c3, c4, c5⟩ := S1.cells
 obtain ⟨s0, s1, s2, s3⟩ := cells4 (heap_alloc_new w1 (.cells #[.int .i64 st.f, .int .i64 st.t, .int .i64 st.n, .int .i64 st.s] 111))
 have HS1 := Lib.hid S1
 have HZ1 := Lib.hid Z1
 have HL1 := Lib.hid L1
 have HC1 := Lib.hid (Cp.mk i1 j1 k1)
 dsimp only at *
 clear HS HZZ S1 Z1 L1 h1 hb l1 i1 j1 k1
 go_wp2_with fail
 refine (HWS.out _ HS1.out.at_.us).mono ?_
 rintro e w2 ⟨x2, q2, L, rfl, z2, p2, m2, h2⟩
 have S2 := HS1.out.below h2
 have Z2 := HZ1.out.below h2
 have S3 := S2.setOp rfl (HL1.out.below h2) HC1.out
 have S4 := S3.setUs rfl (z2.setB S2.blk 2 (.slice x1 (cloR op n u).length q1)) p2
 have Z3 := Z2.far S2 (by omega) 2 (.slice x1 (cloR op n u).length q1)
 have Z4 := Z3.far S3 (by omega) 3 (.slice x2 L.length q2)
 have hfin := S4.fin Z4
 clear c0 c1 c2 c3 c4 c5 s0 s1 s2 s3
 obtain ⟨c0, c1, c2, c3, c4, c5⟩ := S2.cells
 obtain ⟨f0, f1, f2, f3, f4, f5⟩ := S2.free
 obtain ⟨d0, d1, d2, d3, d4, d5⟩ := S4.cells
 obtain ⟨z0, z1, z2', z3, z4, z5⟩ := Z4.cells
 obtain ⟨y0, y1, y2, y3, y4, y5⟩ := Z4.free
 have hgl := S2.lt
 have hzl := Z4.lt
 have HL := Lib.hid hfin.1
 have HFN := Lib.hid (And.intro hfin.2.1 (And.intro (show SaL.m ⟨now, hor, x1, cloR op n u, q1, x2, L, q2, sa, su, sc, ta, tb, tc⟩ = ⟨now, hor, cloR op n u, addU (umS us) u (fndS op n u at_), su, tb⟩ by unfold SaL.m; simp only; rw [m2, hst]) hfin.2.2))
 unfold setS saV saC at HL
 unfold saO at z0 z1 z2' z3 z4 z5
 dsimp only at *
 clear S2 Z2 S3 S4 Z3 Z4 hfin HS1 HZ1 HL1 HC1 HCL HWS z2 p2 m2 h2
 go_wp2
 refine bodyPost_ret (v := .tuple #[saV ⟨now, hor, x1, cloR op n u, q1, x2, L, q2, sa, su, sc, ta, tb, tc⟩, .int .i64 (findC op n u)]) ?_ rfl ⟨_, rfl, HFN.out⟩
 rw [results_cellT rfl]
 unfold saV saC
 simp [asAddr, Result.andThen, HL.out]
set_option maxHeartbeats 4000000 in
theorem erased_any (x : SaL) (u : ByteArray) (at_ : Int) (w : World) (h : SaAt w x) (hf : Few x.m 450) (hk : RiseK UsM.u (umS x.us)) (ht : RiseK TbM.u x.tb) :
  Calls Tryz.prog 198 #[saV x, .string u, .int .i64 at_] w fun e w' => ∃ y, e = .returned (saV y) ∧ SaAt w' y ∧ y.m = { x.m with op := x.op.filter (notU u), us := putU (umS x.us) u [], su := withoutS x.su u, tb := tombU x.tb u at_ } ∧ Below w.heap.size w w' := by
 have S0 := SB.new (Below.refl w.heap.size w) h 39
 have hbu := below_one (w.alloc (.cells (saC x) 39)) (.cells #[.string u] 9)
 have S1 := S0.below hbu
 have Z0 := SB.new S1.frame (SaAt.zero ((w.alloc (.cells (saC x) 39)).alloc (.cells #[.string u] 9))) 39
 have hcap : CapO ((w.alloc (.cells (saC x) 39)).alloc (.cells #[.string u] 9)) (w.heap.size + 1) (.string u) := ⟨by have := cell_of_row ((w.alloc (.cells (saC x) 39)).alloc (.cells #[.string u] 9)) (w.alloc (.cells (saC x) 39)).heap.size 0 _ _ (0, 0) (heap_alloc_new _ _); rw [size1] at this; exact this, by rw [size1, size1]; omega⟩
 rw [size1, size1] at Z0
 have HK := S1.alloc (.cells (saC saO) 39)
 have HCA := Lib.hid (hcap.below (below_one _ (.cells (saC saO) 39)))
 obtain ⟨now, hor, oa, op, oc, ua, us, uc, sa, su, sc, ta, tb, tc⟩ := x
 have hun : us.length ≤ 450 := by have := hf.us; unfold SaL.m at this; simp only at this; rwa [umS_len] at this
 have HWO := Lib.hid (fun V (h : OpSl V oa op) => o_without oa oc op u V h (Nat.le_trans hf.op (by decide)))
 have HTH := Lib.hid (fun V (h : UsSl V ua us) (k : CapO V (w.heap.size + 1) (.string u)) => those_any ua uc us u (w.heap.size + 1) V h HK.at_.uc (by omega) k)
 have HWE := Lib.hid (fun V (h : EnSl V sa su) => e_without sa sc su u V h (Nat.le_trans hf.su (by decide)))
 have HPT := Lib.hid (fun V (h : TbSl V ta tb) => put_tb ta tc tb ⟨u, at_⟩ V h HK.at_.tc (Nat.le_trans hf.tb (by decide)))
 have HPI := Lib.hid (fun L (h : IsPut TbM.u tb ⟨u, at_⟩ L) => h.tb ht)
 have HKU : Hid (umS (butU u us) = putU (umS us) u []) := by
  unfold Hid
  rw [butU_m]
  exact (ins_out hk).symm
 have HS := Lib.hid HK
 have HZZ := Lib.hid Z0
 obtain ⟨c0, c1, c2, c3, c4, c5⟩ := HK.cells
 obtain ⟨f0, f1, f2, f3, f4, f5⟩ := HK.free
 obtain ⟨k0, hkl⟩ := HCA.out
 unfold saV saC at *
 dsimp only at *
 have hgl := HK.lt
 clear h hf HK Z0 S0 S1 hbu hcap
 go_enter Tryz.func198, Tryz.ntmps198
 go_wp2_with fail
 refine (HWO.out _ HS.out.at_.op).mono ?_
 rintro e w1 ⟨x1, q1, rfl, i1, j1, k1, l1, h1⟩
 have A1 := HS.out.below h1
 have B1 := HZZ.out.below h1
 have C1 := HCA.out.below h1
 have A2 := A1.setOp rfl l1 ⟨i1, j1, k1⟩
 have B2 := B1.far A1 (by omega) 2 (.slice x1 (op.filter (notU u)).length q1)
 have C2 : CapO (w1.setCell ⟨w.heap.size, 2, none⟩ (.slice x1 (op.filter (notU u)).length q1)) (w.heap.size + 1) (.string u) := ⟨(cell_far (p := ⟨w.heap.size + 1, 0, none⟩) (by show w.heap.size + 1 ≠ w.heap.size; omega)).trans C1.1, by rw [size_set]; exact C1.2⟩
 clear c0 c1 c2 c3 c4 c5 f0 f1 f2 f3 f4 f5 hgl k0 hkl
 obtain ⟨c0, c1, c2, c3, c4, c5⟩ := A1.cells
 obtain ⟨f0, f1, f2, f3, f4, f5⟩ := A1.free
 have hgl := A1.lt
 obtain ⟨d0, d1, d2, d3, d4, d5⟩ := A2.cells
 have HS2 := Lib.hid A2
 have HZ2 := Lib.hid B2
 have HC2 := Lib.hid C2
 dsimp only at *
 clear HS HZZ HCA A1 B1 C1 A2 B2 C2 h1 i1 j1 k1 l1
 go_wp2_with fail
 refine (HTH.out _ HS2.out.at_.us HC2.out).mono ?_
 rintro e w2 ⟨x2, q2, rfl, l2, p2, h2⟩
 have A1 := HS2.out.below h2
 have B1 := HZ2.out.below h2
 have C1 := HC2.out.below h2
 have A2 := A1.setUs rfl l2 p2
 have B2 := B1.far A1 (by omega) 3 (.slice x2 (butU u us).length q2)
 have C2 : CapO (w2.setCell ⟨w.heap.size, 3, none⟩ (.slice x2 (butU u us).length q2)) (w.heap.size + 1) (.string u) := ⟨(cell_far (p := ⟨w.heap.size + 1, 0, none⟩) (by show w.heap.size + 1 ≠ w.heap.size; omega)).trans C1.1, by rw [size_set]; exact C1.2⟩
 clear c0 c1 c2 c3 c4 c5 f0 f1 f2 f3 f4 f5 hgl d0 d1 d2 d3 d4 d5
 obtain ⟨c0, c1, c2, c3, c4, c5⟩ := A1.cells
 obtain ⟨f0, f1, f2, f3, f4, f5⟩ := A1.free
 have hgl := A1.lt
 obtain ⟨d0, d1, d2, d3, d4, d5⟩ := A2.cells
 have HC3 := Lib.hid C2
 obtain ⟨k0, hkl⟩ := C2
 have HS3 := Lib.hid A2
 have HZ3 := Lib.hid B2
 dsimp only at *
 clear HS2 HZ2 HC2 A1 B1 C1 A2 B2 h2 l2 p2
 go_wp2_with fail
 refine (HWE.out _ HS3.out.at_.su).mono ?_
 rintro e w3 ⟨x3, q3, rfl, i3, j3, k3, l3, h3⟩
 have A1 := HS3.out.below h3
 have B1 := HZ3.out.below h3
 have C1 := HC3.out.below h3
 have A2 := A1.setSu rfl l3 ⟨i3, j3, k3⟩
 have B2 := B1.far A1 (by omega) 4 (.slice x3 (su.filter (wiE u)).length q3)
 have C2 : CapO (w3.setCell ⟨w.heap.size, 4, none⟩ (.slice x3 (su.filter (wiE u)).length q3)) (w.heap.size + 1) (.string u) := ⟨(cell_far (p := ⟨w.heap.size + 1, 0, none⟩) (by show w.heap.size + 1 ≠ w.heap.size; omega)).trans C1.1, by rw [size_set]; exact C1.2⟩
 clear c0 c1 c2 c3 c4 c5 f0 f1 f2 f3 f4 f5 hgl d0 d1 d2 d3 d4 d5 k0 hkl
 obtain ⟨c0, c1, c2, c3, c4, c5⟩ := A1.cells
 obtain ⟨f0, f1, f2, f3, f4, f5⟩ := A1.free
 have hgl := A1.lt
 obtain ⟨d0, d1, d2, d3, d4, d5⟩ := A2.cells
 obtain ⟨k0, hkl⟩ := C2
 have HS4 := Lib.hid A2
 have HZ4 := Lib.hid B2
 dsimp only at *
 clear HS3 HZ3 HC3 A1 B1 C1 A2 B2 h3 i3 j3 k3 l3
 go_wp2_with fail
 refine (HPT.out _ HS4.out.at_.tb).mono ?_
 rintro e w4 ⟨x4, q4, L, rfl, l4, p4, m4, h4⟩
 have A1 := HS4.out.below h4
 have B1 := HZ4.out.below h4
 have A2 := A1.setTb rfl l4 p4
 have B2 := B1.far A1 (by omega) 5 (.slice x4 L.length q4)
 have hfin := A2.fin B2
 have hL := HPI.out L m4
 clear c0 c1 c2 c3 c4 c5 f0 f1 f2 f3 f4 f5 hgl d0 d1 d2 d3 d4 d5 k0 hkl
 obtain ⟨c0, c1, c2, c3, c4, c5⟩ := A1.cells
 obtain ⟨f0, f1, f2, f3, f4, f5⟩ := A1.free
 have hgl := A1.lt
 obtain ⟨d0, d1, d2, d3, d4, d5⟩ := A2.cells
 obtain ⟨z0, z1, z2, z3, z4, z5⟩ := B2.cells
 obtain ⟨y0, y1, y2, y3, y4, y5⟩ := B2.free
 have hzl := B2.lt
 have HL := Lib.hid hfin.1
 have HFN := Lib.hid (And.intro hfin.2.1 (And.intro (show SaL.m ⟨now, hor, x1, op.filter (notU u), q1, x2, butU u us, q2, x3, su.filter (wiE u), q3, x4, L, q4⟩ = ⟨now, hor, op.filter (notU u), putU (umS us) u [], withoutS su u, tombU tb u at_⟩ by unfold SaL.m; simp only; rw [HKU.out, hL]; rfl) hfin.2.2))
 unfold setS saV saC at HL
 unfold saO at z0 z1 z2 z3 z4 z5
 dsimp only at *
 clear HS4 HZ4 A1 B1 A2 B2 hfin hL m4 l4 p4 h4 HWO HTH HWE HPT HPI HKU
 go_wp2
 refine bodyPost_ret (v := saV ⟨now, hor, x1, op.filter (notU u), q1, x2, butU u us, q2, x3, su.filter (wiE u), q3, x4, L, q4⟩) ?_ rfl ⟨_, rfl, HFN.out⟩
 rw [results_cell1 rfl]
 unfold saV saC
 simp [asAddr, Result.andThen, HL.out]
def nowB (s : SaM) : Bool := wiB (v4 s.now s.hor 0 0) (v4 0 0 0 0) (v4 1099511627775 1099511627775 0 0)
def rightB (s : SaM) : Bool := nowB s && (decide (RiseO s.op) && (s.op.all (fromB s) && (decide (riseNB UsM.u s.us) && (s.us.all (fun x => staysB s x.l) && (decide (RiseE s.su) && (s.su.all (timesB s) && (decide (riseNB TbM.u s.tb) && s.tb.all (tombB s))))))))
theorem wiB_iff {n l m : Nat → Int} (h : ∀ i, i < 4 → l i ≤ m i) : wiB n l m = true ↔ ∀ i, i < 4 → l i ≤ n i ∧ n i ≤ m i := by
 unfold wiB
 simp only [Bool.and_eq_true, beq_iff_eq]
 have key : ∀ i, i < 4 → (clampN n l m i = n i ↔ l i ≤ n i ∧ n i ≤ m i) := fun i hi => by
  have := h i hi
  unfold clampN
  omega
 rw [key 0 (by decide), key 1 (by decide), key 2 (by decide), key 3 (by decide)]
 constructor
 ·rintro ⟨h0, h1, h2, h3⟩ i hi
  have : i = 0 ∨ i = 1 ∨ i = 2 ∨ i = 3 := by omega
  rcases this with rfl | rfl | rfl | rfl
  ·exact h0
  ·exact h1
  ·exact h2
  ·exact h3
 ·intro h
  exact ⟨h 0 (by decide), h 1 (by decide), h 2 (by decide), h 3 (by decide)⟩
theorem latS_le {op : List OpM} {now : Int} {n t : Int} (hp : op.Pairwise fun a b => a.n < b.n) (hf : ∀ e ∈ op, e.f ≤ now) : t ≤ latS op now n ↔ (t ≤ now ∧ ∀ o ∈ op, o.n = n → t ≤ o.f) ∨ (t ≤ latS op now n ∧ False) := by
 have hle : op.findIdx (hasN n) ≤ op.length := List.findIdx_le_length
 by_cases hk : op.findIdx (hasN n) < op.length
 ·have e : latS op now n = op[op.findIdx (hasN n)].f := by unfold latS; rw [dif_pos hk]
  have hn : op[op.findIdx (hasN n)].n = n := by
   have := List.findIdx_getElem (p := hasN n) (xs := op) (w := hk)
   exact of_decide_eq_true this
  rw [e]
  constructor
  ·intro h
   refine .inl ⟨Int.le_trans h (hf _ (List.getElem_mem hk)), fun o ho hon => ?_⟩
   obtain ⟨i, hi, rfl⟩ := List.getElem_of_mem ho
   rw [List.pairwise_iff_getElem] at hp
   rcases Nat.lt_trichotomy i (op.findIdx (hasN n)) with h1 | h1 | h1
   ·have := hp i _ hi hk h1; omega
   ·subst h1; exact h
   ·have := hp _ i hk hi h1; omega
  ·rintro (⟨_, h⟩ | ⟨_, h⟩)
   ·exact h _ (List.getElem_mem hk) hn
   ·exact h.elim
 ·have e : latS op now n = now := by unfold latS; rw [dif_neg hk]
  rw [e]
  constructor
  ·intro h
   refine .inl ⟨h, fun o ho hon => ?_⟩
   have h1 := List.findIdx_eq_length.1 (show op.findIdx (hasN n) = op.length by omega) o ho
   rw [show hasN n o = true from decide_eq_true hon] at h1
   cases h1
  ·rintro (⟨h, _⟩ | ⟨_, h⟩)
   ·exact h
   ·exact h.elim
theorem latS_nonneg {op : List OpM} {now n : Int} (hn : 0 ≤ now) (hf : ∀ e ∈ op, 0 ≤ e.f) : 0 ≤ latS op now n := by
 unfold latS
 split
 ·exact hf _ (List.getElem_mem _)
 ·exact hn
theorem rightB_iff (s : SaM) : rightB s = true ↔ RightS s := by
 unfold rightB
 simp only [Bool.and_eq_true, decide_eq_true_eq, List.all_eq_true]
 have hnow : nowB s = true ↔ (0 ≤ s.now ∧ s.now ≤ 1099511627775) ∧ (0 ≤ s.hor ∧ s.hor ≤ 1099511627775) := by
  unfold nowB
  rw [wiB_iff (by intro i hi; have : i = 0 ∨ i = 1 ∨ i = 2 ∨ i = 3 := by omega
                  rcases this with rfl | rfl | rfl | rfl <;> decide)]
  constructor
  ·intro h; exact ⟨h 0 (by decide), h 1 (by decide)⟩
  ·rintro ⟨h0, h1⟩ i hi
   have : i = 0 ∨ i = 1 ∨ i = 2 ∨ i = 3 := by omega
   rcases this with rfl | rfl | rfl | rfl
   ·exact h0
   ·exact h1
   ·exact ⟨Int.le_refl _, Int.le_refl _⟩
   ·exact ⟨Int.le_refl _, Int.le_refl _⟩
 have hst : 0 ≤ s.now → RiseO s.op → (∀ e ∈ s.op, e.f ≤ s.now) → ∀ l : List StM, (staysB s l = true ↔ l ≠ [] ∧ RiseS l ∧ ∀ x ∈ l, OkSt s.now s.op x) := fun h0 hO hF l => by
  obtain ⟨_, h2, h3⟩ := riseO_iff.1 hO
  have hpos : ∀ e ∈ s.op, 0 ≤ e.f := fun e he => (h2 e he).2.2.2.2.2.1
  have key : ∀ x, (stayB s x = true ∧ x.f < x.t ↔ OkSt s.now s.op x ∧ x.f < x.t) := fun x => by
   have hlat := latS_nonneg (op := s.op) (n := x.n) h0 hpos
   have hle := latS_le (n := x.n) (t := x.t) h3 hF
   unfold stayB
   rw [wiB_iff (by intro i hi; have : i = 0 ∨ i = 1 ∨ i = 2 ∨ i = 3 := by omega
                   rcases this with rfl | rfl | rfl | rfl
                   ·exact h0
                   ·exact hlat
                   ·exact (show (1 : Int) ≤ 999 by decide)
                   ·exact (show (1 : Int) ≤ 4 by decide))]
   unfold OkSt
   constructor
   ·rintro ⟨h, hlt⟩
    have g0 := h 0 (by decide)
    have g1 := h 1 (by decide)
    have g2 := h 2 (by decide)
    have g3 := h 3 (by decide)
    simp only [v4] at g0 g1 g2 g3
    simp at g0 g1 g2 g3
    rcases hle.1 g1.2 with ⟨k1, k2⟩ | ⟨_, k⟩
    ·exact ⟨⟨g0.1, k1, g2.1, g2.2, g3.1, g3.2, k2⟩, hlt⟩
    ·exact k.elim
   ·rintro ⟨⟨k0, k1, k2, k3, k4, k5, k6⟩, hlt⟩
    refine ⟨fun i hi => ?_, hlt⟩
    have : i = 0 ∨ i = 1 ∨ i = 2 ∨ i = 3 := by omega
    rcases this with rfl | rfl | rfl | rfl
    ·exact ⟨k0, show x.f ≤ s.now by omega⟩
    ·exact ⟨show 0 ≤ x.t by omega, hle.2 (.inl ⟨k1, k6⟩)⟩
    ·exact ⟨k2, k3⟩
    ·exact ⟨k4, k5⟩
  unfold staysB
  simp only [Bool.and_eq_true, decide_eq_true_eq, List.all_eq_true]
  constructor
  ·rintro ⟨h5, h6, h7⟩
   refine ⟨fun e => by rw [e] at h5; simp at h5, h6, fun x hx => ?_⟩
   exact ((key x).1 ⟨h7 x hx, (rise_iff.1 h6).1 x hx⟩).1
  ·rintro ⟨h5, h6, h7⟩
   refine ⟨List.length_pos_iff.2 h5, h6, fun x hx => ((key x).2 ⟨h7 x hx, (rise_iff.1 h6).1 x hx⟩).1⟩
 constructor
 ·rintro ⟨h1, h2, h3, h4, h5, h6, h7, h8, h9⟩
  obtain ⟨n1, n2⟩ := hnow.1 h1
  have hF : ∀ e ∈ s.op, e.f ≤ s.now := fun e he => of_decide_eq_true (h3 e he)
  obtain ⟨u1, u2⟩ := riseN_iff.1 h4
  obtain ⟨t1, t2⟩ := riseN_iff.1 h8
  refine ⟨⟨n1.1, by omega⟩, ⟨n2.1, by omega⟩, h2, hF, fun x hx => ?_, u2, ⟨h6, fun e he => ?_⟩, fun x hx => ?_, t2⟩
  ·obtain ⟨k1, k2, k3⟩ := (hst n1.1 h2 hF x.l).1 (h5 x hx)
   exact ⟨u1 x hx, k1, k2, k3⟩
  ·have := h7 e he
   unfold timesB at this
   simp only [Bool.and_eq_true, Bool.or_eq_true, decide_eq_true_eq, beq_iff_eq] at this
   exact ⟨this.1, this.2.1, this.2.2.symm⟩
  ·have := h9 x hx
   unfold tombB at this
   simp only [Bool.and_eq_true, decide_eq_true_eq] at this
   exact ⟨t1 x hx, this.1, this.2⟩
 ·intro h
  refine ⟨hnow.2 ⟨⟨h.now.1, by have := h.now.2; omega⟩, ⟨h.hor.1, by have := h.hor.2; omega⟩⟩, h.op, fun e he => decide_eq_true (h.frm e he), riseN_iff.2 ⟨fun x hx => (h.us x hx).1, h.ur⟩, fun x hx => ?_, h.su.rise, fun e he => ?_, riseN_iff.2 ⟨fun x hx => (h.tb x hx).1, h.tr⟩, fun x hx => ?_⟩
  ·obtain ⟨k1, k2, k3, k4⟩ := h.us x hx
   exact (hst h.now.1 h.op h.frm x.l).2 ⟨k2, k3, k4⟩
  ·obtain ⟨k1, k2, k3⟩ := h.su.bnd e he
   unfold timesB
   simp only [Bool.and_eq_true, Bool.or_eq_true, decide_eq_true_eq, beq_iff_eq]
   exact ⟨k1, k2, k3.symm⟩
  ·obtain ⟨k1, k2, k3⟩ := h.tb x hx
   unfold tombB
   simp only [Bool.and_eq_true, decide_eq_true_eq]
   exact ⟨k2, k3⟩
end Go.Proofs.YtapacckmgmdnoaaGreat
