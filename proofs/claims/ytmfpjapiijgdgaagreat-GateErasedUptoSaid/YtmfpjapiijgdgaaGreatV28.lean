/- Texts of mine, one behind the other, of each what is wanted. -/
import Derived.Test.YtmfpjapiijgdgaaGreatV00
import Derived.Test.YtmfpjapiijgdgaaGreatShelf
import Derived.Test.YtmfpjapiijgdgaaGreatRows
import Derived.Test.YtmfpjapiijgdgaaGreatV01
import Derived.Test.YtmfpjapiijgdgaaGreatV03
import Derived.Test.YtmfpjapiijgdgaaGreatV04
import Derived.Test.YtmfpjapiijgdgaaGreatV05
import Derived.Test.YtmfpjapiijgdgaaGreatV06
import Derived.Test.YtmfpjapiijgdgaaGreatV07
import Derived.Test.YtmfpjapiijgdgaaGreatV09
import Derived.Test.YtmfpjapiijgdgaaGreatV11
import Derived.Test.YtmfpjapiijgdgaaGreatV16
import Derived.Test.YtmfpjapiijgdgaaGreatV17
import Derived.Test.YtmfpjapiijgdgaaGreatV20
import Derived.Test.YtmfpjapiijgdgaaGreatV24
import Derived.Test.YtmfpjapiijgdgaaGreatV27
namespace Go.Proofs.YtmfpjapiijgdgaaGreat
open Go.RowKit Go.Proofs
set_option linter.unusedVariables false
set_option maxRecDepth 100000
set_option maxRecDepth 100000
theorem SB.fin {w T : World} {g r : Nat} {t t' : TypeId} {y z : SaL} (hK : SB w g t y T) (hZ : SB w r t' z T) : (loadVar 39 ⟨r, 0, none⟩).run Tryz.prog (setS T r y) = .ok (saV y) (setS T r y) ∧ SaAt (setS T r y) y ∧ Below w.heap.size w (setS T r y) := by
 have hF := hZ.set hK.at_
 exact ⟨loadS6 hF.blk, hF.at_, hF.frame⟩
theorem SB.finV {w T : World} {r : Nat} {t' : TypeId} {y z : SaL} (hy : SaAt T y) (hZ : SB w r t' z T) : (loadVar 39 ⟨r, 0, none⟩).run Tryz.prog (setS T r y) = .ok (saV y) (setS T r y) ∧ SaAt (setS T r y) y ∧ Below w.heap.size w (setS T r y) := by
 have hF := hZ.set hy
 exact ⟨loadS6 hF.blk, hF.at_, hF.frame⟩
theorem two_SB {w : World} {x : SaL} (h : SaAt w x) (t t' : TypeId) : SB w w.heap.size t x ((w.alloc (.cells (saC x) t)).alloc (.cells (saC saO) t')) ∧ SB w (w.heap.size + 1) t' saO ((w.alloc (.cells (saC x) t)).alloc (.cells (saC saO) t')) := by
 have S0 := SB.new (Below.refl w.heap.size w) h t
 have Z0 := SB.new (S0.frame) (SaAt.zero (w.alloc (.cells (saC x) t))) t'
 rw [size1] at Z0
 exact ⟨S0.alloc _, Z0⟩
theorem umS_st {D : List UsL} {n : Nat} (h : ∀ u ∈ umS D, u.l.length ≤ n) : ∀ y ∈ D, y.l.length ≤ n := fun y hy => h y.m (List.mem_map_of_mem hy)
set_option maxHeartbeats 4000000 in
theorem closed_any (x : SaL) (n : Int) (u : ByteArray) (at_ : Int) (w : World) (h : SaAt w x) (hf : Few x.m 450) (hk : RiseK UsM.u (umS x.us)) :
  Calls Tryz.prog 195 #[saV x, .int .i64 n, .string u, .int .i64 at_] w fun e w' => ∃ y, e = .returned (.tuple #[saV y, .int .i64 (findC x.op n u)]) ∧ SaAt w' y ∧ y.m = { x.m with op := cloR x.op n u, us := addU (umS x.us) u (fndS x.op n u at_) } ∧ Below w.heap.size w w' := by
 obtain ⟨HK, HZ⟩ := two_SB h 39 39
 obtain ⟨now, hor, oa, op, oc, ua, us, uc, sa, su, sc, ta, tb, tc⟩ := x
 have hun : us.length ≤ 450 := by have := hf.us; unfold SaL.m at this; simp only at this; rwa [umS_len] at this
 have HCL := Lib.hid (fun V (h : OpSl V oa op) => o_close oa oc op n u at_ V h (Nat.le_trans hf.op (by decide)) HK.at_.oc.le HK.at_.oc.mx)
 have HWS := Lib.hid (fun V (h : UsSl V ua us) => withStay_any ua uc us u (fndS op n u at_) V h HK.at_.uc hk (by omega) (fun y hy => by have := umS_st hf.st y hy; omega))
 have HS := Lib.hid HK
 have HZZ := Lib.hid HZ
 obtain ⟨c0, c1, c2, c3, c4, c5⟩ := HK.cells
 unfold stV at HWS
 unfold saV saC at *
 dsimp only at *
 clear h hf HK HZ
 go_enter Tryz.func195, Tryz.ntmps195
 go_wp2_with fail
 refine (HCL.out _ HS.out.at_.op).mono ?_
 rintro e w1 ⟨x1, q1, rfl, i1, j1, k1, l1, h1⟩
 generalize hst : fndS op n u at_ = st at *
 have hb := below_one w1 (.cells #[.int .i64 st.f, .int .i64 st.t, .int .i64 st.n, .int .i64 st.s] 111)
 have S1 := (HS.out.below h1).below hb
 have Z1 := (HZZ.out.below h1).below hb
 have L1 := l1.below hb
 clear c0 c1 c2 c3 c4 c5
 obtain ⟨c0, c1, c2, c3, c4, c5⟩ := S1.cells
 obtain ⟨s0, s1, s2, s3⟩ := cells4 (heap_alloc_new w1 (.cells #[.int .i64 st.f, .int .i64 st.t, .int .i64 st.n, .int .i64 st.s] 111))
 have HS1 := Lib.hid S1
 have HZ1 := Lib.hid Z1
 have HL1 := Lib.hid L1
 have HC1 := Lib.hid (Cp.mk i1 j1 k1)
 dsimp only at *
 clear HS HZZ S1 Z1 L1 h1 hb l1 i1 j1 k1
 go_wp2_with fail
 refine (HWS.out _ HS1.out.at_.us).mono ?_
 rintro e w2 ⟨x2, q2, L, rfl, z2, p2, m2, h2⟩
 have S2 := HS1.out.below h2
 have Z2 := HZ1.out.below h2
 have S3 := S2.setOp rfl (HL1.out.below h2) HC1.out
 have S4 := S3.setUs rfl (z2.setB S2.blk 2 (.slice x1 (cloR op n u).length q1)) p2
 have Z3 := Z2.far S2 (by omega) 2 (.slice x1 (cloR op n u).length q1)
 have Z4 := Z3.far S3 (by omega) 3 (.slice x2 L.length q2)
 have hfin := S4.fin Z4
 clear c0 c1 c2 c3 c4 c5 s0 s1 s2 s3
 obtain ⟨c0, c1, c2, c3, c4, c5⟩ := S2.cells
 obtain ⟨f0, f1, f2, f3, f4, f5⟩ := S2.free
 obtain ⟨d0, d1, d2, d3, d4, d5⟩ := S4.cells
 obtain ⟨z0, z1, z2', z3, z4, z5⟩ := Z4.cells
 obtain ⟨y0, y1, y2, y3, y4, y5⟩ := Z4.free
 have hgl := S2.lt
 have hzl := Z4.lt
 have HL := Lib.hid hfin.1
 have HFN := Lib.hid (And.intro hfin.2.1 (And.intro (show SaL.m ⟨now, hor, x1, cloR op n u, q1, x2, L, q2, sa, su, sc, ta, tb, tc⟩ = ⟨now, hor, cloR op n u, addU (umS us) u (fndS op n u at_), su, tb⟩ by unfold SaL.m; simp only; rw [m2, hst]) hfin.2.2))
 unfold setS saV saC at HL
 unfold saO at z0 z1 z2' z3 z4 z5
 dsimp only at *
 clear S2 Z2 S3 S4 Z3 Z4 hfin HS1 HZ1 HL1 HC1 HCL HWS z2 p2 m2 h2
 go_wp2
 refine bodyPost_ret (v := .tuple #[saV ⟨now, hor, x1, cloR op n u, q1, x2, L, q2, sa, su, sc, ta, tb, tc⟩, .int .i64 (findC op n u)]) ?_ rfl ⟨_, rfl, HFN.out⟩
 rw [results_cellT rfl]
 unfold saV saC
 simp [asAddr, Result.andThen, HL.out]
set_option maxHeartbeats 4000000 in
theorem erased_any (x : SaL) (u : ByteArray) (at_ : Int) (w : World) (h : SaAt w x) (hf : Few x.m 450) (hk : RiseK UsM.u (umS x.us)) (ht : RiseK TbM.u x.tb) :
  Calls Tryz.prog 198 #[saV x, .string u, .int .i64 at_] w fun e w' => ∃ y, e = .returned (saV y) ∧ SaAt w' y ∧ y.m = { x.m with op := x.op.filter (notU u), us := putU (umS x.us) u [], su := withoutS x.su u, tb := tombU x.tb u at_ } ∧ Below w.heap.size w w' := by
 have S0 := SB.new (Below.refl w.heap.size w) h 39
 have hbu := below_one (w.alloc (.cells (saC x) 39)) (.cells #[.string u] 9)
 have S1 := S0.below hbu
 have Z0 := SB.new S1.frame (SaAt.zero ((w.alloc (.cells (saC x) 39)).alloc (.cells #[.string u] 9))) 39
 have hcap : CapO ((w.alloc (.cells (saC x) 39)).alloc (.cells #[.string u] 9)) (w.heap.size + 1) (.string u) := ⟨by have := cell_of_row ((w.alloc (.cells (saC x) 39)).alloc (.cells #[.string u] 9)) (w.alloc (.cells (saC x) 39)).heap.size 0 _ _ (0, 0) (heap_alloc_new _ _); rw [size1] at this; exact this, by rw [size1, size1]; omega⟩
 rw [size1, size1] at Z0
 have HK := S1.alloc (.cells (saC saO) 39)
 have HCA := Lib.hid (hcap.below (below_one _ (.cells (saC saO) 39)))
 obtain ⟨now, hor, oa, op, oc, ua, us, uc, sa, su, sc, ta, tb, tc⟩ := x
 have hun : us.length ≤ 450 := by have := hf.us; unfold SaL.m at this; simp only at this; rwa [umS_len] at this
 have HWO := Lib.hid (fun V (h : OpSl V oa op) => o_without oa oc op u V h (Nat.le_trans hf.op (by decide)))
 have HTH := Lib.hid (fun V (h : UsSl V ua us) (k : CapO V (w.heap.size + 1) (.string u)) => those_any ua uc us u (w.heap.size + 1) V h HK.at_.uc (by omega) k)
 have HWE := Lib.hid (fun V (h : EnSl V sa su) => e_without sa sc su u V h (Nat.le_trans hf.su (by decide)))
 have HPT := Lib.hid (fun V (h : TbSl V ta tb) => put_tb ta tc tb ⟨u, at_⟩ V h HK.at_.tc (Nat.le_trans hf.tb (by decide)))
 have HPI := Lib.hid (fun L (h : IsPut TbM.u tb ⟨u, at_⟩ L) => h.tb ht)
 have HKU : Hid (umS (butU u us) = putU (umS us) u []) := by
  unfold Hid
  rw [butU_m]
  exact (ins_out hk).symm
 have HS := Lib.hid HK
 have HZZ := Lib.hid Z0
 obtain ⟨c0, c1, c2, c3, c4, c5⟩ := HK.cells
 obtain ⟨f0, f1, f2, f3, f4, f5⟩ := HK.free
 obtain ⟨k0, hkl⟩ := HCA.out
 unfold saV saC at *
 dsimp only at *
 have hgl := HK.lt
 clear h hf HK Z0 S0 S1 hbu hcap
 go_enter Tryz.func198, Tryz.ntmps198
 go_wp2_with fail
 refine (HWO.out _ HS.out.at_.op).mono ?_
 rintro e w1 ⟨x1, q1, rfl, i1, j1, k1, l1, h1⟩
 have A1 := HS.out.below h1
 have B1 := HZZ.out.below h1
 have C1 := HCA.out.below h1
 have A2 := A1.setOp rfl l1 ⟨i1, j1, k1⟩
 have B2 := B1.far A1 (by omega) 2 (.slice x1 (op.filter (notU u)).length q1)
 have C2 : CapO (w1.setCell ⟨w.heap.size, 2, none⟩ (.slice x1 (op.filter (notU u)).length q1)) (w.heap.size + 1) (.string u) := ⟨(cell_far (p := ⟨w.heap.size + 1, 0, none⟩) (by show w.heap.size + 1 ≠ w.heap.size; omega)).trans C1.1, by rw [size_set]; exact C1.2⟩
 clear c0 c1 c2 c3 c4 c5 f0 f1 f2 f3 f4 f5 hgl k0 hkl
 obtain ⟨c0, c1, c2, c3, c4, c5⟩ := A1.cells
 obtain ⟨f0, f1, f2, f3, f4, f5⟩ := A1.free
 have hgl := A1.lt
 obtain ⟨d0, d1, d2, d3, d4, d5⟩ := A2.cells
 have HS2 := Lib.hid A2
 have HZ2 := Lib.hid B2
 have HC2 := Lib.hid C2
 dsimp only at *
 clear HS HZZ HCA A1 B1 C1 A2 B2 C2 h1 i1 j1 k1 l1
 go_wp2_with fail
 refine (HTH.out _ HS2.out.at_.us HC2.out).mono ?_
 rintro e w2 ⟨x2, q2, rfl, l2, p2, h2⟩
 have A1 := HS2.out.below h2
 have B1 := HZ2.out.below h2
 have C1 := HC2.out.below h2
 have A2 := A1.setUs rfl l2 p2
 have B2 := B1.far A1 (by omega) 3 (.slice x2 (butU u us).length q2)
 have C2 : CapO (w2.setCell ⟨w.heap.size, 3, none⟩ (.slice x2 (butU u us).length q2)) (w.heap.size + 1) (.string u) := ⟨(cell_far (p := ⟨w.heap.size + 1, 0, none⟩) (by show w.heap.size + 1 ≠ w.heap.size; omega)).trans C1.1, by rw [size_set]; exact C1.2⟩
 clear c0 c1 c2 c3 c4 c5 f0 f1 f2 f3 f4 f5 hgl d0 d1 d2 d3 d4 d5
 obtain ⟨c0, c1, c2, c3, c4, c5⟩ := A1.cells
 obtain ⟨f0, f1, f2, f3, f4, f5⟩ := A1.free
 have hgl := A1.lt
 obtain ⟨d0, d1, d2, d3, d4, d5⟩ := A2.cells
 have HC3 := Lib.hid C2
 obtain ⟨k0, hkl⟩ := C2
 have HS3 := Lib.hid A2
 have HZ3 := Lib.hid B2
 dsimp only at *
 clear HS2 HZ2 HC2 A1 B1 C1 A2 B2 h2 l2 p2
 go_wp2_with fail
 refine (HWE.out _ HS3.out.at_.su).mono ?_
 rintro e w3 ⟨x3, q3, rfl, i3, j3, k3, l3, h3⟩
 have A1 := HS3.out.below h3
 have B1 := HZ3.out.below h3
 have C1 := HC3.out.below h3
 have A2 := A1.setSu rfl l3 ⟨i3, j3, k3⟩
 have B2 := B1.far A1 (by omega) 4 (.slice x3 (su.filter (wiE u)).length q3)
 have C2 : CapO (w3.setCell ⟨w.heap.size, 4, none⟩ (.slice x3 (su.filter (wiE u)).length q3)) (w.heap.size + 1) (.string u) := ⟨(cell_far (p := ⟨w.heap.size + 1, 0, none⟩) (by show w.heap.size + 1 ≠ w.heap.size; omega)).trans C1.1, by rw [size_set]; exact C1.2⟩
 clear c0 c1 c2 c3 c4 c5 f0 f1 f2 f3 f4 f5 hgl d0 d1 d2 d3 d4 d5 k0 hkl
 obtain ⟨c0, c1, c2, c3, c4, c5⟩ := A1.cells
 obtain ⟨f0, f1, f2, f3, f4, f5⟩ := A1.free
 have hgl := A1.lt
 obtain ⟨d0, d1, d2, d3, d4, d5⟩ := A2.cells
 obtain ⟨k0, hkl⟩ := C2
 have HS4 := Lib.hid A2
 have HZ4 := Lib.hid B2
 dsimp only at *
 clear HS3 HZ3 HC3 A1 B1 C1 A2 B2 h3 i3 j3 k3 l3
 go_wp2_with fail
 refine (HPT.out _ HS4.out.at_.tb).mono ?_
 rintro e w4 ⟨x4, q4, L, rfl, l4, p4, m4, h4⟩
 have A1 := HS4.out.below h4
 have B1 := HZ4.out.below h4
 have A2 := A1.setTb rfl l4 p4
 have B2 := B1.far A1 (by omega) 5 (.slice x4 L.length q4)
 have hfin := A2.fin B2
 have hL := HPI.out L m4
 clear c0 c1 c2 c3 c4 c5 f0 f1 f2 f3 f4 f5 hgl d0 d1 d2 d3 d4 d5 k0 hkl
 obtain ⟨c0, c1, c2, c3, c4, c5⟩ := A1.cells
 obtain ⟨f0, f1, f2, f3, f4, f5⟩ := A1.free
 have hgl := A1.lt
 obtain ⟨d0, d1, d2, d3, d4, d5⟩ := A2.cells
 obtain ⟨z0, z1, z2, z3, z4, z5⟩ := B2.cells
 obtain ⟨y0, y1, y2, y3, y4, y5⟩ := B2.free
 have hzl := B2.lt
 have HL := Lib.hid hfin.1
 have HFN := Lib.hid (And.intro hfin.2.1 (And.intro (show SaL.m ⟨now, hor, x1, op.filter (notU u), q1, x2, butU u us, q2, x3, su.filter (wiE u), q3, x4, L, q4⟩ = ⟨now, hor, op.filter (notU u), putU (umS us) u [], withoutS su u, tombU tb u at_⟩ by unfold SaL.m; simp only; rw [HKU.out, hL]; rfl) hfin.2.2))
 unfold setS saV saC at HL
 unfold saO at z0 z1 z2 z3 z4 z5
 dsimp only at *
 clear HS4 HZ4 A1 B1 A2 B2 hfin hL m4 l4 p4 h4 HWO HTH HWE HPT HPI HKU
 go_wp2
 refine bodyPost_ret (v := saV ⟨now, hor, x1, op.filter (notU u), q1, x2, butU u us, q2, x3, su.filter (wiE u), q3, x4, L, q4⟩) ?_ rfl ⟨_, rfl, HFN.out⟩
 rw [results_cell1 rfl]
 unfold saV saC
 simp [asAddr, Result.andThen, HL.out]
end Go.Proofs.YtmfpjapiijgdgaaGreat
namespace Go.Proofs.YtmfpjapiijgdgaaGreat
open Go.RowKit Go.Proofs
set_option linter.unusedVariables false
set_option maxRecDepth 100000
def ers (l : List Int) : List Value := l.map (.int .i64)
theorem ers_len (l : List Int) : (ers l).length = l.length := List.length_map _
theorem ers_snoc (l : List Int) (n : Int) : ers (l ++ [n]) = ers l ++ [.int .i64 n] := by simp [ers]
def ErSl (w : World) (a : Option Addr) (l : List Int) : Prop := Sl w a (ers l)
theorem ErSl.nil (w : World) (a : Option Addr) : ErSl w a [] := Sl.nil _ _
theorem evsl_setB {W : World} {g : Nat} {x : SaL} {t : TypeId} (h : W.heap[g]? = some (.cells (saC x) t (0, 0))) {a : Option Addr} {l : List EvM} (ho : EvSl W a l) (i : Nat) (v : Value) : EvSl (W.setCell ⟨g, i, none⟩ v) a l := fun k hk => by
 obtain ⟨b, off, e, hlt, h0⟩ := ho k hk
 have hne : b ≠ g := fun e => by
  subst e
  have h2 : W.cell? ⟨b, off + k * 6 + 2, none⟩ = some (.string l[k].user) := h0 2 (by decide)
  exact six_string h h2
 exact ⟨b, off, e, by rw [size_set]; exact hlt, fun i hi => (cell_far (p := ⟨b, off + k * 6 + i, none⟩) hne).trans (h0 i hi)⟩
theorem evsl_setS {w W : World} {g : Nat} {x y : SaL} {t : TypeId} (h : SB w g t x W) (hy : SaAt W y) {a : Option Addr} {l : List EvM} (ho : EvSl W a l) : EvSl (setS W g y) a l := by
 have h0 := SB.setNow h y.now
 have y0 := SaAt.setB h.blk hy 0 (.int .i64 y.now)
 have o0 := evsl_setB h.blk ho 0 (.int .i64 y.now)
 have h1 := SB.setHor h0 y.hor
 have y1 := SaAt.setB h0.blk y0 1 (.int .i64 y.hor)
 have o1 := evsl_setB h0.blk o0 1 (.int .i64 y.hor)
 have h2 := SB.setOp h1 rfl y1.op y1.oc
 have y2 := SaAt.setB h1.blk y1 2 (.slice y.oa y.op.length y.oc)
 have o2 := evsl_setB h1.blk o1 2 (.slice y.oa y.op.length y.oc)
 have h3 := SB.setUs h2 rfl y2.us y2.uc
 have y3 := SaAt.setB h2.blk y2 3 (.slice y.ua y.us.length y.uc)
 have o3 := evsl_setB h2.blk o2 3 (.slice y.ua y.us.length y.uc)
 have h4 := SB.setSu h3 rfl y3.su y3.sc
 have o4 := evsl_setB h3.blk o3 4 (.slice y.sa y.su.length y.sc)
 exact evsl_setB h4.blk o4 5 (.slice y.ta y.tb.length y.tc)
structure AskM where
 w : ByteArray
 u : ByteArray
 f : Int
 t : Int
 n : Int
def askC (q : AskM) : Array Value := #[.string q.w, .string q.u, .int .i64 q.f, .int .i64 q.t, .int .i64 q.n]
def askV (q : AskM) : Value := .agg (askC q)
structure QB (w : World) (g : Nat) (T : TypeId) (q : AskM) (W : World) : Prop where
 blk : W.heap[g]? = some (.cells (askC q) T (0, 0))
 ge : w.heap.size ≤ g
 frame : Below w.heap.size w W
theorem QB.lt {w W : World} {g : Nat} {T : TypeId} {q : AskM} (h : QB w g T q W) : g < W.heap.size := heap_lt h.blk
theorem QB.below {w W W' : World} {g : Nat} {T : TypeId} {q : AskM} (h : QB w g T q W) (k : Below W.heap.size W W') : QB w g T q W' := ⟨(k.block g h.lt).trans h.blk, h.ge, h.frame.trans (k.mono h.frame.size)⟩
theorem QB.alloc {w W : World} {g : Nat} {T : TypeId} {q : AskM} (h : QB w g T q W) (o : Obj) : QB w g T q (W.alloc o) := h.below (below_one _ _)
theorem QB.new {w V : World} (hb : Below w.heap.size w V) (q : AskM) (T : TypeId) : QB w V.heap.size T q (V.alloc (.cells (askC q) T)) := ⟨heap_alloc_new _ _, hb.size, hb.trans ((below_one _ _).mono hb.size)⟩
theorem QB.cells {w W : World} {g : Nat} {T : TypeId} {q : AskM} (h : QB w g T q W) : W.cell? ⟨g, 0, none⟩ = some (.string q.w) ∧ W.cell? ⟨g, 1, none⟩ = some (.string q.u) ∧ W.cell? ⟨g, 2, none⟩ = some (.int .i64 q.f) ∧ W.cell? ⟨g, 3, none⟩ = some (.int .i64 q.t) ∧ W.cell? ⟨g, 4, none⟩ = some (.int .i64 q.n) :=
 ⟨cell_of_row _ _ _ _ _ _ h.blk, cell_of_row _ _ _ _ _ _ h.blk, cell_of_row _ _ _ _ _ _ h.blk, cell_of_row _ _ _ _ _ _ h.blk, cell_of_row _ _ _ _ _ _ h.blk⟩
structure SQ (w : World) (g k : Nat) (T U : TypeId) (x : SaL) (q : AskM) (W : World) : Prop where
 s : SB w g T x W
 q : QB w k U q W
theorem SQ.below {w W W' : World} {g k : Nat} {T U : TypeId} {x : SaL} {q : AskM} (h : SQ w g k T U x q W) (b : Below W.heap.size W W') : SQ w g k T U x q W' := ⟨h.s.below b, h.q.below b⟩
theorem SQ.alloc {w W : World} {g k : Nat} {T U : TypeId} {x : SaL} {q : AskM} (h : SQ w g k T U x q W) (o : Obj) : SQ w g k T U x q (W.alloc o) := h.below (below_one _ _)
theorem SQ.drew {w W : World} {g k : Nat} {T U : TypeId} {x : SaL} {q : AskM} (h : SQ w g k T U x q W) : SQ w g k T U x q W.drew := h.below (Below.refl _ _).drew
theorem SQ.new (w : World) {x : SaL} (q : AskM) (h : SaAt w x) (T U : TypeId) : SQ w w.heap.size (w.heap.size + 1) T U x q ((w.alloc (.cells (saC x) T)).alloc (.cells (askC q) U)) := by
 have S := SB.new (Below.refl w.heap.size w) h T
 have Q := QB.new S.frame q U
 rw [size1] at Q
 exact ⟨S.alloc _, Q⟩
theorem SQ.new2 (w : World) {x : SaL} (q : AskM) (h : SaAt w x) (T U : TypeId) : SQ w (w.heap.size + 1) w.heap.size T U x q ((w.alloc (.cells (askC q) U)).alloc (.cells (saC x) T)) := by
 have Q := QB.new (Below.refl w.heap.size w) q U
 have S := SB.new Q.frame (h.below (below_one w (.cells (askC q) U))) T
 rw [size1] at S
 exact ⟨S, Q.alloc _⟩
set_option maxHeartbeats 2000000 in
theorem sees_any13 (x : SaL) (p u : ByteArray) (at_ : Int) (w : World) (h : SaAt w x) (hf : x.m.su.length ≤ 1000) :
  Calls Tryz.prog 53 #[saV x, pr p u, .int .i64 at_] w fun e w' => e = .returned (.bool (hasB (perS x.m.su p u) at_)) ∧ Below w.heap.size w w' := by
 have S := SB.new (Below.refl w.heap.size w) h 39
 have S := S.alloc (.cells #[.string p, .string u] 79)
 have HP := Lib.hid (fun V (h : EnSl V x.sa x.su) => e_periods x.sa x.sc x.su p u V h hf)
 have HS := Lib.hid S
 obtain ⟨c0, c1, c2, c3, c4, c5⟩ := S.cells
 have hnew := heap_alloc_new (w.alloc (.cells (saC x) 39)) (.cells #[.string p, .string u] 79)
 rw [size1] at hnew
 have p0 := cell_of_row _ _ 0 _ _ (0, 0) hnew
 have p1 := cell_of_row _ _ 1 _ _ (0, 0) hnew
 rw [show x.m.su = x.su from rfl]
 obtain ⟨now, hor, oa, op, oc, ua, us, uc, sa, su, sc, ta, tb, tc⟩ := x
 unfold saV saC pr at *
 dsimp only at *
 clear h hf S hnew
 go_enter Tryz.func53, Tryz.ntmps53
 go_wp2_with fail
 refine (HP.out _ HS.out.at_.su).mono ?_
 rintro e w1 ⟨y, q, r, rfl, k1, k2, k3, k4, k5, k6, h1⟩
 have hr : hasB r at_ = hasB (perS su p u) at_ := by rw [Bool.eq_iff_iff, hasB_iff, hasB_iff]; exact k1.2 at_
 have HH := Lib.hid (lhas_any y q r at_ w1 k6 (by omega))
 have HF := Lib.hid (HS.out.frame.trans (h1.mono HS.out.frame.size))
 rw [hr] at HH
 clear HP HS k1 k2 k3 k4 k5 k6 h1 c0 c1 c2 c3 c4 c5 p0 p1
 go_wp2_with fail
 refine HH.out.mono ?_
 rintro e w2 ⟨rfl, h2⟩
 have HF2 := Lib.hid (HF.out.trans (h2.mono HF.out.size))
 clear HH HF
 go_wp2
 go_ret
 exact ⟨rfl, HF2.out⟩
structure GtK (w : World) (x : SaL) (q : AskM) (g : Nat) (m : SpM) (W : World) : Prop where
 sq : SQ w (w.heap.size + 1) w.heap.size 39 92 x q W
 sp : W.heap[g]? = some (.cells #[.int .i64 m.f, .int .i64 m.t] 90 (0, 0))
theorem GtK.below {w W W' : World} {x : SaL} {q : AskM} {g : Nat} {m : SpM} (h : GtK w x q g m W) (k : Below W.heap.size W W') : GtK w x q g m W' := ⟨h.sq.below k, (k.block g (heap_lt h.sp)).trans h.sp⟩
theorem GtK.alloc {w W : World} {x : SaL} {q : AskM} {g : Nat} {m : SpM} (h : GtK w x q g m W) (o : Obj) : GtK w x q g m (W.alloc o) := h.below (below_one _ _)
theorem GtK.drew {w W : World} {x : SaL} {q : AskM} {g : Nat} {m : SpM} (h : GtK w x q g m W) : GtK w x q g m W.drew := h.below (Below.refl _ _).drew
theorem GtK.cells {w W : World} {x : SaL} {q : AskM} {g : Nat} {m : SpM} (h : GtK w x q g m W) : W.cell? ⟨g, 0, none⟩ = some (.int .i64 m.f) ∧ W.cell? ⟨g, 1, none⟩ = some (.int .i64 m.t) ∧ W.cell? ⟨w.heap.size + 1, 4, none⟩ = some (.slice x.sa x.su.length x.sc) ∧ W.cell? ⟨w.heap.size, 0, none⟩ = some (.string q.w) ∧ W.cell? ⟨w.heap.size, 1, none⟩ = some (.string q.u) :=
 ⟨cell_of_row _ _ _ _ _ _ h.sp, cell_of_row _ _ _ _ _ _ h.sp, h.sq.s.cells.2.2.2.2.1, h.sq.q.cells.1, h.sq.q.cells.2.1⟩
set_option maxHeartbeats 4000000 in
theorem told_any13 (x : SaL) (q : AskM) (w : World) (h : SaAt w x) (hf : x.m.su.length ≤ 300) :
  Calls Tryz.prog 100 #[askV q, saV x] w fun e w' => ∃ y c r, e = .returned (.slice y r.length c) ∧ IsSet (gateP x.m q.w q.u q.f q.t) r ∧ r.length ≤ x.m.su.length + 1 ∧ r.length ≤ c ∧ c ≤ maxLen ∧ SpSl w' y r ∧ Below w.heap.size w w' := by
 have SS := SQ.new2 w q h 39 92
 have HS := Lib.hid SS
 have HMT := Lib.hid (fun V => smeet_any ⟨q.f, q.t⟩ ⟨x.hor, 1099511627776⟩ V)
 have HP := Lib.hid (fun V (h : EnSl V x.sa x.su) => e_periods x.sa x.sc x.su q.w q.u V h (Nat.le_trans hf (by decide)))
 have HG := Lib.hid (fun r h => gate_prog (s := x.m) (w := q.w) (u := q.u) (f := q.f) (t := q.t) (r := r) h)
 have hf' : x.su.length ≤ 300 := hf
 rw [show x.m.su = x.su from rfl]
 rw [show x.m.su = x.su from rfl, show x.m.hor = x.hor from rfl] at HG
 generalize gateP x.m q.w q.u q.f q.t = P at *
 have HKK := Lib.hid (fun W1 (m : SpM) (h1 : Below ((w.alloc (.cells (askC q) 92)).alloc (.cells (saC x) 39)).heap.size ((w.alloc (.cells (askC q) 92)).alloc (.cells (saC x) 39)) W1) => (⟨(SS.below h1).alloc _, heap_alloc_new _ _⟩ : GtK w x q W1.heap.size m (W1.alloc (.cells #[.int .i64 m.f, .int .i64 m.t] 90))))
 have HSC := Lib.hid (fun g m V (k : GtK w x q g m V) => k.cells)
 obtain ⟨c0, c1, c2, c3, c4, c5⟩ := SS.s.cells
 obtain ⟨a0, a1, a2, a3, a4⟩ := SS.q.cells
 obtain ⟨now, hor, oa, op, oc, ua, us, uc, sa, su, sc, ta, tb, tc⟩ := x
 obtain ⟨qw, qu, qf, qt, qn⟩ := q
 unfold saV saC askV askC spV at *
 dsimp only at *
 generalize hm : meetS ⟨qf, qt⟩ ⟨hor, 1099511627776⟩ = m at *
 clear h hf SS
 go_enter Tryz.func100, Tryz.ntmps100
 go_wp2_with fail
 refine (HMT.out _).mono ?_
 rintro e w1 ⟨rfl, h1⟩
 have KK := HKK.out w1 m h1
 clear c0 c1 c2 c3 c4 c5 a0 a1 a2 a3 a4 HS HMT HKK h1
 go_wp2_with fail
 generalize w1.alloc (.cells #[.int .i64 m.f, .int .i64 m.t] 90) = W2 at *
 generalize w1.heap.size = g at *
 have HMM : Hid (∀ V (b : Nat) y c (r : List SpM), SpSl V (some ⟨b, 0, none⟩) [m] → SpSl V y r → IsSet (HasL (perS su qw qu)) r → r.length ≤ su.length → r.length ≤ c → c ≤ maxLen → Calls Tryz.prog 164 #[.slice (some ⟨b, 0, none⟩) 1 1, .slice y r.length c] V fun e w' => ∃ z q s, e = .returned (.slice z s.length q) ∧ IsSet P s ∧ s.length ≤ su.length + 1 ∧ s.length ≤ q ∧ q ≤ maxLen ∧ SpSl w' z s ∧ Below V.heap.size V w') := fun V b y c r h1 h2 h3 h4 h5 h6 => by
  refine (n_meet (some ⟨b, 0, none⟩) 1 y c [m] r V h1 h2 (by simp) h5 (by decide) h6 (by simp) (by omega)).mono ?_
  rintro e w' ⟨z, q, s, rfl, k1, k2, k3, k4, -, k5, k6⟩
  rw [List.length_singleton] at k2
  exact ⟨z, q, s, rfl, HG.out s (k1.congr fun x => by rw [h3.2]), by omega, k3, k4, k5, k6⟩
 have K0 := KK.drew
 have K0b := (KK.alloc (.cells #[.int .i64 m.f, .int .i64 m.t] 90)).drew
 have R0b := (cells_sp W2 [m] #[.int .i64 m.f, .int .i64 m.t] 90 _ rfl rfl).below (Below.refl _ _).drew
 clear HG hf' KK hm
 go_region_held3 (fun V => V.cell? ⟨g, 0, none⟩ = some (.int .i64 m.f) ∧ V.cell? ⟨g, 1, none⟩ = some (.int .i64 m.t) ∧ V.cell? ⟨w.heap.size + 1, 4, none⟩ = some (.slice sa su.length sc) ∧ V.cell? ⟨w.heap.size, 0, none⟩ = some (.string qw) ∧ V.cell? ⟨w.heap.size, 1, none⟩ = some (.string qu))
  (first | with_reducible exact HSC.out _ _ _ K2 | with_reducible exact HSC.out _ _ _ K1b | with_reducible exact HSC.out _ _ _ K1 | with_reducible exact HSC.out _ _ _ K0b | with_reducible exact HSC.out _ _ _ K0)
  (first | (have hseen := K1; clear hseen; go_at_call 164; (first | (refine (HMM.out _ _ _ _ _ R1 k6 k1 k2 k3 k4).mono ?_; rintro e v2 ⟨z, p, s, rfl, l1, l2, l3, l4, l5, h2⟩; have K2 := K1.below h2) | (refine (HMM.out _ _ _ _ _ R1b Y1b k1 k2 k3 k4).mono ?_; rintro e v2 ⟨z, p, s, rfl, l1, l2, l3, l4, l5, h2⟩; have K2 := K1b.below h2))) | (have hseen := K0; clear hseen; go_at_call 43; (first | (refine (HP.out _ K0.sq.s.at_.su).mono ?_; rintro e v1 ⟨y, c, r, rfl, k1, k2, k3, k4, k5, k6, h1⟩; have K1 := K0.below h1; have K1b := K1.alloc (.cells #[.int .i64 m.f, .int .i64 m.t] 90); have R1b := cells_sp v1 [m] #[.int .i64 m.f, .int .i64 m.t] 90 _ rfl rfl; have Y1b := k6.below (below_one v1 (.cells #[.int .i64 m.f, .int .i64 m.t] 90))) | (refine (HP.out _ K0b.sq.s.at_.su).mono ?_; rintro e v1 ⟨y, c, r, rfl, k1, k2, k3, k4, k5, k6, h1⟩; have K1 := K0b.below h1; have R1 := R0b.below h1))))
 all_goals
  have HF := Lib.hid K2.sq.s.frame
  have HR := Lib.hid (And.intro l1 (And.intro l2 (And.intro l3 (And.intro l4 l5))))
  clear K0 K0b R0b K1 K2 l1 l2 l3 l4 l5 h1 h2 k1 k2 k3 k4 k5 k6 HP HMM HSC
  go_wp2
  go_ret
  exact ⟨_, _, _, rfl, HR.out.1, HR.out.2.1, HR.out.2.2.1, HR.out.2.2.2.1, HR.out.2.2.2.2, HF.out⟩
end Go.Proofs.YtmfpjapiijgdgaaGreat
