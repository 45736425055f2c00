/- Texts of mine, one behind the other, of each what is wanted. -/
import Derived.Test.YtjhdhfokhkcamaaGreatS00
import Derived.Test.YtjhdhfokhkcamaaGreatShelf
import Derived.Test.YtjhdhfokhkcamaaGreatRows
import Derived.Test.YtjhdhfokhkcamaaGreatS02
import Derived.Test.YtjhdhfokhkcamaaGreatS03
import Derived.Test.YtjhdhfokhkcamaaGreatS04
import Derived.Test.YtjhdhfokhkcamaaGreatS06
import Derived.Test.YtjhdhfokhkcamaaGreatS07
import Derived.Test.YtjhdhfokhkcamaaGreatS09
import Derived.Test.YtjhdhfokhkcamaaGreatS13
import Derived.Test.YtjhdhfokhkcamaaGreatS14
import Derived.Test.YtjhdhfokhkcamaaGreatS23
import Derived.Test.YtjhdhfokhkcamaaGreatS29
import Derived.Test.YtjhdhfokhkcamaaGreatS32
import Derived.Test.YtjhdhfokhkcamaaGreatS33
import Derived.Test.YtjhdhfokhkcamaaGreatS34
namespace Go.Proofs.YtjhdhfokhkcamaaGreat
open Go.RowKit Go.Proofs
set_option linter.unusedVariables false
set_option maxRecDepth 100000
structure AddK (w : World) (g : Nat) (x : SaL) (st : StM) (W : World) : Prop where
 s : SB w g 27 x W
 t : RB w (g + 1) #[.int .i64 st.f, .int .i64 st.t, .int .i64 st.n, .int .i64 st.s] 135 W
 z : SB w (g + 2) 27 saO W
theorem AddK.below {w W W' : World} {g : Nat} {x : SaL} {st : StM} (h : AddK w g x st W) (q : Below W.heap.size W W') : AddK w g x st W' := ⟨h.s.below q, h.t.below q, h.z.below q⟩
theorem AddK.new {w : World} {x : SaL} (h : SaAt w x) (st : StM) : AddK w w.heap.size x st (((w.alloc (.cells (saC x) 27)).alloc (.cells #[.int .i64 st.f, .int .i64 st.t, .int .i64 st.n, .int .i64 st.s] 135)).alloc (.cells #[.int .i64 0, .int .i64 0, .slice none 0 0, .slice none 0 0, .slice none 0 0, .slice none 0 0] 27)) := by
 have S0 := SB.new (Below.refl w.heap.size w) h 27
 have hb := below_one (w.alloc (.cells (saC x) 27)) (.cells #[.int .i64 st.f, .int .i64 st.t, .int .i64 st.n, .int .i64 st.s] 135)
 have S1 := S0.below hb
 have R1 := RB.new w (w.alloc (.cells (saC x) 27)) #[.int .i64 st.f, .int .i64 st.t, .int .i64 st.n, .int .i64 st.s] 135
 have Z0 := SB.new S1.frame (SaAt.zero ((w.alloc (.cells (saC x) 27)).alloc (.cells #[.int .i64 st.f, .int .i64 st.t, .int .i64 st.n, .int .i64 st.s] 135))) 27
 have hb2 := below_one ((w.alloc (.cells (saC x) 27)).alloc (.cells #[.int .i64 st.f, .int .i64 st.t, .int .i64 st.n, .int .i64 st.s] 135)) (.cells (saC saO) 27)
 rw [size1, size1] at Z0
 rw [size1] at R1
 exact ⟨S1.below hb2, R1.below hb2, Z0⟩
theorem fin_newR {w : World} {y : SaL} (h : SaAt w y) (o1 o2 : Obj) (t : TypeId) : (loadVar 27 ⟨w.heap.size + 2, 0, none⟩).run Tryz.prog (((w.alloc o1).alloc o2).alloc (.cells (saC y) t)) = .ok (saV y) (((w.alloc o1).alloc o2).alloc (.cells (saC y) t)) ∧ SaAt (((w.alloc o1).alloc o2).alloc (.cells (saC y) t)) y ∧ Below w.heap.size w (((w.alloc o1).alloc o2).alloc (.cells (saC y) t)) := by
 have h1 := below_one w o1
 have h2 := h1.trans ((below_one (w.alloc o1) o2).mono h1.size)
 have h3 := h2.trans ((below_one ((w.alloc o1).alloc o2) (.cells (saC y) t)).mono h2.size)
 have h4 := heap_alloc_new ((w.alloc o1).alloc o2) (.cells (saC y) t)
 rw [size1, size1] at h4
 exact ⟨loadR6 h4, h.below h3, h3⟩
theorem few_us {x : SaL} {n : Nat} (hf : Few x.m n) : x.us.length ≤ n := by have := hf.us; unfold SaL.m at this; simp only at this; rwa [umS_len] at this
set_option maxHeartbeats 1000000 in
theorem radd_any (x : SaL) (u : ByteArray) (st : StM) (w : World) (h : SaAt w x) (hf : Few x.m 450) (hk : RiseK UsM.u (umS x.us)) (hu : u.size ≤ maxLen) (hs : ∀ y ∈ x.us, y.u.size ≤ maxLen) :
  Calls Tryz.prog 78 #[saV x, .string u, stV st] w (Is w { x.m with us := addU x.m.us u st }) := by
 have K0 := AddK.new h st
 have hun := few_us hf
 have hol : (ofU x.m.us u).length ≤ 450 := ofU_few hf u
 have HOF := Lib.hid (fun V (h : SaAt V x) => rof_any x u V h (by omega))
 have HAD := Lib.hid (fun a c V (h : StSl V a (ofU x.m.us u)) (k : Cp a (ofU x.m.us u).length c) => refAdd_more a c (ofU x.m.us u) st V h k.nil (by omega) k.le k.mx)
 have HPU := Lib.hid (fun a c (l : List StM) V (h : UsSl V x.ua x.us) (k : UsAt V ⟨u, a, l, c⟩) => rput_any x.ua x.uc x.us u a c l V h k hk (by omega) hu hs)
 have HA : Hid (st.f < st.t → addU x.m.us u st = putU x.m.us u (addS (ofU x.m.us u) st)) := fun h => if_pos h
 have HN : Hid (¬ st.f < st.t → x.m = { x.m with us := addU x.m.us u st }) := fun h => by unfold addU; rw [if_neg h]
 have HM : Hid (x.m.us = umS x.us) := rfl
 have HSC : Hid (∀ V, AddK w w.heap.size x st V → V.cell? ⟨w.heap.size, 0, none⟩ = some (.int .i64 x.now) ∧ V.cell? ⟨w.heap.size, 1, none⟩ = some (.int .i64 x.hor) ∧ V.cell? ⟨w.heap.size, 2, none⟩ = some (.slice x.oa x.op.length x.oc) ∧ V.cell? ⟨w.heap.size, 3, none⟩ = some (.slice x.ua x.us.length x.uc) ∧ V.cell? ⟨w.heap.size, 4, none⟩ = some (.slice x.sa x.su.length x.sc) ∧ V.cell? ⟨w.heap.size, 5, none⟩ = some (.slice x.ta x.tb.length x.tc) ∧ V.cell? ⟨w.heap.size + 1, 0, none⟩ = some (.int .i64 st.f) ∧ V.cell? ⟨w.heap.size + 1, 1, none⟩ = some (.int .i64 st.t) ∧ V.cell? ⟨w.heap.size + 1, 2, none⟩ = some (.int .i64 st.n) ∧ V.cell? ⟨w.heap.size + 1, 3, none⟩ = some (.int .i64 st.s)) := fun V h => by
  obtain ⟨c0, c1, c2, c3, c4, c5⟩ := h.s.cells
  exact ⟨c0, c1, c2, c3, c4, c5, (h.t.cell 0).trans rfl, (h.t.cell 1).trans rfl, (h.t.cell 2).trans rfl, (h.t.cell 3).trans rfl⟩
 obtain ⟨c0, c1, c2, c3, c4, c5, s0, s1, s2, s3⟩ := HSC.out _ K0
 have HST : Hid (∀ V, RB w (w.heap.size + 1) #[.int .i64 st.f, .int .i64 st.t, .int .i64 st.n, .int .i64 st.s] 135 V → V.cell? ⟨w.heap.size + 1, 0, none⟩ = some (.int .i64 st.f) ∧ V.cell? ⟨w.heap.size + 1, 1, none⟩ = some (.int .i64 st.t) ∧ V.cell? ⟨w.heap.size + 1, 2, none⟩ = some (.int .i64 st.n) ∧ V.cell? ⟨w.heap.size + 1, 3, none⟩ = some (.int .i64 st.s)) := fun V h => ⟨(h.cell 0).trans rfl, (h.cell 1).trans rfl, (h.cell 2).trans rfl, (h.cell 3).trans rfl⟩
 have HK := Lib.hid K0
 have h0 := h
 clear h hf hk hs
 by_cases hlt : st.f < st.t
 ·have HE := Lib.hid (HA.out hlt)
  clear h0
  have K1 := K0.below (Below.refl _ _).drew
  clear HA HN K0 c0 c1 c2 c3 c4 c5 s0 s1 s2 s3
  obtain ⟨c0, c1, c2, c3, c4, c5, s0, s1, s2, s3⟩ := HSC.out _ HK.out
  obtain ⟨n0, n1, n2, n3, n4, n5, r0, r1, r2, r3⟩ := HSC.out _ K1
  generalize hO : ofU x.m.us u = o at *
  obtain ⟨now, hor, oa, op, oc, ua, us, uc, sa, su, sc, ta, tb, tc⟩ := x
  unfold saV saC stV at *
  dsimp only at *
  clear hol hO
  go_enter Tryz.func78, Tryz.ntmps78
  go_wp2_with fail
  go_region_law (first | (have hseen := K3; clear hseen; go_simp; go_at_call 52; refine (HPU.out x3 q3 _ _ K3.s.at_.us ⟨z3, d3.le, d3.max, d3.nil⟩).mono ?_; rintro e w4 ⟨x4, q4, L, rfl, l4, p4, m4, h4⟩; have K4 := K3.below h4; obtain ⟨c0, c1, c2, c3, c4, c5⟩ := K4.s.cells; obtain ⟨g0, g1, g2, g3, g4, g5⟩ := K4.s.free; have hgl := K4.s.lt) | (have hseen := K2; clear hseen; go_simp; go_at_call 94; refine (HAD.out x2 q2 _ z2 p2).mono ?_; rintro e w3 ⟨x3, q3, rfl, z3, h3, d3⟩; have K3 := K2.below h3; obtain ⟨c0, c1, c2, c3, c4, c5, s0, s1, s2, s3⟩ := HSC.out _ K3) | (have hseen := K1; clear hseen; go_simp; go_at_call 92; refine (HOF.out _ K1.s.at_).mono ?_; rintro e w2 ⟨x2, q2, rfl, z2, p2, h2⟩; have K2 := K1.below h2; obtain ⟨c0, c1, c2, c3, c4, c5, s0, s1, s2, s3⟩ := HSC.out _ K2))
  all_goals
   have A2 := K4.s.setUs rfl l4 p4
   have B2 := K4.z.far K4.s (by omega) 3 (.slice x4 L.length q4)
   have hfin := A2.finR B2
   obtain ⟨d0, d1, d2, d3, d4, d5⟩ := A2.cells
   obtain ⟨z0, z1, z2, z3, z4, z5⟩ := B2.cells
   obtain ⟨y0, y1, y2, y3, y4, y5⟩ := B2.free
   have hzl := B2.lt
   have HL := Lib.hid hfin.1
   have HFN := Lib.hid (And.intro hfin.2.1 (And.intro (show SaL.m ⟨now, hor, oa, op, oc, x4, L, q4, sa, su, sc, ta, tb, tc⟩ = { SaL.m ⟨now, hor, oa, op, oc, ua, us, uc, sa, su, sc, ta, tb, tc⟩ with us := addU (SaL.m ⟨now, hor, oa, op, oc, ua, us, uc, sa, su, sc, ta, tb, tc⟩).us u st } by rw [HE.out]; unfold SaL.m; simp only; rw [m4]; rfl) hfin.2.2))
   unfold setS saV saC at HL
   unfold saO at z0 z1 z2 z3 z4 z5
   dsimp only at *
   clear A2 B2 hfin K1 K2 K3 K4 l4 p4 m4 h4 HPU HAD HOF HSC HST
   go_wp2
   refine bodyPost_ret (v := saV ⟨now, hor, oa, op, oc, x4, L, q4, sa, su, sc, ta, tb, tc⟩) ?_ rfl ⟨_, rfl, HFN.out⟩
   rw [results_cell1 rfl]
   unfold saV saC
   simp [asAddr, Result.andThen, HL.out]
 ·have HE := Lib.hid (HN.out hlt)
  have HFN := Lib.hid (fun o1 o2 => fin_newR h0 o1 o2 27)
  clear HA HN HOF HAD HPU h0
  obtain ⟨z0, z1, z2, z3, z4, z5⟩ := K0.z.cells
  obtain ⟨y0, y1, y2, y3, y4, y5⟩ := K0.z.free
  have hzl := K0.z.lt
  obtain ⟨now, hor, oa, op, oc, ua, us, uc, sa, su, sc, ta, tb, tc⟩ := x
  unfold saV saC stV at *
  unfold saO at z0 z1 z2 z3 z4 z5
  dsimp only at *
  clear K0 HSC HST HK hol HM
  go_enter Tryz.func78, Tryz.ntmps78
  go_wp2
  refine bodyPost_ret (v := saV ⟨now, hor, oa, op, oc, ua, us, uc, sa, su, sc, ta, tb, tc⟩) ?_ rfl ⟨_, rfl, (HFN.out _ _).2.1, HE.out, (HFN.out _ _).2.2⟩
  rw [results_cell1 rfl]
  unfold saV saC
  simp [asAddr, Result.andThen, (HFN.out _ _).1]
end Go.Proofs.YtjhdhfokhkcamaaGreat
