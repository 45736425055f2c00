/- Texts of mine, one behind the other, of each what is wanted: DD1 DD3 DF1 DC1 DH4. -/
import Derived.Test.YtjhdhfokhkcamaaGreatProg
import Derived.WalkKit
import Derived.WalkLawsBesides
import Derived.Lib.Hide
import Derived.Lib.Bytealg
import Derived.Deep.QuietTactic
import Derived.BigQuiet
import Derived.Deep.Draws
import Derived.Below
import Derived.WalkSmall
import Derived.OwnWalk
import Derived.Maps.AppendAt
import Derived.Laws.AppendOwnNone
import Derived.BigRegion
import Derived.Deep.MidRow
import Derived.Deep.RegionHeld3
import Derived.Shelf.SlSortCmp.QuietGrown
import Derived.Shelf.SlSorted.Search
import Derived.Laws.ResultCell
import Derived.WalkMore
import Derived.Shelf.Spec.SlicesGrow
import Derived.Test.YtjhdhfokhkcamaaGreatShelf
import Derived.Shelf.SlicesG.Cmp
import Derived.Lib.SliceRun
import Derived.Deep.WholeRow
import Derived.Shelf.SlSortCmp.WholeK
import Derived.Shelf.SlSortCmp.NoneTotal
import Derived.Lib.SlicesCompact
import Derived.Shelf.Slices.Clone
import Derived.Shelf.Slices.CompactS
import Derived.Sort.OwnSorted
import Derived.Sort.Grow
import Derived.Lib.OwnBridge
import Derived.Deep.AppendLies
import Derived.ArgAppend
import Derived.Test.YtjhdhfokhkcamaaGreatRows
import Derived.ProofKit
import Derived.OpenShut
import Derived.ShutString
import Derived.SliceStrings
import Derived.Carry
import Derived.Deep.SlicePairs
import Derived.Lib.SmallJoins
import Derived.Deep.DeepCutAuto
import Derived.Test.YtjhdhfokhkcamaaGreatP01
import Derived.Test.YtjhdhfokhkcamaaGreatP04
import Derived.Test.YtjhdhfokhkcamaaGreatP09
import Derived.Test.YtjhdhfokhkcamaaGreatP10
import Derived.Test.YtjhdhfokhkcamaaGreatP12
import Derived.Test.YtjhdhfokhkcamaaGreatP18
import Derived.Test.YtjhdhfokhkcamaaGreatP22
import Derived.Test.YtjhdhfokhkcamaaGreatP24
import Derived.Test.YtjhdhfokhkcamaaGreatP25
import Derived.Test.YtjhdhfokhkcamaaGreatP26
import Derived.Test.YtjhdhfokhkcamaaGreatP27
import Derived.Test.YtjhdhfokhkcamaaGreatP28
import Derived.Test.YtjhdhfokhkcamaaGreatP29
import Derived.Test.YtjhdhfokhkcamaaGreatP31
namespace Go.Proofs.YtjhdhfokhkcamaaGreat
open Go.RowKit Go.Proofs
set_option linter.unusedVariables false
set_option maxRecDepth 100000
theorem IsPut.mem {α : Type} {key : α → ByteArray} {l L : List α} {p : α} (h : IsPut key l p L) : (∀ y ∈ L, y = p ∨ y ∈ l) ∧ L.length ≤ l.length + 1 := by
  obtain ⟨k, _, ⟨rfl, _⟩ | ⟨hk, _, rfl⟩⟩ := h
  · refine ⟨fun y hy => ?_, ?_⟩
    · rcases List.mem_append.1 hy with h1 | h1
      · exact .inr (List.mem_of_mem_take h1)
      · rcases List.mem_cons.1 h1 with h1 | h1
        · exact .inl h1
        · exact .inr (List.mem_of_mem_drop h1)
    · rw [List.length_append, List.length_cons, List.length_take, List.length_drop]; omega
  · refine ⟨fun y hy => ?_, ?_⟩
    · rcases List.mem_append.1 hy with h1 | h1
      · exact .inr (List.mem_of_mem_take h1)
      · rcases List.mem_cons.1 h1 with h1 | h1
        · exact .inl h1
        · exact .inr (List.mem_of_mem_drop h1)
    · rw [List.length_append, List.length_cons, List.length_take, List.length_drop]; omega
theorem IsPut.us {D L : List UsL} {p : UsL} (h : IsPut UsL.u D p L) (hr : RiseK UsM.u (umS D)) : umS L = insK UsM.u p.u [p.m] (umS D) := by
  obtain ⟨k, hk, ⟨rfl, hn⟩ | ⟨hk, he, rfl⟩⟩ := h
  · exact put_new hr hk hn
  · exact put_old hr hk he
theorem IsPut.tb {D L : List TbM} {p : TbM} (h : IsPut TbM.u D p L) (hr : RiseK TbM.u D) : L = insK TbM.u p.u [p] D := by
  obtain ⟨k, hk, ⟨rfl, hn⟩ | ⟨hk, he, rfl⟩⟩ := h
  · exact tput_new hr hk hn
  · exact tput_old hr hk he
theorem put_us (a : Option Addr) (c : Nat) (D : List UsL) (p : UsL) (w : World) (hr : UsSl w a D) (hp : UsAt w p) (hc : Cp a D.length c) (hl : D.length ≤ 1000) :
    Calls Tryz.prog 164 #[.slice a D.length c, .agg #[.string p.u, .slice p.a p.l.length p.c], .func (.func 63) #[] #[]] w fun e w' => ∃ x q L, e = .returned (.slice x L.length q) ∧ UsSl w' x L ∧ Cp x L.length q ∧ IsPut UsL.u D p L ∧ Below w.heap.size w w' := by
  refine (put_core_us a c D p w hr hc hl).mono ?_
  rintro e w' ⟨v, L, rfl, ho, hi, hb⟩
  rw [List.length_map] at ho
  obtain ⟨x, q, rfl, h1, h2, h3, h4⟩ := own_us ho
  exact ⟨x, q, L, rfl, ⟨h3, fun y hy => by
    rcases hi.mem.1 y hy with rfl | h5
    · exact hp.below hb
    · exact (hr.at_ y h5).below hb⟩, ⟨h1, h2, h4⟩, hi, hb⟩
theorem put_tb (a : Option Addr) (c : Nat) (D : List TbM) (p : TbM) (w : World) (hr : TbSl w a D) (hc : Cp a D.length c) (hl : D.length ≤ 1000) :
    Calls Tryz.prog 173 #[.slice a D.length c, .agg #[.string p.u, .int .i64 p.a], .func (.func 72) #[] #[]] w fun e w' => ∃ x q L, e = .returned (.slice x L.length q) ∧ TbSl w' x L ∧ Cp x L.length q ∧ IsPut TbM.u D p L ∧ Below w.heap.size w w' := by
  refine (put_core_tb a c D p w hr hc hl).mono ?_
  rintro e w' ⟨v, L, rfl, ho, hi, hb⟩
  rw [List.length_map] at ho
  obtain ⟨x, q, rfl, h1, h2, h3, h4⟩ := own_tb ho
  exact ⟨x, q, L, rfl, h3, ⟨h1, h2, h4⟩, hi, hb⟩
theorem ins_same {l : List UsM} (hr : RiseK UsM.u l) {u : ByteArray} (h : ofU l u ≠ []) : insK UsM.u u [⟨u, ofU l u⟩] l = l := by
  have hm : (⟨u, ofU l u⟩ : UsM) ∈ l := by
    rcases ofU_cases l u with h1 | h1
    · exact absurd h1 h
    · exact h1
  refine riseK_ext (insK_rise hr (fun x hx => by rw [List.mem_singleton.1 hx]) (by simp)) hr fun x => ?_
  rw [insK_mem, List.mem_singleton]
  constructor
  · rintro (rfl | ⟨h1, _⟩)
    · exact hm
    · exact h1
  · intro hx
    by_cases hu : x.u = u
    · exact .inl (riseK_one hr hx hm hu)
    · exact .inr ⟨hx, hu⟩
theorem with_addU {l : List UsM} (hr : RiseK UsM.u l) {u : ByteArray} {x : StM} (h : addS (ofU l u) x ≠ []) : insK UsM.u u [⟨u, addS (ofU l u) x⟩] l = addU l u x := by
  unfold addU
  split
  · rename_i h1
    unfold putU rowU
    rw [if_neg (by simpa using h)]
  · rename_i h1
    have e : addS (ofU l u) x = ofU l u := by unfold addS; rw [if_pos (by omega)]
    rw [e] at h ⊢
    exact ins_same hr h
theorem with_none {l : List UsM} {u : ByteArray} {x : StM} (h : addS (ofU l u) x = []) : addU l u x = l := by
  unfold addU
  rw [if_neg]
  intro h1
  exact addS_some h1 h
structure WsK (w : World) (g : Nat) (s : StM) (a : Option Addr) (D : List UsL) (W : World) : Prop where
  s : W.heap[g]? = some (.cells #[.int .i64 s.f, .int .i64 s.t, .int .i64 s.n, .int .i64 s.s] 86 (0, 0))
  row : UsSl W a D
  frame : Below w.heap.size w W
theorem WsK.below {w W W' : World} {g : Nat} {s : StM} {a : Option Addr} {D : List UsL} (h : WsK w g s a D W) (q : Below W.heap.size W W') : WsK w g s a D W' := ⟨(q.block _ (heap_lt h.s)).trans h.s, h.row.below q, h.frame.trans (q.mono h.frame.size)⟩
set_option maxHeartbeats 4000000 in
theorem withStay_any (a : Option Addr) (c : Nat) (D : List UsL) (u : ByteArray) (s : StM) (w : World) (hr : UsSl w a D) (hc : Cp a D.length c) (hk : RiseK UsM.u (umS D)) (hl : D.length ≤ 900) (hs : ∀ y ∈ D, y.l.length ≤ 900) :
    Calls Tryz.prog 112 #[.slice a D.length c, .string u, stV s] w fun e w' => ∃ x q L, e = .returned (.slice x L.length q) ∧ UsSl w' x L ∧ Cp x L.length q ∧ umS L = addU (umS D) u s ∧ Below w.heap.size w w' := by
  have hb := below_one w (.cells #[.int .i64 s.f, .int .i64 s.t, .int .i64 s.n, .int .i64 s.s] 86)
  have K0 : WsK w w.heap.size s a D (w.alloc (.cells #[.int .i64 s.f, .int .i64 s.t, .int .i64 s.n, .int .i64 s.s] 86)) := ⟨heap_alloc_new w _, hr.below hb, hb⟩
  have HSO := Lib.hid (fun V (h : UsSl V a D) => staysOf_any a c D u V h (by omega))
  have hlen : (ofU (umS D) u).length ≤ 900 := by
    rcases fst_key (D := D) (u := u) rfl with ⟨_, h2⟩ | ⟨h1, h2, _⟩
    · rw [h2]; simp
    · rw [h2]; exact hs _ (List.getElem_mem h1)
  have HAD := Lib.hid (fun x q V (h : StSl V x (ofU (umS D) u)) (k : Cp x (ofU (umS D) u).length q) => add8_any x q (ofU (umS D) u) s V h k.nil (by omega) k.le k.mx)
  have HPU := Lib.hid (fun p V (h : UsSl V a D) (k : UsAt V p) => put_us a c D p V h k hc (by omega))
  have HW1 := Lib.hid (fun h => with_addU (u := u) (x := s) hk h)
  have HW2 := Lib.hid (fun h => with_none (l := umS D) (u := u) (x := s) h)
  have HSC : Hid (∀ V, WsK w w.heap.size s a D V → V.cell? ⟨w.heap.size, 0, none⟩ = some (.int .i64 s.f) ∧ V.cell? ⟨w.heap.size, 1, none⟩ = some (.int .i64 s.t) ∧ V.cell? ⟨w.heap.size, 2, none⟩ = some (.int .i64 s.n) ∧ V.cell? ⟨w.heap.size, 3, none⟩ = some (.int .i64 s.s)) := fun V h => cells4 h.s
  have HCP := Lib.hid hc
  have K1 := K0.below (Below.refl _ _).drew
  unfold stV at *
  clear hr hc hs hb K0
  generalize hO : ofU (umS D) u = o at *
  clear hlen
  go_enter Tryz.func112, Tryz.ntmps112
  go_wp2_with fail
  go_region_held3 (fun V => V.cell? ⟨w.heap.size, 0, none⟩ = some (.int .i64 s.f) ∧ V.cell? ⟨w.heap.size, 1, none⟩ = some (.int .i64 s.t) ∧ V.cell? ⟨w.heap.size, 2, none⟩ = some (.int .i64 s.n) ∧ V.cell? ⟨w.heap.size, 3, none⟩ = some (.int .i64 s.s))
    (first | with_reducible exact HSC.out _ K3 | with_reducible exact HSC.out _ K2 | with_reducible exact HSC.out _ K1)
    (first | (have hseen := K2; clear hseen; go_at_call 91; refine (HAD.out x2 q2 _ z2 p2).mono ?_; rintro e w3 ⟨v3, rfl, ho3, h3⟩; have K3 := K2.below h3) | (have hseen := K1; clear hseen; go_at_call 89; refine (HSO.out _ K1.row).mono ?_; rintro e w2 ⟨x2, q2, rfl, z2, p2, h2⟩; have K2 := K1.below h2))
  obtain ⟨x3, q3, rfl, i1, i2, i3, i4⟩ := own_st ho3
  have HI : Hid (UsAt w3 ⟨u, x3, addS o s, q3⟩) := ⟨i3, i1, i2, i4⟩
  have HK := Lib.hid K3
  clear K1 K2 K3 z2 p2 h2 h3 ho3 i1 i2 i3 i4 HSO HAD HSC
  by_cases hz : addS o s = []
  · have HE := Lib.hid (HW2.out hz)
    have hl0 : ((addS o s).length == 0) = true := by rw [hz]; rfl
    have hl1 : (((addS o s).length : Int) == 0) = true := by rw [hz]; rfl
    clear HW1 HW2 HPU HI hz
    generalize (addS o s).length = n at *
    go_wp2
    go_ret
    exact ⟨a, c, D, rfl, HK.out.row, HCP.out, HE.out.symm, HK.out.frame⟩
  · have HE := Lib.hid (HW1.out hz)
    have hn : ¬ (addS o s).length = 0 := fun h => hz (List.eq_nil_of_length_eq_zero h)
    have hl0 : ((addS o s).length == 0) = false := beq_eq_false_iff_ne.2 hn
    have hl1 : (((addS o s).length : Int) == 0) = false := beq_eq_false_iff_ne.2 (by omega)
    have HP2 := Lib.hid (HPU.out ⟨u, x3, addS o s, q3⟩)
    have HFI : Hid (∀ L, IsPut UsL.u D ⟨u, x3, addS o s, q3⟩ L → umS L = addU (umS D) u s) := fun L h => (h.us hk).trans HE.out
    dsimp only at HP2
    clear HW1 HW2 HPU HE hz hn
    generalize addS o s = r at *
    go_wp2_with fail
    refine (HP2.out _ HK.out.row HI.out).mono ?_
    rintro e w4 ⟨x4, q4, L, rfl, h1, h2, h3, h4⟩
    have HR := Lib.hid (And.intro h1 (And.intro h2 (And.intro (HFI.out L h3) (HK.out.below h4).frame)))
    clear h1 h2 h3 h4 HK HI HP2 HFI
    go_wp2
    go_ret
    exact ⟨x4, q4, L, rfl, HR.out.1, HR.out.2.1, HR.out.2.2.1, HR.out.2.2.2⟩
end Go.Proofs.YtjhdhfokhkcamaaGreat
namespace Go.Proofs.YtjhdhfokhkcamaaGreat
open Go.RowKit Go.Proofs
set_option linter.unusedVariables false
set_option maxRecDepth 100000
theorem SB.fin {w T : World} {g r : Nat} {t t' : TypeId} {y z : SaL} (hK : SB w g t y T) (hZ : SB w r t' z T) : (loadVar 38 ⟨r, 0, none⟩).run Tryz.prog (setS T r y) = .ok (saV y) (setS T r y) ∧ SaAt (setS T r y) y ∧ Below w.heap.size w (setS T r y) := by
  have hF := hZ.set hK.at_
  exact ⟨loadS6 hF.blk, hF.at_, hF.frame⟩
theorem SB.finR {w T : World} {g r : Nat} {t t' : TypeId} {y z : SaL} (hK : SB w g t y T) (hZ : SB w r t' z T) : (loadVar 27 ⟨r, 0, none⟩).run Tryz.prog (setS T r y) = .ok (saV y) (setS T r y) ∧ SaAt (setS T r y) y ∧ Below w.heap.size w (setS T r y) := by
  have hF := hZ.set hK.at_
  exact ⟨loadR6 hF.blk, hF.at_, hF.frame⟩
theorem SB.finV {w T : World} {r : Nat} {t' : TypeId} {y z : SaL} (hy : SaAt T y) (hZ : SB w r t' z T) : (loadVar 38 ⟨r, 0, none⟩).run Tryz.prog (setS T r y) = .ok (saV y) (setS T r y) ∧ SaAt (setS T r y) y ∧ Below w.heap.size w (setS T r y) := by
  have hF := hZ.set hy
  exact ⟨loadS6 hF.blk, hF.at_, hF.frame⟩
theorem two_SB {w : World} {x : SaL} (h : SaAt w x) (t t' : TypeId) : SB w w.heap.size t x ((w.alloc (.cells (saC x) t)).alloc (.cells (saC saO) t')) ∧ SB w (w.heap.size + 1) t' saO ((w.alloc (.cells (saC x) t)).alloc (.cells (saC saO) t')) := by
  have S0 := SB.new (Below.refl w.heap.size w) h t
  have Z0 := SB.new (S0.frame) (SaAt.zero (w.alloc (.cells (saC x) t))) t'
  rw [size1] at Z0
  exact ⟨S0.alloc _, Z0⟩
theorem umS_st {D : List UsL} {n : Nat} (h : ∀ u ∈ umS D, u.l.length ≤ n) : ∀ y ∈ D, y.l.length ≤ n := fun y hy => h y.m (List.mem_map_of_mem hy)
set_option maxHeartbeats 4000000 in
theorem closed_any (x : SaL) (n : Int) (u : ByteArray) (at_ : Int) (w : World) (h : SaAt w x) (hf : Few x.m 450) (hk : RiseK UsM.u (umS x.us)) :
    Calls Tryz.prog 75 #[saV x, .int .i64 n, .string u, .int .i64 at_] w fun e w' => ∃ y, e = .returned (.tuple #[saV y, .int .i64 (findC x.op n u)]) ∧ SaAt w' y ∧ y.m = { x.m with op := cloR x.op n u, us := addU (umS x.us) u (fndS x.op n u at_) } ∧ Below w.heap.size w w' := by
  obtain ⟨HK, HZ⟩ := two_SB h 38 38
  obtain ⟨now, hor, oa, op, oc, ua, us, uc, sa, su, sc, ta, tb, tc⟩ := x
  have hun : us.length ≤ 450 := by have := hf.us; unfold SaL.m at this; simp only at this; rwa [umS_len] at this
  have HCL := Lib.hid (fun V (h : OpSl V oa op) => o_close oa oc op n u at_ V h (Nat.le_trans hf.op (by decide)) HK.at_.oc.le HK.at_.oc.mx)
  have HWS := Lib.hid (fun V (h : UsSl V ua us) => withStay_any ua uc us u (fndS op n u at_) V h HK.at_.uc hk (by omega) (fun y hy => by have := umS_st hf.st y hy; omega))
  have HS := Lib.hid HK
  have HZZ := Lib.hid HZ
  obtain ⟨c0, c1, c2, c3, c4, c5⟩ := HK.cells
  unfold stV at HWS
  unfold saV saC at *
  dsimp only at *
  clear h hf HK HZ
  go_enter Tryz.func75, Tryz.ntmps75
  go_wp2_with fail
  refine (HCL.out _ HS.out.at_.op).mono ?_
  rintro e w1 ⟨x1, q1, rfl, i1, j1, k1, l1, h1⟩
  generalize hst : fndS op n u at_ = st at *
  have hb := below_one w1 (.cells #[.int .i64 st.f, .int .i64 st.t, .int .i64 st.n, .int .i64 st.s] 86)
  have S1 := (HS.out.below h1).below hb
  have Z1 := (HZZ.out.below h1).below hb
  have L1 := l1.below hb
  clear c0 c1 c2 c3 c4 c5
  obtain ⟨c0, c1, c2, c3, c4, c5⟩ := S1.cells
  obtain ⟨s0, s1, s2, s3⟩ := cells4 (heap_alloc_new w1 (.cells #[.int .i64 st.f, .int .i64 st.t, .int .i64 st.n, .int .i64 st.s] 86))
  have HS1 := Lib.hid S1
  have HZ1 := Lib.hid Z1
  have HL1 := Lib.hid L1
  have HC1 := Lib.hid (Cp.mk i1 j1 k1)
  dsimp only at *
  clear HS HZZ S1 Z1 L1 h1 hb l1 i1 j1 k1
  go_wp2_with fail
  refine (HWS.out _ HS1.out.at_.us).mono ?_
  rintro e w2 ⟨x2, q2, L, rfl, z2, p2, m2, h2⟩
  have S2 := HS1.out.below h2
  have Z2 := HZ1.out.below h2
  have S3 := S2.setOp rfl (HL1.out.below h2) HC1.out
  have S4 := S3.setUs rfl (z2.setB S2.blk 2 (.slice x1 (cloR op n u).length q1)) p2
  have Z3 := Z2.far S2 (by omega) 2 (.slice x1 (cloR op n u).length q1)
  have Z4 := Z3.far S3 (by omega) 3 (.slice x2 L.length q2)
  have hfin := S4.fin Z4
  clear c0 c1 c2 c3 c4 c5 s0 s1 s2 s3
  obtain ⟨c0, c1, c2, c3, c4, c5⟩ := S2.cells
  obtain ⟨f0, f1, f2, f3, f4, f5⟩ := S2.free
  obtain ⟨d0, d1, d2, d3, d4, d5⟩ := S4.cells
  obtain ⟨z0, z1, z2', z3, z4, z5⟩ := Z4.cells
  obtain ⟨y0, y1, y2, y3, y4, y5⟩ := Z4.free
  have hgl := S2.lt
  have hzl := Z4.lt
  have HL := Lib.hid hfin.1
  have HFN := Lib.hid (And.intro hfin.2.1 (And.intro (show SaL.m ⟨now, hor, x1, cloR op n u, q1, x2, L, q2, sa, su, sc, ta, tb, tc⟩ = ⟨now, hor, cloR op n u, addU (umS us) u (fndS op n u at_), su, tb⟩ by unfold SaL.m; simp only; rw [m2, hst]) hfin.2.2))
  unfold setS saV saC at HL
  unfold saO at z0 z1 z2' z3 z4 z5
  dsimp only at *
  clear S2 Z2 S3 S4 Z3 Z4 hfin HS1 HZ1 HL1 HC1 HCL HWS z2 p2 m2 h2
  go_wp2
  refine bodyPost_ret (v := .tuple #[saV ⟨now, hor, x1, cloR op n u, q1, x2, L, q2, sa, su, sc, ta, tb, tc⟩, .int .i64 (findC op n u)]) ?_ rfl ⟨_, rfl, HFN.out⟩
  rw [results_cellT rfl]
  unfold saV saC
  simp [asAddr, Result.andThen, HL.out]
set_option maxHeartbeats 4000000 in
theorem erased_any (x : SaL) (u : ByteArray) (at_ : Int) (w : World) (h : SaAt w x) (hf : Few x.m 450) (hk : RiseK UsM.u (umS x.us)) (ht : RiseK TbM.u x.tb) :
    Calls Tryz.prog 115 #[saV x, .string u, .int .i64 at_] w fun e w' => ∃ y, e = .returned (saV y) ∧ SaAt w' y ∧ y.m = { x.m with op := x.op.filter (notU u), us := putU (umS x.us) u [], su := withoutS x.su u, tb := tombU x.tb u at_ } ∧ Below w.heap.size w w' := by
  have S0 := SB.new (Below.refl w.heap.size w) h 38
  have hbu := below_one (w.alloc (.cells (saC x) 38)) (.cells #[.string u] 9)
  have S1 := S0.below hbu
  have Z0 := SB.new S1.frame (SaAt.zero ((w.alloc (.cells (saC x) 38)).alloc (.cells #[.string u] 9))) 38
  have hcap : CapO ((w.alloc (.cells (saC x) 38)).alloc (.cells #[.string u] 9)) (w.heap.size + 1) (.string u) := ⟨by have := cell_of_row ((w.alloc (.cells (saC x) 38)).alloc (.cells #[.string u] 9)) (w.alloc (.cells (saC x) 38)).heap.size 0 _ _ (0, 0) (heap_alloc_new _ _); rw [size1] at this; exact this, by rw [size1, size1]; omega⟩
  rw [size1, size1] at Z0
  have HK := S1.alloc (.cells (saC saO) 38)
  have HCA := Lib.hid (hcap.below (below_one _ (.cells (saC saO) 38)))
  obtain ⟨now, hor, oa, op, oc, ua, us, uc, sa, su, sc, ta, tb, tc⟩ := x
  have hun : us.length ≤ 450 := by have := hf.us; unfold SaL.m at this; simp only at this; rwa [umS_len] at this
  have HWO := Lib.hid (fun V (h : OpSl V oa op) => o_without oa oc op u V h (Nat.le_trans hf.op (by decide)))
  have HTH := Lib.hid (fun V (h : UsSl V ua us) (k : CapO V (w.heap.size + 1) (.string u)) => those_any ua uc us u (w.heap.size + 1) V h HK.at_.uc (by omega) k)
  have HWE := Lib.hid (fun V (h : EnSl V sa su) => e_without sa sc su u V h (Nat.le_trans hf.su (by decide)))
  have HPT := Lib.hid (fun V (h : TbSl V ta tb) => put_tb ta tc tb ⟨u, at_⟩ V h HK.at_.tc (Nat.le_trans hf.tb (by decide)))
  have HPI := Lib.hid (fun L (h : IsPut TbM.u tb ⟨u, at_⟩ L) => h.tb ht)
  have HKU : Hid (umS (butU u us) = putU (umS us) u []) := by
    unfold Hid
    rw [butU_m]
    exact (ins_out hk).symm
  have HS := Lib.hid HK
  have HZZ := Lib.hid Z0
  obtain ⟨c0, c1, c2, c3, c4, c5⟩ := HK.cells
  obtain ⟨f0, f1, f2, f3, f4, f5⟩ := HK.free
  obtain ⟨k0, hkl⟩ := HCA.out
  unfold saV saC at *
  dsimp only at *
  have hgl := HK.lt
  clear h hf HK Z0 S0 S1 hbu hcap
  go_enter Tryz.func115, Tryz.ntmps115
  go_wp2_with fail
  refine (HWO.out _ HS.out.at_.op).mono ?_
  rintro e w1 ⟨x1, q1, rfl, i1, j1, k1, l1, h1⟩
  have A1 := HS.out.below h1
  have B1 := HZZ.out.below h1
  have C1 := HCA.out.below h1
  have A2 := A1.setOp rfl l1 ⟨i1, j1, k1⟩
  have B2 := B1.far A1 (by omega) 2 (.slice x1 (op.filter (notU u)).length q1)
  have C2 : CapO (w1.setCell ⟨w.heap.size, 2, none⟩ (.slice x1 (op.filter (notU u)).length q1)) (w.heap.size + 1) (.string u) := ⟨(cell_far (p := ⟨w.heap.size + 1, 0, none⟩) (by show w.heap.size + 1 ≠ w.heap.size; omega)).trans C1.1, by rw [size_set]; exact C1.2⟩
  clear c0 c1 c2 c3 c4 c5 f0 f1 f2 f3 f4 f5 hgl k0 hkl
  obtain ⟨c0, c1, c2, c3, c4, c5⟩ := A1.cells
  obtain ⟨f0, f1, f2, f3, f4, f5⟩ := A1.free
  have hgl := A1.lt
  obtain ⟨d0, d1, d2, d3, d4, d5⟩ := A2.cells
  have HS2 := Lib.hid A2
  have HZ2 := Lib.hid B2
  have HC2 := Lib.hid C2
  dsimp only at *
  clear HS HZZ HCA A1 B1 C1 A2 B2 C2 h1 i1 j1 k1 l1
  go_wp2_with fail
  refine (HTH.out _ HS2.out.at_.us HC2.out).mono ?_
  rintro e w2 ⟨x2, q2, rfl, l2, p2, h2⟩
  have A1 := HS2.out.below h2
  have B1 := HZ2.out.below h2
  have C1 := HC2.out.below h2
  have A2 := A1.setUs rfl l2 p2
  have B2 := B1.far A1 (by omega) 3 (.slice x2 (butU u us).length q2)
  have C2 : CapO (w2.setCell ⟨w.heap.size, 3, none⟩ (.slice x2 (butU u us).length q2)) (w.heap.size + 1) (.string u) := ⟨(cell_far (p := ⟨w.heap.size + 1, 0, none⟩) (by show w.heap.size + 1 ≠ w.heap.size; omega)).trans C1.1, by rw [size_set]; exact C1.2⟩
  clear c0 c1 c2 c3 c4 c5 f0 f1 f2 f3 f4 f5 hgl d0 d1 d2 d3 d4 d5
  obtain ⟨c0, c1, c2, c3, c4, c5⟩ := A1.cells
  obtain ⟨f0, f1, f2, f3, f4, f5⟩ := A1.free
  have hgl := A1.lt
  obtain ⟨d0, d1, d2, d3, d4, d5⟩ := A2.cells
  have HC3 := Lib.hid C2
  obtain ⟨k0, hkl⟩ := C2
  have HS3 := Lib.hid A2
  have HZ3 := Lib.hid B2
  dsimp only at *
  clear HS2 HZ2 HC2 A1 B1 C1 A2 B2 h2 l2 p2
  go_wp2_with fail
  refine (HWE.out _ HS3.out.at_.su).mono ?_
  rintro e w3 ⟨x3, q3, rfl, i3, j3, k3, l3, h3⟩
  have A1 := HS3.out.below h3
  have B1 := HZ3.out.below h3
  have C1 := HC3.out.below h3
  have A2 := A1.setSu rfl l3 ⟨i3, j3, k3⟩
  have B2 := B1.far A1 (by omega) 4 (.slice x3 (su.filter (wiE u)).length q3)
  have C2 : CapO (w3.setCell ⟨w.heap.size, 4, none⟩ (.slice x3 (su.filter (wiE u)).length q3)) (w.heap.size + 1) (.string u) := ⟨(cell_far (p := ⟨w.heap.size + 1, 0, none⟩) (by show w.heap.size + 1 ≠ w.heap.size; omega)).trans C1.1, by rw [size_set]; exact C1.2⟩
  clear c0 c1 c2 c3 c4 c5 f0 f1 f2 f3 f4 f5 hgl d0 d1 d2 d3 d4 d5 k0 hkl
  obtain ⟨c0, c1, c2, c3, c4, c5⟩ := A1.cells
  obtain ⟨f0, f1, f2, f3, f4, f5⟩ := A1.free
  have hgl := A1.lt
  obtain ⟨d0, d1, d2, d3, d4, d5⟩ := A2.cells
  obtain ⟨k0, hkl⟩ := C2
  have HS4 := Lib.hid A2
  have HZ4 := Lib.hid B2
  dsimp only at *
  clear HS3 HZ3 HC3 A1 B1 C1 A2 B2 h3 i3 j3 k3 l3
  go_wp2_with fail
  refine (HPT.out _ HS4.out.at_.tb).mono ?_
  rintro e w4 ⟨x4, q4, L, rfl, l4, p4, m4, h4⟩
  have A1 := HS4.out.below h4
  have B1 := HZ4.out.below h4
  have A2 := A1.setTb rfl l4 p4
  have B2 := B1.far A1 (by omega) 5 (.slice x4 L.length q4)
  have hfin := A2.fin B2
  have hL := HPI.out L m4
  clear c0 c1 c2 c3 c4 c5 f0 f1 f2 f3 f4 f5 hgl d0 d1 d2 d3 d4 d5 k0 hkl
  obtain ⟨c0, c1, c2, c3, c4, c5⟩ := A1.cells
  obtain ⟨f0, f1, f2, f3, f4, f5⟩ := A1.free
  have hgl := A1.lt
  obtain ⟨d0, d1, d2, d3, d4, d5⟩ := A2.cells
  obtain ⟨z0, z1, z2, z3, z4, z5⟩ := B2.cells
  obtain ⟨y0, y1, y2, y3, y4, y5⟩ := B2.free
  have hzl := B2.lt
  have HL := Lib.hid hfin.1
  have HFN := Lib.hid (And.intro hfin.2.1 (And.intro (show SaL.m ⟨now, hor, x1, op.filter (notU u), q1, x2, butU u us, q2, x3, su.filter (wiE u), q3, x4, L, q4⟩ = ⟨now, hor, op.filter (notU u), putU (umS us) u [], withoutS su u, tombU tb u at_⟩ by unfold SaL.m; simp only; rw [HKU.out, hL]; rfl) hfin.2.2))
  unfold setS saV saC at HL
  unfold saO at z0 z1 z2 z3 z4 z5
  dsimp only at *
  clear HS4 HZ4 A1 B1 A2 B2 hfin hL m4 l4 p4 h4 HWO HTH HWE HPT HPI HKU
  go_wp2
  refine bodyPost_ret (v := saV ⟨now, hor, x1, op.filter (notU u), q1, x2, butU u us, q2, x3, su.filter (wiE u), q3, x4, L, q4⟩) ?_ rfl ⟨_, rfl, HFN.out⟩
  rw [results_cell1 rfl]
  unfold saV saC
  simp [asAddr, Result.andThen, HL.out]
end Go.Proofs.YtjhdhfokhkcamaaGreat
namespace Go.Proofs.YtjhdhfokhkcamaaGreat
open Go.RowKit Go.Proofs
set_option linter.unusedVariables false
set_option maxRecDepth 100000
theorem ofU_hit {D : List UsL} {u : ByteArray} {j : Nat} (hj : j < D.length) (hlow : ∀ i (h : i < D.length), i < j → (D[i]).u ≠ u) (he : (D[j]).u = u) : ofU (umS D) u = (D[j]).l := by
  unfold ofU
  have hj2 : j < (umS D).length := by rw [umS_len]; exact hj
  have h1 : (umS D).find? (isKy UsM.u u) = some ((umS D)[j]) := by
    rw [List.find?_eq_some_iff_getElem]
    refine ⟨by unfold isKy; rw [decide_eq_true_iff]; simpa [umS, UsL.m] using he, j, hj2, rfl, fun i hi => ?_⟩
    have := hlow i (by omega) hi
    have h2 : i < (umS D).length := by omega
    unfold isKy
    simp [umS, UsL.m, this]
  rw [h1]
  simp [umS, UsL.m]
theorem ofU_miss {D : List UsL} {u : ByteArray} (hlow : ∀ i (h : i < D.length), (D[i]).u ≠ u) : ofU (umS D) u = [] := by
  unfold ofU
  have h1 : (umS D).find? (isKy UsM.u u) = none := by
    rw [List.find?_eq_none]
    intro x hx
    obtain ⟨y, hy, rfl⟩ := List.mem_map.1 hx
    obtain ⟨i, hi, rfl⟩ := List.getElem_of_mem hy
    have := hlow i hi
    unfold isKy
    simp [UsL.m, this]
  rw [h1]
set_option maxHeartbeats 4000000 in
theorem rof_any (x : SaL) (u : ByteArray) (w : World) (h : SaAt w x) (hl : x.us.length ≤ 100000) :
    Calls Tryz.prog 92 #[saV x, .string u] w fun e w' => ∃ a c, e = .returned (.slice a (ofU x.m.us u).length c) ∧ StSl w' a (ofU x.m.us u) ∧ Cp a (ofU x.m.us u).length c ∧ Below w.heap.size w w' := by
  have S0 := SB.new (Below.refl w.heap.size w) h 27
  obtain ⟨c0, c1, c2, c3, c4, c5⟩ := S0.cells
  have HU := Lib.hid S0.at_.us
  have HFR := Lib.hid S0.frame
  have HM : Hid (x.m.us = umS x.us) := rfl
  rw [show x.m.us = umS x.us from rfl]
  unfold saV saC at *
  clear h S0
  obtain ⟨now, hor, oa, op, oc, ua, us, uc, sa, su, sc, ta, tb, tc⟩ := x
  dsimp only at *
  go_enter Tryz.func92, Tryz.ntmps92
  go_wp2
  go_loopw [5] (fun i wr => ∃ (j : Nat), j ≤ us.length ∧ i = .int .i64 j ∧ Hid (∀ i (h : i < us.length), i < j → (us[i]).u ≠ u) ∧ wr = w.alloc (.cells #[.int .i64 now, .int .i64 hor, .slice oa op.length oc, .slice ua us.length uc, .slice sa su.length sc, .slice ta tb.length tc] 27)) (fun i _ => us.length - (intOf i).toNat)
  case atStart => exact ⟨0, by omega, rfl, (fun i h hi => by omega), rfl⟩
  case round =>
    obtain ⟨j, hj, rfl, HLO, rfl⟩ := hrel
    by_cases hjl : j < us.length
    · obtain ⟨b, off, rfl, hbl, r0, r1, hat⟩ := HU.out.get hjl
      by_cases he : (us[j]).u = u
      · have HX := Lib.hid (ofU_hit hjl HLO.out he)
        have HA := Lib.hid hat
        clear HLO HM hat
        generalize us[j] = y at *
        have he1 := txt_eq y.u
        subst he
        go_wp2
        go_ret
        exact ⟨y.a, y.c, by rw [HX.out]; rfl, by rw [HX.out]; exact HA.out.st, by rw [HX.out]; exact ⟨HA.out.le, HA.out.mx, HA.out.nil⟩, HFR.out⟩
      · have heq := txt_ne he
        have HN : Hid (∀ i (h : i < us.length), i < j + 1 → (us[i]).u ≠ u) := fun i h hi => by
          by_cases hij : i = j
          · subst hij; exact he
          · exact HLO.out i h (by omega)
        clear HLO HM hat he
        generalize us[j] = y at *
        go_wp2
        go_roundw
        case rel => exact ⟨j + 1, by omega, by go_num, HN, by first | rfl | trivial⟩
        case measure => simp [intOf]; omega
    · obtain rfl : j = us.length := by omega
      have HX := Lib.hid (ofU_miss (D := us) (u := u) (fun i h => HLO.out i h h))
      go_wp2
      go_ret
      exact ⟨none, 0, by rw [HX.out]; rfl, by rw [HX.out]; exact StSl.nil _ _, by rw [HX.out]; exact Cp.none, HFR.out⟩
set_option maxHeartbeats 8000000 in
theorem rstays_any11 (x : SaL) (u : ByteArray) (t : Int) (w : World) (h : SaAt w x) (hf : Few x.m 400) :
    Calls Tryz.prog 30 #[saV x, .string u, .int .i64 t] w fun e w' => ∃ a q, e = .returned (.slice a (staysS x.m u t).length q) ∧ StSl w' a (staysS x.m u t) ∧ Below w.heap.size w w' := by
  have HK := SB.new (Below.refl w.heap.size w) h 27
  have hol : (ofU x.m.us u).length ≤ 400 := ofU_few hf u
  have hsl : (staysO x.m.op u t).length ≤ 400 := staysO_few _ _ _ hf.op
  have HSO := Lib.hid (fun V (h : SaAt V x) => rof_any x u V h (by have := hf.us; unfold SaL.m at this; simp only at this; rw [umS_len] at this; omega))
  have HOS := Lib.hid (fun V (h : OpSl V x.oa x.op) => rstays_any x.oa x.oc x.op u t V h (Nat.le_trans hf.op (by decide)))
  have HAN := Lib.hid (fun j (hj : j < (staysO x.m.op u t).length) => addsS_next (staysO x.m.op u t) (ofU x.m.us u) j hj)
  have HAL := Lib.hid (fun j => addsS_len ((staysO x.m.op u t).take j) (ofU x.m.us u))
  have HAD := Lib.hid (fun V a c (l : List StM) (s : StM) (h : StSl V a l) (k : Cp a l.length c) (hl : l.length ≤ 1000) => refAdd_more a c l s V h k.nil hl k.le k.mx)
  have HS := Lib.hid HK
  obtain ⟨c0, c1, c2, c3, c4, c5⟩ := HK.cells
  rw [show staysS x.m u t = addsS (staysO x.m.op u t) (ofU x.m.us u) from rfl]
  rw [show x.op = x.m.op from rfl] at HOS c2
  generalize hL : staysO x.m.op u t = L at *
  generalize ofU x.m.us u = O at *
  obtain ⟨now, hor, oa, op, oc, ua, us, uc, sa, su, sc, ta, tb, tc⟩ := x
  unfold saV saC stV at *
  dsimp only at *
  clear h hf HK hL
  go_enter Tryz.func30, Tryz.ntmps30
  go_wp2_with fail
  refine (HSO.out _ HS.out.at_).mono ?_
  rintro e w1 ⟨x1, q1, rfl, l1, k1, h1⟩
  have A2 := Lib.hid (HS.out.below h1)
  have L2 := Lib.hid l1
  have C2 := Lib.hid k1
  clear c0 c1 c2 c3 c4 c5
  obtain ⟨c0, c1, c2, c3, c4, c5⟩ := A2.out.cells
  dsimp only at *
  clear h1 l1 HS HSO k1
  go_wp2_with fail
  refine (HOS.out _ A2.out.at_.op).mono ?_
  rintro e w3 ⟨x3, q3, rfl, l3, h3⟩
  have L3 := Lib.hid (L2.out.below h3)
  have M3 := Lib.hid l3
  have B3 := Lib.hid (A2.out.frame.trans (h3.mono A2.out.frame.size))
  clear c0 c1 c2 c3 c4 c5 A2 L2 HOS l3 h3
  go_wp2
  go_loopw [7, 9] (fun v iv wr => ∃ (j : Nat) (a : Option Addr) (c : Nat), j ≤ L.length ∧ iv = .int .i64 j ∧ v = .slice a (addsS (L.take j) O).length c ∧ Hid (StSl wr a (addsS (L.take j) O)) ∧ Hid (Cp a (addsS (L.take j) O).length c) ∧ Hid (Below w3.heap.size w3 wr)) (fun _ iv _ => L.length - (intOf iv).toNat)
  case atStart => exact ⟨0, _, _, by omega, rfl, rfl, L3.out, C2.out, Below.refl _ _⟩
  case round =>
    clear L3 C2
    obtain ⟨j, a, c, hj, rfl, rfl, HR, HC, HB⟩ := hrel
    by_cases hjl : j < L.length
    · obtain ⟨b, off, rfl, hbl, r0, r1, r2, r3⟩ := (M3.out.below HB.out) j hjl
      have HN := Lib.hid (HAN.out j hjl)
      have hal := HAL.out j
      have hal2 : (L.take j).length ≤ 400 := by rw [List.length_take]; omega
      have HAJ := Lib.hid (HAD.out _ a c (addsS (L.take j) O) L[j] HR.out HC.out (by omega))
      have HB1 := Lib.hid HB.out
      clear HAN HAL HAD HR HC HB hal hal2
      generalize addsS (L.take j) O = R at *
      generalize L[j] = s at *
      go_wp2_with fail
      refine HAJ.out.mono ?_
      rintro e w4 ⟨x4, q4, rfl, k4, h4, d4⟩
      have HB2 := Lib.hid (HB1.out.trans (h4.mono HB1.out.size))
      have HC2 := Lib.hid (Cp.mk d4.le d4.max d4.nil)
      have HS4 := Lib.hid k4
      clear HAJ HB1 h4 d4 k4 r0 r1 r2 r3
      go_wp2
      go_roundw
      case rel => exact ⟨j + 1, x4, q4, by omega, by go_num, by rw [HN.out], (by unfold Hid; rw [HN.out]; exact HS4.out), (by unfold Hid; rw [HN.out]; exact HC2.out), HB2.out⟩
      case measure => simp [intOf]; omega
    · obtain rfl : j = L.length := by omega
      rw [List.take_length] at HR HC
      rw [List.take_length]
      have HF := Lib.hid (B3.out.trans (HB.out.mono B3.out.size))
      clear HAN HAL HAD HC HB B3 M3
      go_wp2
      go_ret
      exact ⟨a, c, rfl, HR.out, HF.out⟩
end Go.Proofs.YtjhdhfokhkcamaaGreat
namespace Go.Proofs.YtjhdhfokhkcamaaGreat
open Go.RowKit Go.Proofs
set_option linter.unusedVariables false
set_option maxRecDepth 100000
set_option maxHeartbeats 2000000 in
theorem count_any11 (x : SaL) (w : World) (h : SaAt w x) (hs : stCnt x.m ≤ 1000000) (hu : x.us.length ≤ 1000000) :
    Calls Tryz.prog 33 #[saV x] w fun e w' => e = .returned (.int .i64 (stCnt x.m : Nat)) ∧ Below w.heap.size w w' := by
  have S0 := SB.new (Below.refl w.heap.size w) h 38
  have HS := Lib.hid S0
  obtain ⟨c0, c1, c2, c3, c4, c5⟩ := S0.cells
  have hs2 : x.op.length + x.su.length + x.tb.length + cntU (umS x.us) ≤ 1000000 := hs
  have HE : Hid (stCnt x.m = x.op.length + x.su.length + x.tb.length + cntU (umS x.us)) := rfl
  have hw1 : IntKind.i64.wrap ((x.op.length : Int) + (x.su.length : Int)) = (x.op.length : Int) + (x.su.length : Int) := by rw [IntWalk.i64_in] <;> omega
  have hw2 : IntKind.i64.wrap ((x.op.length : Int) + (x.su.length : Int) + (x.tb.length : Int)) = ((x.op.length + x.su.length + x.tb.length : Nat) : Int) := by rw [IntWalk.i64_in] <;> omega
  have HU := Lib.hid S0.at_.us
  have HFR := Lib.hid S0.frame
  have HT := Lib.hid (fun j (hj : j < (umS x.us).length) => cntU_take (umS x.us) j hj)
  have HL := Lib.hid (umS_len x.us)
  have HLE : Hid (∀ j, cntU ((umS x.us).take j) ≤ cntU (umS x.us)) := fun j => by
    have := cntU_append ((umS x.us).take j) ((umS x.us).drop j)
    rw [List.take_append_drop] at this
    omega
  have HM : Hid (∀ j (h1 : j < x.us.length) (h2 : j < (umS x.us).length), ((umS x.us)[j]).l.length = x.us[j].l.length) := fun j h1 h2 => by simp [umS, UsL.m]
  unfold saV saC at *
  clear h hs S0
  obtain ⟨n0, hn0⟩ : ∃ n0, n0 = x.op.length + x.su.length + x.tb.length := ⟨_, rfl⟩
  rw [← hn0] at hw2 hs2 HE
  clear HS
  generalize x.ua = ua at *
  go_enter Tryz.func33, Tryz.ntmps33
  go_wp2
  go_loopw [3, 20] (fun v i wr => ∃ (j s : Nat), j ≤ x.us.length ∧ i = .int .i64 j ∧ v = .int .i64 s ∧ s ≤ 1000000 ∧ Hid (s = n0 + cntU ((umS x.us).take j)) ∧ Hid (Below w.heap.size w wr) ∧ Hid (UsSl wr ua x.us)) (fun _ i _ => x.us.length - (intOf i).toNat)
  case atStart => exact ⟨0, n0, by omega, rfl, congrArg (Value.int .i64) (by omega), by omega, by simp [Hid, cntU], HFR.out, HU.out⟩
  case round =>
    obtain ⟨j, s, hj, rfl, rfl, hsm, HSS, HB, HUU⟩ := hrel
    by_cases hjl : j < x.us.length
    · obtain ⟨b, off, rfl, hbl, hc0, hc1, -⟩ := HUU.out.get hjl
      have hnx : s + x.us[j].l.length ≤ 1000000 := by
        have h1 := HT.out j (by rw [HL.out]; exact hjl)
        have h2 := HLE.out (j + 1)
        have h3 := HSS.out
        have h4 := HM.out j hjl (by rw [HL.out]; exact hjl)
        omega
      have HN : Hid (s + x.us[j].l.length = n0 + cntU ((umS x.us).take (j + 1))) := by
        have h1 := HT.out j (by rw [HL.out]; exact hjl)
        have h3 := HSS.out
        have h4 := HM.out j hjl (by rw [HL.out]; exact hjl)
        unfold Hid
        omega
      have hb1 := below_one wr (.cells #[.string x.us[j].u, .slice x.us[j].a x.us[j].l.length x.us[j].c] 89)
      have HB1 := Lib.hid (HB.out.trans (hb1.mono HB.out.size))
      have HU1 := Lib.hid (HUU.out.below hb1)
      clear hb1 HM HLE HT HSS HUU
      generalize x.us[j] = y at *
      have hwr : IntKind.i64.wrap ((s : Int) + (y.l.length : Int)) = ((s + y.l.length : Nat) : Int) := by rw [IntWalk.i64_in] <;> omega
      go_wp2
      go_roundw
      case rel => exact ⟨j + 1, s + y.l.length, by omega, by go_num, by first | rfl | go_num, hnx, HN, HB1.out, HU1.out⟩
      case measure => simp [intOf]; omega
    · obtain rfl : j = x.us.length := by omega
      have hE2 : s = stCnt x.m := by
        have h3 := HSS.out
        rw [List.take_of_length_le (by rw [HL.out]; exact Nat.le_refl _)] at h3
        rw [HE.out]
        exact h3
      have HE2 := Lib.hid hE2
      clear hE2 HM HLE HT HSS
      go_wp2
      go_ret
      exact ⟨by rw [← HE2.out]; rfl, HB.out⟩
set_option maxHeartbeats 2000000 in
theorem rcount_any (x : SaL) (w : World) (h : SaAt w x) (hs : stCnt x.m ≤ 10000000) (hu : x.us.length ≤ 10000000) :
    Calls Tryz.prog 34 #[saV x] w fun e w' => e = .returned (.int .i64 (stCnt x.m : Nat)) ∧ Below w.heap.size w w' := by
  have S0 := SB.new (Below.refl w.heap.size w) h 27
  obtain ⟨c0, c1, c2, c3, c4, c5⟩ := S0.cells
  have hs2 : x.op.length + x.su.length + x.tb.length + cntU (umS x.us) ≤ 10000000 := hs
  have HE : Hid (stCnt x.m = x.op.length + x.su.length + x.tb.length + cntU (umS x.us)) := rfl
  have hw1 : IntKind.i64.wrap ((x.op.length : Int) + (x.su.length : Int)) = (x.op.length : Int) + (x.su.length : Int) := by rw [IntWalk.i64_in] <;> omega
  have hw2 : IntKind.i64.wrap ((x.op.length : Int) + (x.su.length : Int) + (x.tb.length : Int)) = ((x.op.length + x.su.length + x.tb.length : Nat) : Int) := by rw [IntWalk.i64_in] <;> omega
  have HU := Lib.hid S0.at_.us
  have HFR := Lib.hid S0.frame
  have HT := Lib.hid (fun j (hj : j < (umS x.us).length) => cntU_take (umS x.us) j hj)
  have HL := Lib.hid (umS_len x.us)
  have HLE : Hid (∀ j, cntU ((umS x.us).take j) ≤ cntU (umS x.us)) := fun j => by
    have := cntU_append ((umS x.us).take j) ((umS x.us).drop j)
    rw [List.take_append_drop] at this
    omega
  have HM : Hid (∀ j (h1 : j < x.us.length) (h2 : j < (umS x.us).length), ((umS x.us)[j]).l.length = x.us[j].l.length) := fun j h1 h2 => by simp [umS, UsL.m]
  unfold saV saC at *
  clear h hs S0
  obtain ⟨n0, hn0⟩ : ∃ n0, n0 = x.op.length + x.su.length + x.tb.length := ⟨_, rfl⟩
  rw [← hn0] at hw2 hs2 HE
  generalize x.ua = ua at *
  go_enter Tryz.func34, Tryz.ntmps34
  go_wp2
  go_loopw [3, 4] (fun v i wr => ∃ (j s : Nat), j ≤ x.us.length ∧ i = .int .i64 j ∧ v = .int .i64 s ∧ s ≤ 10000000 ∧ Hid (s = n0 + cntU ((umS x.us).take j)) ∧ wr = w.alloc (.cells #[.int .i64 x.now, .int .i64 x.hor, .slice x.oa x.op.length x.oc, .slice ua x.us.length x.uc, .slice x.sa x.su.length x.sc, .slice x.ta x.tb.length x.tc] 27)) (fun _ i _ => x.us.length - (intOf i).toNat)
  case atStart => exact ⟨0, n0, by omega, rfl, congrArg (Value.int .i64) (by omega), by omega, by simp [Hid, cntU], rfl⟩
  case round =>
    obtain ⟨j, s, hj, rfl, rfl, hsm, HSS, rfl⟩ := hrel
    by_cases hjl : j < x.us.length
    · obtain ⟨b, off, rfl, hbl, hc0, hc1, -⟩ := HU.out.get hjl
      have hnx : s + x.us[j].l.length ≤ 10000000 := by
        have h1 := HT.out j (by rw [HL.out]; exact hjl)
        have h2 := HLE.out (j + 1)
        have h3 := HSS.out
        have h4 := HM.out j hjl (by rw [HL.out]; exact hjl)
        omega
      have HN : Hid (s + x.us[j].l.length = n0 + cntU ((umS x.us).take (j + 1))) := by
        have h1 := HT.out j (by rw [HL.out]; exact hjl)
        have h3 := HSS.out
        have h4 := HM.out j hjl (by rw [HL.out]; exact hjl)
        unfold Hid
        omega
      clear HM HLE HT HSS
      generalize x.us[j] = y at *
      have hwr : IntKind.i64.wrap ((s : Int) + (y.l.length : Int)) = ((s + y.l.length : Nat) : Int) := by rw [IntWalk.i64_in] <;> omega
      go_wp2
      go_roundw
      case rel => exact ⟨j + 1, s + y.l.length, by omega, by go_num, by first | rfl | go_num, hnx, HN, by first | rfl | trivial⟩
      case measure => simp [intOf]; omega
    · obtain rfl : j = x.us.length := by omega
      have hE2 : s = stCnt x.m := by
        have h3 := HSS.out
        rw [List.take_of_length_le (by rw [HL.out]; exact Nat.le_refl _)] at h3
        rw [HE.out]
        exact h3
      have HE2 := Lib.hid hE2
      clear hE2 HM HLE HT HSS
      go_wp2
      go_ret
      exact ⟨by rw [← HE2.out]; rfl, HFR.out⟩
end Go.Proofs.YtjhdhfokhkcamaaGreat
namespace Go.Proofs.YtjhdhfokhkcamaaGreat
open Go.RowKit Go.Proofs
set_option linter.unusedVariables false
set_option maxRecDepth 100000
set_option maxHeartbeats 2000000 in
theorem many_any (x : SaL) (w : World) (h : SaAt w x) (hs : stCnt x.m + x.us.length ≤ 1048576) :
    Calls Tryz.prog 12 #[saV x] w fun e w' => e = .returned (.int .i64 ((stCnt x.m : Int) + (x.us.length : Int))) ∧ Below w.heap.size w w' := by
  have S0 := SB.new (Below.refl w.heap.size w) h 27
  have HC := Lib.hid (fun V (h : SaAt V x) => rcount_any x V h (by omega) (by omega))
  have HSC : Hid (∀ V, SB w w.heap.size 27 x V → V.cell? ⟨w.heap.size, 0, none⟩ = some (.int .i64 x.now) ∧ V.cell? ⟨w.heap.size, 1, none⟩ = some (.int .i64 x.hor) ∧ V.cell? ⟨w.heap.size, 2, none⟩ = some (.slice x.oa x.op.length x.oc) ∧ V.cell? ⟨w.heap.size, 3, none⟩ = some (.slice x.ua x.us.length x.uc) ∧ V.cell? ⟨w.heap.size, 4, none⟩ = some (.slice x.sa x.su.length x.sc) ∧ V.cell? ⟨w.heap.size, 5, none⟩ = some (.slice x.ta x.tb.length x.tc)) := fun V h => h.cells
  have S1 := S0.drew
  have hN : stCnt x.m ≤ 1048576 := by omega
  have hU : x.us.length ≤ 1048576 := by omega
  generalize stCnt x.m = N at *
  obtain ⟨now, hor, oa, op, oc, ua, us, uc, sa, su, sc, ta, tb, tc⟩ := x
  unfold saV saC at *
  dsimp only at *
  clear h S0
  have hw : IntKind.i64.wrap ((N : Int) + (us.length : Int)) = (N : Int) + (us.length : Int) := IntWalk.i64_in _ (by omega)
  go_enter Tryz.func12, Tryz.ntmps12
  go_wp2_with fail
  go_region_held3 (fun V => V.cell? ⟨w.heap.size, 0, none⟩ = some (.int .i64 now) ∧ V.cell? ⟨w.heap.size, 1, none⟩ = some (.int .i64 hor) ∧ V.cell? ⟨w.heap.size, 2, none⟩ = some (.slice oa op.length oc) ∧ V.cell? ⟨w.heap.size, 3, none⟩ = some (.slice ua us.length uc) ∧ V.cell? ⟨w.heap.size, 4, none⟩ = some (.slice sa su.length sc) ∧ V.cell? ⟨w.heap.size, 5, none⟩ = some (.slice ta tb.length tc))
    (first | with_reducible exact HSC.out _ S2 | with_reducible exact HSC.out _ S1)
    (first | (go_at_call 34; refine (HC.out _ S1.at_).mono ?_; rintro e w2 ⟨rfl, h2⟩; have S2 := S1.below h2))
  all_goals
    have HF := Lib.hid S2.frame
    clear S1 S2 HC HSC h2
    go_wp2
    go_ret
    exact ⟨by rw [← hw]; rfl, HF.out⟩
end Go.Proofs.YtjhdhfokhkcamaaGreat
