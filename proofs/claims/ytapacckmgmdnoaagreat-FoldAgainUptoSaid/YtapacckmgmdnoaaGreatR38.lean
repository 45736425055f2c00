/- Texts of mine, one behind the other, of each what is wanted. -/
import Derived.Test.YtapacckmgmdnoaaGreatR00
import Derived.Test.YtapacckmgmdnoaaGreatShelf
import Derived.Test.YtapacckmgmdnoaaGreatRows
import Derived.Test.YtapacckmgmdnoaaGreatR01
import Derived.Test.YtapacckmgmdnoaaGreatR03
import Derived.Test.YtapacckmgmdnoaaGreatR04
import Derived.Test.YtapacckmgmdnoaaGreatR07
import Derived.Test.YtapacckmgmdnoaaGreatR10
import Derived.Test.YtapacckmgmdnoaaGreatR18
import Derived.Test.YtapacckmgmdnoaaGreatR21
import Derived.Test.YtapacckmgmdnoaaGreatR22
import Derived.Test.YtapacckmgmdnoaaGreatR23
import Derived.Test.YtapacckmgmdnoaaGreatR25
import Derived.Test.YtapacckmgmdnoaaGreatR28
import Derived.Test.YtapacckmgmdnoaaGreatR32
import Derived.Test.YtapacckmgmdnoaaGreatR34
import Derived.Test.YtapacckmgmdnoaaGreatR35
namespace Go.Proofs.YtapacckmgmdnoaaGreat
open Go.RowKit Go.Proofs
set_option linter.unusedVariables false
set_option maxRecDepth 100000
set_option maxRecDepth 100000
structure NPK (w : World) (g : Nat) (tp tO : TypeId) (x : SaL) (W : World) : Prop where
 s : SB w g tp x W
 z : SB w (g + 1) tO saO W
theorem NPK.below {w W W' : World} {g : Nat} {tp tO : TypeId} {x : SaL} (h : NPK w g tp tO x W) (q : Below W.heap.size W W') : NPK w g tp tO x W' := ⟨h.s.below q, h.z.below q⟩
structure FrG (g : Nat) (T W : World) : Prop where
 size : T.heap.size ≤ W.heap.size
 blk : ∀ b, b < T.heap.size → b ≠ g → W.heap[b]? = T.heap[b]?
theorem FrG.refl (g : Nat) (T : World) : FrG g T T := ⟨Nat.le_refl _, fun _ _ _ => rfl⟩
theorem FrG.below {g : Nat} {T W W' : World} (h : FrG g T W) (q : Below T.heap.size W W') : FrG g T W' := ⟨Nat.le_trans h.size q.size, fun b hb hn => (q.block b hb).trans (h.blk b hb hn)⟩
theorem FrG.set {g i : Nat} {v : Value} {T W : World} (h : FrG g T W) : FrG g T (W.setCell ⟨g, i, none⟩ v) := ⟨by rw [size_set]; exact h.size, fun b hb hn => (block_far hn).trans (h.blk b hb hn)⟩
theorem FrG.setS (g : Nat) (T : World) (y : SaL) : FrG g T (setS T g y) := ((((((FrG.refl g T).set).set).set).set).set).set
theorem FrG.cell {g : Nat} {T W : World} (h : FrG g T W) {p : Addr} (hl : p.block < T.heap.size) (hn : p.block ≠ g) : W.cell? p = T.cell? p := by
 unfold World.cell?
 rw [h.blk _ hl hn]
section
variable {T W : World} {g : Nat} {x : SaL} {t : TypeId}
theorem OpSl.frG (h : T.heap[g]? = some (.cells (saC x) t (0, 0))) {a : Option Addr} {l : List OpM} (ho : OpSl T a l) (f : FrG g T W) : OpSl W a l := fun k hk => by
 obtain ⟨b, off, e, hlt, h0, h1, h2, h3⟩ := ho k hk
 have hne : b ≠ g := fun e => by subst e; exact six_string h h1
 exact ⟨b, off, e, Nat.lt_of_lt_of_le hlt f.size, (f.cell (p := ⟨b, off + k * 4, none⟩) hlt hne).trans h0, (f.cell (p := ⟨b, off + k * 4 + 1, none⟩) hlt hne).trans h1, (f.cell (p := ⟨b, off + k * 4 + 2, none⟩) hlt hne).trans h2, (f.cell (p := ⟨b, off + k * 4 + 3, none⟩) hlt hne).trans h3⟩
theorem EnSl.frG (h : T.heap[g]? = some (.cells (saC x) t (0, 0))) {a : Option Addr} {l : List EnM} (ho : EnSl T a l) (f : FrG g T W) : EnSl W a l := fun k hk => by
 obtain ⟨b, off, e, hlt, h0, h1, h2, h3⟩ := ho k hk
 have hne : b ≠ g := fun e => by subst e; exact six_string h h1
 exact ⟨b, off, e, Nat.lt_of_lt_of_le hlt f.size, (f.cell (p := ⟨b, off + k * 4, none⟩) hlt hne).trans h0, (f.cell (p := ⟨b, off + k * 4 + 1, none⟩) hlt hne).trans h1, (f.cell (p := ⟨b, off + k * 4 + 2, none⟩) hlt hne).trans h2, (f.cell (p := ⟨b, off + k * 4 + 3, none⟩) hlt hne).trans h3⟩
theorem StSl.frG (h : T.heap[g]? = some (.cells (saC x) t (0, 0))) {a : Option Addr} {l : List StM} (ho : StSl T a l) (f : FrG g T W) : StSl W a l := fun k hk => by
 obtain ⟨b, off, e, hlt, h0, h1, h2, h3⟩ := ho k hk
 have hne : b ≠ g := fun e => by
  subst e
  have := six_int h h3
  omega
 exact ⟨b, off, e, Nat.lt_of_lt_of_le hlt f.size, (f.cell (p := ⟨b, off + k * 4, none⟩) hlt hne).trans h0, (f.cell (p := ⟨b, off + k * 4 + 1, none⟩) hlt hne).trans h1, (f.cell (p := ⟨b, off + k * 4 + 2, none⟩) hlt hne).trans h2, (f.cell (p := ⟨b, off + k * 4 + 3, none⟩) hlt hne).trans h3⟩
theorem PpSl.frG (h : T.heap[g]? = some (.cells (saC x) t (0, 0))) {a : Option Addr} {l : List (Value × Value)} (hs : ∀ y ∈ l, ∃ s, y.1 = .string s) (ho : PpSl T a l) (f : FrG g T W) : PpSl W a l := fun k hk => by
 obtain ⟨b, off, e, hlt, h0, h1⟩ := ho k hk
 have hne : b ≠ g := fun e => by
  subst e
  obtain ⟨s, hs⟩ := hs _ (List.getElem_mem hk)
  rw [hs] at h0
  exact six_string h h0
 exact ⟨b, off, e, Nat.lt_of_lt_of_le hlt f.size, (f.cell (p := ⟨b, off + k * 2, none⟩) hlt hne).trans h0, (f.cell (p := ⟨b, off + k * 2 + 1, none⟩) hlt hne).trans h1⟩
theorem SaAt.frG (h : T.heap[g]? = some (.cells (saC x) t (0, 0))) {y : SaL} (ho : SaAt T y) (f : FrG g T W) : SaAt W y :=
 ⟨ho.op.frG h f, ⟨PpSl.frG h (fun y hy => by obtain ⟨z, _, rfl⟩ := List.mem_map.1 hy; exact ⟨_, rfl⟩) ho.us.row f, fun y hy => ⟨(ho.us.at_ y hy).st.frG h f, (ho.us.at_ y hy).le, (ho.us.at_ y hy).mx, (ho.us.at_ y hy).nil⟩⟩, ho.su.frG h f, PpSl.frG h (fun y hy => by obtain ⟨z, _, rfl⟩ := List.mem_map.1 hy; exact ⟨_, rfl⟩) ho.tb f, ho.oc, ho.uc, ho.sc, ho.tc⟩
theorem SB.frG {w : World} {g' : Nat} {t' : TypeId} {y : SaL} (h : T.heap[g]? = some (.cells (saC x) t (0, 0))) (ho : SB w g' t' y T) (hne : g' ≠ g) (f : FrG g T W) (hb : Below w.heap.size w W) : SB w g' t' y W :=
 ⟨(f.blk _ ho.lt hne).trans ho.blk, ho.ge, hb, ho.at_.frG h f⟩
theorem NPK.frG {w : World} {gp : Nat} {tp tO : TypeId} {y : SaL} (h : T.heap[g]? = some (.cells (saC x) t (0, 0))) (ho : NPK w gp tp tO y T) (hne : gp + 1 < g) (f : FrG g T W) (hb : Below w.heap.size w W) : NPK w gp tp tO y W :=
 ⟨ho.s.frG h (by omega) f hb, ho.z.frG h (by omega) f hb⟩
end
theorem z_two {w : World} {gp : Nat} {tp tO : TypeId} {x : SaL} {o1 o2 : Obj} (h : NPK w gp tp tO x ((w.alloc o1).alloc o2).drew) : SB w (w.heap.size + 1 + 1) tO saO (((w.alloc o1).alloc o2).drew.alloc (.cells (saC saO) tO)) := by
 have e : ((w.alloc o1).alloc o2).drew.heap.size = w.heap.size + 1 + 1 := by
  show ((w.alloc o1).alloc o2).heap.size = _
  rw [size1, size1]
 have k := SB.new h.s.frame (SaAt.zero _) tO
 rw [e] at k
 exact k
theorem s_news11 (a : Option Addr) (c : Nat) (l : List StM) (u : ByteArray) (W : World) (h : StSl W a l) (hl : l.length ≤ 1000) : Calls Tryz.prog 73 #[.slice a l.length c] W fun e w' => ∃ x q, e = .returned (.slice x l.length q) ∧ OwnSt w' W.heap.size ⟨u, x, l, q⟩ ∧ Below W.heap.size W w' := by
 refine Calls.mono (snews_any a c l W h (by omega)) ?_
 rintro e w' ⟨v, rfl, ho, hb⟩
 obtain ⟨x, q, rfl, h1, h2, h3, h4⟩ := own_st ho
 exact ⟨x, q, rfl, ho, hb⟩
theorem two_sl (a : ByteArray) (b : Option Addr) (n c : Nat) : ∀ u ∈ [Value.string a, .slice b n c], u.oneCell' = true := by
 intro u hu
 simp at hu
 rcases hu with rfl | rfl <;> rfl
theorem two_in (a : ByteArray) (b : Int) : ∀ u ∈ [Value.string a, .int .i64 b], u.oneCell' = true := by
 intro u hu
 simp at hu
 rcases hu with rfl | rfl <;> rfl
structure NewK (w T : World) (g : Nat) (now hor : Int) (x1 : Option Addr) (n1 q1 : Nat) (x2 : Option Addr) (n2 q2 : Nat) (D : List UsL) (E : List TbM) (v vt : Value) (W : World) : Prop where
 gw : w.heap.size ≤ g
 gT : g < T.heap.size
 bel : Below w.heap.size w W
 frm : FrG g T W
 out : W.heap[g]? = some (.cells #[.int .i64 now, .int .i64 hor, .slice x1 n1 q1, v, .slice x2 n2 q2, vt] 39 (0, 0))
 own : W.ownsRow T.heap.size 108 2 v D.length (usv D)
 st : ∀ y ∈ D, OwnSt W T.heap.size y
 owt : W.ownsRow T.heap.size 141 2 vt E.length (tbv E)
section
variable {w T W W' : World} {g : Nat} {now hor : Int} {x1 x2 : Option Addr} {n1 q1 n2 q2 : Nat} {D : List UsL} {E : List TbM} {v vt : Value}
theorem NewK.start {op : List OpM} {su : List EnM} (h : SB w g 39 ⟨now, hor, x1, op, q1, none, [], 0, x2, su, q2, none, [], 0⟩ T) : NewK w T g now hor x1 op.length q1 x2 su.length q2 [] [] (.slice none 0 0) (.slice none 0 0) T :=
 ⟨h.ge, h.lt, h.frame, FrG.refl _ _, h.blk, ⟨rfl, .inl ⟨rfl, rfl⟩⟩, (fun y hy => by cases hy), ⟨rfl, .inl ⟨rfl, rfl⟩⟩⟩
theorem NewK.lt (h : NewK w T g now hor x1 n1 q1 x2 n2 q2 D E v vt W) : g < W.heap.size := heap_lt h.out
theorem NewK.below (h : NewK w T g now hor x1 n1 q1 x2 n2 q2 D E v vt W) (q : Below W.heap.size W W') : NewK w T g now hor x1 n1 q1 x2 n2 q2 D E v vt W' :=
 ⟨h.gw, h.gT, h.bel.trans (q.mono h.bel.size), h.frm.below (q.mono h.frm.size), (q.block _ h.lt).trans h.out, own_below h.own q, fun y hy => own_below (h.st y hy) q, own_below h.owt q⟩
theorem NewK.cellsB (h : NewK w T g now hor x1 n1 q1 x2 n2 q2 D E v vt W) (b : Below T.heap.size W W') : (W'.cell? ⟨g, 0, none⟩ = some (.int .i64 now) ∧ W'.cell? ⟨g, 1, none⟩ = some (.int .i64 hor) ∧ W'.cell? ⟨g, 2, none⟩ = some (.slice x1 n1 q1) ∧ W'.cell? ⟨g, 3, none⟩ = some v ∧ W'.cell? ⟨g, 4, none⟩ = some (.slice x2 n2 q2) ∧ W'.cell? ⟨g, 5, none⟩ = some vt) ∧ W'.frozen? ⟨g, 3, none⟩ = false ∧ W'.frozen? ⟨g, 5, none⟩ = false := by
 have e := (b.block g h.gT).trans h.out
 exact ⟨⟨cell_of_row _ _ _ _ _ _ e, cell_of_row _ _ _ _ _ _ e, cell_of_row _ _ _ _ _ _ e, cell_of_row _ _ _ _ _ _ e, cell_of_row _ _ _ _ _ _ e, cell_of_row _ _ _ _ _ _ e⟩, frozen_of_row _ _ 3 _ _ e, frozen_of_row _ _ 5 _ _ e⟩
theorem NewK.cells (h : NewK w T g now hor x1 n1 q1 x2 n2 q2 D E v vt W) : (W.cell? ⟨g, 0, none⟩ = some (.int .i64 now) ∧ W.cell? ⟨g, 1, none⟩ = some (.int .i64 hor) ∧ W.cell? ⟨g, 2, none⟩ = some (.slice x1 n1 q1) ∧ W.cell? ⟨g, 3, none⟩ = some v ∧ W.cell? ⟨g, 4, none⟩ = some (.slice x2 n2 q2) ∧ W.cell? ⟨g, 5, none⟩ = some vt) ∧ W.frozen? ⟨g, 3, none⟩ = false ∧ W.frozen? ⟨g, 5, none⟩ = false :=
 h.cellsB (Below.refl _ _)
theorem New_ne1 : 108 ≠ 111 := by decide
theorem New_ne2 : 108 ≠ 141 := by decide
theorem New_ne3 : 141 ≠ 108 := by decide
theorem New_ne4 : 141 ≠ 111 := by decide
theorem NewK.more (h : NewK w T g now hor x1 n1 q1 x2 n2 q2 D E v vt W) {y : UsL} (hy : OwnSt W T.heap.size y) {v' : Value} (ho : W'.ownsRow T.heap.size 108 2 v' (D.length + 1) (usv D ++ [.string y.u, .slice y.a y.l.length y.c])) (hg : W.grownBy W' v.ownBlock) :
  Below T.heap.size W W' ∧ NewK w T g now hor x1 n1 q1 x2 n2 q2 (D ++ [y]) E v' vt (W'.setCell ⟨g, 3, none⟩ v') := by
 have hB := app_below (Below.refl T.heap.size W) h.frm.size h.own hg
 have hst : ∀ z ∈ D ++ [y], OwnSt W' T.heap.size z := fun z hz => by
  rcases List.mem_append.1 hz with hz | hz
  ·exact own_grown h.own (h.st z hz) New_ne1 hg
  ·rw [List.mem_singleton.1 hz]; exact own_grown h.own hy New_ne1 hg
 have hw : w.heap.size ≤ T.heap.size := Nat.le_trans h.gw (Nat.le_of_lt h.gT)
 refine ⟨hB, h.gw, h.gT, (h.bel.trans (hB.mono hw)).setCell (p := ⟨g, 3, none⟩) h.gw _, (h.frm.below hB).set, heap_setCell_at ((hB.block _ h.gT).trans h.out) 3 _, ?_, fun z hz => own_far (hst z hz) h.gT, own_far (own_grown h.own h.owt New_ne2 hg) h.gT⟩
 rw [usv_snoc, List.length_append]
 exact own_far ho h.gT
theorem NewK.moreT (h : NewK w T g now hor x1 n1 q1 x2 n2 q2 D E v vt W) {y : TbM} {v' : Value} (ho : W'.ownsRow T.heap.size 141 2 v' (E.length + 1) (tbv E ++ [.string y.u, .int .i64 y.a])) (hg : W.grownBy W' vt.ownBlock) :
  Below T.heap.size W W' ∧ NewK w T g now hor x1 n1 q1 x2 n2 q2 D (E ++ [y]) v v' (W'.setCell ⟨g, 5, none⟩ v') := by
 have hB := app_below (Below.refl T.heap.size W) h.frm.size h.owt hg
 have hw : w.heap.size ≤ T.heap.size := Nat.le_trans h.gw (Nat.le_of_lt h.gT)
 refine ⟨hB, h.gw, h.gT, (h.bel.trans (hB.mono hw)).setCell (p := ⟨g, 5, none⟩) h.gw _, (h.frm.below hB).set, heap_setCell_at ((hB.block _ h.gT).trans h.out) 5 _, own_far (own_grown h.owt h.own New_ne3 hg) h.gT, fun z hz => own_far (own_grown h.owt (h.st z hz) New_ne4 hg) h.gT, ?_⟩
 rw [tbv_snoc, List.length_append]
 exact own_far ho h.gT
theorem NewK.fin {op : List OpM} {su : List EnM} (h : NewK w T g now hor x1 op.length q1 x2 su.length q2 D E v vt W) (hT : SB w g 39 ⟨now, hor, x1, op, q1, none, [], 0, x2, su, q2, none, [], 0⟩ T) :
  ∃ ua uc ta tc, v = .slice ua D.length uc ∧ vt = .slice ta E.length tc ∧ SB w g 39 ⟨now, hor, x1, op, q1, ua, D, uc, x2, su, q2, ta, E, tc⟩ W := by
 obtain ⟨ua, uc, rfl, u1, u2, u3, u4⟩ := own_us h.own
 obtain ⟨ta, tc, rfl, t1, t2, t3, t4⟩ := own_tb h.owt
 have k := hT.at_.frG hT.blk h.frm
 exact ⟨ua, uc, ta, tc, rfl, rfl, h.out, h.gw, h.bel, k.op, ⟨u3, fun y hy => (h.st y hy).at_⟩, k.su, t3, k.oc, ⟨u1, u2, u4⟩, k.sc, ⟨t1, t2, t4⟩⟩
end
set_option maxHeartbeats 8000000 in
theorem lnew_any (x : SaL) (w : World) (h : SaAt w x) (hf : Few x.m 900) :
  Calls Tryz.prog 23 #[saV x] w (Is w x.m) := by
 obtain ⟨HK, HZ⟩ := two_SB h 27 39
 obtain ⟨i0, hi, hz0, hz1, hz2⟩ := info_parts infoUs
 obtain ⟨t0, hti, htz0, htz1, htz2⟩ := info_parts infoTb
 have hun := few_us hf
 have htn : x.tb.length ≤ 900 := hf.tb
 have hst : ∀ y ∈ x.us, y.l.length ≤ 900 := umS_st hf.st
 have HON := Lib.hid (fun V (h : OpSl V x.oa x.op) => o_news x.oa x.oc x.op V h (Nat.le_trans hf.op (by decide)))
 have HSN := Lib.hid (fun V (h : EnSl V x.sa x.su) => e_news x.sa x.sc x.su V h (Nat.le_trans hf.su (by decide)))
 have HNS := Lib.hid (fun (y : UsL) (hy : y ∈ x.us) V (h : StSl V y.a y.l) => s_news11 y.a y.c y.l y.u V h (by have := hst y hy; omega))
 have K0 : NPK w w.heap.size 27 39 x _ := ⟨HK, HZ⟩
 have K1 := K0.below (Below.refl _ _).drew
 have K1b := (K0.below (below_one _ (.cells (saC saO) 39))).below (Below.refl _ _).drew
 unfold saO at K1 K1b
 have HSC : Hid (∀ V, SB w w.heap.size 27 x V → V.cell? ⟨w.heap.size, 0, none⟩ = some (.int .i64 x.now) ∧ V.cell? ⟨w.heap.size, 1, none⟩ = some (.int .i64 x.hor) ∧ V.cell? ⟨w.heap.size, 2, none⟩ = some (.slice x.oa x.op.length x.oc) ∧ V.cell? ⟨w.heap.size, 4, none⟩ = some (.slice x.sa x.su.length x.sc)) := fun V h => by
  obtain ⟨c0, c1, c2, c3, c4, c5⟩ := h.cells
  exact ⟨c0, c1, c2, c4⟩
 have HXM : Hid (x.m = ⟨x.now, x.hor, x.op, umS x.us, x.su, x.tb⟩) := rfl
 generalize x.m = R at *
 obtain ⟨now, hor, oa, op, oc, ua, us, uc, sa, su, sc, ta, tb, tc⟩ := x
 unfold saV saC at *
 dsimp only at *
 simp only [List.length_nil] at K1 K1b
 clear h hf HK HZ K0 hst
 go_enter Tryz.func23, Tryz.ntmps23
 go_wp2_with fail
 have K1a := K1.below (below_one _ (.cells #[.int .i64 0, .int .i64 0, .slice none 0 0, .slice none 0 0, .slice none 0 0, .slice none 0 0] 39))
 have Z1 := z_two K1
 go_region_held3 (fun V => V.cell? ⟨w.heap.size, 0, none⟩ = some (.int .i64 now) ∧ V.cell? ⟨w.heap.size, 1, none⟩ = some (.int .i64 hor) ∧ V.cell? ⟨w.heap.size, 2, none⟩ = some (.slice oa op.length oc) ∧ V.cell? ⟨w.heap.size, 4, none⟩ = some (.slice sa su.length sc))
  (first | with_reducible exact HSC.out _ KT.s | with_reducible exact HSC.out _ K3a.s | with_reducible exact HSC.out _ K3.s | with_reducible exact HSC.out _ K2a.s | with_reducible exact HSC.out _ K2.s | with_reducible exact HSC.out _ K1a.s | with_reducible exact HSC.out _ K1b.s | with_reducible exact HSC.out _ K1.s)
  (first | (have hseen := lsu2b; clear hseen; go_at_call 71; (first | (refine (HON.out _ K2.s.at_.op).mono ?_; rintro e w3 ⟨x1, q1, rfl, i1, j1, k1, lop2, h3⟩; have K3 := K2.below h3; have lsu2 := lsu2b.below h3; (first | (have Z3 := Z2.below h3; have HG : w.heap.size + 1 < w.heap.size + 1 + 1 := Nat.lt_succ_self _; have Z30 := Z3; unfold saO at Z30; obtain ⟨z0, z1, z2, z3, z4, z5⟩ := Z30.cells; obtain ⟨f0, f1, f2, f3, f4, f5⟩ := Z30.free; have hzl := Z30.lt; dsimp only [List.length_nil] at z0 z1 z2 z3 z4 z5; clear Z30; have OB := Z3.set (⟨lop2, UsSl.nil _ _, lsu2, TbSl.nil _ _, ⟨i1, j1, k1⟩, Cp.none, ⟨i2, j2, k2⟩, Cp.none⟩ : SaAt w3 ⟨now, hor, x1, op, q1, none, [], 0, x2, su, q2, none, [], 0⟩); have KT := K3.frG Z3.blk HG (FrG.setS _ _ _) OB.frame; unfold setS at OB KT; dsimp only at OB KT; simp only [List.length_nil] at OB KT) | (have K3a := K3.below (below_one _ (.cells #[.int .i64 0, .int .i64 0, .slice none 0 0, .slice none 0 0, .slice none 0 0, .slice none 0 0] 39)); have HG := K3.z.lt; have OB : SB w w3.heap.size 39 ⟨now, hor, x1, op, q1, none, [], 0, x2, su, q2, none, [], 0⟩ (w3.alloc (.cells #[.int .i64 now, .int .i64 hor, .slice x1 op.length q1, .slice none 0 0, .slice x2 su.length q2, .slice none 0 0] 39)) := SB.new K3.s.frame (⟨lop2, UsSl.nil _ _, lsu2, TbSl.nil _ _, ⟨i1, j1, k1⟩, Cp.none, ⟨i2, j2, k2⟩, Cp.none⟩ : SaAt w3 ⟨now, hor, x1, op, q1, none, [], 0, x2, su, q2, none, [], 0⟩) 39; have KT := K3.below (below_one _ (.cells #[.int .i64 now, .int .i64 hor, .slice x1 op.length q1, .slice none 0 0, .slice x2 su.length q2, .slice none 0 0] 39))))) | (refine (HON.out _ K2a.s.at_.op).mono ?_; rintro e w3 ⟨x1, q1, rfl, i1, j1, k1, lop2, h3⟩; have K3 := K2a.below h3; have lsu2 := (lsu2b.below (below_one _ _)).below h3; have Z3 := (SB.new K2.s.frame (SaAt.zero _) 39).below h3; have HG := K2.z.lt; have Z30 := Z3; unfold saO at Z30; obtain ⟨z0, z1, z2, z3, z4, z5⟩ := Z30.cells; obtain ⟨f0, f1, f2, f3, f4, f5⟩ := Z30.free; have hzl := Z30.lt; dsimp only [List.length_nil] at z0 z1 z2 z3 z4 z5; clear Z30; have OB := Z3.set (⟨lop2, UsSl.nil _ _, lsu2, TbSl.nil _ _, ⟨i1, j1, k1⟩, Cp.none, ⟨i2, j2, k2⟩, Cp.none⟩ : SaAt w3 ⟨now, hor, x1, op, q1, none, [], 0, x2, su, q2, none, [], 0⟩); have KT := K3.frG Z3.blk HG (FrG.setS _ _ _) OB.frame; unfold setS at OB KT; dsimp only at OB KT; simp only [List.length_nil] at OB KT)); skip) | (have hseen := lop2b; clear hseen; go_at_call 72; (first | (refine (HSN.out _ K2.s.at_.su).mono ?_; rintro e w3 ⟨x2, q2, rfl, i2, j2, k2, lsu2, h3⟩; have K3 := K2.below h3; have lop2 := lop2b.below h3; (first | (have Z3 := Z2.below h3; have HG : w.heap.size + 1 < w.heap.size + 1 + 1 := Nat.lt_succ_self _; have Z30 := Z3; unfold saO at Z30; obtain ⟨z0, z1, z2, z3, z4, z5⟩ := Z30.cells; obtain ⟨f0, f1, f2, f3, f4, f5⟩ := Z30.free; have hzl := Z30.lt; dsimp only [List.length_nil] at z0 z1 z2 z3 z4 z5; clear Z30; have OB := Z3.set (⟨lop2, UsSl.nil _ _, lsu2, TbSl.nil _ _, ⟨i1, j1, k1⟩, Cp.none, ⟨i2, j2, k2⟩, Cp.none⟩ : SaAt w3 ⟨now, hor, x1, op, q1, none, [], 0, x2, su, q2, none, [], 0⟩); have KT := K3.frG Z3.blk HG (FrG.setS _ _ _) OB.frame; unfold setS at OB KT; dsimp only at OB KT; simp only [List.length_nil] at OB KT) | (have K3a := K3.below (below_one _ (.cells #[.int .i64 0, .int .i64 0, .slice none 0 0, .slice none 0 0, .slice none 0 0, .slice none 0 0] 39)); have HG := K3.z.lt; have OB : SB w w3.heap.size 39 ⟨now, hor, x1, op, q1, none, [], 0, x2, su, q2, none, [], 0⟩ (w3.alloc (.cells #[.int .i64 now, .int .i64 hor, .slice x1 op.length q1, .slice none 0 0, .slice x2 su.length q2, .slice none 0 0] 39)) := SB.new K3.s.frame (⟨lop2, UsSl.nil _ _, lsu2, TbSl.nil _ _, ⟨i1, j1, k1⟩, Cp.none, ⟨i2, j2, k2⟩, Cp.none⟩ : SaAt w3 ⟨now, hor, x1, op, q1, none, [], 0, x2, su, q2, none, [], 0⟩) 39; have KT := K3.below (below_one _ (.cells #[.int .i64 now, .int .i64 hor, .slice x1 op.length q1, .slice none 0 0, .slice x2 su.length q2, .slice none 0 0] 39))))) | (refine (HSN.out _ K2a.s.at_.su).mono ?_; rintro e w3 ⟨x2, q2, rfl, i2, j2, k2, lsu2, h3⟩; have K3 := K2a.below h3; have lop2 := (lop2b.below (below_one _ _)).below h3; have Z3 := (SB.new K2.s.frame (SaAt.zero _) 39).below h3; have HG := K2.z.lt; have Z30 := Z3; unfold saO at Z30; obtain ⟨z0, z1, z2, z3, z4, z5⟩ := Z30.cells; obtain ⟨f0, f1, f2, f3, f4, f5⟩ := Z30.free; have hzl := Z30.lt; dsimp only [List.length_nil] at z0 z1 z2 z3 z4 z5; clear Z30; have OB := Z3.set (⟨lop2, UsSl.nil _ _, lsu2, TbSl.nil _ _, ⟨i1, j1, k1⟩, Cp.none, ⟨i2, j2, k2⟩, Cp.none⟩ : SaAt w3 ⟨now, hor, x1, op, q1, none, [], 0, x2, su, q2, none, [], 0⟩); have KT := K3.frG Z3.blk HG (FrG.setS _ _ _) OB.frame; unfold setS at OB KT; dsimp only at OB KT; simp only [List.length_nil] at OB KT)); skip) | (go_at_call 71; (first | (refine (HON.out _ K1.s.at_.op).mono ?_; rintro e w2 ⟨x1, q1, rfl, i1, j1, k1, lop2, h2⟩; have K2 := K1.below h2; have lop2b := lop2; have K2a := K2.below (below_one _ (.cells #[.int .i64 0, .int .i64 0, .slice none 0 0, .slice none 0 0, .slice none 0 0, .slice none 0 0] 39))) | (refine (HON.out _ K1a.s.at_.op).mono ?_; rintro e w2 ⟨x1, q1, rfl, i1, j1, k1, lop2, h2⟩; have K2 := K1a.below h2; have lop2b := lop2; have Z2 := Z1.below h2)); skip) | (go_at_call 72; (first | (refine (HSN.out _ K1.s.at_.su).mono ?_; rintro e w2 ⟨x2, q2, rfl, i2, j2, k2, lsu2, h2⟩; have K2 := K1.below h2; have lsu2b := lsu2; have K2a := K2.below (below_one _ (.cells #[.int .i64 0, .int .i64 0, .slice none 0 0, .slice none 0 0, .slice none 0 0, .slice none 0 0] 39))) | (refine (HSN.out _ K1a.s.at_.su).mono ?_; rintro e w2 ⟨x2, q2, rfl, i2, j2, k2, lsu2, h2⟩; have K2 := K1a.below h2; have lsu2b := lsu2; have Z2 := Z1.below h2)); skip))
 all_goals
  have TK := Lib.hid KT
  have TO := Lib.hid OB
  have TG := Lib.hid HG
  clear KT OB HG K1 K1b K2 K3 HON HSN HSC Z1 h2 h3
  (try clear Z3)
  (try clear Z2)
  (try clear K2a)
  (try clear K3a)
  (try clear z0 z1 z2 z3 z4 z5 f0 f1 f2 f3 f4 f5 hzl)
  (try clear lop2)
  (try clear lsu2)
  (try clear lop2b)
  (try clear lsu2b)
  (first
   | (generalize ((((((w3.setCell ⟨w2.heap.size, 0, none⟩ (.int .i64 now)).setCell ⟨w2.heap.size, 1, none⟩ (.int .i64 hor)).setCell ⟨w2.heap.size, 2, none⟩ (.slice x1 op.length q1)).setCell ⟨w2.heap.size, 3, none⟩ (.slice none 0 0)).setCell ⟨w2.heap.size, 4, none⟩ (.slice x2 su.length q2)).setCell ⟨w2.heap.size, 5, none⟩ (.slice none 0 0)) = T at *; generalize w2.heap.size = g at *; (have hseen : SB w g 39 ⟨now, hor, x1, op, q1, none, [], 0, x2, su, q2, none, [], 0⟩ T := TO.out; clear hseen))
   | (generalize ((((((w3.setCell ⟨w.heap.size + 1 + 1, 0, none⟩ (.int .i64 now)).setCell ⟨w.heap.size + 1 + 1, 1, none⟩ (.int .i64 hor)).setCell ⟨w.heap.size + 1 + 1, 2, none⟩ (.slice x1 op.length q1)).setCell ⟨w.heap.size + 1 + 1, 3, none⟩ (.slice none 0 0)).setCell ⟨w.heap.size + 1 + 1, 4, none⟩ (.slice x2 su.length q2)).setCell ⟨w.heap.size + 1 + 1, 5, none⟩ (.slice none 0 0)) = T at *; generalize w.heap.size + 1 + 1 = g at *; (have hseen : SB w g 39 ⟨now, hor, x1, op, q1, none, [], 0, x2, su, q2, none, [], 0⟩ T := TO.out; clear hseen))
   | (generalize w3.alloc (.cells #[.int .i64 now, .int .i64 hor, .slice x1 op.length q1, .slice none 0 0, .slice x2 su.length q2, .slice none 0 0] 39) = T at *; generalize w3.heap.size = g at *; (have hseen : SB w g 39 ⟨now, hor, x1, op, q1, none, [], 0, x2, su, q2, none, [], 0⟩ T := TO.out; clear hseen)))
  have N0 : Hid (NewK w T g now hor x1 op.length q1 x2 su.length q2 [] [] (.slice none 0 0) (.slice none 0 0) T) := NewK.start TO.out
  obtain ⟨c0, c1, c2, c3, c4, c5⟩ := TK.out.s.cells
  dsimp only at c3
  go_wp2
  go_loopw [5, 22] (fun pv iv wr => ∃ (j : Nat) (D : List UsL) (v : Value), j ≤ us.length ∧ iv = .int .i64 j ∧ Hid (umS D = (umS us).take j) ∧ Hid (NewK w T g now hor x1 op.length q1 x2 su.length q2 D [] v (.slice none 0 0) wr)) (fun _ iv _ => us.length - (intOf iv).toNat)
  case atStart => exact ⟨0, [], _, by omega, rfl, rfl, N0.out⟩
  case round =>
   clear N0 c0 c1 c2 c3 c4 c5
   obtain ⟨j, D, v, hj, rfl, HM, HN⟩ := hrel
   have hDl : D.length = j := by rw [← umS_len D, HM.out, List.length_take, umS_len]; omega
   by_cases hjl : j < us.length
   ·obtain ⟨b, off, rfl, hbl, r0, r1, hat⟩ := (TK.out.frG TO.out.blk TG.out HN.out.frm HN.out.bel).s.at_.us.get hjl
    dsimp only at r0 r1 hat
    have hb1 := (below_one wr (.cells #[.string us[j].u, .slice us[j].a us[j].l.length us[j].c] 131))
    have HN1 := Lib.hid ((HN.out.below hb1).below (Below.refl _ _).drew)
    have HU1 : Hid (∀ V, Below (wr.alloc (.cells #[.string us[j].u, .slice us[j].a us[j].l.length us[j].c] 131)).heap.size (wr.alloc (.cells #[.string us[j].u, .slice us[j].a us[j].l.length us[j].c] 131)) V → V.cell? ⟨wr.heap.size, 0, none⟩ = some (.string us[j].u) ∧ V.cell? ⟨wr.heap.size, 1, none⟩ = some (.slice us[j].a us[j].l.length us[j].c)) := fun V q => pcell2 ((q.block _ (by rw [size1]; omega)).trans (heap_alloc_new wr _))
    have HSJ := Lib.hid (fun (V : World) (h : StSl V us[j].a us[j].l) => HNS.out us[j] (List.getElem_mem hjl) V h)
    have HT1 := Lib.hid ((hat.st.below hb1).below (Below.refl _ _).drew)
    have HM2 : Hid (∀ y : UsL, y.m = us[j].m → umS (D ++ [y]) = (umS us).take (j + 1)) := fun y hy => by
     rw [umS_snoc, HM.out, List.take_succ_eq_append_getElem (by rw [umS_len]; exact hjl), hy]
     simp [umS]
    have hlt := HN.out.lt
    obtain ⟨⟨c0, c1, c2, c3, c4, c5⟩, g3, g5⟩ := HN1.out.cells
    obtain ⟨u0, u1⟩ := HU1.out _ (Below.refl _ _).drew
    clear HM HNS hat hb1
    generalize us[j] = y at *
    go_wp2_with fail
    go_region_law (first | (have hseen := l4; clear hseen; refine step_own rfl (.tmp 27) (.tmp 34) 35 rfl T.heap.size 108 i0 _ 2 40 Tryz.underlying35 hi hz0 hz1 hz2 rfl (by decide) v D.length (usv D) rfl (own_below HN2.own (below_one _ _)) ⟨w4.heap.size, 0, none⟩ 1 1 [.string y.u, .slice x4 y.l.length q4] rfl rfl (news_at _ _ _ _ rfl) (two_sl _ _ _ _) (by unfold maxLen; omega) (by omega) (HN2.below (below_one _ _)).frm.size ?_; intro v' w5 hown' hgrow; have HB5 := (HN2.below (below_one _ _)).more (y := ⟨y.u, x4, y.l, q4⟩) (own_below l4 (below_one _ _)) hown' hgrow; obtain ⟨ua5, uc5, rfl, -⟩ := own_us HB5.2.own; have hlt5 := Nat.lt_of_lt_of_le HN2.gT (Nat.le_trans (HN2.below (below_one _ (.cells #[.string y.u, .slice x4 y.l.length q4] 108))).frm.size HB5.1.size); obtain ⟨⟨b0, b1, b2, b3, b4, b5⟩, f3, f5⟩ := (HN2.below (below_one _ _)).cellsB HB5.1) | (go_simp; go_at_call 73; refine (HSJ.out _ HT1.out).mono ?_; rintro e w4 ⟨x4, q4, rfl, l4', h4⟩; have l4 := own_low2 l4' HN1.out.frm.size; have HN2 := HN1.out.below h4; obtain ⟨⟨c0, c1, c2, c3, c4, c5⟩, g3, g5⟩ := HN2.cells; obtain ⟨⟨e0, e1, e2, e3, e4, e5⟩, k3, k5⟩ := (HN2.below (below_one _ (.cells #[.string y.u, .slice x4 y.l.length q4] 108))).cells; obtain ⟨u0, u1⟩ := HU1.out _ ((Below.refl _ _).drew.trans h4)))
    all_goals
     have HE5 := Lib.hid HB5.2
     have HE6 := HE5
     have HE7 := HE5
     rw [show (D ++ [(⟨y.u, x4, y.l, q4⟩ : UsL)]).length = j + 1 by rw [List.length_append, hDl]; rfl] at HE6
     rw [show (D ++ [(⟨y.u, x4, y.l, q4⟩ : UsL)]).length = D.length + 1 by rw [List.length_append]; rfl] at HE7
     clear hDl hlt hlt5 HB5 hown' hgrow l4 l4' HN2 HN1 HSJ HT1 HU1 h4
     go_wp2
     go_roundw
     case rel => first | exact ⟨j + 1, D ++ [(⟨y.u, x4, y.l, q4⟩ : UsL)], _, by omega, by go_num, HM2.out ⟨y.u, x4, y.l, q4⟩ rfl, HE6⟩ | exact ⟨j + 1, D ++ [(⟨y.u, x4, y.l, q4⟩ : UsL)], _, by omega, by go_num, HM2.out ⟨y.u, x4, y.l, q4⟩ rfl, HE7⟩ | exact ⟨j + 1, D ++ [(⟨y.u, x4, y.l, q4⟩ : UsL)], _, by omega, by go_num, HM2.out ⟨y.u, x4, y.l, q4⟩ rfl, HE5⟩
     case measure => simp [intOf]; omega
   ·obtain rfl : j = us.length := by omega
    have HM1 : Hid (umS D = umS us) := by
     unfold Hid
     rw [HM.out, List.take_of_length_le (by rw [umS_len]; exact Nat.le_refl _)]
    have HN1 := HN
    obtain ⟨c0, c1, c2, c3, c4, c5⟩ := (TK.out.frG TO.out.blk TG.out HN.out.frm HN.out.bel).s.cells
    dsimp only at c5
    clear HM HNS HN hDl
    generalize wr = W1 at *
    go_wp2
    go_loopw [7, 41] (fun pv iv wr => ∃ (k : Nat) (E : List TbM) (vt : Value), k ≤ tb.length ∧ iv = .int .i64 k ∧ Hid (E = tb.take k) ∧ Hid (NewK w T g now hor x1 op.length q1 x2 su.length q2 D E v vt wr)) (fun _ iv _ => tb.length - (intOf iv).toNat)
    case atStart => exact ⟨0, [], _, by omega, rfl, rfl, HN1.out⟩
    case round =>
     clear HN1 c0 c1 c2 c3 c4 c5
     obtain ⟨k, E, vt, hk, rfl, HE, HN⟩ := hrel
     have hEl : E.length = k := by rw [HE.out, List.length_take]; omega
     by_cases hkl : k < tb.length
     ·obtain ⟨b, off, rfl, hbl, r0, r1⟩ := (TK.out.frG TO.out.blk TG.out HN.out.frm HN.out.bel).s.at_.tb.get hkl
      dsimp only at r0 r1
      have HE2 : Hid (E ++ [tb[k]] = tb.take (k + 1)) := by
       unfold Hid
       rw [HE.out, List.take_succ_eq_append_getElem hkl]
      have hb1 := (below_one wr (.cells #[.string tb[k].u, .int .i64 tb[k].a] 137))
      have HN1 := Lib.hid (HN.out.below hb1)
      have HN2 := Lib.hid ((HN.out.below hb1).below (below_one _ (.cells #[.string tb[k].u, .int .i64 tb[k].a] 141)))
      obtain ⟨u0, u1⟩ := pcell2 (heap_alloc_new wr (.cells #[.string tb[k].u, .int .i64 tb[k].a] 137))
      have HS3 := Lib.hid HN2.out.frm.size
      obtain ⟨⟨c0, c1, c2, c3, c4, c5⟩, g3, g5⟩ := HN1.out.cells
      clear HE HN hb1
      generalize tb[k] = y at *
      go_wp2_with (at_builtin; refine wpList_append_own _ rfl (.tmp 46) (.tmp 48) 37 rfl T.heap.size 141 t0 _ 2 24 Tryz.underlying37 hti htz0 htz1 htz2 rfl (by decide) _ _ _ rfl HN2.out.owt ⟨wr.heap.size + 1, 0, none⟩ 1 1 [.string y.u, .int .i64 y.a] rfl rfl (by rw [← size1 wr (.cells #[.string y.u, .int .i64 y.a] 137)]; exact news_at _ _ _ _ rfl) (two_in _ _) (by unfold maxLen; omega) (by omega) HS3.out ?_; intro v' w5 hown' hgrow hiff; have HB5 := HN2.out.moreT (y := y) hown' hgrow; obtain ⟨ta5, tc5, rfl, -⟩ := own_tb HB5.2.owt; have hlt5 := Nat.lt_of_lt_of_le HN2.out.gT (Nat.le_trans HN2.out.frm.size HB5.1.size); obtain ⟨⟨b0, b1, b2, b3, b4, b5⟩, f3, f5⟩ := HN2.out.cellsB HB5.1)
      have HE5 := Lib.hid HB5.2
      rw [show (E ++ [y]).length = k + 1 by rw [List.length_append, hEl]; rfl] at HE5
      clear hEl HB5 hown' hgrow hiff HN1 HN2 HS3
      go_wp2
      go_roundw
      case rel => exact ⟨k + 1, E ++ [y], _, by omega, by go_num, HE2.out, HE5⟩
      case measure => simp [intOf]; omega
     ·obtain rfl : k = tb.length := by omega
      have HE1 : Hid (E = tb) := by
       unfold Hid
       rw [HE.out, List.take_of_length_le (Nat.le_refl _)]
      obtain ⟨ua', uc', ta', tc', rfl, rfl, HO⟩ := HN.out.fin TO.out
      have HZ := (TK.out.frG TO.out.blk TG.out HN.out.frm HN.out.bel).z
      have hfin := HO.fin HZ
      have HL := Lib.hid hfin.1
      have HFN := Lib.hid (And.intro hfin.2.1 (And.intro (show SaL.m ⟨now, hor, x1, op, q1, ua', D, uc', x2, su, q2, ta', E, tc'⟩ = R by rw [HXM.out, ← HM1.out, ← HE1.out]; rfl) hfin.2.2))
      unfold saO at HZ
      obtain ⟨c0, c1, c2, c3, c4, c5⟩ := HO.cells
      obtain ⟨z0, z1, z2, z3, z4, z5⟩ := HZ.cells
      obtain ⟨y0, y1, y2, y3, y4, y5⟩ := HZ.free
      have hzl := HZ.lt
      unfold setS saV saC at HL
      dsimp only at *
      clear hfin HO HZ HE HE1 HM1 HN hEl TK TO TG
      go_wp2
      refine bodyPost_ret (v := saV ⟨now, hor, x1, op, q1, ua', D, uc', x2, su, q2, ta', E, tc'⟩) ?_ rfl ⟨_, rfl, HFN.out⟩
      rw [results_cell1 rfl]
      unfold saV saC
      simp [asAddr, Result.andThen, HL.out]
end Go.Proofs.YtapacckmgmdnoaaGreat
