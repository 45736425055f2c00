/- Texts of mine, one behind the other, of each what is wanted. -/
import Derived.Test.YtapacckmgmdnoaaGreatR00
import Derived.Test.YtapacckmgmdnoaaGreatShelf
import Derived.Test.YtapacckmgmdnoaaGreatR01
import Derived.Test.YtapacckmgmdnoaaGreatR03
import Derived.Test.YtapacckmgmdnoaaGreatR04
import Derived.Test.YtapacckmgmdnoaaGreatR07
import Derived.Test.YtapacckmgmdnoaaGreatR10
import Derived.Test.YtapacckmgmdnoaaGreatR11
namespace Go.Proofs.YtapacckmgmdnoaaGreat
open Go.RowKit Go.Proofs
set_option linter.unusedVariables false
set_option maxRecDepth 100000
set_option maxRecDepth 100000
section
variable {W : World} {p : Addr} {sa : Option Addr} {sn sc : Nat} (hp : W.cell? p = some (.slice sa sn sc)) (v : Value)
include hp
theorem cell_keep {q : Addr} {x : Value} (h : W.cell? q = some x) (hx : x ≠ .slice sa sn sc) : (W.setCell p v).cell? q = some x := by
 rw [World.cell?_setCell_other W _ _ _ (fun e => by subst e; rw [hp] at h; cases h; exact hx rfl)]
 exact h
theorem OpSl.setC {a : Option Addr} {l : List OpM} (ho : OpSl W a l) : OpSl (W.setCell p v) a l := fun k hk => by
 obtain ⟨b, off, e, hlt, h0, h1, h2, h3⟩ := ho k hk
 exact ⟨b, off, e, by rw [size_set]; exact hlt, cell_keep hp v h0 (by simp), cell_keep hp v h1 (by simp), cell_keep hp v h2 (by simp), cell_keep hp v h3 (by simp)⟩
theorem EnSl.setC {a : Option Addr} {l : List EnM} (ho : EnSl W a l) : EnSl (W.setCell p v) a l := fun k hk => by
 obtain ⟨b, off, e, hlt, h0, h1, h2, h3⟩ := ho k hk
 exact ⟨b, off, e, by rw [size_set]; exact hlt, cell_keep hp v h0 (by simp), cell_keep hp v h1 (by simp), cell_keep hp v h2 (by simp), cell_keep hp v h3 (by simp)⟩
theorem StSl.setC {a : Option Addr} {l : List StM} (ho : StSl W a l) : StSl (W.setCell p v) a l := fun k hk => by
 obtain ⟨b, off, e, hlt, h0, h1, h2, h3⟩ := ho k hk
 exact ⟨b, off, e, by rw [size_set]; exact hlt, cell_keep hp v h0 (by simp), cell_keep hp v h1 (by simp), cell_keep hp v h2 (by simp), cell_keep hp v h3 (by simp)⟩
theorem TbSl.setC {a : Option Addr} {l : List TbM} (ho : TbSl W a l) : TbSl (W.setCell p v) a l := fun k hk => by
 obtain ⟨b, off, e, hlt, h0, h1⟩ := ho k hk
 rw [List.getElem_map] at h0 h1
 refine ⟨b, off, e, by rw [size_set]; exact hlt, ?_, ?_⟩
 ·rw [List.getElem_map]; exact cell_keep hp v h0 (by simp [tbp])
 ·rw [List.getElem_map]; exact cell_keep hp v h1 (by simp [tbp])
theorem UsAt.setC {x : UsL} (h : UsAt W x) : UsAt (W.setCell p v) x := ⟨h.st.setC hp v, h.le, h.mx, h.nil⟩
end
structure OwnU (w : World) (B g : Nat) (t : TypeId) (x : SaL) (W : World) : Prop where
 sb : SB w g t x W
 own : W.ownsRow B 108 2 (.slice x.ua x.us.length x.uc) x.us.length (usv x.us)
 lt : g < B
theorem OwnU.below {w W W' : World} {B g : Nat} {t : TypeId} {x : SaL} (h : OwnU w B g t x W) (q : Below W.heap.size W W') : OwnU w B g t x W' := ⟨h.sb.below q, own_below h.own q, h.lt⟩
def moved (x : SaL) (j : Nat) (a : Option Addr) (c : Nat) : SaL := { x with us := x.us.set j { (x.us.getD j default) with a := a, c := c } }
theorem moved_len (x : SaL) (j : Nat) (a : Option Addr) (c : Nat) : (moved x j a c).us.length = x.us.length := by simp [moved]
theorem moved_m (x : SaL) {j : Nat} (hj : j < x.us.length) (a : Option Addr) (c : Nat) : (moved x j a c).m = x.m := by
 have e : umS ((x.us).set j { (x.us.getD j default) with a := a, c := c }) = umS x.us := by
  unfold umS
  rw [List.map_set]
  have e1 : (({ (x.us.getD j default) with a := a, c := c } : UsL)).m = (x.us.map UsL.m)[j]'(by rw [List.length_map]; exact hj) := by
   rw [List.getElem_map, List.getD_eq_getElem?_getD, List.getElem?_eq_getElem hj]
   rfl
  rw [e1, List.set_getElem_self]
 unfold moved SaL.m
 simp only
 rw [e]
theorem OwnU.store {w W : World} {B g gu : Nat} {t : TypeId} {x : SaL} (h : OwnU w B g t x W) (hgu : x.ua = some ⟨gu, 0, none⟩) {j : Nat} (hj : j < x.us.length) {a : Option Addr} {c n : Nat} (hn : n = x.us[j].l.length) (hs : StSl W a x.us[j].l) (hc : Cp a x.us[j].l.length c) :
  OwnU w B g t (moved x j a c) (W.setCell ⟨gu, j * 2 + 1, none⟩ (.slice a n c)) := by
 subst hn
 have hown := h.own
 rw [hgu] at hown
 obtain ⟨h0, h1⟩ := usv_get hj
 have hp : W.cell? ⟨gu, j * 2 + 1, none⟩ = some (.slice x.us[j].a x.us[j].l.length x.us[j].c) := by rw [hown.cellAt _ (by omega)]; exact h1
 have hlt := hown.lt gu rfl
 have hne : g ≠ gu := by have := h.lt; omega
 have hset : (usv x.us).set (j * 2 + 1) (.slice a x.us[j].l.length c) = usv (moved x j a c).us := by
  unfold moved
  simp only
  rw [List.getD_eq_getElem?_getD, List.getElem?_eq_getElem hj, Option.getD_some, ← usv_set _ _ hj]
  congr 1
  have hl : j * 2 < (usv x.us).length := by rw [usv_len]; omega
  have e0 := h0
  rw [List.getElem?_eq_getElem hl] at e0
  rw [← Option.some.inj e0, List.set_getElem_self]
 have hst := (hown.stored (j * 2 + 1) (.slice a x.us[j].l.length c)).1
 rw [hset] at hst
 have hat : ∀ y ∈ (moved x j a c).us, UsAt (W.setCell ⟨gu, j * 2 + 1, none⟩ (.slice a x.us[j].l.length c)) y := fun y hy => by
  unfold moved at hy
  simp only at hy
  rcases List.mem_or_eq_of_mem_set hy with h2 | rfl
  ·exact (h.sb.at_.us.at_ y h2).setC hp _
  ·have e : x.us.getD j default = x.us[j] := by rw [List.getD_eq_getElem?_getD, List.getElem?_eq_getElem hj, Option.getD_some]
   rw [e]
   exact ⟨hs.setC hp _, hc.le, hc.mx, hc.nil⟩
 have hown2 : (W.setCell ⟨gu, j * 2 + 1, none⟩ (.slice a x.us[j].l.length c)).ownsRow B 108 2 (.slice (moved x j a c).ua (moved x j a c).us.length (moved x j a c).uc) (moved x j a c).us.length (usv (moved x j a c).us) := by
  rw [moved_len]
  show World.ownsRow _ B _ 2 (.slice x.ua _ x.uc) _ _
  rw [hgu]
  exact hst
 have hcells : saC (moved x j a c) = saC x := by
  unfold saC
  rw [moved_len]
  rfl
 refine ⟨⟨?_, h.sb.ge, h.sb.frame.setCell (p := ⟨gu, j * 2 + 1, none⟩) (by have := h.sb.ge; have := h.lt; show w.heap.size ≤ gu; omega) _, ⟨h.sb.at_.op.setC hp _, ⟨?_, hat⟩, h.sb.at_.su.setC hp _, h.sb.at_.tb.setC hp _, h.sb.at_.oc, ?_, h.sb.at_.sc, h.sb.at_.tc⟩⟩, hown2, h.lt⟩
 ·rw [hcells]
  exact (block_far hne).trans h.sb.blk
 ·obtain ⟨a', c', e1, e2, e3, e4, e5⟩ := own_us hown2
  have : (moved x j a c).ua = a' := by injection e1
  rw [this]
  exact e4
 ·rw [moved_len]; exact h.sb.at_.uc
theorem own_far {w : World} {B e k n g i : Nat} {v u : Value} {xs : List Value} (h : w.ownsRow B e k v n xs) (hg : g < B) : (w.setCell ⟨g, i, none⟩ u).ownsRow B e k v n xs := by
 refine ⟨h.1, ?_⟩
 rcases h.2 with h1 | ⟨gu, cap, cur, r1, r2, r3, r4⟩
 ·exact .inl h1
 ·exact .inr ⟨gu, cap, cur, r1, r2, (block_far (by omega)).trans r3, r4⟩
theorem PpSl.us_at {W : World} {a : Option Addr} {D : List UsL} (h : PpSl W a (D.map usp)) {k : Nat} (hk : k < D.length) : ∃ b off, a = some ⟨b, off, none⟩ ∧ W.cell? ⟨b, off + k * 2, none⟩ = some (.string D[k].u) ∧ W.cell? ⟨b, off + k * 2 + 1, none⟩ = some (.slice D[k].a D[k].l.length D[k].c) := by
 obtain ⟨b, off, e, _, h2, h3⟩ := h.at_ (k := k) (by rw [List.length_map]; exact hk)
 rw [List.getElem_map] at h2 h3
 exact ⟨b, off, e, h2, h3⟩
set_option maxHeartbeats 8000000 in
theorem copied_any (x : SaL) (w : World) (h : SaAt w x) (hf : Few x.m 10000) :
  Calls Tryz.prog 132 #[saV x] w fun e w' => ∃ y, e = .returned (saV y) ∧ SaAt w' y ∧ y.m = x.m ∧ Below w.heap.size w w' := by
 have S0 := SB.new (Below.refl w.heap.size w) h 39
 have Z0 := SB.new (S0.frame) (SaAt.zero (w.alloc (.cells (saC x) 39))) 39
 have S1 := S0.alloc (.cells (saC saO) 39)
 obtain ⟨now, hor, oa, op, oc, ua, us, uc, sa, su, sc, ta, tb, tc⟩ := x
 have HCO := Lib.hid (fun V (h : OpSl V oa op) (k : Cp oa op.length oc) => clone_op oa oc op V h k (Nat.le_trans hf.op (by decide)))
 have HCE := Lib.hid (fun V (h : EnSl V sa su) (k : Cp sa su.length sc) => clone_en sa sc su V h k (Nat.le_trans hf.su (by decide)))
 have HCT : Hid (∀ V, TbSl V ta tb → Cp ta tb.length tc → Calls Tryz.prog 142 #[.slice ta tb.length tc] V fun e w' => ∃ v, e = .returned v ∧ w'.ownsRow V.heap.size 141 2 v tb.length (tbv tb) ∧ Below V.heap.size V w') := fun V h k => by
  have := pclone_tb ta tc (tb.map tbp) (tbp_one tb) V h (by rw [List.length_map]; exact k) (by rw [List.length_map]; exact Nat.le_trans hf.tb (by decide))
  rw [List.length_map] at this
  exact this
 have HSA := Lib.hid S1
 have HZA := Lib.hid Z0
 obtain ⟨c0, c1, c2, c3, c4, c5⟩ := S1.cells
 rw [size1] at HZA
 have hgz := S1.lt
 unfold saV saC at *
 dsimp only at *
 go_enter Tryz.func132, Tryz.ntmps132
 go_upto_region 1 with fail
 go_cut [] (fun wx => ∃ oa oc sa sc ta tc, Hid (SB w w.heap.size 39 ⟨now, hor, oa, op, oc, ua, us, uc, sa, su, sc, ta, tb, tc⟩ wx) ∧ Hid (SB w (w.heap.size + 1) 39 saO wx))
 case first =>
  have K1 := HSA.out.drew
  have Z1 := HZA.out.drew
  clear HSA HZA S0 Z0 S1 h hf
  go_region_with (first | (go_at_call 142; refine (HCT.out _ K3.at_.tb K3.at_.tc).mono ?_; rintro e w4 ⟨v4, rfl, o4, h4⟩; obtain ⟨x4, q4, rfl, i4, j4, k4, l4⟩ := own_tb o4; have K4 := K3.below h4; have Z4 := Z3.below h4; have O2 := p2.below h4; have O3 := p3.below h4; have T4 := Cp.mk i4 j4 l4; obtain ⟨d0, d1, d2, d3, d4, d5⟩ := K4.cells; obtain ⟨f0, f1, f2, f3, f4, f5⟩ := K4.free; have hgl := K4.lt) | (go_at_call 141; refine (HCE.out _ K2.at_.su K2.at_.sc).mono ?_; rintro e w3 ⟨v3, rfl, o3, h3⟩; obtain ⟨x3, q3, rfl, i3, j3, p3, l3⟩ := own_en o3; have K3 := K2.below h3; have Z3 := Z2.below h3; have p2 := p2.below h3; have T3 := Cp.mk i3 j3 l3; obtain ⟨d0, d1, d2, d3, d4, d5⟩ := K3.cells) | (go_at_call 140; refine (HCO.out _ K1.at_.op K1.at_.oc).mono ?_; rintro e w2 ⟨v2, rfl, o2, h2⟩; obtain ⟨x2, q2, rfl, i2, j2, p2, l2⟩ := own_op o2; have K2 := K1.below h2; have Z2 := Z1.below h2; have T2 := Cp.mk i2 j2 l2; obtain ⟨d0, d1, d2, d3, d4, d5⟩ := K2.cells))
  all_goals
   have hne : w.heap.size + 1 ≠ w.heap.size := by omega
   have K5 := K4.setOp rfl O2 T2
   have K6 := K5.setSu rfl (O3.setB K4.blk 2 (.slice x2 op.length q2)) T3
   have K7 := K6.setTb rfl ((k4.setB K4.blk 2 (.slice x2 op.length q2)).setB K5.blk 4 (.slice x3 su.length q3)) T4
   have Z5 := Z4.far K4 hne 2 (.slice x2 op.length q2)
   have Z6 := Z5.far K5 hne 4 (.slice x3 su.length q3)
   have Z7 := Z6.far K6 hne 5 (.slice x4 tb.length q4)
   have HK7 := Lib.hid K7
   have HZ7 := Lib.hid Z7
   clear K1 K2 K3 K4 K5 K6 K7 Z1 Z2 Z3 Z4 Z5 Z6 Z7 HCO HCE HCT o2 o3 o4 k4 p2 p3 O2 O3 T2 T3 T4 i2 i3 i4 j2 j3 j4 l2 l3 l4 h2 h3 h4
   go_wp2_with fail
   go_meet
   exact ⟨x2, q2, x3, q3, x4, q4, HK7, HZ7⟩
 case rest =>
  clear HSA HZA S0 Z0 S1 c0 c1 c2 c3 c4 c5 HCO HCE HCT
  obtain ⟨oa', oc', sa', sc', ta', tc', HK, HZ⟩ := hcut
  obtain ⟨c0, c1, c2, c3, c4, c5⟩ := HK.out.cells
  have HCU := Lib.hid (pclone_us ua uc (us.map usp) (usp_one us) wc HK.out.at_.us.row (by rw [List.length_map]; exact HK.out.at_.uc) (by rw [List.length_map]; have := hf.us; unfold SaL.m at this; simp only at this; rw [umS_len] at this; omega))
  rw [List.length_map] at HCU
  have hst : ∀ y ∈ us, y.l.length ≤ 10000 := fun y hy => by
   have := hf.st y.m (List.mem_map_of_mem hy)
   exact this
  have HST := Lib.hid hst
  have hun : us.length ≤ 10000 := by have := hf.us; unfold SaL.m at this; simp only at this; rw [umS_len] at this; exact this
  clear h hf hst
  dsimp only at *
  go_wp2_with fail
  refine HCU.out.mono ?_
  rintro e w2 ⟨v, rfl, ho, hB⟩
  have K2 := HK.out.below hB
  have Z2 := HZ.out.below hB
  obtain ⟨xu, qu, rfl, hlu, hmu, hru, hnu⟩ := own_us (D := us) ho
  have hUS : UsSl w2 xu us := ⟨hru, fun y hy => K2.at_.us.at_ y hy⟩
  have K3 := K2.setUs rfl hUS ⟨hlu, hmu, hnu⟩
  have Z3 := Z2.far K2 (by omega) 3 (.slice xu us.length qu)
  have hgB : w.heap.size < wc.heap.size := HK.out.lt
  have U3 : OwnU w wc.heap.size w.heap.size 39 ⟨now, hor, oa', op, oc', xu, us, qu, sa', su, sc', ta', tb, tc'⟩ (w2.setCell ⟨w.heap.size, 3, none⟩ (.slice xu us.length qu)) := ⟨K3, own_far ho hgB, hgB⟩
  have HU3 := Lib.hid U3
  have HZ3 := Lib.hid Z3
  have HGB := Lib.hid hgB
  have HZC := Lib.hid HZ.out.lt
  clear c0 c1 c2 c3 c4 c5
  obtain ⟨c0, c1, c2, c3, c4, c5⟩ := K2.cells
  obtain ⟨f0, f1, f2, f3, f4, f5⟩ := K2.free
  have hgl := K2.lt
  obtain ⟨-, -, -, d3, -, -⟩ := K3.cells
  dsimp only at *
  clear ho hB K2 Z2 hUS K3 Z3 U3 HK HZ HCU hru
  go_wp2
  go_loopw [24] (fun iv wr => ∃ (j : Nat) (y : SaL), j ≤ us.length ∧ iv = .int .i64 j ∧ Hid (OwnU w wc.heap.size w.heap.size 39 y wr) ∧ Hid (y.m = ⟨now, hor, op, umS us, su, tb⟩ ∧ y.ua = xu ∧ y.us.length = us.length ∧ y.uc = qu) ∧ Hid (SB w (w.heap.size + 1) 39 saO wr)) (fun iv _ => us.length - (intOf iv).toNat)
  case atStart => exact ⟨0, _, by omega, rfl, HU3.out, ⟨rfl, rfl, rfl, rfl⟩, HZ3.out⟩
  case round =>
   clear HU3 HZ3 c0 c1 c2 c3 c4 c5 f0 f1 f2 f3 f4 f5 d3
   obtain ⟨j, y, hj, rfl, HU, HY, HZ⟩ := hrel
   by_cases hjl : j < us.length
   ·obtain ⟨hy1, hy2, hy3, hy4⟩ := HY.out
    have hjy : j < y.us.length := by omega
    have hyl : y.us[j].l.length ≤ 10000 := by
     have e1 : umS y.us = umS us := by have := hy1; unfold SaL.m at this; injection this
     have e2 : (y.us[j]).m ∈ umS us := by rw [← e1]; exact List.mem_map_of_mem (List.getElem_mem hjy)
     obtain ⟨z, hz, e3⟩ := List.mem_map.1 e2
     have := HST.out z hz
     have e4 : z.l = y.us[j].l := by have := congrArg UsM.l e3; exact this
     rw [← e4]; exact this
    obtain ⟨b, off, e1, hc0, hc1⟩ := HU.out.sb.at_.us.row.us_at hjy
    have hown := HU.out.own
    have hb0 : ∃ gu, xu = some ⟨gu, 0, none⟩ := by
     rcases hown.2 with ⟨e2, hn0⟩ | ⟨gu, _, _, e2, _⟩
     ·omega
     ·injection e2 with e2; exact ⟨gu, by rw [← hy2]; exact e2⟩
    obtain ⟨gu, rfl⟩ := hb0
    rw [hy2] at e1
    have e1' : gu = b ∧ 0 = off := by
     injection e1 with e1
     injection e1 with k1 k2
     exact ⟨k1, k2⟩
    obtain ⟨rfl, rfl⟩ := e1'
    clear e1
    have hgu : wc.heap.size ≤ gu ∧ gu < wr.heap.size := by
     have := hown.lt gu (by rw [hy2]; rfl)
     exact this
    have hb1 := below_one wr (.cells #[.string y.us[j].u, .slice y.us[j].a y.us[j].l.length y.us[j].c] 108)
    have U1 := HU.out.below hb1
    have Z1 := HZ.out.below hb1
    have hbk := heap_alloc_new wr (.cells #[.string y.us[j].u, .slice y.us[j].a y.us[j].l.length y.us[j].c] 108)
    have hS : ∀ V, OwnU w wc.heap.size w.heap.size 39 y V → Below (wr.alloc (.cells #[.string y.us[j].u, .slice y.us[j].a y.us[j].l.length y.us[j].c] 108)).heap.size (wr.alloc (.cells #[.string y.us[j].u, .slice y.us[j].a y.us[j].l.length y.us[j].c] 108)) V → V.cell? ⟨w.heap.size, 3, none⟩ = some (.slice (some ⟨gu, 0, none⟩) us.length qu) ∧ V.cell? ⟨wr.heap.size, 1, none⟩ = some (.slice y.us[j].a y.us[j].l.length y.us[j].c) := fun V h q => by
     obtain ⟨-, -, -, k3, -, -⟩ := h.sb.cells
     rw [hy2, hy3, hy4] at k3
     exact ⟨k3, (pcell2 ((q.block _ (by rw [size1]; omega)).trans hbk)).2⟩
    have hS2 : ∀ V, OwnU w wc.heap.size w.heap.size 39 y V → Below (wr.alloc (.cells #[.string y.us[j].u, .slice y.us[j].a y.us[j].l.length y.us[j].c] 108)).heap.size (wr.alloc (.cells #[.string y.us[j].u, .slice y.us[j].a y.us[j].l.length y.us[j].c] 108)) V → ∀ v, (V.setCell ⟨gu, j * 2 + 1, none⟩ v).cell? ⟨w.heap.size, 3, none⟩ = some (.slice (some ⟨gu, 0, none⟩) us.length qu) ∧ (V.setCell ⟨gu, j * 2 + 1, none⟩ v).cell? ⟨wr.heap.size, 1, none⟩ = some (.slice y.us[j].a y.us[j].l.length y.us[j].c) := fun V h q v => by
     obtain ⟨k1, k2⟩ := hS V h q
     have hgw : w.heap.size ≠ gu := by have := HGB.out; omega
     have hgr : wr.heap.size ≠ gu := by omega
     exact ⟨(cell_far (p := ⟨w.heap.size, 3, none⟩) hgw).trans k1, (cell_far (p := ⟨wr.heap.size, 1, none⟩) hgr).trans k2⟩
    have HSC := Lib.hid hS
    have HSD := Lib.hid hS2
    have HCL := Lib.hid (fun V (h : StSl V y.us[j].a y.us[j].l) (k : Cp y.us[j].a y.us[j].l.length y.us[j].c) => clone_st y.us[j].a y.us[j].c y.us[j].l V h k (by omega))
    have HUA : Hid (∀ V, OwnU w wc.heap.size w.heap.size 39 y V → UsAt V y.us[j]) := fun V h => h.sb.at_.us.at_ _ (List.getElem_mem hjy)
    have HSR := Lib.hid (fun V (h : OwnU w wc.heap.size w.heap.size 39 y V) (a : Option Addr) (c n : Nat) hn hs hc => h.store (gu := gu) hy2 hjy (a := a) (c := c) (n := n) hn hs hc)
    have HZR : Hid (∀ V, SB w (w.heap.size + 1) 39 saO V → OwnU w wc.heap.size w.heap.size 39 y V → w.heap.size + 1 < wc.heap.size → ∀ v, SB w (w.heap.size + 1) 39 saO (V.setCell ⟨gu, j * 2 + 1, none⟩ v)) := fun V hz hu hlt v => by
     have hn2 := hu.own
     rw [hy2] at hn2
     obtain ⟨_, h1⟩ := usv_get hjy
     have hp : V.cell? ⟨gu, j * 2 + 1, none⟩ = some (.slice y.us[j].a y.us[j].l.length y.us[j].c) := by rw [hn2.cellAt _ (by omega)]; exact h1
     exact ⟨(block_far (by omega)).trans hz.blk, hz.ge, hz.frame.setCell (p := ⟨gu, j * 2 + 1, none⟩) (by have := hz.ge; have := HGB.out; show w.heap.size ≤ gu; omega) _, SaAt.zero _⟩
    have HYN : Hid (∀ a c, (moved y j a c).m = ⟨now, hor, op, umS us, su, tb⟩ ∧ (moved y j a c).ua = some ⟨gu, 0, none⟩ ∧ (moved y j a c).us.length = us.length ∧ (moved y j a c).uc = qu) := fun a c => ⟨(moved_m y hjy a c).trans hy1, hy2, (moved_len y j a c).trans hy3, hy4⟩
    have hzlt : w.heap.size + 1 < wc.heap.size := HZC.out
    have U2 := U1.below (Below.refl _ _).drew
    have Z2 := Z1.below (Below.refl _ _).drew
    have Q2 : Below (wr.alloc (.cells #[.string y.us[j].u, .slice y.us[j].a y.us[j].l.length y.us[j].c] 108)).heap.size (wr.alloc (.cells #[.string y.us[j].u, .slice y.us[j].a y.us[j].l.length y.us[j].c] 108)) (wr.alloc (.cells #[.string y.us[j].u, .slice y.us[j].a y.us[j].l.length y.us[j].c] 108)).drew := (Below.refl _ _).drew
    have hFR : Hid (∀ V, OwnU w wc.heap.size w.heap.size 39 y V → V.cell? ⟨gu, j * 2 + 1, none⟩ = some (.slice y.us[j].a y.us[j].l.length y.us[j].c) ∧ V.frozen? ⟨gu, j * 2 + 1, none⟩ = false ∧ gu < V.heap.size) := fun V hu => by
     have hn2 := hu.own
     rw [hy2] at hn2
     obtain ⟨_, h1⟩ := usv_get hjy
     exact ⟨by rw [hn2.cellAt _ (by omega)]; exact h1, hn2.frozenAt _, (hn2.lt gu rfl).2⟩
    rw [Nat.zero_add] at hc0 hc1
    clear hown hb1 U1 Z1 hbk hS hS2 hy1 hy2 hy3 hy4 HU HY HZ HST
    generalize y.us[j] = z at *
    go_wp2_with fail
    go_region_held3 (fun V => V.cell? ⟨w.heap.size, 3, none⟩ = some (.slice (some ⟨gu, 0, none⟩) us.length qu) ∧ V.cell? ⟨wr.heap.size, 1, none⟩ = some (.slice z.a z.l.length z.c))
     (first | with_reducible exact HSC.out _ U2 Q2 | with_reducible exact HSC.out _ U3 Q3 | with_reducible exact HSD.out _ U3 Q3 _)
     (first | (go_at_call 89; refine (HCL.out _ (HUA.out _ U2).st ⟨(HUA.out _ U2).le, (HUA.out _ U2).mx, (HUA.out _ U2).nil⟩).mono ?_; rintro e w3 ⟨v3, rfl, o3, h3⟩; obtain ⟨x3, q3, rfl, i3, j3, k3, l3⟩ := own_st o3; have U3 := U2.below h3; have Z3 := Z2.below h3; have Q3 := Q2.trans (h3.mono Q2.size); obtain ⟨g1, g2, g3⟩ := hFR.out _ U3))
    have HN := Lib.hid (HSR.out _ U3 x3 q3 _ rfl k3 ⟨i3, j3, l3⟩)
    have HZN := Lib.hid (HZR.out _ Z3 U3 hzlt (.slice x3 z.l.length q3))
    clear HSC HSD HCL HUA HSR HZR hFR U2 U3 Z2 Z3 Q2 Q3 o3 k3 i3 j3 l3 h3 g1 g2 g3
    go_wp2
    go_roundw
    case rel => exact ⟨j + 1, _, by omega, by go_num, HN.out, HYN.out x3 q3, HZN.out⟩
    case measure => simp [intOf]; omega
   ·have hlt : ¬ (j : Int) < (us.length : Int) := by omega
    obtain ⟨c0, c1, c2, c3, c4, c5⟩ := HU.out.sb.cells
    obtain ⟨z0, z1, z2, z3, z4, z5⟩ := HZ.out.cells
    obtain ⟨f0, f1, f2, f3, f4, f5⟩ := HZ.out.free
    have hgl := HZ.out.lt
    have hF := HZ.out.set HU.out.sb.at_
    have HL := Lib.hid (loadS6 hF.blk)
    have HFN := Lib.hid (And.intro hF.at_ (And.intro HY.out.1 hF.frame))
    unfold setS saV saC at HL
    unfold saO at z0 z1 z2 z3 z4 z5
    dsimp only at z0 z1 z2 z3 z4 z5
    clear hF HU HY HZ HST HGB
    go_wp2
    refine bodyPost_ret (v := saV y) ?_ rfl ⟨y, rfl, HFN.out⟩
    rw [results_cell1 rfl]
    unfold saV saC
    simp [asAddr, Result.andThen, HL.out]
end Go.Proofs.YtapacckmgmdnoaaGreat
