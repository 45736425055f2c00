/- Texts of mine, one behind the other, of each what is wanted. -/
import Derived.Test.YtjhdhfokhkcamaaGreatS00
import Derived.Test.YtjhdhfokhkcamaaGreatShelf
import Derived.Test.YtjhdhfokhkcamaaGreatRows
import Derived.Test.YtjhdhfokhkcamaaGreatS02
import Derived.Test.YtjhdhfokhkcamaaGreatS03
import Derived.Test.YtjhdhfokhkcamaaGreatS04
import Derived.Test.YtjhdhfokhkcamaaGreatS06
import Derived.Test.YtjhdhfokhkcamaaGreatS07
import Derived.Test.YtjhdhfokhkcamaaGreatS09
import Derived.Test.YtjhdhfokhkcamaaGreatS13
import Derived.Test.YtjhdhfokhkcamaaGreatS14
import Derived.Test.YtjhdhfokhkcamaaGreatS17
import Derived.Test.YtjhdhfokhkcamaaGreatS22
import Derived.Test.YtjhdhfokhkcamaaGreatS23
import Derived.Test.YtjhdhfokhkcamaaGreatS29
import Derived.Test.YtjhdhfokhkcamaaGreatS32
import Derived.Test.YtjhdhfokhkcamaaGreatS33
import Derived.Test.YtjhdhfokhkcamaaGreatS35
import Derived.Test.YtjhdhfokhkcamaaGreatS40
import Derived.Test.YtjhdhfokhkcamaaGreatS41
import Derived.Test.YtjhdhfokhkcamaaGreatS43
import Derived.Test.YtjhdhfokhkcamaaGreatS46
import Derived.Test.YtjhdhfokhkcamaaGreatS49
import Derived.Test.YtjhdhfokhkcamaaGreatS51
namespace Go.Proofs.YtjhdhfokhkcamaaGreat
open Go.RowKit Go.Proofs
set_option linter.unusedVariables false
set_option maxRecDepth 100000
theorem s_rafter11 (a : Option Addr) (c : Nat) (l : List StM) (t : Int) (u : ByteArray) (W : World) (h : StSl W a l) (hl : l.length ≤ 1000) : Calls Tryz.prog 79 #[.slice a l.length c, .int .i64 t] W fun e w' => ∃ x q, e = .returned (.slice x (aftS l t).length q) ∧ OwnStR w' W.heap.size ⟨u, x, aftS l t, q⟩ ∧ Below W.heap.size W w' := by
 refine Calls.mono (refAfter_any a c l t W h ?_) ?_
 ·omega
 rintro e w' ⟨v, rfl, ho, hb⟩
 obtain ⟨x, q, rfl, h1, h2, h3, h4⟩ := own_st ho
 exact ⟨x, q, rfl, ho, hb⟩
theorem stay_userR : 77 ≠ 135 := by decide
set_option maxHeartbeats 1000000 in
theorem rprune_any11 (x : SaL) (w : World) (h : SaAt w x) (hr : RightS x.m) (hc : stCnt x.m ≤ 220) :
  Calls Tryz.prog 25 #[saV x] w (Is w (pruneS x.m)) := by
 obtain ⟨HK, HZ⟩ := two_SB h 27 27
 obtain ⟨i0, hi, hz0, hz1, hz2⟩ := info_parts infoUsR
 have hf := few_of hr hc
 have HS := Lib.hid HK
 have HZZ := Lib.hid HZ
 obtain ⟨c0, c1, c2, c3, c4, c5⟩ := HK.cells
 obtain ⟨now, hor, oa, op, oc, ua, us, uc, sa, su, sc, ta, tb, tc⟩ := x
 have hun : us.length ≤ 220 := by have := hf.us; unfold SaL.m at this; simp only at this; rwa [umS_len] at this
 have hst : ∀ y ∈ us, y.l.length ≤ 220 := umS_st hf.st
 have HSA := Lib.hid (fun V (h : EnSl V sa su) => e_rafter sa sc su hor V h (Nat.le_trans hf.su (by decide)))
 have HAF := Lib.hid (fun V (y : UsL) (hy : y ∈ us) (h : StSl V y.a y.l) => s_rafter11 y.a y.c y.l hor y.u V h (by have := hst y hy; omega))
 have HPN := Lib.hid (fun j (hj : j < (umS us).length) => pruneU_next (umS us) hor j hj)
 have HML := Lib.hid (umS_len us)
 have HSZ : Hid (((w.alloc (.cells (saC ⟨now, hor, oa, op, oc, ua, us, uc, sa, su, sc, ta, tb, tc⟩) 27)).alloc (.cells (saC saO) 27)).heap.size = w.heap.size + 2) := by unfold Hid; rw [size1, size1]
 unfold saV saC at *
 dsimp only at *
 clear h hr hc HK HZ hf hst
 go_enter Tryz.func25, Tryz.ntmps25
 go_wp2
 obtain ⟨T, hT⟩ : ∃ T, T = ((w.alloc (.cells #[.int .i64 now, .int .i64 hor, .slice oa op.length oc, .slice ua us.length uc, .slice sa su.length sc, .slice ta tb.length tc] 27)).alloc (.cells #[.int .i64 0, .int .i64 0, .slice none 0 0, .slice none 0 0, .slice none 0 0, .slice none 0 0] 27)) := ⟨_, rfl⟩
 rw [← hT]
 have HS1 : Hid (SB w w.heap.size 27 ⟨now, hor, oa, op, oc, ua, us, uc, sa, su, sc, ta, tb, tc⟩ T) := by rw [hT]; exact HS.out
 have HZ1 : Hid (SB w (w.heap.size + 1) 27 saO T) := by rw [hT]; exact HZZ.out
 have hsz : T.heap.size = w.heap.size + 2 := by rw [hT]; exact HSZ.out
 have HSZ1 := Lib.hid hsz
 clear HS HZZ HSZ hT c0 c1 c2 c3 c4 c5 hsz
 go_loopw [3, 4, 5] (fun v iv lv wr => ∃ (j : Nat) (D : List UsL), j ≤ us.length ∧ iv = .int .i64 j ∧ D.length ≤ j ∧ Hid (wr.ownsRow T.heap.size 77 2 v D.length (usv D)) ∧ Hid (∀ y ∈ D, OwnStR wr T.heap.size y) ∧ Hid (umS D = pruneU ((umS us).take j) hor) ∧ Hid (Below T.heap.size T wr)) (fun _ iv _ _ => us.length - (intOf iv).toNat)
 case atStart => exact ⟨0, [], by omega, rfl, Nat.le_refl _, ⟨rfl, .inl ⟨rfl, rfl⟩⟩, (fun y hy => by cases hy), rfl, Below.refl _ _⟩
 case round =>
  obtain ⟨j, D, hj, rfl, hD, HO, HD, HM, HB⟩ := hrel
  have hS := HS1.out.below HB.out
  obtain ⟨c0, c1, c2, c3, c4, c5⟩ := hS.cells
  have hgl := hS.lt
  by_cases hjl : j < us.length
  ·obtain ⟨b, off, rfl, hbl, r0, r1, hat⟩ := hS.at_.us.get hjl
   have hSd := hS.below (Below.refl _ _).drew
   have HPJ : Hid (pruneU ((umS us).take (j + 1)) hor = pruneU ((umS us).take j) hor ++ (if (aftS us[j].l hor).isEmpty = true then [] else [⟨us[j].u, aftS us[j].l hor⟩])) := by
    have := HPN.out j (by rw [HML.out]; exact hjl)
    rw [show (umS us)[j]'(by rw [HML.out]; exact hjl) = (us[j]).m by simp [umS]] at this
    exact this
   have HROW : Hid (∀ V, Below T.heap.size T V → V.cell? ⟨b, off + j * 2, none⟩ = some (.string (us[j]).u) ∧ V.cell? ⟨w.heap.size, 3, none⟩ = some (.slice (some ⟨b, off, none⟩) us.length uc)) := fun V q => by
    have hV := HS1.out.below q
    obtain ⟨b', off', e, -, k0, k1, -⟩ := hV.at_.us.get hjl
    cases e
    exact ⟨k0, hV.cells.2.2.2.1⟩
   have HCA := Lib.hid (fun V (h : StSl V us[j].a us[j].l) => HAF.out V us[j] (List.getElem_mem hjl) h)
   have HSJ := Lib.hid (hat.st.below (Below.refl _ _).drew)
   have HO1 := Lib.hid (own_below HO.out (Below.refl _ _).drew)
   have HD1 : Hid (∀ y ∈ D, OwnStR wr.drew T.heap.size y) := fun y hy => own_below (HD.out y hy) (Below.refl _ _).drew
   have HB1 := Lib.hid (HB.out.trans ((Below.refl _ wr).drew.mono HB.out.size))
   clear HO HD HB HAF HPN hat hS hSd
   generalize us[j] = y at *
   dsimp only at *
   go_wp2_with fail
   go_still_tail 8, (by kernel_rfl)
   change wpList _ _ _ _ _ wr.drew
   generalize wr.drew = wd at *
   clear c0 c1 c2 c3 c4 c5 r0 r1 hgl
   go_wp2_with fail
   refine (HCA.out _ HSJ.out).mono ?_
   rintro e w1 ⟨x1, q1, rfl, l1, h1⟩
   have HO2 := Lib.hid (own_below HO1.out h1)
   have HD2 : Hid (∀ y ∈ D, OwnStR w1 T.heap.size y) := fun y hy => own_below (HD1.out y hy) h1
   have HB2 := Lib.hid (HB1.out.trans (h1.mono HB1.out.size))
   have HL1 := Lib.hid (own_from l1 HB1.out.size)
   obtain ⟨k0, k1⟩ := HROW.out _ HB2.out
   clear HO1 HD1 HB1 HCA l1 h1 HSJ
   by_cases hemp : (aftS y.l hor).length = 0
   ·have HN : Hid (umS D = pruneU ((umS us).take (j + 1)) hor) := by
     unfold Hid
     rw [HPJ.out, if_pos (by rw [List.isEmpty_iff]; exact List.eq_nil_of_length_eq_zero hemp), List.append_nil]
     exact HM.out
    clear HPJ HM HROW
    go_wp2
    go_roundw
    case rel => exact ⟨j + 1, D, by omega, by go_num, by omega, HO2.out, HD2.out, HN.out, HB2.out⟩
    case measure => simp [intOf]; omega
   ·have HN : Hid (umS (D ++ [(⟨y.u, x1, aftS y.l hor, q1⟩ : UsL)]) = pruneU ((umS us).take (j + 1)) hor) := by
     unfold Hid
     rw [HPJ.out, if_neg (by rw [List.isEmpty_iff]; intro e; rw [e] at hemp; exact hemp rfl), ← HM.out]
     unfold umS
     rw [List.map_append]
     rfl
    have hb2 := below_one w1 (.cells #[.string y.u, .slice x1 (aftS y.l hor).length q1] 77)
    have HO3 := Lib.hid (own_below HO2.out hb2)
    have HB3 := Lib.hid (HB2.out.trans (hb2.mono HB2.out.size))
    have HS3 := Lib.hid HB3.out.size
    have HD3 : Hid (∀ z ∈ D ++ [(⟨y.u, x1, aftS y.l hor, q1⟩ : UsL)], OwnStR (w1.alloc (.cells #[.string y.u, .slice x1 (aftS y.l hor).length q1] 77)) T.heap.size z) := fun z hz => by
     rcases List.mem_append.1 hz with h | h
     ·exact own_below (HD2.out z h) hb2
     ·rw [List.mem_singleton.1 h]; exact own_below HL1.out hb2
    have hlen : (D ++ [(⟨y.u, x1, aftS y.l hor, q1⟩ : UsL)]).length ≤ j + 1 := by rw [List.length_append, List.length_singleton]; omega
    have hpos : 0 < (aftS y.l hor).length := by omega
    clear HPJ HM hb2 HROW
    go_wp2_with (at_builtin; refine wpList_append_own _ rfl (.tmp 25) (.tmp 34) 23 rfl T.heap.size 77 i0 _ 2 40 Tryz.underlying23 hi hz0 hz1 hz2 rfl (by decide) _ _ _ rfl HO3.out ⟨w1.heap.size, 0, none⟩ 1 1 [.string y.u, .slice x1 (aftS y.l hor).length q1] rfl rfl (news_at _ _ _ _ rfl) (by intro u hu; simp at hu; rcases hu with rfl | rfl <;> rfl) (by unfold maxLen; omega) (by omega) HS3.out ?_; intro v' w2 hown' hgrow hiff)
    have HB4 := Lib.hid (app_below HB3.out HS3.out HO3.out hgrow)
    have HO4 : Hid (w2.ownsRow T.heap.size 77 2 v' (D ++ [(⟨y.u, x1, aftS y.l hor, q1⟩ : UsL)]).length (usv (D ++ [(⟨y.u, x1, aftS y.l hor, q1⟩ : UsL)]))) := by unfold Hid; rw [usv_snoc, List.length_append]; exact hown'
    have HD4 : Hid (∀ z ∈ D ++ [(⟨y.u, x1, aftS y.l hor, q1⟩ : UsL)], OwnStR w2 T.heap.size z) := fun z hz => own_grown HO3.out (HD3.out z hz) stay_userR hgrow
    clear hown' hgrow hiff HO2 HD2 HB2 HO3 HD3 HB3 HS3 HL1 k0 k1
    go_wp2
    go_roundw
    case rel => exact ⟨j + 1, D ++ [(⟨y.u, x1, aftS y.l hor, q1⟩ : UsL)], by omega, by go_num, hlen, HO4.out, HD4.out, HN.out, HB4.out⟩
    case measure => simp [intOf]; omega
  ·obtain rfl : j = us.length := by omega
   have hZ := HZ1.out.below HB.out
   rw [List.take_of_length_le (by rw [HML.out]; exact Nat.le_refl _)] at HM
   obtain ⟨xu, qu, rfl, hlu, hmu, hru, hnu⟩ := own_us (D := D) HO.out
   have hUS : UsSl wr xu D := ⟨hru, fun y hy => (HD.out y hy).at_⟩
   have A1 := hS
   have A2 := A1.setUs rfl hUS ⟨hlu, hmu, hnu⟩
   have B2 := hZ.far A1 (by omega) 3 (.slice xu D.length qu)
   obtain ⟨f0, f1, f2, f3, f4, f5⟩ := A1.free
   obtain ⟨d0, d1, d2, d3, d4, d5⟩ := A2.cells
   have HK2 := Lib.hid A2
   have HZ2 := Lib.hid B2
   dsimp only at *
   clear hS hZ hUS HO HD HB HAF HPN hru HS1 HZ1 HSZ1 HML A1 A2 B2 hlu hmu hnu
   go_wp2_with fail
   refine (HSA.out _ HK2.out.at_.su).mono ?_
   rintro e w1 ⟨x3, q3, rfl, i3, j3, k3, l3, h3⟩
   have A3 := HK2.out.below h3
   have B3 := HZ2.out.below h3
   have A4 := A3.setSu rfl l3 ⟨i3, j3, k3⟩
   have B4 := B3.far A3 (by omega) 4 (.slice x3 (su.filter (afE hor)).length q3)
   have hfin := A4.finR B4
   have hym : (⟨now, hor, oa, op, oc, xu, D, qu, x3, su.filter (afE hor), q3, ta, tb, tc⟩ : SaL).m = pruneS (⟨now, hor, oa, op, oc, ua, us, uc, sa, su, sc, ta, tb, tc⟩ : SaL).m := by
    unfold SaL.m pruneS
    simp only
    rw [HM.out]
    rfl
   clear c0 c1 c2 c3 c4 c5 f0 f1 f2 f3 f4 f5 d0 d1 d2 d3 d4 d5 hgl
   obtain ⟨c0, c1, c2, c3, c4, c5⟩ := A3.cells
   obtain ⟨f0, f1, f2, f3, f4, f5⟩ := A3.free
   have hgl := A3.lt
   obtain ⟨d0, d1, d2, d3, d4, d5⟩ := A4.cells
   obtain ⟨z0, z1, z2, z3, z4, z5⟩ := B4.cells
   obtain ⟨y0, y1, y2, y3, y4, y5⟩ := B4.free
   have hzl := B4.lt
   have HL := Lib.hid hfin.1
   have HFN := Lib.hid (And.intro hfin.2.1 (And.intro hym hfin.2.2))
   unfold setS saV saC at HL
   (try unfold saV at *)
   (try unfold saC at *)
   unfold saO at z0 z1 z2 z3 z4 z5
   dsimp only at *
   clear A3 B3 A4 B4 hfin hym HSA HK2 HZ2 HM i3 j3 k3 l3 h3
   go_wp2
   refine bodyPost_ret (v := saV ⟨now, hor, oa, op, oc, xu, D, qu, x3, su.filter (afE hor), q3, ta, tb, tc⟩) ?_ rfl ⟨_, rfl, HFN.out⟩
   rw [results_cell1 rfl]
   unfold saV saC
   simp [asAddr, Result.andThen, HL.out]
end Go.Proofs.YtjhdhfokhkcamaaGreat
namespace Go.Proofs.YtjhdhfokhkcamaaGreat
open Go.ChangeShapes Go.WideShapes Go.ChangeAt Go.RowKit
set_option linter.unusedVariables false
set_option maxRecDepth 100000
theorem sliceLen_le {H : Type} (d : DataW H) : Go.Joins.sliceLen d ≤ Rows.uptoBulk d := by
 have h1 : ∀ l : List (DataW H), l.length ≤ Rows.uptoBulkAll l := by
  intro l
  induction l with
  | nil => simp
  | cons x l ih =>
   have h2 : 1 ≤ Rows.uptoBulk x := by
    cases x with
    | lit l => cases l <;> simp [Rows.uptoBulk]
    | nil => simp [Rows.uptoBulk]
    | ptr d => simp [Rows.uptoBulk]
    | slice elems spare => simp [Rows.uptoBulk]
    | agg parts => simp [Rows.uptoBulk]
    | iface t d => simp [Rows.uptoBulk]
    | map entries => simp [Rows.uptoBulk]
    | held h => simp [Rows.uptoBulk]
   simp only [Rows.uptoBulkAll, List.length_cons]
   omega
 cases d with
 | slice elems spare =>
  have h2 := h1 elems
  have h3 := h1 spare
  simp only [Go.Joins.sliceLen, Rows.uptoBulk]
  omega
 | lit l => simp [Go.Joins.sliceLen]
 | nil => simp [Go.Joins.sliceLen]
 | ptr d => simp [Go.Joins.sliceLen]
 | agg parts => simp [Go.Joins.sliceLen]
 | iface t d => simp [Go.Joins.sliceLen]
 | map entries => simp [Go.Joins.sliceLen]
 | held h => simp [Go.Joins.sliceLen]
theorem tbFields : ∃ f0 f1 : Field, Tryz.prog.underlying 69 = some (.struct #[f0, f1]) ∧ f0.offset = 0 ∧ f1.offset = 1 ∧ f0.type = 9 ∧ f1.type = 3 := ⟨_, _, Tryz.underlying69, rfl, rfl, rfl, rfl⟩
theorem usFields : ∃ f0 f1 : Field, Tryz.prog.underlying 77 = some (.struct #[f0, f1]) ∧ f0.offset = 0 ∧ f1.offset = 1 ∧ f0.type = 9 ∧ f1.type = 58 := ⟨_, _, Tryz.underlying77, rfl, rfl, rfl, rfl⟩
theorem saFields : ∃ f0 f1 f2 f3 f4 f5 : Field, Tryz.prog.underlying 27 = some (.struct #[f0, f1, f2, f3, f4, f5]) ∧ f0.offset = 0 ∧ f1.offset = 1 ∧ f2.offset = 2 ∧ f3.offset = 3 ∧ f4.offset = 4 ∧ f5.offset = 5 ∧ f0.type = 3 ∧ f1.type = 3 ∧ f2.type = 22 ∧ f3.type = 23 ∧ f4.type = 24 ∧ f5.type = 25 := ⟨_, _, _, _, _, _, Tryz.underlying27, rfl, rfl, rfl, rfl, rfl, rfl, rfl, rfl, rfl, rfl, rfl, rfl⟩
theorem read_tombs {H : Type} {enc : TypeId × Value → H} {W : World} {n : Nat} {cs : List Value} {x : DataW H × List MemPlace}
  (h : DataW.trod enc Tryz.prog W 0 (fun _ => true) true n 25 cs = some x) :
  ∃ (a : Option Addr) (c : Nat) (l : List TbM), cs = [.slice a l.length c] ∧ TbSl W a l ∧ (∀ e ∈ l, e.u.size ≤ maxLen) ∧ Cp a l.length c := by
 obtain ⟨f0, f1, he, o0, o1, t0, t1⟩ := tbFields
 have ci : Tryz.prog.cellsOf 3 = 1 := by kernel_rfl
 have cs' : Tryz.prog.cellsOf 9 = 1 := by kernel_rfl
 rcases Go.Deep.open_slice_pairs Tryz.underlying25 he (by kernel_rfl) o0 o1 (by rw [t0]; exact cs') (by rw [t1]; exact ci) h with ⟨rfl, _⟩ | ⟨a, len, cap, m, n', V0, V1, D0, D1, P0, P1, rfl, _, hl, hm, hmm, _, hx⟩
 ·exact ⟨none, 0, [], rfl, TbSl.nil _ _, (fun s hs => by cases hs), Cp.none⟩
 ·have hlm : len ≤ m := by rw [hmm]; split <;> omega
  have each : ∀ i, i < len → ∃ x : TbM, W.cell? (a.add (i * 2)) = some (.string x.u) ∧ W.cell? (a.add (i * 2 + 1)) = some (.int .i64 x.a) ∧ x.u.size ≤ maxLen := fun i hi => by
   obtain ⟨k0, k1, g0, g1⟩ := hx i (by omega)
   rw [t0] at g0
   rw [t1] at g1
   obtain ⟨z0, e0, _, w0⟩ := DataW.trod_string Tryz.underlying9 g0
   obtain ⟨z1, e1, _, w1⟩ := DataW.trod_int Tryz.underlying3 g1
   simp at e0 e1
   exact ⟨⟨z0, z1⟩, by rw [k0, e0], by rw [k1, e1], w0⟩
  have some_x : ∃ f : Nat → TbM, ∀ i, i < len → W.cell? (a.add (i * 2)) = some (.string (f i).u) ∧ W.cell? (a.add (i * 2 + 1)) = some (.int .i64 (f i).a) ∧ (f i).u.size ≤ maxLen := by
   refine ⟨fun i => if h : i < len then (each i h).choose else default, fun i hi => ?_⟩
   simp only [hi, ↓reduceDIte]
   exact (each i hi).choose_spec
  obtain ⟨f, hf2⟩ := some_x
  have hlen : ((List.range len).map f).length = len := by simp
  refine ⟨some a, cap, (List.range len).map f, by rw [hlen], fun k hk => ?_, fun x hxm => ?_, ⟨by rw [hlen]; omega, hm, fun h => by cases h⟩⟩
  ·rw [List.length_map, hlen] at hk
   obtain ⟨b, off, spot⟩ := a
   have h0 := (hf2 0 (by omega)).1
   have hspot : spot = none := by simpa [Addr.add] using World.cell?_spot h0
   subst hspot
   obtain ⟨g0, g1, _⟩ := hf2 k (by omega)
   rw [Go.WideShapes.add_plain] at g0 g1
   simp only [List.getElem_map, List.getElem_range]
   exact ⟨b, off, rfl, World.block_lt_of_cell? W ⟨b, off + k * 2, none⟩ g0, g0, g1⟩
  ·obtain ⟨i, hi, rfl⟩ := List.mem_map.1 hxm
   exact (hf2 i (by have := List.mem_range.1 hi; omega)).2.2
theorem bulk_pairs {H : Type} (F : Nat → List StM) (D0 D1 : Nat → DataW H) (len : Nat) (h : ∀ i, i < len → (F i).length ≤ Rows.uptoBulk (D1 i)) :
  ((List.range len).map fun i => (F i).length).sum + len ≤ Rows.uptoBulkAll ((List.range len).map fun i => DataW.agg [D0 i, D1 i]) := by
 induction len with
 | zero => simp
 | succ n ih =>
  have happ : ∀ l r : List (DataW H), Rows.uptoBulkAll (l ++ r) = Rows.uptoBulkAll l + Rows.uptoBulkAll r := by
   intro l r
   induction l with
   | nil => simp [Rows.uptoBulkAll]
   | cons x l ih => simp only [List.cons_append, Rows.uptoBulkAll, ih]; omega
  have h1 := ih (fun i hi => h i (by omega))
  have h2 := h n (by omega)
  rw [List.range_succ, List.map_append, List.map_append, List.sum_append, happ]
  simp only [List.map_cons, List.map_nil, List.sum_cons, List.sum_nil, Rows.uptoBulkAll, Rows.uptoBulk]
  omega
theorem read_users {H : Type} {enc : TypeId × Value → H} {W : World} {n : Nat} {cs : List Value} {x : DataW H × List MemPlace}
  (h : DataW.trod enc Tryz.prog W 0 (fun _ => true) true n 23 cs = some x) :
  ∃ (a : Option Addr) (c : Nat) (D : List UsL), cs = [.slice a D.length c] ∧ UsSl W a D ∧ (∀ e ∈ umS D, e.u.size ≤ maxLen) ∧ Cp a D.length c ∧ cntU (umS D) + D.length ≤ Rows.uptoBulk x.1 := by
 obtain ⟨f0, f1, he, o0, o1, t0, t1⟩ := usFields
 have ci : Tryz.prog.cellsOf 58 = 1 := by kernel_rfl
 have cs' : Tryz.prog.cellsOf 9 = 1 := by kernel_rfl
 rcases Go.Deep.open_slice_pairs Tryz.underlying23 he (by kernel_rfl) o0 o1 (by rw [t0]; exact cs') (by rw [t1]; exact ci) h with ⟨rfl, hx⟩ | ⟨a, len, cap, m, n', V0, V1, D0, D1, P0, P1, rfl, _, hl, hm, hmm, hd, hx⟩
 ·exact ⟨none, 0, [], rfl, UsSl.nil _ _, (fun s hs => by cases hs), Cp.none, by simp [umS, cntU]⟩
 ·have hlm : len ≤ m := by rw [hmm]; split <;> omega
  have each : ∀ i, i < len → ∃ x : UsL, W.cell? (a.add (i * 2)) = some (.string x.u) ∧ W.cell? (a.add (i * 2 + 1)) = some (.slice x.a x.l.length x.c) ∧ UsAt W x ∧ x.u.size ≤ maxLen ∧ x.l.length ≤ Rows.uptoBulk (D1 i) := fun i hi => by
   obtain ⟨k0, k1, g0, g1⟩ := hx i (by omega)
   rw [t0] at g0
   rw [t1] at g1
   obtain ⟨z0, e0, _, w0⟩ := DataW.trod_string Tryz.underlying9 g0
   obtain ⟨b, q, l, e1, r1, r2, r3, r4, r5⟩ := read_stays g1
   have e2 := List.singleton_inj.1 e1
   have hb : Go.Joins.sliceLen (D1 i) = l.length := by
    rw [e2] at g1
    exact Go.Joins.sliceLen_trod Tryz.underlying58 g1
   have hb2 := sliceLen_le (D1 i)
   simp at e0
   exact ⟨⟨z0, b, l, q⟩, by rw [k0, e0], by rw [k1, e2], ⟨r1, r3, r4, r5⟩, w0, by rw [← hb]; exact hb2⟩
  have some_x : ∃ f : Nat → UsL, ∀ i, i < len → W.cell? (a.add (i * 2)) = some (.string (f i).u) ∧ W.cell? (a.add (i * 2 + 1)) = some (.slice (f i).a (f i).l.length (f i).c) ∧ UsAt W (f i) ∧ (f i).u.size ≤ maxLen ∧ (f i).l.length ≤ Rows.uptoBulk (D1 i) := by
   refine ⟨fun i => if h : i < len then (each i h).choose else default, fun i hi => ?_⟩
   simp only [hi, ↓reduceDIte]
   exact (each i hi).choose_spec
  obtain ⟨f, hf2⟩ := some_x
  have hlen : ((List.range len).map f).length = len := by simp
  refine ⟨some a, cap, (List.range len).map f, by rw [hlen], ⟨fun k hk => ?_, fun x hxm => ?_⟩, fun x hxm => ?_, ⟨by rw [hlen]; omega, hm, fun h => by cases h⟩, ?_⟩
  ·rw [List.length_map, hlen] at hk
   obtain ⟨b, off, spot⟩ := a
   have h0 := (hf2 0 (by omega)).1
   have hspot : spot = none := by simpa [Addr.add] using World.cell?_spot h0
   subst hspot
   obtain ⟨g0, g1, _⟩ := hf2 k (by omega)
   rw [Go.WideShapes.add_plain] at g0 g1
   simp only [List.getElem_map, List.getElem_range]
   exact ⟨b, off, rfl, World.block_lt_of_cell? W ⟨b, off + k * 2, none⟩ g0, g0, g1⟩
  ·obtain ⟨i, hi, rfl⟩ := List.mem_map.1 hxm
   exact (hf2 i (List.mem_range.1 hi)).2.2.1
  ·obtain ⟨y, hy, rfl⟩ := List.mem_map.1 hxm
   obtain ⟨i, hi, rfl⟩ := List.mem_map.1 hy
   exact (hf2 i (List.mem_range.1 hi)).2.2.2.1
  ·have hbk := bulk_pairs (fun i => (f i).l) D0 D1 len (fun i hi => (hf2 i hi).2.2.2.2)
   have e1 : cntU (umS ((List.range len).map f)) = ((List.range len).map fun i => (f i).l.length).sum := by
    unfold cntU umS
    rw [List.map_map, List.map_map]
    rfl
   rw [e1, hlen, hd]
   simp only [Rows.uptoBulk]
   omega
theorem open_state {H : Type} {enc : TypeId × Value → H} {W : World} {base : Nat} {v : Value} {d : DataW H} {p : List MemPlace}
  (hok : Value.okWide Tryz.prog W .any base 27 v) (h : DataW.Trod enc Tryz.prog W 0 (fun _ => true) true 27 v d p) :
  ∃ x : SaL, v = saV x ∧ SaAt W x ∧ SzS x.m ∧ stCnt x.m + x.us.length ≤ Rows.uptoBulk d := by
 obtain ⟨f0, f1, f2, f3, f4, f5, he, o0, o1, o2, o3, o4, o5, t0, t1, t2, t3, t4, t5⟩ := saFields
 have ci : Tryz.prog.cellsOf 3 = 1 := by kernel_rfl
 have k2 : Tryz.prog.cellsOf 22 = 1 := by kernel_rfl
 have k3 : Tryz.prog.cellsOf 23 = 1 := by kernel_rfl
 have k4 : Tryz.prog.cellsOf 24 = 1 := by kernel_rfl
 have k5 : Tryz.prog.cellsOf 25 = 1 := by kernel_rfl
 obtain ⟨cs, rfl, hsz⟩ := okWide_struct he hok
 obtain ⟨c0, c1, c2, c3, c4, c5, rfl⟩ := array6 (hsz.trans (by kernel_rfl))
 obtain ⟨fuel, hf⟩ := h
 obtain ⟨y0, y1, y2, y3, y4, y5, n, hx, g0, g1, g2, g3, g4, g5⟩ := trod_six (x := (d, p)) he o0 o1 o2 o3 o4 o5 (by rw [t0]; exact ci) (by rw [t1]; exact ci) (by rw [t2]; exact k2) (by rw [t3]; exact k3) (by rw [t4]; exact k4) (by rw [t5]; exact k5) (by simpa [Value.cells] using hf)
 rw [t0] at g0
 rw [t1] at g1
 rw [t2] at g2
 rw [t3] at g3
 rw [t4] at g4
 rw [t5] at g5
 obtain ⟨z0, e0, _, w0⟩ := DataW.trod_int Tryz.underlying3 g0
 obtain ⟨z1, e1, _, w1⟩ := DataW.trod_int Tryz.underlying3 g1
 obtain ⟨a2, q2, l2, e2, r2, s2, m2, n2, p2⟩ := read_sess g2
 obtain ⟨a3, q3, l3, e3, r3, s3, m3, b3⟩ := read_users g3
 obtain ⟨a4, q4, l4, e4, r4, s4, m4, n4, p4⟩ := read_entries g4
 obtain ⟨a5, q5, l5, e5, r5, s5, m5⟩ := read_tombs g5
 simp at e0 e1
 obtain rfl := List.singleton_inj.1 e2
 obtain rfl := List.singleton_inj.1 e3
 obtain rfl := List.singleton_inj.1 e4
 obtain rfl := List.singleton_inj.1 e5
 subst e0 e1
 have b2 : l2.length ≤ Rows.uptoBulk y2.1 := by rw [← Go.Joins.sliceLen_trod (d := y2.1) (ps := y2.2) Tryz.underlying22 g2]; exact sliceLen_le _
 have b4 : l4.length ≤ Rows.uptoBulk y4.1 := by rw [← Go.Joins.sliceLen_trod (d := y4.1) (ps := y4.2) Tryz.underlying24 g4]; exact sliceLen_le _
 have b5 : l5.length ≤ Rows.uptoBulk y5.1 := by rw [← Go.Joins.sliceLen_trod (d := y5.1) (ps := y5.2) Tryz.underlying25 g5]; exact sliceLen_le _
 refine ⟨⟨z0, z1, a2, l2, q2, a3, l3, q3, a4, l4, q4, a5, l5, q5⟩, rfl, ⟨r2, r3, r4, r5, ⟨m2, n2, p2⟩, m3, ⟨m4, n4, p4⟩, m5⟩, ⟨s2, s3, fun e he => ⟨(s4 e he).1, (s4 e he).2.1⟩, s5⟩, ?_⟩
 have hx' : d = .agg [y0.1, y1.1, y2.1, y3.1, y4.1, y5.1] := hx
 rw [hx']
 simp only [Rows.uptoBulk, Rows.uptoBulkAll, stCnt, SaL.m]
 omega
end Go.Proofs.YtjhdhfokhkcamaaGreat
namespace Go.Proofs.YtjhdhfokhkcamaaGreat
open Go.RowKit Go.Proofs
set_option linter.unusedVariables false
set_option maxRecDepth 100000
theorem cntU_le : ∀ {l : List UsM}, ∀ x ∈ l, x.l.length ≤ cntU l
 | y :: l, x, hx => by
  rw [cntU_cons]
  rcases List.mem_cons.1 hx with rfl | hx
  ·omega
  ·have := cntU_le x hx
   omega
theorem few_cnt {x : SaL} {n : Nat} (h : stCnt x.m + x.us.length ≤ n) : Few x.m n := by
 have h0 : stCnt x.m = x.op.length + x.su.length + x.tb.length + cntU (umS x.us) := rfl
 have h1 : x.m.us.length = x.us.length := umS_len _
 refine ⟨?_, by omega, ?_, ?_, fun u hu => ?_⟩
 ·show x.op.length ≤ n; omega
 ·show x.su.length ≤ n; omega
 ·show x.tb.length ≤ n; omega
 ·have := cntU_le u hu
  show u.l.length ≤ n
  have h2 : cntU x.m.us = cntU (umS x.us) := rfl
  omega
section
variable {M : SaM} (x y : SaL) (V : World) (h : SaAt V x) (k : SaAt V y) (hm : x.m = M) (km : y.m = M)
include h hm
theorem g_new (hf : Few M 900) : Calls Tryz.prog 15 #[saV x] V (Is V M) := by subst hm; exact lnew_any x V h hf
theorem g_rrightB (hz : SzS M) (hf : Few M 900) : Calls Tryz.prog 13 #[saV x] V fun r w' => r = .returned (.bool (rightB M)) ∧ Below V.heap.size V w' := by
 subst hm
 have := rright_any11 x V h hz (Nat.le_trans hf.op (by decide)) (Nat.le_trans (few_us hf) (by decide)) (Nat.le_trans hf.su (by decide)) (Nat.le_trans hf.tb (by decide)) (fun z hz => Nat.le_trans (umS_st hf.st z hz) (by decide))
 refine this.mono fun r w' q => ?_
 cases hb : rightB x.m
 ·exact q.no (fun hr => by rw [(rightB_iff _).2 hr] at hb; cases hb)
 ·exact q.yes ((rightB_iff _).1 hb)
theorem g_rright (hz : SzS M) (hf : Few M 900) (hr : RightS M) : Calls Tryz.prog 13 #[saV x] V fun r w' => r = .returned (.bool true) ∧ Below V.heap.size V w' := by
 have := g_rrightB x V h hm hz hf
 rwa [(rightB_iff _).2 hr] at this
theorem g_rwrong (hz : SzS M) (hf : Few M 900) (hr : ¬ RightS M) : Calls Tryz.prog 13 #[saV x] V fun r w' => r = .returned (.bool false) ∧ Below V.heap.size V w' := by
 have := g_rrightB x V h hm hz hf
 rwa [Bool.eq_false_iff.2 fun hb => hr ((rightB_iff _).1 hb)] at this
theorem g_reset (hr : RightS M) (hc : stCnt M ≤ 220) : Calls Tryz.prog 22 #[saV x] V (Is V (resetS M)) := by subst hm; exact reset_any11 x V h hr hc
theorem g_rreset (hr : RightS M) (hc : stCnt M ≤ 220) : Calls Tryz.prog 24 #[saV x] V (Is V (resetS M)) := by subst hm; exact rreset_any11 x V h hr hc (sz_right hr)
theorem g_prune (hr : RightS M) (hc : stCnt M ≤ 220) : Calls Tryz.prog 23 #[saV x] V (Is V (pruneS M)) := by subst hm; exact prune_any11 x V h hr hc
theorem g_rprune (hr : RightS M) (hc : stCnt M ≤ 220) : Calls Tryz.prog 25 #[saV x] V (Is V (pruneS M)) := by subst hm; exact rprune_any11 x V h hr hc
include k km
theorem g_same (hf : Few M 900) : Calls Tryz.prog 26 #[saV x, saV y] V fun r w' => r = .returned (.bool true) ∧ Below V.heap.size V w' := by
 subst hm
 have := same_any11 x y V h k hf (by rw [km]; exact hf)
 rwa [(sameS_iff _ _).2 km.symm] at this
end
end Go.Proofs.YtjhdhfokhkcamaaGreat
