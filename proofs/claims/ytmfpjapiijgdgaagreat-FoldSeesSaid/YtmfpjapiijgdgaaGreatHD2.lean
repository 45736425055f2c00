/- FoldSees: in which periods one may see another one, and the horizon, are what the list of events that were taken says; for all rows of events and all texts. No condition. -/
import Derived.JoinedCond
import Derived.Deep.RegionHeld3
import Derived.OrdersHeld
import Derived.Test.YtmfpjapiijgdgaaGreatQ00
import Derived.Test.YtmfpjapiijgdgaaGreatRows
import Derived.Test.YtmfpjapiijgdgaaGreatTQ
import Derived.Test.YtmfpjapiijgdgaaGreatQ01
import Derived.Test.YtmfpjapiijgdgaaGreatQ04
import Derived.Test.YtmfpjapiijgdgaaGreatQ06
import Derived.Test.YtmfpjapiijgdgaaGreatQ07
import Derived.Test.YtmfpjapiijgdgaaGreatQ13
import Derived.Test.YtmfpjapiijgdgaaGreatQ17
import Derived.Test.YtmfpjapiijgdgaaGreatQ26
import Derived.Test.YtmfpjapiijgdgaaGreatQ27
import Derived.Test.YtmfpjapiijgdgaaGreatQ32
import Derived.Test.YtmfpjapiijgdgaaGreatQ38
import Derived.Test.YtmfpjapiijgdgaaGreatQ39
import Derived.Test.YtmfpjapiijgdgaaGreatQ48
import Derived.Test.YtmfpjapiijgdgaaGreatQ52
import Derived.Test.YtmfpjapiijgdgaaGreatQ54
import Derived.Test.YtmfpjapiijgdgaaGreatQ57
namespace Go.Proofs.YtmfpjapiijgdgaaGreat.foldSees
open Go.ChangeShapes Go.WideShapes Go.ChangeAt Go.RowKit Go.Proofs
open Go.ChangeMaps (open_string shut_string)
set_option linter.unusedVariables false
set_option maxRecDepth 100000

structure FmK (w : World) (a : Option Addr) (l : List EvM) (W : World) : Prop where
 s : SB w w.heap.size 39 saO W
 r : EvSl W a l
theorem FmK.below {w W W' : World} {a : Option Addr} {l : List EvM} (h : FmK w a l W) (qB : Below W.heap.size W W') : FmK w a l W' := ⟨h.s.below qB, h.r.below qB⟩
theorem FmK.over {w T : World} {a : Option Addr} {l : List EvM} {gz : Nat} {zz : SaL} (h : FmK w a l T) (hZ : SB w gz 39 saO T) (hy : SaAt T zz) (ns : w.heap.size ≠ gz) : FmK w a l (setS T gz zz) ∧ SB w gz 39 zz (setS T gz zz) :=
 ⟨⟨(hZ.over hy h.s ns).2, evsl_setS hZ hy h.r⟩, hZ.set hy⟩
structure FyK (w : World) (g : Nat) (z : SaL) (b : Option Addr) (k : List EvM) (W : World) : Prop where
 s : SB w g 39 z W
 r : EvSl W b k
theorem FyK.below {w W W' : World} {g : Nat} {z : SaL} {b : Option Addr} {k : List EvM} (h : FyK w g z b k W) (qB : Below W.heap.size W W') : FyK w g z b k W' := ⟨h.s.below qB, h.r.below qB⟩
set_option maxHeartbeats 8000000 in
theorem walk (w : World) (a : Option Addr) (c : Nat) (l : List EvM) (hs : EvSl w a l) (hf : FitsV l) (hlc : l.length ≤ c) (hcm : c ≤ maxLen) (hn : a = none → c = 0) (p : ByteArray) (hp : p.size ≤ maxLen) (u : ByteArray) (hu : u.size ≤ maxLen) :
  Calls Tryz.prog 7 #[.slice a l.length c, .string p, .string u] w fun e w' => e = .returned (.bool true) ∧ Below w.heap.size w w' := by
 have HAL := Lib.hid alive12
 by_cases g1 : 40 < l.length
 ·have d1 : decide ((40 : Int) < (l.length : Int)) = true := decide_eq_true (by omega)
  clear hs hf hlc hcm hn hp hu g1
  go_enter Tryz.func7, Tryz.ntmps7
  go_wp2_with fail
  refine (HAL.out _).mono ?_
  rintro r1 w1 ⟨rfl, h1⟩
  go_wp2
  go_ret
  exact ⟨rfl, h1⟩
 have d1 : decide ((40 : Int) < (l.length : Int)) = false := decide_eq_false (by omega)
 have hlw : stCnt saZ + l.length ≤ 200 := by show 0 + l.length ≤ 200; omega
 have HNV := Lib.hid (fun V (h : EvSl V a l) => h_news a c l V h (by omega))
 have HFO := Lib.hid (fun b q V (h : SaAt V saO) (k : EvSl V b l) => h_fold saO saO_m b q l V h RightS.zero k hf hlw)
 have HDT := Lib.hid (fun V (h : SaAt V saO) (k : EvSl V a l) => h_rtaken saO saO_m a c l V h RightS.zero k hf hlw)
 have S0 := SB.new (Below.refl w.heap.size w) (SaAt.zero w) 39
 have A0 := hs.below (below_one w (.cells (saC saO) 39))
 have KK : FmK w a l _ := ⟨S0, A0⟩
 unfold RowsTo at HNV HDT
 unfold FoldsV at HFO
 unfold saV saC saO at HFO HDT KK
 simp only [List.length_nil] at HFO HDT KK
 clear S0 A0 hs hlc hcm hn
 go_enter Tryz.func7, Tryz.ntmps7
 go_upto_region 4 with fail
 generalize (w.alloc (.cells #[.int .i64 0, .int .i64 0, .slice none 0 0, .slice none 0 0, .slice none 0 0, .slice none 0 0] 39)) = U at *
 have HSC : Hid (∀ V, FmK w a l V → V.cell? ⟨w.heap.size, 0, none⟩ = some (.int .i64 0) ∧ V.cell? ⟨w.heap.size, 1, none⟩ = some (.int .i64 0) ∧ V.cell? ⟨w.heap.size, 2, none⟩ = some (.slice none 0 0) ∧ V.cell? ⟨w.heap.size, 3, none⟩ = some (.slice none 0 0) ∧ V.cell? ⟨w.heap.size, 4, none⟩ = some (.slice none 0 0) ∧ V.cell? ⟨w.heap.size, 5, none⟩ = some (.slice none 0 0)) := Lib.hid fun V h => by
  obtain ⟨s0, s1, s2, s3, s4, s5⟩ := h.s.cells
  exact ⟨s0, s1, s2, s3, s4, s5⟩
 have HBL : Hid (∀ V V', FmK w a l V → Below V.heap.size V V' → FmK w a l V') := Lib.hid fun V V' h q => h.below q
 obtain ⟨k0, k1, k2, k3, k4, k5⟩ := HSC.out _ KK
 have K0 := KK.below (Below.refl U.heap.size U).drew
 have K0b := (KK.below (below_one U (.cells #[.int .i64 0, .int .i64 0, .slice none 0 0, .slice none 0 0, .slice none 0 0, .slice none 0 0] 39))).below (Below.refl _ _).drew
 have Z0b : SB w U.heap.size 39 saO (U.alloc (.cells #[.int .i64 0, .int .i64 0, .slice none 0 0, .slice none 0 0, .slice none 0 0, .slice none 0 0] 39)).drew := SB.drew (SB.new KK.s.frame (SaAt.zero U) 39)
 have NG0 : w.heap.size ≠ U.heap.size := Nat.ne_of_lt KK.s.lt
 go_wp2_with fail
 go_region_held3 (fun V => V.cell? ⟨w.heap.size, 0, none⟩ = some (.int .i64 0) ∧ V.cell? ⟨w.heap.size, 1, none⟩ = some (.int .i64 0) ∧ V.cell? ⟨w.heap.size, 2, none⟩ = some (.slice none 0 0) ∧ V.cell? ⟨w.heap.size, 3, none⟩ = some (.slice none 0 0) ∧ V.cell? ⟨w.heap.size, 4, none⟩ = some (.slice none 0 0) ∧ V.cell? ⟨w.heap.size, 5, none⟩ = some (.slice none 0 0))
  (first | with_reducible exact HSC.out _ KT | with_reducible exact HSC.out _ K2b | with_reducible exact HSC.out _ K2 | with_reducible exact HSC.out _ K1b | with_reducible exact HSC.out _ K1 | with_reducible exact HSC.out _ K0b | with_reducible exact HSC.out _ K0)
  (first | (have hseen := K1; clear hseen; go_at_call 22; (first | (refine (HFO.out b1 q1 _ K1.s.at_ p1).mono ?_; rintro r v2 ⟨z, b3, q3, rfl, hz, hzm, -, -, -, h2⟩; have K2 := HBL.out _ _ K1 h2; (try have Z2 := Z1.below h2); have p1 := p1.below h2) | (refine (HFO.out b1 q1 _ K1b.s.at_ p1b).mono ?_; rintro r v2 ⟨z, b3, q3, rfl, hz, hzm, -, -, -, h2⟩; have K2 := HBL.out _ _ K1b h2; have Z2 := Z1b.below h2; have p1 := p1b.below h2)); have NG2 : w.heap.size ≠ v2.heap.size := Nat.ne_of_lt K2.s.lt; (first | (have hzz := Z2; unfold saO at hzz; obtain ⟨z0, z1, z2, z3, z4, z5⟩ := hzz.cells; obtain ⟨f0, f1, f2, f3, f4, f5⟩ := hzz.free; have hzl := hzz.lt; dsimp only [List.length_nil] at z0 z1 z2 z3 z4 z5; clear hzz; (first | (have OV := K2.over Z2 hz NG0; have NE := Lib.hid NG0) | (have OV := K2.over Z2 hz NG1; have NE := Lib.hid NG1)); obtain ⟨KT, OB⟩ := OV; unfold setS at OB KT; (try dsimp only at OB KT)) | (have K2b := K2.below (below_one v2 (.cells #[.int .i64 0, .int .i64 0, .slice none 0 0, .slice none 0 0, .slice none 0 0, .slice none 0 0] 39)); have OB : SB w v2.heap.size 39 z (v2.alloc (.cells #[.int .i64 z.now, .int .i64 z.hor, .slice z.oa z.op.length z.oc, .slice z.ua z.us.length z.uc, .slice z.sa z.su.length z.sc, .slice z.ta z.tb.length z.tc] 39)) := SB.new K2.s.frame hz 39; have KT := K2.below (below_one v2 (.cells #[.int .i64 z.now, .int .i64 z.hor, .slice z.oa z.op.length z.oc, .slice z.ua z.us.length z.uc, .slice z.sa z.su.length z.sc, .slice z.ta z.tb.length z.tc] 39)); have NE := Lib.hid NG2))) | (have hseen := K0; clear hseen; go_at_call 21; (first | (refine (HNV.out _ K0.r).mono ?_; rintro r v1 ⟨b1, q1, rfl, p1, -, -, -, h1⟩; have K1 := HBL.out _ _ K0 h1; (try have Z1 := Z0.below h1)) | (refine (HNV.out _ K0b.r).mono ?_; rintro r v1 ⟨b1, q1, rfl, p1, -, -, -, h1⟩; have K1 := HBL.out _ _ K0b h1; have Z1 := Z0b.below h1)); have NG1 : w.heap.size ≠ v1.heap.size := Nat.ne_of_lt K1.s.lt; (first | (have hzz := Z1; clear hzz) | (have K1b := K1.below (below_one v1 (.cells #[.int .i64 0, .int .i64 0, .slice none 0 0, .slice none 0 0, .slice none 0 0, .slice none 0 0] 39)); have Z1b : SB w v1.heap.size 39 saO (v1.alloc (.cells #[.int .i64 0, .int .i64 0, .slice none 0 0, .slice none 0 0, .slice none 0 0, .slice none 0 0] 39)) := SB.new K1.s.frame (SaAt.zero v1) 39; have p1b := p1.below (below_one v1 (.cells #[.int .i64 0, .int .i64 0, .slice none 0 0, .slice none 0 0, .slice none 0 0, .slice none 0 0] 39))))))
 all_goals
  have TK := Lib.hid KT
  have TO := Lib.hid OB
  clear KT OB K0 K0b Z0b NG0
  clear K1 NG1 h1
  (try clear K1b)
  (try clear Z1b)
  (try clear Z1)
  clear K2 NG2 h2
  (try clear K2b)
  (try clear Z2b)
  (try clear Z2)
  (try clear z0 z1 z2 z3 z4 z5 f0 f1 f2 f3 f4 f5 hzl)
  (try clear p1b)
  clear KK
  clear k0 k1 k2 k3 k4 k5
  clear HSC HBL HNV HFO
  clear hz p1 NE
  (first
   | (generalize ((((((v2.setCell ⟨U.heap.size, 0, none⟩ (.int .i64 z.now)).setCell ⟨U.heap.size, 1, none⟩ (.int .i64 z.hor)).setCell ⟨U.heap.size, 2, none⟩ (.slice z.oa z.op.length z.oc)).setCell ⟨U.heap.size, 3, none⟩ (.slice z.ua z.us.length z.uc)).setCell ⟨U.heap.size, 4, none⟩ (.slice z.sa z.su.length z.sc)).setCell ⟨U.heap.size, 5, none⟩ (.slice z.ta z.tb.length z.tc)) = T at *; generalize U.heap.size = g at *; (have hseen : SB w g 39 z T := TO.out; clear hseen))
   | (generalize ((((((v2.setCell ⟨v1.heap.size, 0, none⟩ (.int .i64 z.now)).setCell ⟨v1.heap.size, 1, none⟩ (.int .i64 z.hor)).setCell ⟨v1.heap.size, 2, none⟩ (.slice z.oa z.op.length z.oc)).setCell ⟨v1.heap.size, 3, none⟩ (.slice z.ua z.us.length z.uc)).setCell ⟨v1.heap.size, 4, none⟩ (.slice z.sa z.su.length z.sc)).setCell ⟨v1.heap.size, 5, none⟩ (.slice z.ta z.tb.length z.tc)) = T at *; generalize v1.heap.size = g at *; (have hseen : SB w g 39 z T := TO.out; clear hseen))
   | (generalize v2.alloc (.cells #[.int .i64 z.now, .int .i64 z.hor, .slice z.oa z.op.length z.oc, .slice z.ua z.us.length z.uc, .slice z.sa z.su.length z.sc, .slice z.ta z.tb.length z.tc] 39) = T at *; generalize v2.heap.size = g at *; (have hseen : SB w g 39 z T := TO.out; clear hseen)))
  go_wp2_with fail
  refine (HDT.out _ (SaAt.zero _) TK.out.r).mono ?_
  rintro r w5 ⟨b5, q5, rfl, s5, -, -, -, h5⟩
  have KY : FyK w g z b5 (takenE saZ l) w5 := ⟨TO.out.below h5, s5⟩
  clear TK TO HDT h5 s5
  have hfew := fold_few l (by omega)
  have htl : (takenE saZ l).length ≤ 400 := Nat.le_trans (takenE_len l saZ) (by omega)
  have hsu : z.su.length ≤ 400 := by
   have h := hfew.su
   rw [← hzm] at h
   exact h
  have hzs : z.su = (foldE saZ l).su := by rw [← hzm]; rfl
  have hzh : z.hor = horV (takenE saZ l) := by rw [← hor_model, ← hzm]; rfl
  have HPE : Hid (∀ V, EnSl V z.sa z.su → Calls Tryz.prog 43 #[.slice z.sa z.su.length z.sc, .agg #[.string p, .string u]] V fun e w' => ∃ x q r, e = .returned (.slice x r.length q) ∧ IsSet (HasL (perS z.su p u)) r ∧ r.length ≤ 1000 ∧ SpSl w' x r ∧ Below V.heap.size V w') := Lib.hid fun V h => (e_periods z.sa z.sc z.su p u V h (by omega)).mono fun e w' q => by
   obtain ⟨x, q, r, h1, h2, h3, -, -, -, h4, h5⟩ := q
   exact ⟨x, q, r, h1, h2, by omega, h4, h5⟩
  have HMP : Hid (∀ V r, EvSl V b5 (takenE saZ l) → IsSet (HasL (perS z.su p u)) r → Calls Tryz.prog 44 #[.slice b5 (takenE saZ l).length q5, .string p, .string u] V fun e w' => ∃ x q, e = .returned (.slice x r.length q) ∧ SpSl w' x r ∧ Below V.heap.size V w') := Lib.hid fun V r h hr => mperiods_any b5 q5 (takenE saZ l) p u r V h htl (hr.congr fun x => by rw [hzs]; exact sees_model l p u x)
  have HMH := Lib.hid (fun V (h : EvSl V b5 (takenE saZ l)) => rhorizon_any b5 q5 (takenE saZ l) V h (by omega))
  rw [← hzh] at HMH
  have HOL := Lib.hid (fun a q (L : List SpM) V (h : SpSl V a L) (hl : L.length ≤ 1000) => c_olds a q L V h hl)
  have HSA := Lib.hid (fun a b q r (L : List SpM) V (h : SpSl V a L) (k : SpSl V b L) (hl : L.length ≤ 1000) => c_rsame a b q r L V h k hl)
  have hq : (z.hor == z.hor) = true := beq_self_eq_true _
  clear hfew htl hsu hzs hzh hzm g1
  generalize takenE saZ l = k at *
  have HSC : Hid (∀ V, FyK w g z b5 k V → V.cell? ⟨g, 0, none⟩ = some (.int .i64 z.now) ∧ V.cell? ⟨g, 1, none⟩ = some (.int .i64 z.hor) ∧ V.cell? ⟨g, 2, none⟩ = some (.slice z.oa z.op.length z.oc) ∧ V.cell? ⟨g, 3, none⟩ = some (.slice z.ua z.us.length z.uc) ∧ V.cell? ⟨g, 4, none⟩ = some (.slice z.sa z.su.length z.sc) ∧ V.cell? ⟨g, 5, none⟩ = some (.slice z.ta z.tb.length z.tc)) := Lib.hid fun V h => by
   obtain ⟨s0, s1, s2, s3, s4, s5⟩ := h.s.cells
   exact ⟨s0, s1, s2, s3, s4, s5⟩
  have HBL : Hid (∀ V V', FyK w g z b5 k V → Below V.heap.size V V' → FyK w g z b5 k V') := Lib.hid fun V V' h q => h.below q
  obtain ⟨k0, k1, k2, k3, k4, k5⟩ := HSC.out _ KY
  have K0 := KY.below (Below.refl _ _).drew
  clear KY
  go_wp2_with fail
  go_region_held3 (fun V => V.cell? ⟨g, 0, none⟩ = some (.int .i64 z.now) ∧ V.cell? ⟨g, 1, none⟩ = some (.int .i64 z.hor) ∧ V.cell? ⟨g, 2, none⟩ = some (.slice z.oa z.op.length z.oc) ∧ V.cell? ⟨g, 3, none⟩ = some (.slice z.ua z.us.length z.uc) ∧ V.cell? ⟨g, 4, none⟩ = some (.slice z.sa z.su.length z.sc) ∧ V.cell? ⟨g, 5, none⟩ = some (.slice z.ta z.tb.length z.tc))
   (first | with_reducible exact HSC.out _ K6 | with_reducible exact HSC.out _ K5 | with_reducible exact HSC.out _ K4 | with_reducible exact HSC.out _ K3 | with_reducible exact HSC.out _ K2 | with_reducible exact HSC.out _ K1 | with_reducible exact HSC.out _ K0)
   (first | (have hseen := K5; clear hseen; go_at_call 45; refine (HMH.out _ K5.r).mono ?_; rintro r v6 ⟨rfl, h6⟩; have K6 := HBL.out _ _ K5 h6) | (have hseen := K4; clear hseen; go_at_call 41; refine (HSA.out a3 a4 q3 q4 R _ z5 z4 hl2).mono ?_; rintro r v5 ⟨rfl, h5⟩; have K5 := HBL.out _ _ K4 h5) | (have hseen := K3; clear hseen; go_at_call 44; refine (HMP.out _ R K3.r hR).mono ?_; rintro r v4 ⟨a4, q4, rfl, z4, h4⟩; have K4 := HBL.out _ _ K3 h4; have z5 := z3.below h4) | (have hseen := K2; clear hseen; go_at_call 42; refine (HOL.out a2 q2 R _ z2 hl2).mono ?_; rintro r v3 ⟨a3, q3, rfl, z3, h3⟩; have K3 := HBL.out _ _ K2 h3) | (have hseen := K1; clear hseen; go_at_call 43; refine (HPE.out _ K1.s.at_.su).mono ?_; rintro r v2 ⟨a2, q2, R, rfl, hR, hl2, z2, h2⟩; have K2 := HBL.out _ _ K1 h2) | (have hseen := K0; clear hseen; go_at_call 20; refine (HAL.out _).mono ?_; rintro r v1 ⟨rfl, h1⟩; have K1 := HBL.out _ _ K0 h1))
  all_goals
   have HF := Lib.hid K6.s.frame
   clear K0 K1 K2 K3 K4 K5 K6
   go_wp2
   go_ret
   exact ⟨rfl, HF.out⟩
set_option maxRecDepth 100000 in
theorem lifted (os : Os) (started : os.Started) (H : Type) (enc : TypeId × Value → H) :
  ReturnsInHanded {} Tryz.checked os 7 .any (Rows.foldSeesSpec.pre6 enc Tryz.prog Tryz.f7 Rows.foldSeesRow.domain false) (Rows.foldSeesSpec.post enc Tryz.prog Tryz.f7 false true false false) := by
 refine returnsInHanded_of_change (C := Tryz.checked) own started (by kernel_rfl) Tryz.func7
  (ChangeSpec.witness6 (enc := enc) (C := Tryz.checked) false ⟨#[], #[.slice none 0 0, .string ByteArray.empty, .string ByteArray.empty], []⟩ 8 (by kernel_rfl) (by kernel_rfl) (by kernel_rfl) (by kernel_rfl)) ?_
 intro W base args ds gs before hval0 hW hcnd _
 have hval : ∀ (j : Nat) t v, Tryz.f7.params[j]? = some t → args[j]? = some v → Value.okWide Tryz.prog W .any base t v := hval0
 have hW' := hW
 have hlt := hW.lt
 obtain ⟨p, q, hA0, hV, rfl, hfz, hnd⟩ := hW
 have hA : DataW.TrodAll enc Tryz.prog W 0 (fun _ => true) true Tryz.f7.params.toList args.toList ds p := hA0
 rw [Tryz.params7] at hA hval
 obtain ⟨v0, vs0, d0, ds0, p0, q0, hargs, rfl, rfl, h0, r0⟩ := trodAll_cons hA
 obtain ⟨v1, vs1, d1, ds1, p1, q1, rfl, rfl, rfl, h1, r1⟩ := trodAll_cons r0
 obtain ⟨v2, vs2, d2, ds2, p2, q2, rfl, rfl, rfl, h2, r2⟩ := trodAll_cons r1
 obtain ⟨rfl, rfl, rfl⟩ := trodAll_nil r2
 obtain rfl : args = #[v0, v1, v2] := by cases args; simp_all
 obtain ⟨a0, c0, l0, rfl, s0, f0, m0, n0, o0⟩ := open_events (hval 0 28 v0 rfl rfl) h0
 obtain ⟨a1, rfl, -, -, w1⟩ := open_string Tryz.underlying9 (hval 1 9 v1 rfl rfl) h1
 obtain ⟨a2, rfl, -, -, w2⟩ := open_string Tryz.underlying9 (hval 2 9 v2 rfl rfl) h2
 refine (walk W a0 c0 l0 s0 f0 m0 n0 o0 a1 w1 a2 w2).mono fun e W' ⟨he, hb⟩ => ?_
 subst he
 exact ⟨_, rfl, law_post rfl hW' (fun ds h => by match ds, h with | [_, _, _], _ => rfl) (by kernel_rfl) (by kernel_rfl) (by kernel_rfl) hb⟩

theorem over : Rows.foldSeesRow.holds Tryz.pinned (OpenSpec.ofChange Rows.foldSeesSpec) :=
 OpenClaim.holds_of_wide 7 Tryz.f7 rfl rfl rfl rfl rfl rfl rfl ⟨rfl, rfl, rfl, rfl, rfl⟩ rfl rfl rfl rfl rfl (by kernel_rfl) Tryz.func7 closedFoldSees
  (of_decide_eq_true (by kernel_rfl)) (by unfold Func.isWrapper; first | (rw [if_pos (by decide +kernel)]; kernel_rfl) | (rw [if_neg (by decide +kernel)]; exact ⟨rfl, rfl⟩))
  (fun os started H enc _ => lifted os started H enc)

theorem proved : Rows.FoldSeesSaid := over
end Go.Proofs.YtmfpjapiijgdgaaGreat.foldSees
