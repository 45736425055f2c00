/- Texts of mine, one behind the other, of each what is wanted. -/
import Derived.Test.YtapacckmgmdnoaaGreatR00
import Derived.Test.YtapacckmgmdnoaaGreatShelf
import Derived.Test.YtapacckmgmdnoaaGreatRows
import Derived.Test.YtapacckmgmdnoaaGreatR03
import Derived.Test.YtapacckmgmdnoaaGreatR04
import Derived.Test.YtapacckmgmdnoaaGreatR07
import Derived.Test.YtapacckmgmdnoaaGreatR14
import Derived.Test.YtapacckmgmdnoaaGreatR18
import Derived.Test.YtapacckmgmdnoaaGreatR20
import Derived.Test.YtapacckmgmdnoaaGreatR26
import Derived.Test.YtapacckmgmdnoaaGreatR33
import Derived.Test.YtapacckmgmdnoaaGreatR39
import Derived.Test.YtapacckmgmdnoaaGreatR42
namespace Go.Proofs.YtapacckmgmdnoaaGreat
open Go.RowKit Go.Proofs
set_option linter.unusedVariables false
set_option maxRecDepth 100000
structure Al12 (w : World) (g : Nat) (y : SaL) (b t : Option Addr) (V : World) : Prop where
 s : SB w g 39 y V
 e : ErSl V b [0, 100, 0]
 t : EvSl V t [eV1, eV3]
 l : EvSl V (some ⟨w.heap.size, 0, none⟩) l12
theorem Al12.below {w V V' : World} {g : Nat} {y : SaL} {b t : Option Addr} (h : Al12 w g y b t V) (q : Below V.heap.size V V') : Al12 w g y b t V' := ⟨h.s.below q, h.e.below q, h.t.below q, h.l.below q⟩
theorem Al12.cells {w V : World} {g eb eo tb to6 : Nat} {y : SaL} (h : Al12 w g y (some ⟨eb, eo, none⟩) (some ⟨tb, to6, none⟩) V) : V.cell? ⟨eb, eo, none⟩ = some (.int .i64 0) ∧ V.cell? ⟨eb, eo + 1, none⟩ = some (.int .i64 100) ∧ V.cell? ⟨eb, eo + 2, none⟩ = some (.int .i64 0) ∧ V.cell? ⟨g, 0, none⟩ = some (.int .i64 y.now) ∧ V.cell? ⟨g, 1, none⟩ = some (.int .i64 y.hor) ∧ V.cell? ⟨g, 2, none⟩ = some (.slice y.oa y.op.length y.oc) ∧ V.cell? ⟨g, 3, none⟩ = some (.slice y.ua y.us.length y.uc) ∧ V.cell? ⟨g, 4, none⟩ = some (.slice y.sa y.su.length y.sc) ∧ V.cell? ⟨g, 5, none⟩ = some (.slice y.ta y.tb.length y.tc) ∧ V.cell? ⟨tb, to6 + 6, none⟩ = some (.int .i64 3) ∧ V.cell? ⟨tb, to6 + 6 + 1, none⟩ = some (.int .i64 5) ∧ V.cell? ⟨tb, to6 + 6 + 2, none⟩ = some (.string ⟨#[97, 110, 110]⟩) ∧ V.cell? ⟨tb, to6 + 6 + 3, none⟩ = some (.string ⟨#[]⟩) ∧ V.cell? ⟨tb, to6 + 6 + 4, none⟩ = some (.int .i64 1) ∧ V.cell? ⟨tb, to6 + 6 + 5, none⟩ = some (.int .i64 0) ∧ V.cell? ⟨w.heap.size, 12, none⟩ = some (.int .i64 3) ∧ V.cell? ⟨w.heap.size, 13, none⟩ = some (.int .i64 5) ∧ V.cell? ⟨w.heap.size, 14, none⟩ = some (.string ⟨#[97, 110, 110]⟩) ∧ V.cell? ⟨w.heap.size, 15, none⟩ = some (.string ⟨#[]⟩) ∧ V.cell? ⟨w.heap.size, 16, none⟩ = some (.int .i64 1) ∧ V.cell? ⟨w.heap.size, 17, none⟩ = some (.int .i64 0) := by
 obtain ⟨b0, o0, x0, -, r0⟩ := h.e.at_ (k := 0) (by decide)
 obtain ⟨b1, o1, x1, -, r1⟩ := h.e.at_ (k := 1) (by decide)
 obtain ⟨b2, o2, x2, -, r2⟩ := h.e.at_ (k := 2) (by decide)
 cases x0; cases x1; cases x2
 obtain ⟨c0, c1, c2, c3, c4, c5⟩ := h.s.cells
 obtain ⟨bt, ot, xt, -, t0, t1, t2, t3, t4, t5⟩ := h.t.at_ (k := 1) (by decide)
 cases xt
 obtain ⟨bl, ol, xl, -, l0, l1, l2, l3, l4, l5⟩ := h.l.at_ (k := 2) (by decide)
 cases xl
 exact ⟨r0, r1, r2, c0, c1, c2, c3, c4, c5, t0, t1, t2, t3, t4, t5, l0, l1, l2, l3, l4, l5⟩
theorem eq_event (W : World) : (binOp .eql 64 (.agg #[.int .i64 3, .int .i64 5, .string ⟨#[97, 110, 110]⟩, .string ⟨#[]⟩, .int .i64 1, .int .i64 0]) (.agg #[.int .i64 3, .int .i64 5, .string ⟨#[97, 110, 110]⟩, .string ⟨#[]⟩, .int .i64 1, .int .i64 0])).run Tryz.prog W = .ok (.bool true) W := by kernel_rfl
set_option maxHeartbeats 4000000 in
theorem alive12 (w : World) : Calls Tryz.prog 20 #[] w fun e w' => e = .returned (.bool true) ∧ Below w.heap.size w w' := by
 have HFO : Hid (∀ (a : Option Addr) c V, EvSl V a l12 → Calls Tryz.prog 22 #[.agg #[.int .i64 0, .int .i64 0, .slice none 0 0, .slice none 0 0, .slice none 0 0, .slice none 0 0], .slice a 3 c] V fun r w' => ∃ y b q, r = .returned (.tuple #[.agg #[.int .i64 y.now, .int .i64 y.hor, .slice y.oa y.op.length y.oc, .slice y.ua y.us.length y.uc, .slice y.sa y.su.length y.sc, .slice y.ta y.tb.length y.tc], .slice b 3 q]) ∧ SaAt w' y ∧ y.m = sB3 ∧ ErSl w' b [0, 100, 0] ∧ Below V.heap.size V w') := Lib.hid fun a c V h => by
  have h1 := pfold_any saO a c l12 V (SaAt.zero V) RightS.zero h l12_fits (by decide)
  rw [show saO.m = saZ from rfl, l12_fold, l12_errs] at h1
  refine h1.mono ?_
  rintro r w' ⟨y, b, q, rfl, k1, k2, k3, -, -, k4⟩
  exact ⟨y, b, q, rfl, k1, k2, k3, k4⟩
 have HTK : Hid (∀ (a : Option Addr) c V, EvSl V a l12 → Calls Tryz.prog 31 #[.agg #[.int .i64 0, .int .i64 0, .slice none 0 0, .slice none 0 0, .slice none 0 0, .slice none 0 0], .slice a 3 c] V fun r w' => ∃ b q, r = .returned (.slice b 2 q) ∧ EvSl w' b [eV1, eV3] ∧ Below V.heap.size V w') := Lib.hid fun a c V h => by
  have h1 := ptaken_any saO a c l12 V (SaAt.zero V) RightS.zero h l12_fits (by decide)
  rw [show saO.m = saZ from rfl, l12_taken] at h1
  refine h1.mono ?_
  rintro r w' ⟨b, q, rfl, k1, -, -, -, k4⟩
  exact ⟨b, q, rfl, k1, k4⟩
 have HLA : Hid (∀ (a : Option Addr) V, EvSl V a l12 → Calls Tryz.prog 25 #[.slice a 3 3] V fun r w' => r = .returned (.tuple #[.int .i64 5, .bool true]) ∧ Below V.heap.size V w') := Lib.hid fun a V h => platest_any a 3 l12 V h (by decide) (by decide) (by unfold maxLen; decide)
 have HLN : Hid (∀ V, Calls Tryz.prog 25 #[.slice none 0 0] V fun r w' => r = .returned (.tuple #[.int .i64 0, .bool false]) ∧ Below V.heap.size V w') := Lib.hid fun V => platest_any none 0 [] V (EvSl.nil _ _) (by decide) (by decide) (by unfold maxLen; decide)
 have HST : Hid (∀ (y : SaL) V, SaAt V y → y.m = sB3 → Calls Tryz.prog 39 #[.agg #[.int .i64 y.now, .int .i64 y.hor, .slice y.oa y.op.length y.oc, .slice y.ua y.us.length y.uc, .slice y.sa y.su.length y.sc, .slice y.ta y.tb.length y.tc], .string ⟨#[97, 110, 110]⟩, .int .i64 9] V fun r w' => ∃ b q, r = .returned (.slice b 1 q) ∧ Below V.heap.size V w') := Lib.hid fun y V h hm => by
  have h1 := stays_any11 y an11 9 V h (hm ▸ (few_of sB3_right (n := 400) (by decide)))
  rw [hm, sB3_stays] at h1
  refine h1.mono ?_
  rintro r w' ⟨b, q, rfl, -, k⟩
  exact ⟨b, q, rfl, k⟩
 have HWO : Hid (∀ (a : Option Addr) c V, EvSl V a l12 → Calls Tryz.prog 33 #[.string ⟨#[97, 110, 110]⟩, .slice a 3 c] V fun r w' => ∃ b q, r = .returned (.slice b 1 q) ∧ Below V.heap.size V w') := Lib.hid fun a c V h => by
  have h1 := pwithout_any an11 a c l12 V h (by decide)
  rw [l12_without] at h1
  refine h1.mono ?_
  rintro r w' ⟨b, q, rfl, -, -, -, -, k⟩
  exact ⟨b, q, rfl, k⟩
 have hb0 := below_one w (.cells #[.int .i64 1, .int .i64 3, .string ⟨#[97, 110, 110]⟩, .string ⟨#[]⟩, .int .i64 1, .int .i64 1, .int .i64 1, .int .i64 4, .string ⟨#[98, 111, 98]⟩, .string ⟨#[]⟩, .int .i64 1, .int .i64 1, .int .i64 3, .int .i64 5, .string ⟨#[97, 110, 110]⟩, .string ⟨#[]⟩, .int .i64 1, .int .i64 0] 64)
 have HL : Hid (EvSl (w.alloc (.cells #[.int .i64 1, .int .i64 3, .string ⟨#[97, 110, 110]⟩, .string ⟨#[]⟩, .int .i64 1, .int .i64 1, .int .i64 1, .int .i64 4, .string ⟨#[98, 111, 98]⟩, .string ⟨#[]⟩, .int .i64 1, .int .i64 1, .int .i64 3, .int .i64 5, .string ⟨#[97, 110, 110]⟩, .string ⟨#[]⟩, .int .i64 1, .int .i64 0] 64)) (some ⟨w.heap.size, 0, none⟩) l12) := Lib.hid (evsl_lit w l12 _ _ _ rfl rfl)
 have HQ := eq_event
 have HB0 := Lib.hid hb0
 clear hb0
 go_enter Tryz.func20, Tryz.ntmps20
 go_wp2_with fail
 refine (HFO.out _ _ _ HL.out).mono ?_
 rintro r w2 ⟨y, b, q, rfl, hy, hym, hE, h2⟩
 have hb2 := below_one w2 (.cells #[.int .i64 y.now, .int .i64 y.hor, .slice y.oa y.op.length y.oc, .slice y.ua y.us.length y.uc, .slice y.sa y.su.length y.sc, .slice y.ta y.tb.length y.tc] 39)
 have HB2 := Lib.hid (HB0.out.trans (h2.mono HB0.out.size))
 have HS : Hid (SB w w2.heap.size 39 y (w2.alloc (.cells #[.int .i64 y.now, .int .i64 y.hor, .slice y.oa y.op.length y.oc, .slice y.ua y.us.length y.uc, .slice y.sa y.su.length y.sc, .slice y.ta y.tb.length y.tc] 39))) := Lib.hid (SB.new HB2.out hy 39)
 have HEE := Lib.hid (hE.below hb2)
 have HLL := Lib.hid ((HL.out.below h2).below hb2)
 have HYM := Lib.hid hym
 clear hb2 hy hym hE h2 HFO HL HB0 HB2
 go_wp2_with fail
 refine (HTK.out _ _ _ HLL.out).mono ?_
 rintro r w3 ⟨bt, qt, rfl, hT, h3⟩
 have HK : Hid (Al12 w w2.heap.size y b bt w3) := Lib.hid ⟨HS.out.below h3, HEE.out.below h3, hT, HLL.out.below h3⟩
 clear HS HEE HLL HTK hT h3
 go_wp2_with fail
 refine (HLA.out _ _ HK.out.l).mono ?_
 rintro r w4 ⟨rfl, h4⟩
 replace HK := Lib.hid (HK.out.below h4)
 clear h4 HLA
 go_wp2_with fail
 refine (HLN.out _).mono ?_
 rintro r w5 ⟨rfl, h5⟩
 replace HK := Lib.hid (HK.out.below h5)
 clear h5 HLN
 obtain ⟨eb, eo, rfl, -, -⟩ := HK.out.e.at_ (k := 0) (by decide)
 obtain ⟨tb, to6, rfl, -, -⟩ := HK.out.t.at_ (k := 0) (by decide)
 generalize w2.heap.size = g at *
 have HSC := Lib.hid (fun V (h : Al12 w g y (some ⟨eb, eo, none⟩) (some ⟨tb, to6, none⟩) V) => h.cells)
 obtain ⟨k0, k1, k2, k3, k4, k5, k6, k7, k8, k9, k10, k11, k12, k13, k14, k15, k16, k17, k18, k19, k20⟩ := HSC.out _ HK.out
 have K0 := HK.out.below (Below.refl _ _).drew
 clear HK
 go_wp2_with fail
 go_region_held3 (fun V => V.cell? ⟨eb, eo, none⟩ = some (.int .i64 0) ∧ V.cell? ⟨eb, eo + 1, none⟩ = some (.int .i64 100) ∧ V.cell? ⟨eb, eo + 2, none⟩ = some (.int .i64 0) ∧ V.cell? ⟨g, 0, none⟩ = some (.int .i64 y.now) ∧ V.cell? ⟨g, 1, none⟩ = some (.int .i64 y.hor) ∧ V.cell? ⟨g, 2, none⟩ = some (.slice y.oa y.op.length y.oc) ∧ V.cell? ⟨g, 3, none⟩ = some (.slice y.ua y.us.length y.uc) ∧ V.cell? ⟨g, 4, none⟩ = some (.slice y.sa y.su.length y.sc) ∧ V.cell? ⟨g, 5, none⟩ = some (.slice y.ta y.tb.length y.tc) ∧ V.cell? ⟨tb, to6 + 6, none⟩ = some (.int .i64 3) ∧ V.cell? ⟨tb, to6 + 6 + 1, none⟩ = some (.int .i64 5) ∧ V.cell? ⟨tb, to6 + 6 + 2, none⟩ = some (.string ⟨#[97, 110, 110]⟩) ∧ V.cell? ⟨tb, to6 + 6 + 3, none⟩ = some (.string ⟨#[]⟩) ∧ V.cell? ⟨tb, to6 + 6 + 4, none⟩ = some (.int .i64 1) ∧ V.cell? ⟨tb, to6 + 6 + 5, none⟩ = some (.int .i64 0) ∧ V.cell? ⟨w.heap.size, 12, none⟩ = some (.int .i64 3) ∧ V.cell? ⟨w.heap.size, 13, none⟩ = some (.int .i64 5) ∧ V.cell? ⟨w.heap.size, 14, none⟩ = some (.string ⟨#[97, 110, 110]⟩) ∧ V.cell? ⟨w.heap.size, 15, none⟩ = some (.string ⟨#[]⟩) ∧ V.cell? ⟨w.heap.size, 16, none⟩ = some (.int .i64 1) ∧ V.cell? ⟨w.heap.size, 17, none⟩ = some (.int .i64 0))
  (first | with_reducible exact HSC.out _ K2 | with_reducible exact HSC.out _ K1 | with_reducible exact HSC.out _ K0)
  (first | (have hseen := K1; clear hseen; go_at_call 33; refine (HWO.out _ _ _ K1.l).mono ?_; rintro r v2 ⟨b2, q2, rfl, h2⟩; have K2 := K1.below h2) | (have hseen := K0; clear hseen; go_at_call 39; refine (HST.out y _ K0.s.at_ HYM.out).mono ?_; rintro r v1 ⟨b1, q1, rfl, h1⟩; have K1 := K0.below h1))
 all_goals
  have HF := Lib.hid K2.s.frame
  clear K0 K1 K2 HSC h1 h2 k0 k1 k2 k3 k4 k5 k6 k7 k8 k9 k10 k11 k12 k13 k14 k15 k16 k17 k18 k19 k20
  go_wp2
  go_ret
  exact ⟨rfl, HF.out⟩
end Go.Proofs.YtapacckmgmdnoaaGreat
