/- SubsPeriods: a pair's periods, which entries have somebody not, and which end behind a time, are what the document says; for all rows, pairs and times. No condition. -/
import Derived.Test.YthaancmobpamhaaAB18
import Derived.Test.YthaancmobpamhaaAB2
namespace Go.Proofs.Ythaancmobpamhaa.subsPeriods
open Go.ChangeShapes Go.WideShapes Go.ChangeAt Go.RowKit
open Go.ChangeMaps (open_string shut_string)
set_option linter.unusedVariables false
set_option maxRecDepth 100000

/-- the pair, the row that came in, the program's own of it, all else as it was -/
structure Pl (w : World) (g : Nat) (p u : ByteArray) (a x : Option Addr) (l m : List EnM) (W : World) : Prop where
  pc : PcAt W g p u
  a : EnSl W a l
  x : EnSl W x m
  frame : Below w.heap.size w W
theorem Pl.below {w W W' : World} {g : Nat} {p u : ByteArray} {a x : Option Addr} {l m : List EnM} (h : Pl w g p u a x l m W) (q : Below W.heap.size W W') : Pl w g p u a x l m W' :=
  ⟨h.pc.below q, h.a.below q, h.x.below q, h.frame.trans (q.mono h.frame.size)⟩
theorem Pl.new {w : World} (p u : ByteArray) {a : Option Addr} {l : List EnM} (h : EnSl w a l) : Pl w w.heap.size p u a a l l (w.alloc (.cells #[.string p, .string u] 24)) :=
  ⟨PcAt.new _ _ _ _, h.below (below_one _ _), h.below (below_one _ _), below_one _ _⟩

set_option maxHeartbeats 8000000 in
theorem walk (w : World) (a : Option Addr) (c : Nat) (l : List EnM) (hs : EnSl w a l) (hf : FitsE l) (hc : l.length ≤ c) (hcm : c ≤ maxLen) (hn : a = none → c = 0) (p u : ByteArray) (hp : p.size ≤ maxLen) (hu : u.size ≤ maxLen) (n : Int) (hn64 : (Lit.int .i64 n).wf = true) :
    Calls Try.prog 4 #[.slice a l.length c, .agg #[.string p, .string u], .int .i64 n] w fun e w' => e = .returned (.bool true) ∧ Below w.heap.size w w' := by
  have HAL := Lib.hid alive_any
  have S0 := Lib.hid (Pl.new p u hs)
  by_cases h1 : 60 < l.length
  · have hd1 : decide ((60 : Int) < (l.length : Int)) = true := decide_eq_true (by omega)
    clear hs hf hc hcm hn hp hu hn64
    go_enter Try.func4, Try.ntmps4
    go_wp2_with fail
    refine (HAL.out _).mono ?_
    rintro e w1 ⟨rfl, hB⟩
    go_wp2
    go_ret
    exact ⟨rfl, S0.out.frame.trans (hB.mono S0.out.frame.size)⟩
  have hd1 : decide ((60 : Int) < (l.length : Int)) = false := decide_eq_false (by omega)
  have HL := Lib.hid (show l.length ≤ 60 by omega)
  have HN := Lib.hid (fun W (h : EnSl W a l) => e_news a c l W h (by omega))
  have HPE := Lib.hid (fun x q W (h : EnSl W x l) => e_periods x q l p u W h (by omega))
  have HRP := Lib.hid (fun r (hr : IsSet (HasL (perS l p u)) r) W (h : EnSl W a l) => e_rperiods_r a c l p u r W h hr (by omega))
  have HWI := Lib.hid (fun x q W (h : EnSl W x l) => e_without x q l u W h (by omega))
  have HRW := Lib.hid (fun W (h : EnSl W a l) => e_rwithout a c l u W h (by omega))
  have HAF := Lib.hid (fun x q W (h : EnSl W x l) => e_after x q l n W h (by omega))
  have HRA := Lib.hid (fun W (h : EnSl W a l) => e_rafter a c l n W h (by omega))
  have HOL := Lib.hid (fun x q m W (h : EnSl W x m) hl => e_olds x q m W h hl)
  have HSM := Lib.hid (fun x y p q m W (h : EnSl W x m) (k : EnSl W y m) hl => e_rsame1 x y p q m W h k hl)
  have HCO := Lib.hid (fun x q r W (h : SpSl W x r) hl => c_olds x q r W h hl)
  have HCS := Lib.hid (fun x y p q r W (h : SpSl W x r) (k : SpSl W y r) hl => c_rsame x y p q r W h k hl)
  have HFW := Lib.hid (List.length_filter_le (wiE u) l)
  have HFA := Lib.hid (List.length_filter_le (afE n) l)
  clear hs hf hc hcm hn h1 hp hu hn64
  generalize l.filter (wiE u) = lw at *
  generalize l.filter (afE n) = la at *
  go_enter Try.func4, Try.ntmps4
  obtain ⟨c0, c1, -⟩ := S0.out.pc
  go_wp2_with fail
  generalize w.alloc (.cells #[.string p, .string u] 24) = w0 at *
  refine (HN.out _ S0.out.a).mono ?_
  rintro e w1 ⟨x, q, rfl, -, -, -, z1, h1⟩
  have S1 : Hid (Pl w w.heap.size p u a x l l w1) := ⟨S0.out.pc.below h1, S0.out.a.below h1, z1, S0.out.frame.trans (h1.mono S0.out.frame.size)⟩
  clear S0 c0 c1 z1 h1 HN
  generalize w.heap.size = g at S1 ⊢
  have K0 : Pl w g p u a x l l w1.drew := S1.out.below (Below.refl _ _).drew
  have HBL : Hid (∀ W W', Pl w g p u a x l l W → Below W.heap.size W W' → Pl w g p u a x l l W') := fun W W' h r => h.below r
  have HSC : Hid (∀ W, Pl w g p u a x l l W → W.cell? ⟨g, 0, none⟩ = some (.string p) ∧ W.cell? ⟨g, 1, none⟩ = some (.string u)) := fun W h => ⟨h.pc.1, h.pc.2.1⟩
  clear S1
  go_wp2_with fail
  go_region_held3 (fun W => W.cell? ⟨g, 0, none⟩ = some (.string p) ∧ W.cell? ⟨g, 1, none⟩ = some (.string u))
    (first |  with_reducible exact HSC.out _ K15 | with_reducible exact HSC.out _ K14 | with_reducible exact HSC.out _ K13 | with_reducible exact HSC.out _ K12 | with_reducible exact HSC.out _ K11 | with_reducible exact HSC.out _ K10 | with_reducible exact HSC.out _ K9 | with_reducible exact HSC.out _ K8 | with_reducible exact HSC.out _ K7 | with_reducible exact HSC.out _ K6 | with_reducible exact HSC.out _ K5 | with_reducible exact HSC.out _ K4 | with_reducible exact HSC.out _ K3 | with_reducible exact HSC.out _ K2 | with_reducible exact HSC.out _ K1 | with_reducible exact HSC.out _ K0 | assumption)
    (first | (have hseen := K14; clear hseen; go_at_call 16; refine (HSM.out y10 a p10 c l _ z13 K14.a (by have := HL.out; omega)).mono ?_; rintro e v15 ⟨rfl, h15⟩; have K15 := HBL.out _ _ K14 h15) | (have hseen := K13; clear hseen; go_at_call 17; refine (HOL.out x q l _ K13.x (by have := HL.out; omega)).mono ?_; rintro e v14 ⟨y10, p10, rfl, -, -, -, z13, h14⟩; have K14 := HBL.out _ _ K13 h14) | (have hseen := K12; clear hseen; go_at_call 16; refine (HSM.out y8 y9 p8 p9 la _ z12 z11 (by have := HL.out; have := HFA.out; omega)).mono ?_; rintro e v13 ⟨rfl, h13⟩; have K13 := HBL.out _ _ K12 h13) | (have hseen := K11; clear hseen; go_at_call 27; refine (HRA.out _ K11.a).mono ?_; rintro e v12 ⟨y9, p9, rfl, -, -, -, z11, h12⟩; have K12 := HBL.out _ _ K11 h12; have z12 := EnSl.below z10 h12) | (have hseen := K10; clear hseen; go_at_call 17; refine (HOL.out y7 p7 la _ z9 (by have := HL.out; have := HFA.out; omega)).mono ?_; rintro e v11 ⟨y8, p8, rfl, -, -, -, z10, h11⟩; have K11 := HBL.out _ _ K10 h11) | (have hseen := K9; clear hseen; go_at_call 26; refine (HAF.out x q _ K9.x).mono ?_; rintro e v10 ⟨y7, p7, rfl, -, -, -, z9, h10⟩; have K10 := HBL.out _ _ K9 h10) | (have hseen := K8; clear hseen; go_at_call 16; refine (HSM.out y5 y6 p5 p6 lw _ z8 z7 (by have := HL.out; have := HFW.out; omega)).mono ?_; rintro e v9 ⟨rfl, h9⟩; have K9 := HBL.out _ _ K8 h9) | (have hseen := K7; clear hseen; go_at_call 25; refine (HRW.out _ K7.a).mono ?_; rintro e v8 ⟨y6, p6, rfl, -, -, -, z7, h8⟩; have K8 := HBL.out _ _ K7 h8; have z8 := EnSl.below z6 h8) | (have hseen := K6; clear hseen; go_at_call 17; refine (HOL.out y4 p4 lw _ z5 (by have := HL.out; have := HFW.out; omega)).mono ?_; rintro e v7 ⟨y5, p5, rfl, -, -, -, z6, h7⟩; have K7 := HBL.out _ _ K6 h7) | (have hseen := K5; clear hseen; go_at_call 24; refine (HWI.out x q _ K5.x).mono ?_; rintro e v6 ⟨y4, p4, rfl, -, -, -, z5, h6⟩; have K6 := HBL.out _ _ K5 h6) | (have hseen := K4; clear hseen; go_at_call 20; refine (HCS.out y2 y3 p2 p3 r1 _ z4 z3 (by have := HL.out; omega)).mono ?_; rintro e v5 ⟨rfl, h5⟩; have K5 := HBL.out _ _ K4 h5) | (have hseen := K3; clear hseen; go_at_call 23; refine (HRP.out r1 hr1 _ K3.a).mono ?_; rintro e v4 ⟨y3, p3, rfl, z3, h4⟩; have K4 := HBL.out _ _ K3 h4; have z4 := SpSl.below z2 h4) | (have hseen := K2; clear hseen; go_at_call 21; refine (HCO.out y1 p1 r1 _ z1 (by have := HL.out; omega)).mono ?_; rintro e v3 ⟨y2, p2, rfl, z2, h3⟩; have K3 := HBL.out _ _ K2 h3) | (have hseen := K1; clear hseen; go_at_call 22; refine (HPE.out x q _ K1.x).mono ?_; rintro e v2 ⟨y1, p1, r1, rfl, hr1, hl1, -, -, -, z1, h2⟩; have K2 := HBL.out _ _ K1 h2) | (have hseen := K0; clear hseen; go_at_call 10; refine (HAL.out _).mono ?_; rintro e v1 ⟨rfl, h1⟩; have K1 := HBL.out _ _ K0 h1))
  go_wp2
  go_ret
  exact ⟨rfl, K15.frame⟩

set_option maxRecDepth 100000 in
theorem lifted (os : Os) (started : os.Started) (H : Type) (enc : TypeId × Value → H) :
    ReturnsInHanded {} Try.checked os 4 .any (Rows.subsPeriodsSpec.pre6 enc Try.prog Try.f4 Rows.subsPeriodsRow.domain false) (Rows.subsPeriodsSpec.post enc Try.prog Try.f4 false true false false) := by
  refine returnsInHanded_of_change (C := Try.checked) own started (by kernel_rfl) Try.func4
    (ChangeSpec.witness6 (enc := enc) (C := Try.checked) false ⟨#[], #[.slice none 0 0, .agg #[.string ByteArray.empty, .string ByteArray.empty], .int .i64 0], []⟩ 8 (by kernel_rfl) (by kernel_rfl) (by kernel_rfl) (by kernel_rfl)) ?_
  intro W base args ds gs before hval0 hW hcnd _
  have hval : ∀ (j : Nat) t v, Try.f4.params[j]? = some t → args[j]? = some v → Value.okWide Try.prog W .any base t v := hval0
  have hW' := hW
  have hlt := hW.lt
  obtain ⟨p, q, hA0, hV, rfl, hfz, hnd⟩ := hW
  have hA : DataW.TrodAll enc Try.prog W 0 (fun _ => true) true Try.f4.params.toList args.toList ds p := hA0
  rw [Try.params4] at hA hval
  obtain ⟨v0, vs0, d0, ds0, p0, q0, hargs, rfl, rfl, h0, r0⟩ := trodAll_cons hA
  obtain ⟨v1, vs1, d1, ds1, p1, q1, rfl, rfl, rfl, h1, r1⟩ := trodAll_cons r0
  obtain ⟨v2, vs2, d2, ds2, p2, q2, rfl, rfl, rfl, h2, r2⟩ := trodAll_cons r1
  obtain ⟨rfl, rfl, rfl⟩ := trodAll_nil r2
  obtain rfl : args = #[v0, v1, v2] := by cases args; simp_all
  obtain ⟨a0, c0, l0, rfl, s0, f0, m0, n0, o0⟩ := open_entries (hval 0 22 v0 rfl rfl) h0
  obtain ⟨x1, y1, rfl, f1, g1⟩ := open_prr (hval 1 24 v1 rfl rfl) h1
  obtain ⟨a2, rfl, -, -, w2⟩ := open_int Try.underlying3 (hval 2 3 v2 rfl rfl) h2
  refine (walk W a0 c0 l0 s0 f0 m0 n0 o0 x1 y1 f1 g1 a2 w2).mono fun e W' ⟨he, hb⟩ => ?_
  subst he
  exact ⟨_, rfl, law_post rfl hW' (fun ds h => by match ds, h with | [_, _, _], _ => rfl) (by kernel_rfl) (by kernel_rfl) (by kernel_rfl) hb⟩

theorem over : Rows.subsPeriodsRow.holds Try.pinned (OpenSpec.ofChange Rows.subsPeriodsSpec) :=
  OpenClaim.holds_of_wide 4 Try.f4 rfl rfl rfl rfl rfl rfl rfl ⟨rfl, rfl, rfl, rfl, rfl⟩ rfl rfl rfl rfl rfl (by kernel_rfl) Try.func4 (by kernel_rfl)
    (of_decide_eq_true (by kernel_rfl)) (by unfold Func.isWrapper; first | (rw [if_pos (by decide +kernel)]; kernel_rfl) | (rw [if_neg (by decide +kernel)]; exact ⟨rfl, rfl⟩))
    (fun os started H enc _ => lifted os started H enc)

theorem proved : Rows.SubsPeriodsSaid := over
end Go.Proofs.Ythaancmobpamhaa.subsPeriods
