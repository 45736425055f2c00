/- SubsGrants: what a grant, and a revoke, make of any entries, or why they are refused, is what the document says; what was given stays as it was; for all rows, pairs and times. No condition. -/
import Derived.Test.YthaancmobpamhaaAB18
import Derived.Test.YthaancmobpamhaaAB2
namespace Go.Proofs.Ythaancmobpamhaa.subsGrants
open Go.ChangeShapes Go.WideShapes Go.ChangeAt Go.RowKit
open Go.ChangeMaps (open_string shut_string)
set_option linter.unusedVariables false
set_option maxRecDepth 100000

/-- the pair, the row that came in, the program's own of it, all else as it was -/
structure Pl (w : World) (g : Nat) (p u : ByteArray) (a x : Option Addr) (l m : List EnM) (W : World) : Prop where
  pc : PcAt W g p u
  a : EnSl W a l
  x : EnSl W x m
  frame : Below w.heap.size w W
theorem Pl.below {w W W' : World} {g : Nat} {p u : ByteArray} {a x : Option Addr} {l m : List EnM} (h : Pl w g p u a x l m W) (q : Below W.heap.size W W') : Pl w g p u a x l m W' :=
  ⟨h.pc.below q, h.a.below q, h.x.below q, h.frame.trans (q.mono h.frame.size)⟩
theorem Pl.new {w : World} (p u : ByteArray) {a : Option Addr} {l : List EnM} (h : EnSl w a l) : Pl w w.heap.size p u a a l l (w.alloc (.cells #[.string p, .string u] 24)) :=
  ⟨PcAt.new _ _ _ _, h.below (below_one _ _), h.below (below_one _ _), below_one _ _⟩

/-- the pair, the row that came in, the program's own of it, what both have made of it, all else as it was -/
structure Gs (w : World) (g : Nat) (p u : ByteArray) (a x y z : Option Addr) (l G : List EnM) (W : World) : Prop where
  pc : PcAt W g p u
  a : EnSl W a l
  x : EnSl W x l
  y : EnSl W y G
  z : EnSl W z G
  frame : Below w.heap.size w W
theorem Gs.below {w W W' : World} {g : Nat} {p u : ByteArray} {a x y z : Option Addr} {l G : List EnM} (h : Gs w g p u a x y z l G W) (q : Below W.heap.size W W') : Gs w g p u a x y z l G W' :=
  ⟨h.pc.below q, h.a.below q, h.x.below q, h.y.below q, h.z.below q, h.frame.trans (q.mono h.frame.size)⟩

set_option maxHeartbeats 8000000 in
theorem walk (w : World) (a : Option Addr) (c : Nat) (l : List EnM) (hs : EnSl w a l) (hf : FitsE l) (hc : l.length ≤ c) (hcm : c ≤ maxLen) (hn : a = none → c = 0) (p u : ByteArray) (hp : p.size ≤ maxLen) (hu : u.size ≤ maxLen) (n : Int) (hn64 : (Lit.int .i64 n).wf = true) :
    Calls Try.prog 3 #[.slice a l.length c, .agg #[.string p, .string u], .int .i64 n] w fun e w' => e = .returned (.bool true) ∧ Below w.heap.size w w' := by
  have HAL := Lib.hid alive_any
  have S0 := Lib.hid (Pl.new p u hs)
  by_cases h1 : 60 < l.length
  · have hd1 : decide ((60 : Int) < (l.length : Int)) = true := decide_eq_true (by omega)
    clear hs hf hc hcm hn hp hu hn64
    go_enter Try.func3, Try.ntmps3
    go_wp2_with fail
    refine (HAL.out _).mono ?_
    rintro e w1 ⟨rfl, hB⟩
    go_wp2
    go_ret
    exact ⟨rfl, S0.out.frame.trans (hB.mono S0.out.frame.size)⟩
  have hd1 : decide ((60 : Int) < (l.length : Int)) = false := decide_eq_false (by omega)
  have HL := Lib.hid (show l.length ≤ 60 by omega)
  have HN := Lib.hid (fun W (h : EnSl W a l) => e_news a c l W h (by omega))
  have HOL := Lib.hid (fun x q m W (h : EnSl W x m) hl => e_olds x q m W h hl)
  have HSM := Lib.hid (fun x y p q m W (h : EnSl W x m) (k : EnSl W y m) hl => e_rsame1 x y p q m W h k hl)
  have HOLN : Hid (∀ W, Calls Try.prog 17 #[.slice none 0 0] W fun e w' => ∃ x q, e = .returned (.slice x 0 q) ∧ Below W.heap.size W w') := fun W => (e_olds none 0 [] W (EnSl.nil _ _) (by decide)).mono fun e w' ⟨x, q, he, _, _, _, _, hb⟩ => ⟨x, q, he, hb⟩
  have HSMN : Hid (∀ x q W, Calls Try.prog 16 #[.slice x 0 q, .slice none 0 0] W fun e w' => e = .returned (.bool true) ∧ Below W.heap.size W w') := fun x q W => e_rsame1 x none q 0 [] W (EnSl.nil _ _) (EnSl.nil _ _) (by decide)
  have HIN := Lib.hid (fun x q W (h : EnSl W x l) => e_inforce x q l p u W h (by omega))
  have HFO := Lib.hid (fun W (h : EnSl W a l) => e_force a c l p u W h (by omega))
  have hda := idx_any (infE p u) l
  generalize idxI (infE p u) l = ix at *
  obtain ⟨c0, c1, -⟩ := S0.out.pc
  cases hi : l.any (infE p u) with
  | true =>
    rw [hi] at hda HIN
    have HGR := Lib.hid (fun x q W (h : EnSl W x l) h1 h2 h3 => e_grant_no x q l p u n W h h1 (by omega) h2 h3 hi)
    have HRG := Lib.hid (fun W (h : EnSl W a l) => e_rgrant_no a c l p u n W h (SzE.of hf) hp hu hn (by omega) hc hcm hi)
    have HRV := Lib.hid (fun x q W (h : EnSl W x l) h2 h3 => e_revoke x q l p u n W h (by omega) h2 h3 hi)
    have HRR := Lib.hid (fun W (h : EnSl W a l) => e_rrevoke a c l p u n W h (by omega) hi)
    have HGL : Hid ((revokeS l p u n).length ≤ 61) := Nat.le_trans (revoke_len l p u n) (by omega)
    generalize revokeS l p u n = G at *
    clear hs hf hc hcm hn h1 hp hu hn64 hi
    go_enter Try.func3, Try.ntmps3
    go_wp2_with fail
    generalize w.alloc (.cells #[.string p, .string u] 24) = w0 at *
    refine (HN.out _ S0.out.a).mono ?_
    rintro e w1 ⟨x, q, rfl, k1, m1, n1, z1, h1⟩
    have S1 : Hid (Pl w w.heap.size p u a x l l w1) := ⟨S0.out.pc.below h1, S0.out.a.below h1, z1, S0.out.frame.trans (h1.mono S0.out.frame.size)⟩
    have KQ := Lib.hid k1
    have MQ := Lib.hid m1
    have NQ := Lib.hid n1
    clear S0 c0 c1 h1 z1 k1 m1 n1 HN
    obtain ⟨c0, c1, -⟩ := S1.out.pc
    go_wp2_with fail
    refine (HGR.out x q _ S1.out.x NQ.out KQ.out MQ.out).mono ?_
    rintro e w2 ⟨rfl, h1⟩
    have S2 := Lib.hid (S1.out.below h1)
    clear S1 h1 c0 c1
    obtain ⟨c0, c1, -⟩ := S2.out.pc
    go_wp2_with fail
    refine (HRG.out _ S2.out.a).mono ?_
    rintro e w3 ⟨rfl, h1⟩
    have S3 := Lib.hid (S2.out.below h1)
    clear S2 h1 c0 c1
    obtain ⟨c0, c1, -⟩ := S3.out.pc
    go_wp2_with fail
    refine (HRV.out x q _ S3.out.x KQ.out MQ.out).mono ?_
    rintro e w4 ⟨y, qy, rfl, -, -, -, zy, h1⟩
    have S4 := Lib.hid (S3.out.below h1)
    clear S3 h1 c0 c1
    obtain ⟨c0, c1, -⟩ := S4.out.pc
    go_wp2_with fail
    refine (HRR.out _ S4.out.a).mono ?_
    rintro e w5 ⟨z, qz, rfl, -, -, -, zz, h1⟩
    have S5 := Lib.hid (S4.out.below h1)
    replace zy := zy.below h1
    clear S4 h1 c0 c1
    obtain ⟨c0, c1, -⟩ := S5.out.pc
    have T5 : Hid (Gs w w.heap.size p u a x y z l G w5) := ⟨S5.out.pc, S5.out.a, S5.out.x, zy, zz, S5.out.frame⟩
    clear S5 zy zz c0 c1 HGR HRG HRV HRR KQ MQ NQ
    generalize w.heap.size = g at T5 ⊢
    obtain ⟨c0, c1, -⟩ := T5.out.pc
    have K0 : Gs w g p u a x y z l G w5.drew := T5.out.below (Below.refl _ _).drew
    have HBL : Hid (∀ W W', Gs w g p u a x y z l G W → Below W.heap.size W W' → Gs w g p u a x y z l G W') := fun W W' h r => h.below r
    have HSC : Hid (∀ W, Gs w g p u a x y z l G W → W.cell? ⟨g, 0, none⟩ = some (.string p) ∧ W.cell? ⟨g, 1, none⟩ = some (.string u)) := fun W h => ⟨h.pc.1, h.pc.2.1⟩
    clear T5
    go_wp2_with fail
    go_region_held3 (fun W => W.cell? ⟨g, 0, none⟩ = some (.string p) ∧ W.cell? ⟨g, 1, none⟩ = some (.string u))
      (first |  with_reducible exact HSC.out _ K9 | with_reducible exact HSC.out _ K8 | with_reducible exact HSC.out _ K7 | with_reducible exact HSC.out _ K6 | with_reducible exact HSC.out _ K5 | with_reducible exact HSC.out _ K4 | with_reducible exact HSC.out _ K3 | with_reducible exact HSC.out _ K2 | with_reducible exact HSC.out _ K1 | with_reducible exact HSC.out _ K0 | assumption)
      (first | (have hseen := K8; clear hseen; go_at_call 16; refine (HSM.out y3 a p3 c l _ z3 K8.a (by have := HL.out; omega)).mono ?_; rintro e v9 ⟨rfl, h9⟩; have K9 := HBL.out _ _ K8 h9) | (have hseen := K7; clear hseen; go_at_call 17; refine (HOL.out x q l _ K7.x (by have := HL.out; omega)).mono ?_; rintro e v8 ⟨y3, p3, rfl, -, -, -, z3, h8⟩; have K8 := HBL.out _ _ K7 h8) | (have hseen := K6; clear hseen; go_at_call 19; refine (HFO.out _ K6.a).mono ?_; rintro e v7 ⟨rfl, h7⟩; have K7 := HBL.out _ _ K6 h7) | (have hseen := K5; clear hseen; go_at_call 18; refine (HIN.out x q _ K5.x).mono ?_; rintro e v6 ⟨rfl, h6⟩; have K6 := HBL.out _ _ K5 h6) | (have hseen := K4; clear hseen; go_at_call 16; refine (HSM.out y2 z p2 qz G _ z2 K4.z (by have := HGL.out; omega)).mono ?_; rintro e v5 ⟨rfl, h5⟩; have K5 := HBL.out _ _ K4 h5) | (have hseen := K3; clear hseen; go_at_call 17; refine (HOL.out y qy G _ K3.y (by have := HGL.out; omega)).mono ?_; rintro e v4 ⟨y2, p2, rfl, -, -, -, z2, h4⟩; have K4 := HBL.out _ _ K3 h4) | (have hseen := K2; clear hseen; go_at_call 16; refine (HSMN.out y1 p1 _).mono ?_; rintro e v3 ⟨rfl, h3⟩; have K3 := HBL.out _ _ K2 h3) | (have hseen := K1; clear hseen; go_at_call 17; refine (HOLN.out _).mono ?_; rintro e v2 ⟨y1, p1, rfl, h2⟩; have K2 := HBL.out _ _ K1 h2) | (have hseen := K0; clear hseen; go_at_call 10; refine (HAL.out _).mono ?_; rintro e v1 ⟨rfl, h1⟩; have K1 := HBL.out _ _ K0 h1))
    go_wp2
    go_ret
    exact ⟨rfl, K9.frame⟩
  | false =>
    rw [hi] at hda HIN
    have HGR := Lib.hid (fun x q W (h : EnSl W x l) h1 h2 h3 => e_grant x q l p u n W h h1 (by omega) h2 h3 hi)
    have HRG := Lib.hid (fun W (h : EnSl W a l) => e_rgrant a c l p u n W h (SzE.of hf) hp hu hn (by omega) hc hcm hi)
    have HRV := Lib.hid (fun x q W (h : EnSl W x l) h2 h3 => e_revoke_no x q l p u n W h (by omega) h2 h3 hi)
    have HRR := Lib.hid (fun W (h : EnSl W a l) => e_rrevoke_no a c l p u n W h (by omega) hi)
    have HGL : Hid ((grantS l (mkE p u n)).length ≤ 61) := by unfold Hid; rw [grant_len]; omega
    generalize grantS l (mkE p u n) = G at *
    clear hs hf hc hcm hn h1 hp hu hn64 hi
    go_enter Try.func3, Try.ntmps3
    go_wp2_with fail
    generalize w.alloc (.cells #[.string p, .string u] 24) = w0 at *
    refine (HN.out _ S0.out.a).mono ?_
    rintro e w1 ⟨x, q, rfl, k1, m1, n1, z1, h1⟩
    have S1 : Hid (Pl w w.heap.size p u a x l l w1) := ⟨S0.out.pc.below h1, S0.out.a.below h1, z1, S0.out.frame.trans (h1.mono S0.out.frame.size)⟩
    have KQ := Lib.hid k1
    have MQ := Lib.hid m1
    have NQ := Lib.hid n1
    clear S0 c0 c1 h1 z1 k1 m1 n1 HN
    obtain ⟨c0, c1, -⟩ := S1.out.pc
    go_wp2_with fail
    refine (HGR.out x q _ S1.out.x NQ.out KQ.out MQ.out).mono ?_
    rintro e w2 ⟨y, qy, rfl, -, -, -, zy, h1⟩
    have S2 := Lib.hid (S1.out.below h1)
    clear S1 h1 c0 c1
    obtain ⟨c0, c1, -⟩ := S2.out.pc
    go_wp2_with fail
    refine (HRG.out _ S2.out.a).mono ?_
    rintro e w3 ⟨z, qz, rfl, -, -, -, zz, h1⟩
    have S3 := Lib.hid (S2.out.below h1)
    replace zy := zy.below h1
    clear S2 h1 c0 c1
    obtain ⟨c0, c1, -⟩ := S3.out.pc
    go_wp2_with fail
    refine (HRV.out x q _ S3.out.x KQ.out MQ.out).mono ?_
    rintro e w4 ⟨rfl, h1⟩
    have S4 := Lib.hid (S3.out.below h1)
    replace zy := zy.below h1
    replace zz := zz.below h1
    clear S3 h1 c0 c1
    obtain ⟨c0, c1, -⟩ := S4.out.pc
    go_wp2_with fail
    refine (HRR.out _ S4.out.a).mono ?_
    rintro e w5 ⟨rfl, h1⟩
    have S5 := Lib.hid (S4.out.below h1)
    replace zy := zy.below h1
    replace zz := zz.below h1
    clear S4 h1 c0 c1
    obtain ⟨c0, c1, -⟩ := S5.out.pc
    have T5 : Hid (Gs w w.heap.size p u a x y z l G w5) := ⟨S5.out.pc, S5.out.a, S5.out.x, zy, zz, S5.out.frame⟩
    clear S5 zy zz c0 c1 HGR HRG HRV HRR KQ MQ NQ
    generalize w.heap.size = g at T5 ⊢
    obtain ⟨c0, c1, -⟩ := T5.out.pc
    have K0 : Gs w g p u a x y z l G w5.drew := T5.out.below (Below.refl _ _).drew
    have HBL : Hid (∀ W W', Gs w g p u a x y z l G W → Below W.heap.size W W' → Gs w g p u a x y z l G W') := fun W W' h r => h.below r
    have HSC : Hid (∀ W, Gs w g p u a x y z l G W → W.cell? ⟨g, 0, none⟩ = some (.string p) ∧ W.cell? ⟨g, 1, none⟩ = some (.string u)) := fun W h => ⟨h.pc.1, h.pc.2.1⟩
    clear T5
    go_wp2_with fail
    go_region_held3 (fun W => W.cell? ⟨g, 0, none⟩ = some (.string p) ∧ W.cell? ⟨g, 1, none⟩ = some (.string u))
      (first |  with_reducible exact HSC.out _ K9 | with_reducible exact HSC.out _ K8 | with_reducible exact HSC.out _ K7 | with_reducible exact HSC.out _ K6 | with_reducible exact HSC.out _ K5 | with_reducible exact HSC.out _ K4 | with_reducible exact HSC.out _ K3 | with_reducible exact HSC.out _ K2 | with_reducible exact HSC.out _ K1 | with_reducible exact HSC.out _ K0 | assumption)
      (first | (have hseen := K8; clear hseen; go_at_call 16; refine (HSM.out y3 a p3 c l _ z3 K8.a (by have := HL.out; omega)).mono ?_; rintro e v9 ⟨rfl, h9⟩; have K9 := HBL.out _ _ K8 h9) | (have hseen := K7; clear hseen; go_at_call 17; refine (HOL.out x q l _ K7.x (by have := HL.out; omega)).mono ?_; rintro e v8 ⟨y3, p3, rfl, -, -, -, z3, h8⟩; have K8 := HBL.out _ _ K7 h8) | (have hseen := K6; clear hseen; go_at_call 19; refine (HFO.out _ K6.a).mono ?_; rintro e v7 ⟨rfl, h7⟩; have K7 := HBL.out _ _ K6 h7) | (have hseen := K5; clear hseen; go_at_call 18; refine (HIN.out x q _ K5.x).mono ?_; rintro e v6 ⟨rfl, h6⟩; have K6 := HBL.out _ _ K5 h6) | (have hseen := K4; clear hseen; go_at_call 16; refine (HSMN.out y1 p1 _).mono ?_; rintro e v5 ⟨rfl, h5⟩; have K5 := HBL.out _ _ K4 h5) | (have hseen := K3; clear hseen; go_at_call 17; refine (HOLN.out _).mono ?_; rintro e v4 ⟨y1, p1, rfl, h4⟩; have K4 := HBL.out _ _ K3 h4) | (have hseen := K2; clear hseen; go_at_call 16; refine (HSM.out y2 z p2 qz G _ z2 K2.z (by have := HGL.out; omega)).mono ?_; rintro e v3 ⟨rfl, h3⟩; have K3 := HBL.out _ _ K2 h3) | (have hseen := K1; clear hseen; go_at_call 17; refine (HOL.out y qy G _ K1.y (by have := HGL.out; omega)).mono ?_; rintro e v2 ⟨y2, p2, rfl, -, -, -, z2, h2⟩; have K2 := HBL.out _ _ K1 h2) | (have hseen := K0; clear hseen; go_at_call 10; refine (HAL.out _).mono ?_; rintro e v1 ⟨rfl, h1⟩; have K1 := HBL.out _ _ K0 h1))
    go_wp2
    go_ret
    exact ⟨rfl, K9.frame⟩

set_option maxRecDepth 100000 in
theorem lifted (os : Os) (started : os.Started) (H : Type) (enc : TypeId × Value → H) :
    ReturnsInHanded {} Try.checked os 3 .any (Rows.subsGrantsSpec.pre6 enc Try.prog Try.f3 Rows.subsGrantsRow.domain false) (Rows.subsGrantsSpec.post enc Try.prog Try.f3 false true false false) := by
  refine returnsInHanded_of_change (C := Try.checked) own started (by kernel_rfl) Try.func3
    (ChangeSpec.witness6 (enc := enc) (C := Try.checked) false ⟨#[], #[.slice none 0 0, .agg #[.string ByteArray.empty, .string ByteArray.empty], .int .i64 0], []⟩ 8 (by kernel_rfl) (by kernel_rfl) (by kernel_rfl) (by kernel_rfl)) ?_
  intro W base args ds gs before hval0 hW hcnd _
  have hval : ∀ (j : Nat) t v, Try.f3.params[j]? = some t → args[j]? = some v → Value.okWide Try.prog W .any base t v := hval0
  have hW' := hW
  have hlt := hW.lt
  obtain ⟨p, q, hA0, hV, rfl, hfz, hnd⟩ := hW
  have hA : DataW.TrodAll enc Try.prog W 0 (fun _ => true) true Try.f3.params.toList args.toList ds p := hA0
  rw [Try.params3] at hA hval
  obtain ⟨v0, vs0, d0, ds0, p0, q0, hargs, rfl, rfl, h0, r0⟩ := trodAll_cons hA
  obtain ⟨v1, vs1, d1, ds1, p1, q1, rfl, rfl, rfl, h1, r1⟩ := trodAll_cons r0
  obtain ⟨v2, vs2, d2, ds2, p2, q2, rfl, rfl, rfl, h2, r2⟩ := trodAll_cons r1
  obtain ⟨rfl, rfl, rfl⟩ := trodAll_nil r2
  obtain rfl : args = #[v0, v1, v2] := by cases args; simp_all
  obtain ⟨a0, c0, l0, rfl, s0, f0, m0, n0, o0⟩ := open_entries (hval 0 22 v0 rfl rfl) h0
  obtain ⟨x1, y1, rfl, f1, g1⟩ := open_prr (hval 1 24 v1 rfl rfl) h1
  obtain ⟨a2, rfl, -, -, w2⟩ := open_int Try.underlying3 (hval 2 3 v2 rfl rfl) h2
  refine (walk W a0 c0 l0 s0 f0 m0 n0 o0 x1 y1 f1 g1 a2 w2).mono fun e W' ⟨he, hb⟩ => ?_
  subst he
  exact ⟨_, rfl, law_post rfl hW' (fun ds h => by match ds, h with | [_, _, _], _ => rfl) (by kernel_rfl) (by kernel_rfl) (by kernel_rfl) hb⟩

theorem over : Rows.subsGrantsRow.holds Try.pinned (OpenSpec.ofChange Rows.subsGrantsSpec) :=
  OpenClaim.holds_of_wide 3 Try.f3 rfl rfl rfl rfl rfl rfl rfl ⟨rfl, rfl, rfl, rfl, rfl⟩ rfl rfl rfl rfl rfl (by kernel_rfl) Try.func3 (by kernel_rfl)
    (of_decide_eq_true (by kernel_rfl)) (by unfold Func.isWrapper; first | (rw [if_pos (by decide +kernel)]; kernel_rfl) | (rw [if_neg (by decide +kernel)]; exact ⟨rfl, rfl⟩))
    (fun os started H enc _ => lifted os started H enc)

theorem proved : Rows.SubsGrantsSaid := over
end Go.Proofs.Ythaancmobpamhaa.subsGrants
