/- SubsBack: a grant that is revoked at the same time leaves what there was; a rising row without what ended by a time rises; for all rows, pairs and times. No condition. -/
import Derived.Test.YthaancmobpamhaaAB18
import Derived.Test.YthaancmobpamhaaAB2
namespace Go.Proofs.Ythaancmobpamhaa.subsBack
open Go.ChangeShapes Go.WideShapes Go.ChangeAt Go.RowKit
open Go.ChangeMaps (open_string shut_string)
set_option linter.unusedVariables false
set_option maxRecDepth 100000

/-- the pair, the row that came in, the program's own of it, all else as it was -/
structure Pl (w : World) (g : Nat) (p u : ByteArray) (a x : Option Addr) (l m : List EnM) (W : World) : Prop where
  pc : PcAt W g p u
  a : EnSl W a l
  x : EnSl W x m
  frame : Below w.heap.size w W
theorem Pl.below {w W W' : World} {g : Nat} {p u : ByteArray} {a x : Option Addr} {l m : List EnM} (h : Pl w g p u a x l m W) (q : Below W.heap.size W W') : Pl w g p u a x l m W' :=
  ⟨h.pc.below q, h.a.below q, h.x.below q, h.frame.trans (q.mono h.frame.size)⟩
theorem Pl.new {w : World} (p u : ByteArray) {a : Option Addr} {l : List EnM} (h : EnSl w a l) : Pl w w.heap.size p u a a l l (w.alloc (.cells #[.string p, .string u] 24)) :=
  ⟨PcAt.new _ _ _ _, h.below (below_one _ _), h.below (below_one _ _), below_one _ _⟩

set_option maxHeartbeats 8000000 in
theorem walk (w : World) (a : Option Addr) (c : Nat) (l : List EnM) (hs : EnSl w a l) (hf : FitsE l) (hc : l.length ≤ c) (hcm : c ≤ maxLen) (hn : a = none → c = 0) (p u : ByteArray) (hp : p.size ≤ maxLen) (hu : u.size ≤ maxLen) (n : Int) (hn64 : (Lit.int .i64 n).wf = true) :
    Calls Try.prog 9 #[.slice a l.length c, .agg #[.string p, .string u], .int .i64 n] w fun e w' => e = .returned (.bool true) ∧ Below w.heap.size w w' := by
  have HAL := Lib.hid alive_any
  have S0 := Lib.hid (Pl.new p u hs)
  by_cases h1 : 60 < l.length
  · have hd1 : decide ((60 : Int) < (l.length : Int)) = true := decide_eq_true (by omega)
    clear hs hf hc hcm hn hp hu hn64
    go_enter Try.func9, Try.ntmps9
    go_wp2_with fail
    refine (HAL.out _).mono ?_
    rintro e w1 ⟨rfl, hB⟩
    go_wp2
    go_ret
    exact ⟨rfl, S0.out.frame.trans (hB.mono S0.out.frame.size)⟩
  have hd1 : decide ((60 : Int) < (l.length : Int)) = false := decide_eq_false (by omega)
  have HL := Lib.hid (show l.length ≤ 60 by omega)
  have HN := Lib.hid (fun W (h : EnSl W a l) => e_news a c l W h (by omega))
  have HSZ := Lib.hid (SzE.of hf)
  obtain ⟨c0, c1, -⟩ := S0.out.pc
  cases hi : l.any (infE p u) with
  | true =>
    have HGR := Lib.hid (fun x q W (h : EnSl W x l) h1 h2 h3 => e_grant_no x q l p u n W h h1 (by omega) h2 h3 hi)
    clear hs hf hc hcm hn h1 hp hu hn64 hi HSZ
    go_enter Try.func9, Try.ntmps9
    go_wp2_with fail
    generalize w.alloc (.cells #[.string p, .string u] 24) = w0 at *
    generalize w.heap.size = g at S0 c0 c1 ⊢
    have K0 : Pl w g p u a a l l w0.drew := S0.out.below (Below.refl _ _).drew
    have HBL : Hid (∀ W W', Pl w g p u a a l l W → Below W.heap.size W W' → Pl w g p u a a l l W') := fun W W' h r => h.below r
    have HSC : Hid (∀ W, Pl w g p u a a l l W → W.cell? ⟨g, 0, none⟩ = some (.string p) ∧ W.cell? ⟨g, 1, none⟩ = some (.string u)) := fun W h => ⟨h.pc.1, h.pc.2.1⟩
    go_region_held3 (fun W => W.cell? ⟨g, 0, none⟩ = some (.string p) ∧ W.cell? ⟨g, 1, none⟩ = some (.string u))
      (first |  with_reducible exact HSC.out _ K2 | with_reducible exact HSC.out _ K1 | with_reducible exact HSC.out _ K0 | assumption)
      (first | (have hseen := K1; clear hseen; go_at_call 12; refine (HGR.out x1 q1 _ z1 n1 k1 m1).mono ?_; rintro e v2 ⟨rfl, h2⟩; have K2 := HBL.out _ _ K1 h2) | (have hseen := K0; clear hseen; go_at_call 11; refine (HN.out _ K0.a).mono ?_; rintro e v1 ⟨x1, q1, rfl, k1, m1, n1, z1, h1⟩; have K1 := HBL.out _ _ K0 h1))
    go_wp2_with fail
    refine (HAL.out _).mono ?_
    rintro e w1 ⟨rfl, hB⟩
    go_wp2
    go_ret
    exact ⟨rfl, K2.frame.trans (hB.mono K2.frame.size)⟩
  | false =>
    have HGR := Lib.hid (fun x q W (h : EnSl W x l) h1 h2 h3 => e_grant x q l p u n W h h1 (by omega) h2 h3 hi)
    have HRV : Hid (∀ x q W, EnSl W x (grantS l (mkE p u n)) → (grantS l (mkE p u n)).length ≤ q → q ≤ maxLen → Calls Try.prog 14 #[.slice x (grantS l (mkE p u n)).length q, .agg #[.string p, .string u], .int .i64 n] W fun e w' => ∃ x q, e = .returned (.tuple #[.slice x l.length q, .int .i64 0]) ∧ EnSl w' x l ∧ Below W.heap.size W w') := fun x q W h h2 h3 => by
      obtain ⟨g1, g2⟩ := grant_back (a := n) hi
      have := e_revoke x q (grantS l (mkE p u n)) p u n W h (by rw [grant_len]; omega) h2 h3 g2
      rw [g1] at this
      refine this.mono ?_
      rintro e w' ⟨x, q, rfl, -, -, -, z, hb⟩
      exact ⟨x, q, rfl, z, hb⟩
    have HOL := Lib.hid (fun x q m W (h : EnSl W x m) hl => e_olds x q m W h hl)
    have HSM := Lib.hid (fun x y p q m W (h : EnSl W x m) (k : EnSl W y m) hl => e_rsame1 x y p q m W h k hl)
    have HRR := Lib.hid (fun W (h : EnSl W a l) => e_rrising a c l W h (SzE.of hf) (by omega))
    have HAF := Lib.hid (fun x q W (h : EnSl W x l) => e_after x q l n W h (by omega))
    have HRA := Lib.hid (fun (hr : RiseE l) x q W (h : EnSl W x (l.filter (afE n))) => by
      have := e_rising x q (l.filter (afE n)) W h ((SzE.of hf).filter _) (by have := List.length_filter_le (afE n) l; omega)
      rw [decide_eq_true (rise_filter hr (afE n))] at this
      exact this)
    clear hs hf hc hcm hn h1 hp hu hn64 hi HSZ
    generalize grantS l (mkE p u n) = G at *
    generalize l.filter (afE n) = la at *
    by_cases hnF : (1099511627776 : Int) ≤ n
    · have hdn := decide_eq_true hnF
      clear HRV HRA hnF
      go_enter Try.func9, Try.ntmps9
      go_wp2_with fail
      generalize w.alloc (.cells #[.string p, .string u] 24) = w0 at *
      generalize w.heap.size = g at S0 c0 c1 ⊢
      have K0 : Pl w g p u a a l l w0.drew := S0.out.below (Below.refl _ _).drew
      have HBL : Hid (∀ W W', Pl w g p u a a l l W → Below W.heap.size W W' → Pl w g p u a a l l W') := fun W W' h r => h.below r
      have HSC : Hid (∀ W, Pl w g p u a a l l W → W.cell? ⟨g, 0, none⟩ = some (.string p) ∧ W.cell? ⟨g, 1, none⟩ = some (.string u)) := fun W h => ⟨h.pc.1, h.pc.2.1⟩
      go_region_held3 (fun W => W.cell? ⟨g, 0, none⟩ = some (.string p) ∧ W.cell? ⟨g, 1, none⟩ = some (.string u))
        (first |  with_reducible exact HSC.out _ K2 | with_reducible exact HSC.out _ K1 | with_reducible exact HSC.out _ K0 | assumption)
        (first | (have hseen := K1; clear hseen; go_at_call 12; refine (HGR.out x1 q1 _ z1 n1 k1 m1).mono ?_; rintro e v2 ⟨y, qy, rfl, ky, my, ny, zy, h2⟩; have K2 := HBL.out _ _ K1 h2) | (have hseen := K0; clear hseen; go_at_call 11; refine (HN.out _ K0.a).mono ?_; rintro e v1 ⟨x1, q1, rfl, k1, m1, n1, z1, h1⟩; have K1 := HBL.out _ _ K0 h1))
      go_wp2_with fail
      refine (HAL.out _).mono ?_
      rintro e w1 ⟨rfl, hB⟩
      go_wp2
      go_ret
      exact ⟨rfl, K2.frame.trans (hB.mono K2.frame.size)⟩
    · have hdn := decide_eq_false hnF
      have HRI : Hid (∃ b, b = decide (RiseE l) ∧ (b = true → RiseE l)) := ⟨decide (RiseE l), rfl, of_decide_eq_true⟩
      obtain ⟨rb, hrb, hrise⟩ := HRI.out
      rw [← hrb] at HRR
      clear hnF HRI hrb
      go_enter Try.func9, Try.ntmps9
      go_wp2_with fail
      generalize w.alloc (.cells #[.string p, .string u] 24) = w0 at *
      generalize w.heap.size = g at S0 c0 c1 ⊢
      have K0 : Pl w g p u a a l l w0.drew := S0.out.below (Below.refl _ _).drew
      have HBL : Hid (∀ W W', Pl w g p u a a l l W → Below W.heap.size W W' → Pl w g p u a a l l W') := fun W W' h r => h.below r
      have HSC : Hid (∀ W, Pl w g p u a a l l W → W.cell? ⟨g, 0, none⟩ = some (.string p) ∧ W.cell? ⟨g, 1, none⟩ = some (.string u)) := fun W h => ⟨h.pc.1, h.pc.2.1⟩
      go_region_held3 (fun W => W.cell? ⟨g, 0, none⟩ = some (.string p) ∧ W.cell? ⟨g, 1, none⟩ = some (.string u))
        (first |  with_reducible exact HSC.out _ K2 | with_reducible exact HSC.out _ K1 | with_reducible exact HSC.out _ K0 | assumption)
        (first | (have hseen := K1; clear hseen; go_at_call 12; refine (HGR.out x1 q1 _ z1 n1 k1 m1).mono ?_; rintro e v2 ⟨y, qy, rfl, ky, my, ny, zy, h2⟩; have K2 := HBL.out _ _ K1 h2) | (have hseen := K0; clear hseen; go_at_call 11; refine (HN.out _ K0.a).mono ?_; rintro e v1 ⟨x1, q1, rfl, k1, m1, n1, z1, h1⟩; have K1 := HBL.out _ _ K0 h1))
      have S2 : Hid (Pl w g p u a y l G v2) := ⟨K2.pc, K2.a, zy, K2.frame⟩
      have KY := Lib.hid ky
      have MY := Lib.hid my
      clear HBL HSC K0 K1 K2 h1 h2 zy z1 k1 m1 n1 ky my ny c0 c1 S0
      obtain ⟨c0, c1, -⟩ := S2.out.pc
      cases rb with
      | true =>
        have HRA := Lib.hid (HRA.out (hrise rfl))
        clear hrise
        go_wp2_with fail
        refine (HRV.out y qy _ S2.out.x KY.out MY.out).mono ?_
        rintro e w3 ⟨x3, q3, rfl, z3, h1⟩
        have S3 := Lib.hid (S2.out.below h1)
        clear S2 h1 c0 c1
        obtain ⟨c0, c1, -⟩ := S3.out.pc
        go_wp2_with fail
        refine (HAL.out _).mono ?_
        rintro e w4 ⟨rfl, h1⟩
        have S4 := Lib.hid (S3.out.below h1)
        replace z3 := z3.below h1
        clear S3 h1 c0 c1
        obtain ⟨c0, c1, -⟩ := S4.out.pc
        go_wp2_with fail
        refine (HOL.out x3 q3 l _ z3 (by have := HL.out; omega)).mono ?_
        rintro e w5 ⟨x4, q4, rfl, -, -, -, z4, h1⟩
        have S5 := Lib.hid (S4.out.below h1)
        clear S4 h1 c0 c1
        obtain ⟨c0, c1, -⟩ := S5.out.pc
        go_wp2_with fail
        refine (HSM.out x4 a q4 c l _ z4 S5.out.a (by have := HL.out; omega)).mono ?_
        rintro e w6 ⟨rfl, h1⟩
        have S6 := Lib.hid (S5.out.below h1)
        clear S5 h1 c0 c1
        obtain ⟨c0, c1, -⟩ := S6.out.pc
        go_wp2_with fail
        refine (HRR.out _ S6.out.a).mono ?_
        rintro e w7 ⟨rfl, h1⟩
        have S7 := Lib.hid (S6.out.below h1)
        clear S6 h1 c0 c1
        obtain ⟨c0, c1, -⟩ := S7.out.pc
        go_wp2_with fail
        refine (HN.out _ S7.out.a).mono ?_
        rintro e w8 ⟨x5, q5, rfl, -, -, -, z5, h1⟩
        have S8 := Lib.hid (S7.out.below h1)
        clear S7 h1 c0 c1
        obtain ⟨c0, c1, -⟩ := S8.out.pc
        go_wp2_with fail
        refine (HAF.out x5 q5 _ z5).mono ?_
        rintro e w9 ⟨x6, q6, rfl, -, -, -, z6, h1⟩
        have S9 := Lib.hid (S8.out.below h1)
        clear S8 h1 c0 c1
        obtain ⟨c0, c1, -⟩ := S9.out.pc
        go_wp2_with fail
        refine (HRA.out x6 q6 _ z6).mono ?_
        rintro e w10 ⟨rfl, h1⟩
        have S10 := Lib.hid (S9.out.below h1)
        clear S9 h1 c0 c1
        obtain ⟨c0, c1, -⟩ := S10.out.pc
        go_wp2
        go_ret
        exact ⟨rfl, S10.out.frame⟩
      | false =>
        clear hrise HRA
        go_wp2_with fail
        refine (HRV.out y qy _ S2.out.x KY.out MY.out).mono ?_
        rintro e w3 ⟨x3, q3, rfl, z3, h1⟩
        have S3 := Lib.hid (S2.out.below h1)
        clear S2 h1 c0 c1
        obtain ⟨c0, c1, -⟩ := S3.out.pc
        go_wp2_with fail
        refine (HAL.out _).mono ?_
        rintro e w4 ⟨rfl, h1⟩
        have S4 := Lib.hid (S3.out.below h1)
        replace z3 := z3.below h1
        clear S3 h1 c0 c1
        obtain ⟨c0, c1, -⟩ := S4.out.pc
        go_wp2_with fail
        refine (HOL.out x3 q3 l _ z3 (by have := HL.out; omega)).mono ?_
        rintro e w5 ⟨x4, q4, rfl, -, -, -, z4, h1⟩
        have S5 := Lib.hid (S4.out.below h1)
        clear S4 h1 c0 c1
        obtain ⟨c0, c1, -⟩ := S5.out.pc
        go_wp2_with fail
        refine (HSM.out x4 a q4 c l _ z4 S5.out.a (by have := HL.out; omega)).mono ?_
        rintro e w6 ⟨rfl, h1⟩
        have S6 := Lib.hid (S5.out.below h1)
        clear S5 h1 c0 c1
        obtain ⟨c0, c1, -⟩ := S6.out.pc
        go_wp2_with fail
        refine (HRR.out _ S6.out.a).mono ?_
        rintro e w7 ⟨rfl, h1⟩
        have S7 := Lib.hid (S6.out.below h1)
        clear S6 h1 c0 c1
        obtain ⟨c0, c1, -⟩ := S7.out.pc
        go_wp2
        go_ret
        exact ⟨rfl, S7.out.frame⟩

set_option maxRecDepth 100000 in
theorem lifted (os : Os) (started : os.Started) (H : Type) (enc : TypeId × Value → H) :
    ReturnsInHanded {} Try.checked os 9 .any (Rows.subsBackSpec.pre6 enc Try.prog Try.f9 Rows.subsBackRow.domain false) (Rows.subsBackSpec.post enc Try.prog Try.f9 false true false false) := by
  refine returnsInHanded_of_change (C := Try.checked) own started (by kernel_rfl) Try.func9
    (ChangeSpec.witness6 (enc := enc) (C := Try.checked) false ⟨#[], #[.slice none 0 0, .agg #[.string ByteArray.empty, .string ByteArray.empty], .int .i64 0], []⟩ 8 (by kernel_rfl) (by kernel_rfl) (by kernel_rfl) (by kernel_rfl)) ?_
  intro W base args ds gs before hval0 hW hcnd _
  have hval : ∀ (j : Nat) t v, Try.f9.params[j]? = some t → args[j]? = some v → Value.okWide Try.prog W .any base t v := hval0
  have hW' := hW
  have hlt := hW.lt
  obtain ⟨p, q, hA0, hV, rfl, hfz, hnd⟩ := hW
  have hA : DataW.TrodAll enc Try.prog W 0 (fun _ => true) true Try.f9.params.toList args.toList ds p := hA0
  rw [Try.params9] at hA hval
  obtain ⟨v0, vs0, d0, ds0, p0, q0, hargs, rfl, rfl, h0, r0⟩ := trodAll_cons hA
  obtain ⟨v1, vs1, d1, ds1, p1, q1, rfl, rfl, rfl, h1, r1⟩ := trodAll_cons r0
  obtain ⟨v2, vs2, d2, ds2, p2, q2, rfl, rfl, rfl, h2, r2⟩ := trodAll_cons r1
  obtain ⟨rfl, rfl, rfl⟩ := trodAll_nil r2
  obtain rfl : args = #[v0, v1, v2] := by cases args; simp_all
  obtain ⟨a0, c0, l0, rfl, s0, f0, m0, n0, o0⟩ := open_entries (hval 0 22 v0 rfl rfl) h0
  obtain ⟨x1, y1, rfl, f1, g1⟩ := open_prr (hval 1 24 v1 rfl rfl) h1
  obtain ⟨a2, rfl, -, -, w2⟩ := open_int Try.underlying3 (hval 2 3 v2 rfl rfl) h2
  refine (walk W a0 c0 l0 s0 f0 m0 n0 o0 x1 y1 f1 g1 a2 w2).mono fun e W' ⟨he, hb⟩ => ?_
  subst he
  exact ⟨_, rfl, law_post rfl hW' (fun ds h => by match ds, h with | [_, _, _], _ => rfl) (by kernel_rfl) (by kernel_rfl) (by kernel_rfl) hb⟩

theorem over : Rows.subsBackRow.holds Try.pinned (OpenSpec.ofChange Rows.subsBackSpec) :=
  OpenClaim.holds_of_wide 9 Try.f9 rfl rfl rfl rfl rfl rfl rfl ⟨rfl, rfl, rfl, rfl, rfl⟩ rfl rfl rfl rfl rfl (by kernel_rfl) Try.func9 (by kernel_rfl)
    (of_decide_eq_true (by kernel_rfl)) (by unfold Func.isWrapper; first | (rw [if_pos (by decide +kernel)]; kernel_rfl) | (rw [if_neg (by decide +kernel)]; exact ⟨rfl, rfl⟩))
    (fun os started H enc _ => lifted os started H enc)

theorem proved : Rows.SubsBackSaid := over
end Go.Proofs.Ythaancmobpamhaa.subsBack
