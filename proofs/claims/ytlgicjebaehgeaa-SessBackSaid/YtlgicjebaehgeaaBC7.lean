/- SessBack: a session that is opened, and closed at the same time, leaves what there was, and a stay of no time; for all rows and entries. No condition. -/
import Derived.Test.YtlgicjebaehgeaaBA19
import Derived.Test.YtlgicjebaehgeaaBA2
import Derived.Deep.RegionHeld3
namespace Go.Proofs.Ytlgicjebaehgeaa.sessBack
open Go.ChangeShapes Go.WideShapes Go.ChangeAt Go.RowKit
open Go.ChangeMaps (open_string shut_string)
set_option linter.unusedVariables false
set_option maxRecDepth 100000

/-- a block of four cells that came in, the row that came in, all else as it was -/
structure Kp (w : World) (g : Nat) (p : OpM) (a : Option Addr) (l : List OpM) (W : World) : Prop where
  F : Fr w W
  A : OpSl W a l
  E : Bk W g (.int .i64 p.n) (.string p.u) (.int .i64 p.s) (.int .i64 p.f)
theorem Kp.below {w W W' : World} {g : Nat} {p : OpM} {a : Option Addr} {l : List OpM} (h : Kp w g p a l W) (q : Below W.heap.size W W') : Kp w g p a l W' := ⟨h.F.below q, h.A.below q, h.E.below q⟩
theorem closed {l : List OpM} {p : OpM} (h : openC l p = 0) : cloR (openR l p) p.n p.u = l ∧ fndS (openR l p) p.n p.u p.f = ⟨p.f, p.f, p.n, p.s⟩ ∧ findC (openR l p) p.n p.u = 0 := by
  have h1 : openR l p = midO l p p.s p.f := by unfold openR; rw [if_pos h]; rfl
  obtain ⟨m1, m2, m3, m4⟩ := mid_find (openC_ok h).2 p.s p.f
  rw [h1]
  refine ⟨m4, ?_, m1⟩
  unfold fndS
  rw [if_pos m1, m2]
  rfl
set_option maxHeartbeats 8000000 in
theorem walk (w : World) (a : Option Addr) (c : Nat) (l : List OpM) (hs : OpSl w a l) (hf : SzO l) (hc : l.length ≤ c) (hcm : c ≤ maxLen) (hn : a = none → c = 0) (p : OpM) (hp : p.u.size ≤ maxLen) :
    Calls Try.prog 9 #[.slice a l.length c, .agg #[.int .i64 p.n, .string p.u, .int .i64 p.s, .int .i64 p.f]] w fun e w' => e = .returned (.bool true) ∧ Below w.heap.size w w' := by
  have HAL := Lib.hid alive_any
  have hb0 := below_one w (.cells #[.int .i64 p.n, .string p.u, .int .i64 p.s, .int .i64 p.f] 24)
  have F : Hid (Fr w (w.alloc (.cells #[.int .i64 p.n, .string p.u, .int .i64 p.s, .int .i64 p.f] 24))) := hb0
  have A := Lib.hid (hs.below hb0)
  have E := Lib.hid (Bk.new w (.int .i64 p.n) (.string p.u) (.int .i64 p.s) (.int .i64 p.f) 24)
  by_cases h1 : 60 < l.length
  · have hd1 : decide ((60 : Int) < (l.length : Int)) = true := decide_eq_true (by omega)
    clear hs hf hc hcm hn hp hb0 A E
    go_enter Try.func9, Try.ntmps9
    go_wp2_with fail
    refine (HAL.out _).mono ?_
    rintro e w1 ⟨rfl, hB⟩
    go_wp2
    go_ret
    exact ⟨rfl, F.out.below hB⟩
  have hd1 : decide ((60 : Int) < (l.length : Int)) = false := decide_eq_false (by omega)
  have HR1 := Lib.hid (fun W (h : OpSl W a l) => o_rrising a c l W h hf (by omega))
  by_cases hl : RiseO l
  · rw [decide_eq_true hl] at HR1
    have HN := Lib.hid (fun W (h : OpSl W a l) => o_news a c l W h (by omega))
    have HO := Lib.hid (fun x q W (h : OpSl W x l) h1 h2 h3 => o_open x q l p W h h1 (by omega) h2 h3)
    have HCL := Lib.hid (fun x q W (h : OpSl W x (openR l p)) h2 h3 => o_close x q (openR l p) p.n p.u p.f W h (by have := openR_len l p; omega) h2 h3)
    have HL2 := Lib.hid (fun x q W (h : OpSl W x l) => o_olds x q l W h (by omega))
    have HS2 := Lib.hid (fun x q W (h : OpSl W x l) (k : OpSl W a l) => o_rsame1 x a q c l W h k (by omega))
    have HNO : Hid (∀ W, Calls Try.prog 36 #[.agg #[.int .i64 p.f, .int .i64 p.f]] W fun e w' => e = .returned (.bool true) ∧ Below W.heap.size W w') := fun W => by
      have := none_any p.f p.f W
      rwa [decide_eq_true (Int.le_refl _)] at this
    have HCL2 := Lib.hid (fun hC => closed (l := l) (p := p) hC)
    have HBL := Lib.hid (fun W W' (h : Kp w w.heap.size p a l W) (q : Below W.heap.size W W') => h.below q)
    have HSC : Hid (∀ W, Kp w w.heap.size p a l W → W.cell? ⟨w.heap.size, 0, none⟩ = some (.int .i64 p.n) ∧ W.cell? ⟨w.heap.size, 1, none⟩ = some (.string p.u) ∧ W.cell? ⟨w.heap.size, 2, none⟩ = some (.int .i64 p.s) ∧ W.cell? ⟨w.heap.size, 3, none⟩ = some (.int .i64 p.f)) := fun W h => h.E.1
    clear hs hf hc hcm hn hp hb0 h1 hl
    go_enter Try.func9, Try.ntmps9
    obtain ⟨⟨c0, c1, c2, c3⟩, -⟩ := E.out
    go_wp2_with fail
    refine (HR1.out _ A.out).mono ?_
    rintro e w1 ⟨rfl, h1⟩
    replace F := Lib.hid (F.out.below h1)
    replace A := Lib.hid (A.out.below h1)
    replace E := Lib.hid (E.out.below h1)
    clear h1
    clear c0 c1 c2 c3
    obtain ⟨⟨c0, c1, c2, c3⟩, -⟩ := E.out
    have K0 : Kp w w.heap.size p a l w1.drew := (Kp.mk F.out A.out E.out).below (Below.refl _ _).drew
    clear c0 c1 c2 c3 F A E HR1
    generalize w.heap.size = g at *
    go_wp2_with fail
    go_region_held3 (fun W => W.cell? ⟨g, 0, none⟩ = some (.int .i64 p.n) ∧ W.cell? ⟨g, 1, none⟩ = some (.string p.u) ∧ W.cell? ⟨g, 2, none⟩ = some (.int .i64 p.s) ∧ W.cell? ⟨g, 3, none⟩ = some (.int .i64 p.f))
      (first |  with_reducible exact HSC.out _ K2 | with_reducible exact HSC.out _ K1 | with_reducible exact HSC.out _ K0 | assumption)
      (first | (have hseen := K1; clear hseen; go_at_call 12; refine (HO.out x1 q1 _ z1 n1 k1 m1).mono ?_; rintro e v2 ⟨x2, q2, rfl, k2, m2, n2, z2, h2⟩; have K2 := HBL.out _ _ K1 h2) | (have hseen := K0; clear hseen; go_at_call 11; refine (HN.out _ K0.A).mono ?_; rintro e v1 ⟨x1, q1, rfl, k1, m1, n1, z1, h1⟩; have K1 := HBL.out _ _ K0 h1))
    have F := Lib.hid K2.F
    have A := Lib.hid K2.A
    have E := Lib.hid K2.E
    have Z2 := Lib.hid z2
    have HK := Lib.hid k2
    have HM := Lib.hid m2
    clear K0 K1 K2 z1 z2 h1 h2 k1 m1 n1 k2 m2 n2 HBL HSC HN HO
    by_cases hC : openC l p = 0
    · have d0 : (openC l p != 0) = false := by rw [hC]; rfl
      have d1 : (openC l p == 0) = true := by rw [hC]; rfl
      obtain ⟨q1', q2', q3'⟩ := HCL2.out hC
      rw [q1', q2', q3'] at HCL
      clear q1' q2' q3' hC HCL2
      generalize openC l p = C at *
      obtain ⟨⟨c0, c1, c2, c3⟩, -⟩ := E.out
      go_wp2_with fail
      refine (HCL.out x2 q2 _ Z2.out HK.out HM.out).mono ?_
      rintro e w21 ⟨x3, q3, rfl, -, -, -, z1, h1⟩
      have Z3 := Lib.hid z1
      have hb := below_one w21 (.cells #[.int .i64 p.f, .int .i64 p.f, .int .i64 p.n, .int .i64 p.s] 44)
      have h2 := h1.trans (hb.mono h1.size)
      replace F := Lib.hid (F.out.below h2)
      replace A := Lib.hid (A.out.below h2)
      replace E := Lib.hid (E.out.below h2)
      replace Z3 := Lib.hid (Z3.out.below hb)
      have B := Lib.hid (Bk.new w21 (.int .i64 p.f) (.int .i64 p.f) (.int .i64 p.n) (.int .i64 p.s) 44)
      clear z1 h1 Z2 hb h2
      clear c0 c1 c2 c3
      obtain ⟨⟨c0, c1, c2, c3⟩, -⟩ := E.out
      clear E
      clear c0 c1 c2 c3
      obtain ⟨⟨c0, c1, c2, c3⟩, -⟩ := B.out
      go_wp2_with fail
      refine (HAL.out _).mono ?_
      rintro e w22 ⟨rfl, h1⟩
      replace F := Lib.hid (F.out.below h1)
      replace A := Lib.hid (A.out.below h1)
      replace B := Lib.hid (B.out.below h1)
      replace Z3 := Lib.hid (Z3.out.below h1)
      clear h1
      clear c0 c1 c2 c3
      obtain ⟨⟨c0, c1, c2, c3⟩, -⟩ := B.out
      go_wp2_with fail
      refine (HNO.out _).mono ?_
      rintro e w23 ⟨rfl, h1⟩
      replace F := Lib.hid (F.out.below h1)
      replace A := Lib.hid (A.out.below h1)
      replace B := Lib.hid (B.out.below h1)
      replace Z3 := Lib.hid (Z3.out.below h1)
      clear h1
      clear c0 c1 c2 c3
      obtain ⟨⟨c0, c1, c2, c3⟩, -⟩ := B.out
      go_wp2_with fail
      refine (HL2.out x3 q3 _ Z3.out).mono ?_
      rintro e w24 ⟨x5, q5, rfl, -, -, -, z1, h1⟩
      have Z5 := Lib.hid z1
      replace F := Lib.hid (F.out.below h1)
      replace A := Lib.hid (A.out.below h1)
      replace B := Lib.hid (B.out.below h1)
      replace Z3 := Lib.hid (Z3.out.below h1)
      clear z1 h1
      clear c0 c1 c2 c3
      obtain ⟨⟨c0, c1, c2, c3⟩, -⟩ := B.out
      go_wp2_with fail
      refine (HS2.out x5 q5 _ Z5.out A.out).mono ?_
      rintro e w25 ⟨rfl, h1⟩
      replace F := Lib.hid (F.out.below h1)
      replace A := Lib.hid (A.out.below h1)
      replace B := Lib.hid (B.out.below h1)
      replace Z3 := Lib.hid (Z3.out.below h1)
      clear h1 Z5
      clear c0 c1 c2 c3
      obtain ⟨⟨c0, c1, c2, c3⟩, -⟩ := B.out
      go_wp2
      go_ret
      exact ⟨rfl, F.out⟩
    · have d0 : (openC l p != 0) = true := by simp [hC]
      clear hC HCL2
      generalize openC l p = C at *
      go_wp2_with fail
      refine (HAL.out _).mono ?_
      rintro e w9 ⟨rfl, hB⟩
      go_wp2
      go_ret
      exact ⟨rfl, F.out.below hB⟩
  · rw [decide_eq_false hl] at HR1
    clear hs hf hc hcm hn hp hb0 h1 hl E
    go_enter Try.func9, Try.ntmps9
    go_wp2_with fail
    refine (HR1.out _ A.out).mono ?_
    rintro e w1 ⟨rfl, h1⟩
    replace F := Lib.hid (F.out.below h1)
    clear h1
    go_wp2_with fail
    refine (HAL.out _).mono ?_
    rintro e w2 ⟨rfl, hB⟩
    go_wp2
    go_ret
    exact ⟨rfl, F.out.below hB⟩

set_option maxRecDepth 100000 in
theorem lifted (os : Os) (started : os.Started) (H : Type) (enc : TypeId × Value → H) :
    ReturnsInHanded {} Try.checked os 9 .any (Rows.sessBackSpec.pre6 enc Try.prog Try.f9 Rows.sessBackRow.domain false) (Rows.sessBackSpec.post enc Try.prog Try.f9 false true false false) := by
  refine returnsInHanded_of_change (C := Try.checked) own started (by kernel_rfl) Try.func9
    (ChangeSpec.witness6 (enc := enc) (C := Try.checked) false ⟨#[], #[.slice none 0 0, .agg #[.int .i64 0, .string ByteArray.empty, .int .i64 0, .int .i64 0]], []⟩ 8 (by kernel_rfl) (by kernel_rfl) (by kernel_rfl) (by kernel_rfl)) ?_
  intro W base args ds gs before hval0 hW hcnd _
  have hval : ∀ (j : Nat) t v, Try.f9.params[j]? = some t → args[j]? = some v → Value.okWide Try.prog W .any base t v := hval0
  have hW' := hW
  have hlt := hW.lt
  obtain ⟨p, q, hA0, hV, rfl, hfz, hnd⟩ := hW
  have hA : DataW.TrodAll enc Try.prog W 0 (fun _ => true) true Try.f9.params.toList args.toList ds p := hA0
  rw [Try.params9] at hA hval
  obtain ⟨v0, vs0, d0, ds0, p0, q0, hargs, rfl, rfl, h0, r0⟩ := trodAll_cons hA
  obtain ⟨v1, vs1, d1, ds1, p1, q1, rfl, rfl, rfl, h1, r1⟩ := trodAll_cons r0
  obtain ⟨rfl, rfl, rfl⟩ := trodAll_nil r1
  obtain rfl : args = #[v0, v1] := by cases args; simp_all
  obtain ⟨a0, c0, l0, rfl, s0, f0, m0, n0, o0⟩ := open_sess (hval 0 22 v0 rfl rfl) h0
  obtain ⟨l1, rfl, f1⟩ := open_sess1 (hval 1 24 v1 rfl rfl) h1
  refine (walk W a0 c0 l0 s0 f0 m0 n0 o0 l1 f1).mono fun e W' ⟨he, hb⟩ => ?_
  subst he
  exact ⟨_, rfl, law_post rfl hW' (fun ds h => by match ds, h with | [_, _], _ => rfl) (by kernel_rfl) (by kernel_rfl) (by kernel_rfl) hb⟩

theorem over : Rows.sessBackRow.holds Try.pinned (OpenSpec.ofChange Rows.sessBackSpec) :=
  OpenClaim.holds_of_wide 9 Try.f9 rfl rfl rfl rfl rfl rfl rfl ⟨rfl, rfl, rfl, rfl, rfl⟩ rfl rfl rfl rfl rfl (by kernel_rfl) Try.func9 (by kernel_rfl)
    (of_decide_eq_true (by kernel_rfl)) (by unfold Func.isWrapper; first | (rw [if_pos (by decide +kernel)]; kernel_rfl) | (rw [if_neg (by decide +kernel)]; exact ⟨rfl, rfl⟩))
    (fun os started H enc _ => lifted os started H enc)

theorem proved : Rows.SessBackSaid := over
end Go.Proofs.Ytlgicjebaehgeaa.sessBack
