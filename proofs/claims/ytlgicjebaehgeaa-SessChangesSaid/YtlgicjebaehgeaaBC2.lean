/- SessChanges: what a change makes of any entries, the stay that was, or why it is refused, and what is found, is what the document says, and what was given stays as it was; for all rows, sessions, users, statuses and times. No condition. -/
import Derived.Test.YtlgicjebaehgeaaBA19
import Derived.Test.YtlgicjebaehgeaaBA2
import Derived.Deep.RegionHeld3
namespace Go.Proofs.Ytlgicjebaehgeaa.sessChanges
open Go.ChangeShapes Go.WideShapes Go.ChangeAt Go.RowKit
open Go.ChangeMaps (open_string shut_string)
set_option linter.unusedVariables false
set_option maxRecDepth 100000

/-- all rows, both stays, both entries, all else as it was -/
structure Kh (w : World) (a x y z : Option Addr) (l m : List OpM) (g1 g2 g3 g4 : Nat) (s : StM) (e : OpM) (W : World) : Prop where
  F : Fr w W
  A : OpSl W a l
  X : OpSl W x l
  Y : OpSl W y m
  Z : OpSl W z m
  P : Bk W g1 (.int .i64 s.f) (.int .i64 s.t) (.int .i64 s.n) (.int .i64 s.s)
  Q : Bk W g2 (.int .i64 s.f) (.int .i64 s.t) (.int .i64 s.n) (.int .i64 s.s)
  R : Bk W g3 (.int .i64 e.n) (.string e.u) (.int .i64 e.s) (.int .i64 e.f)
  S : Bk W g4 (.int .i64 e.n) (.string e.u) (.int .i64 e.s) (.int .i64 e.f)
theorem Kh.below {W W' : World} {w : World} {a x y z : Option Addr} {l m : List OpM} {g1 g2 g3 g4 : Nat} {s : StM} {e : OpM} (hk : Kh w a x y z l m g1 g2 g3 g4 s e W) (q : Below W.heap.size W W') : Kh w a x y z l m g1 g2 g3 g4 s e W' := ⟨hk.F.below q, hk.A.below q, hk.X.below q, hk.Y.below q, hk.Z.below q, hk.P.below q, hk.Q.below q, hk.R.below q, hk.S.below q⟩
set_option maxHeartbeats 8000000 in
theorem walk (w : World) (a : Option Addr) (c : Nat) (l : List OpM) (hs : OpSl w a l) (hf : SzO l) (hc : l.length ≤ c) (hcm : c ≤ maxLen) (hn : a = none → c = 0) (p : OpM) (hp : p.u.size ≤ maxLen) :
    Calls Try.prog 4 #[.slice a l.length c, .agg #[.int .i64 p.n, .string p.u, .int .i64 p.s, .int .i64 p.f]] w fun e w' => e = .returned (.bool true) ∧ Below w.heap.size w w' := by
  have HAL := Lib.hid alive_any
  have hb0 := below_one w (.cells #[.int .i64 p.n, .string p.u, .int .i64 p.s, .int .i64 p.f] 40)
  have F : Hid (Fr w (w.alloc (.cells #[.int .i64 p.n, .string p.u, .int .i64 p.s, .int .i64 p.f] 40))) := hb0
  have A := Lib.hid (hs.below hb0)
  have E := Lib.hid (Bk.new w (.int .i64 p.n) (.string p.u) (.int .i64 p.s) (.int .i64 p.f) 40)
  by_cases h1 : 60 < l.length
  · have hd1 : decide ((60 : Int) < (l.length : Int)) = true := decide_eq_true (by omega)
    clear hs hf hc hcm hn hp hb0 A E
    go_enter Try.func4, Try.ntmps4
    go_wp2_with fail
    refine (HAL.out _).mono ?_
    rintro e w1 ⟨rfl, hB⟩
    go_wp2
    go_ret
    exact ⟨rfl, F.out.below hB⟩
  have hd1 : decide ((60 : Int) < (l.length : Int)) = false := decide_eq_false (by omega)
  have HN := Lib.hid (fun W (h : OpSl W a l) => o_news a c l W h (by omega))
  have HC := Lib.hid (fun x q W (h : OpSl W x l) h2 h3 => o_change x q l p.n p.u p.s p.f W h (by omega) h2 h3)
  have HRC := Lib.hid (fun W (h : OpSl W a l) => o_rchange a c l p.n p.u p.s p.f W h (by omega) hc hcm)
  have HFI := Lib.hid (fun x q W (h : OpSl W x l) => o_find x q l p.n p.u W h (by omega))
  have HRF := Lib.hid (fun W (h : OpSl W a l) => o_rfind a c l p.n p.u W h (by omega))
  have HL1 := Lib.hid (fun x q W (h : OpSl W x (chgR l p.n p.u p.s p.f)) => o_olds x q (chgR l p.n p.u p.s p.f) W h (by have := chgR_len l p.n p.u p.s p.f; omega))
  have HS1 := Lib.hid (fun x y q r W (h : OpSl W x (chgR l p.n p.u p.s p.f)) (k : OpSl W y (chgR l p.n p.u p.s p.f)) => o_rsame1 x y q r (chgR l p.n p.u p.s p.f) W h k (by have := chgR_len l p.n p.u p.s p.f; omega))
  have HL2 := Lib.hid (fun x q W (h : OpSl W x l) => o_olds x q l W h (by omega))
  have HS2 := Lib.hid (fun x q W (h : OpSl W x l) (k : OpSl W a l) => o_rsame1 x a q c l W h k (by omega))
  have HOL := Lib.hid (fun W => o_old (fndS l p.n p.u p.f) W)
  generalize fndS l p.n p.u p.f = s at *
  generalize chgR l p.n p.u p.s p.f = m at *
  have hbb : (findC l p.n p.u == findC l p.n p.u) = true := beq_self_eq_true _
  generalize findC l p.n p.u = C at *
  generalize findE l p.n p.u = e0 at *
  have hb1 : (s.f == s.f) = true := beq_self_eq_true _
  have hb2 : (s.t == s.t) = true := beq_self_eq_true _
  have hb3 : (s.n == s.n) = true := beq_self_eq_true _
  have hb4 : (s.s == s.s) = true := beq_self_eq_true _
  have hb5 : (e0.n == e0.n) = true := beq_self_eq_true _
  have hb6 := txt_eq e0.u
  have hb7 : (e0.s == e0.s) = true := beq_self_eq_true _
  have hb8 : (e0.f == e0.f) = true := beq_self_eq_true _
  clear hs hf hc hcm hn hp hb0 h1
  go_enter Try.func4, Try.ntmps4
  obtain ⟨⟨c0, c1, c2, c3⟩, -⟩ := E.out
  go_wp2_with fail
  refine (HN.out _ A.out).mono ?_
  rintro e w1 ⟨x1, q1, rfl, k1, m1, -, z1, h1⟩
  have Z1 := Lib.hid z1
  replace F := Lib.hid (F.out.below h1)
  replace A := Lib.hid (A.out.below h1)
  replace E := Lib.hid (E.out.below h1)
  clear z1 h1
  clear c0 c1 c2 c3
  obtain ⟨⟨c0, c1, c2, c3⟩, -⟩ := E.out
  go_wp2_with fail
  refine (HC.out x1 q1 _ Z1.out k1 m1).mono ?_
  rintro e w2 ⟨x2, q2, rfl, -, -, -, z1, h1⟩
  have Z2 := Lib.hid z1
  have hb := below_one w2 (.cells #[.int .i64 s.f, .int .i64 s.t, .int .i64 s.n, .int .i64 s.s] 44)
  have h2 := h1.trans (hb.mono h1.size)
  replace F := Lib.hid (F.out.below h2)
  replace A := Lib.hid (A.out.below h2)
  replace E := Lib.hid (E.out.below h2)
  replace Z1 := Lib.hid (Z1.out.below h2)
  replace Z2 := Lib.hid (Z2.out.below hb)
  have P := Lib.hid (Bk.new w2 (.int .i64 s.f) (.int .i64 s.t) (.int .i64 s.n) (.int .i64 s.s) 44)
  clear z1 h1 hb h2
  clear c0 c1 c2 c3
  obtain ⟨⟨c0, c1, c2, c3⟩, -⟩ := E.out
  go_wp2_with fail
  refine (HRC.out _ A.out).mono ?_
  rintro e w3 ⟨x3, q3, rfl, -, -, -, z1, h1⟩
  have Z3 := Lib.hid z1
  have hb := below_one w3 (.cells #[.int .i64 s.f, .int .i64 s.t, .int .i64 s.n, .int .i64 s.s] 48)
  have h2 := h1.trans (hb.mono h1.size)
  replace F := Lib.hid (F.out.below h2)
  replace A := Lib.hid (A.out.below h2)
  replace E := Lib.hid (E.out.below h2)
  replace Z1 := Lib.hid (Z1.out.below h2)
  replace P := Lib.hid (P.out.below h2)
  replace Z2 := Lib.hid (Z2.out.below h2)
  replace Z3 := Lib.hid (Z3.out.below hb)
  have Q := Lib.hid (Bk.new w3 (.int .i64 s.f) (.int .i64 s.t) (.int .i64 s.n) (.int .i64 s.s) 48)
  clear z1 h1 hb h2
  clear c0 c1 c2 c3
  obtain ⟨⟨c0, c1, c2, c3⟩, -⟩ := E.out
  go_wp2_with fail
  refine (HFI.out x1 q1 _ Z1.out).mono ?_
  rintro e w4 ⟨rfl, h1⟩
  have hb := below_one w4 (.cells #[.int .i64 e0.n, .string e0.u, .int .i64 e0.s, .int .i64 e0.f] 31)
  have h2 := h1.trans (hb.mono h1.size)
  replace F := Lib.hid (F.out.below h2)
  replace A := Lib.hid (A.out.below h2)
  replace E := Lib.hid (E.out.below h2)
  replace Z1 := Lib.hid (Z1.out.below h2)
  replace P := Lib.hid (P.out.below h2)
  replace Z2 := Lib.hid (Z2.out.below h2)
  replace Q := Lib.hid (Q.out.below h2)
  replace Z3 := Lib.hid (Z3.out.below h2)
  have R1 := Lib.hid (Bk.new w4 (.int .i64 e0.n) (.string e0.u) (.int .i64 e0.s) (.int .i64 e0.f) 31)
  clear h1 hb h2
  clear c0 c1 c2 c3
  obtain ⟨⟨c0, c1, c2, c3⟩, -⟩ := E.out
  go_wp2_with fail
  refine (HRF.out _ A.out).mono ?_
  rintro e w5 ⟨rfl, h1⟩
  have hb := below_one w5 (.cells #[.int .i64 e0.n, .string e0.u, .int .i64 e0.s, .int .i64 e0.f] 24)
  have h2 := h1.trans (hb.mono h1.size)
  replace F := Lib.hid (F.out.below h2)
  replace A := Lib.hid (A.out.below h2)
  replace E := Lib.hid (E.out.below h2)
  replace Z1 := Lib.hid (Z1.out.below h2)
  replace P := Lib.hid (P.out.below h2)
  replace Z2 := Lib.hid (Z2.out.below h2)
  replace Q := Lib.hid (Q.out.below h2)
  replace Z3 := Lib.hid (Z3.out.below h2)
  replace R1 := Lib.hid (R1.out.below h2)
  have S1 := Lib.hid (Bk.new w5 (.int .i64 e0.n) (.string e0.u) (.int .i64 e0.s) (.int .i64 e0.f) 24)
  clear h1 hb h2
  clear c0 c1 c2 c3
  obtain ⟨⟨c0, c1, c2, c3⟩, -⟩ := E.out
  have HBL := Lib.hid (fun W W' (h : Kh w a x1 x2 x3 l m w2.heap.size w3.heap.size w4.heap.size w5.heap.size s e0 W) (q : Below W.heap.size W W') => h.below q)
  have HSC : Hid (∀ W, Kh w a x1 x2 x3 l m w2.heap.size w3.heap.size w4.heap.size w5.heap.size s e0 W → W.cell? ⟨w2.heap.size, 0, none⟩ = some (.int .i64 s.f) ∧ W.cell? ⟨w2.heap.size, 1, none⟩ = some (.int .i64 s.t) ∧ W.cell? ⟨w2.heap.size, 2, none⟩ = some (.int .i64 s.n) ∧ W.cell? ⟨w2.heap.size, 3, none⟩ = some (.int .i64 s.s) ∧ W.cell? ⟨w3.heap.size, 0, none⟩ = some (.int .i64 s.f) ∧ W.cell? ⟨w3.heap.size, 1, none⟩ = some (.int .i64 s.t) ∧ W.cell? ⟨w3.heap.size, 2, none⟩ = some (.int .i64 s.n) ∧ W.cell? ⟨w3.heap.size, 3, none⟩ = some (.int .i64 s.s) ∧ W.cell? ⟨w4.heap.size, 0, none⟩ = some (.int .i64 e0.n) ∧ W.cell? ⟨w4.heap.size, 1, none⟩ = some (.string e0.u) ∧ W.cell? ⟨w4.heap.size, 2, none⟩ = some (.int .i64 e0.s) ∧ W.cell? ⟨w4.heap.size, 3, none⟩ = some (.int .i64 e0.f) ∧ W.cell? ⟨w5.heap.size, 0, none⟩ = some (.int .i64 e0.n) ∧ W.cell? ⟨w5.heap.size, 1, none⟩ = some (.string e0.u) ∧ W.cell? ⟨w5.heap.size, 2, none⟩ = some (.int .i64 e0.s) ∧ W.cell? ⟨w5.heap.size, 3, none⟩ = some (.int .i64 e0.f)) := fun W h => ⟨h.P.1.1, h.P.1.2.1, h.P.1.2.2.1, h.P.1.2.2.2, h.Q.1.1, h.Q.1.2.1, h.Q.1.2.2.1, h.Q.1.2.2.2, h.R.1.1, h.R.1.2.1, h.R.1.2.2.1, h.R.1.2.2.2, h.S.1.1, h.S.1.2.1, h.S.1.2.2.1, h.S.1.2.2.2⟩
  have K00 := Kh.mk F.out A.out Z1.out Z2.out Z3.out P.out Q.out R1.out S1.out
  have K0 := K00.below (Below.refl _ _).drew
  clear K00 c0 c1 c2 c3 F A E Z1 Z2 Z3 P Q R1 S1 HN HC HRC HFI HRF
  go_wp2_with fail
  generalize hW : w5.alloc (.cells #[.int .i64 e0.n, .string e0.u, .int .i64 e0.s, .int .i64 e0.f] 24) = W0 at *
  generalize w5.heap.size = g5 at *
  generalize w4.heap.size = g4 at *
  generalize w3.heap.size = g3 at *
  generalize w2.heap.size = g2 at *
  clear hW
  go_region_held3 (fun W => W.cell? ⟨g2, 0, none⟩ = some (.int .i64 s.f) ∧ W.cell? ⟨g2, 1, none⟩ = some (.int .i64 s.t) ∧ W.cell? ⟨g2, 2, none⟩ = some (.int .i64 s.n) ∧ W.cell? ⟨g2, 3, none⟩ = some (.int .i64 s.s) ∧ W.cell? ⟨g3, 0, none⟩ = some (.int .i64 s.f) ∧ W.cell? ⟨g3, 1, none⟩ = some (.int .i64 s.t) ∧ W.cell? ⟨g3, 2, none⟩ = some (.int .i64 s.n) ∧ W.cell? ⟨g3, 3, none⟩ = some (.int .i64 s.s) ∧ W.cell? ⟨g4, 0, none⟩ = some (.int .i64 e0.n) ∧ W.cell? ⟨g4, 1, none⟩ = some (.string e0.u) ∧ W.cell? ⟨g4, 2, none⟩ = some (.int .i64 e0.s) ∧ W.cell? ⟨g4, 3, none⟩ = some (.int .i64 e0.f) ∧ W.cell? ⟨g5, 0, none⟩ = some (.int .i64 e0.n) ∧ W.cell? ⟨g5, 1, none⟩ = some (.string e0.u) ∧ W.cell? ⟨g5, 2, none⟩ = some (.int .i64 e0.s) ∧ W.cell? ⟨g5, 3, none⟩ = some (.int .i64 e0.f))
    (first |  with_reducible exact HSC.out _ K6 | with_reducible exact HSC.out _ K5 | with_reducible exact HSC.out _ K4 | with_reducible exact HSC.out _ K3 | with_reducible exact HSC.out _ K2 | with_reducible exact HSC.out _ K1 | with_reducible exact HSC.out _ K0 | assumption)
    (first | (have hseen := K5; clear hseen; go_at_call 14; refine (HS2.out x5 q5 _ z5 K5.A).mono ?_; rintro e v6 ⟨rfl, h6⟩; have K6 := HBL.out _ _ K5 h6) | (have hseen := K4; clear hseen; go_at_call 15; refine (HL2.out x1 q1 _ K4.X).mono ?_; rintro e v5 ⟨x5, q5, rfl, -, -, -, z5, h5⟩; have K5 := HBL.out _ _ K4 h5) | (have hseen := K3; clear hseen; go_at_call 22; refine (HOL.out _).mono ?_; rintro e v4 ⟨rfl, h4⟩; have K4 := HBL.out _ _ K3 h4) | (have hseen := K2; clear hseen; go_at_call 14; refine (HS1.out x4 x3 q4 q3 _ z4 K2.Z).mono ?_; rintro e v3 ⟨rfl, h3⟩; have K3 := HBL.out _ _ K2 h3) | (have hseen := K1; clear hseen; go_at_call 15; refine (HL1.out x2 q2 _ K1.Y).mono ?_; rintro e v2 ⟨x4, q4, rfl, -, -, -, z4, h2⟩; have K2 := HBL.out _ _ K1 h2) | (have hseen := K0; clear hseen; go_at_call 10; refine (HAL.out _).mono ?_; rintro e v1 ⟨rfl, h1⟩; have K1 := HBL.out _ _ K0 h1))
  go_wp2
  go_ret
  exact ⟨rfl, K6.F⟩

set_option maxRecDepth 100000 in
theorem lifted (os : Os) (started : os.Started) (H : Type) (enc : TypeId × Value → H) :
    ReturnsInHanded {} Try.checked os 4 .any (Rows.sessChangesSpec.pre6 enc Try.prog Try.f4 Rows.sessChangesRow.domain false) (Rows.sessChangesSpec.post enc Try.prog Try.f4 false true false false) := by
  refine returnsInHanded_of_change (C := Try.checked) own started (by kernel_rfl) Try.func4
    (ChangeSpec.witness6 (enc := enc) (C := Try.checked) false ⟨#[], #[.slice none 0 0, .agg #[.int .i64 0, .string ByteArray.empty, .int .i64 0, .int .i64 0]], []⟩ 8 (by kernel_rfl) (by kernel_rfl) (by kernel_rfl) (by kernel_rfl)) ?_
  intro W base args ds gs before hval0 hW hcnd _
  have hval : ∀ (j : Nat) t v, Try.f4.params[j]? = some t → args[j]? = some v → Value.okWide Try.prog W .any base t v := hval0
  have hW' := hW
  have hlt := hW.lt
  obtain ⟨p, q, hA0, hV, rfl, hfz, hnd⟩ := hW
  have hA : DataW.TrodAll enc Try.prog W 0 (fun _ => true) true Try.f4.params.toList args.toList ds p := hA0
  rw [Try.params4] at hA hval
  obtain ⟨v0, vs0, d0, ds0, p0, q0, hargs, rfl, rfl, h0, r0⟩ := trodAll_cons hA
  obtain ⟨v1, vs1, d1, ds1, p1, q1, rfl, rfl, rfl, h1, r1⟩ := trodAll_cons r0
  obtain ⟨rfl, rfl, rfl⟩ := trodAll_nil r1
  obtain rfl : args = #[v0, v1] := by cases args; simp_all
  obtain ⟨a0, c0, l0, rfl, s0, f0, m0, n0, o0⟩ := open_sess (hval 0 22 v0 rfl rfl) h0
  obtain ⟨l1, rfl, f1⟩ := open_which (hval 1 40 v1 rfl rfl) h1
  refine (walk W a0 c0 l0 s0 f0 m0 n0 o0 l1 f1).mono fun e W' ⟨he, hb⟩ => ?_
  subst he
  exact ⟨_, rfl, law_post rfl hW' (fun ds h => by match ds, h with | [_, _], _ => rfl) (by kernel_rfl) (by kernel_rfl) (by kernel_rfl) hb⟩

theorem over : Rows.sessChangesRow.holds Try.pinned (OpenSpec.ofChange Rows.sessChangesSpec) :=
  OpenClaim.holds_of_wide 4 Try.f4 rfl rfl rfl rfl rfl rfl rfl ⟨rfl, rfl, rfl, rfl, rfl⟩ rfl rfl rfl rfl rfl (by kernel_rfl) Try.func4 (by kernel_rfl)
    (of_decide_eq_true (by kernel_rfl)) (by unfold Func.isWrapper; first | (rw [if_pos (by decide +kernel)]; kernel_rfl) | (rw [if_neg (by decide +kernel)]; exact ⟨rfl, rfl⟩))
    (fun os started H enc _ => lifted os started H enc)

theorem proved : Rows.SessChangesSaid := over
end Go.Proofs.Ytlgicjebaehgeaa.sessChanges
