/- SessOthers: opening, changing or closing a session changes nothing of any other session; for all rows, sessions, users, statuses and times. No condition. -/
import Derived.Test.YtlgicjebaehgeaaBA19
import Derived.Test.YtlgicjebaehgeaaBA2
namespace Go.Proofs.Ytlgicjebaehgeaa.sessOthers
open Go.ChangeShapes Go.WideShapes Go.ChangeAt Go.RowKit
open Go.ChangeMaps (open_string shut_string)
set_option linter.unusedVariables false
set_option maxRecDepth 100000

set_option maxHeartbeats 8000000 in
theorem walk (w : World) (a : Option Addr) (c : Nat) (l : List OpM) (hs : OpSl w a l) (hf : SzO l) (hc : l.length ≤ c) (hcm : c ≤ maxLen) (hn : a = none → c = 0) (p : OpM) (hp : p.u.size ≤ maxLen) (o : OpM) (ho : o.u.size ≤ maxLen) :
    Calls Try.prog 8 #[.slice a l.length c, .agg #[.int .i64 p.n, .string p.u, .int .i64 p.s, .int .i64 p.f], .agg #[.int .i64 o.n, .string o.u, .int .i64 o.s, .int .i64 o.f]] w fun e w' => e = .returned (.bool true) ∧ Below w.heap.size w w' := by
  have HAL := Lib.hid alive_any
  have hb0 := below_two w (.cells #[.int .i64 p.n, .string p.u, .int .i64 p.s, .int .i64 p.f] 40) (.cells #[.int .i64 o.n, .string o.u, .int .i64 o.s, .int .i64 o.f] 40)
  have F : Hid (Fr w ((w.alloc (.cells #[.int .i64 p.n, .string p.u, .int .i64 p.s, .int .i64 p.f] 40)).alloc (.cells #[.int .i64 o.n, .string o.u, .int .i64 o.s, .int .i64 o.f] 40))) := hb0
  have A := Lib.hid (hs.below hb0)
  have hE := Bk.new w (.int .i64 p.n) (.string p.u) (.int .i64 p.s) (.int .i64 p.f) 40
  have E := Lib.hid (hE.below (below_one _ (.cells #[.int .i64 o.n, .string o.u, .int .i64 o.s, .int .i64 o.f] 40)))
  have hO := Bk.new (w.alloc (.cells #[.int .i64 p.n, .string p.u, .int .i64 p.s, .int .i64 p.f] 40)) (.int .i64 o.n) (.string o.u) (.int .i64 o.s) (.int .i64 o.f) 40
  rw [size1] at hO
  obtain ⟨⟨o0, o1, o2, o3⟩, -⟩ := hO
  obtain ⟨⟨c0, c1, c2, c3⟩, -⟩ := E.out
  by_cases h1 : 60 < l.length
  · have hd1 : decide ((60 : Int) < (l.length : Int)) = true := decide_eq_true (by omega)
    clear hs hf hc hcm hn hp ho hb0 A E hE
    go_enter Try.func8, Try.ntmps8
    go_wp2
    go_quiet (fail)
    have hd := Drew.below (w := ((w.alloc (.cells #[.int .i64 p.n, .string p.u, .int .i64 p.s, .int .i64 p.f] 40)).alloc (.cells #[.int .i64 o.n, .string o.u, .int .i64 o.s, .int .i64 o.f] 40))) (w' := ((w.alloc (.cells #[.int .i64 p.n, .string p.u, .int .i64 p.s, .int .i64 p.f] 40)).alloc (.cells #[.int .i64 o.n, .string o.u, .int .i64 o.s, .int .i64 o.f] 40)).drewN nq) ⟨nq, rfl⟩ ((w.alloc (.cells #[.int .i64 p.n, .string p.u, .int .i64 p.s, .int .i64 p.f] 40)).alloc (.cells #[.int .i64 o.n, .string o.u, .int .i64 o.s, .int .i64 o.f] 40)).heap.size
    replace F := Lib.hid (F.out.below hd)
    go_wp2_with fail
    refine (HAL.out _).mono ?_
    rintro e w1 ⟨rfl, hB⟩
    go_wp2
    go_ret
    exact ⟨rfl, F.out.below hB⟩
  have hd1 : decide ((60 : Int) < (l.length : Int)) = false := decide_eq_false (by omega)
  by_cases h2 : o.n = p.n
  · have hd2 : (o.n == p.n) = true := beq_iff_eq.2 h2
    clear hs hf hc hcm hn hp ho hb0 A hE h2
    go_enter Try.func8, Try.ntmps8
    go_wp2
    go_quiet (fail)
    have hd := Drew.below (w := ((w.alloc (.cells #[.int .i64 p.n, .string p.u, .int .i64 p.s, .int .i64 p.f] 40)).alloc (.cells #[.int .i64 o.n, .string o.u, .int .i64 o.s, .int .i64 o.f] 40))) (w' := ((w.alloc (.cells #[.int .i64 p.n, .string p.u, .int .i64 p.s, .int .i64 p.f] 40)).alloc (.cells #[.int .i64 o.n, .string o.u, .int .i64 o.s, .int .i64 o.f] 40)).drewN nq) ⟨nq, rfl⟩ ((w.alloc (.cells #[.int .i64 p.n, .string p.u, .int .i64 p.s, .int .i64 p.f] 40)).alloc (.cells #[.int .i64 o.n, .string o.u, .int .i64 o.s, .int .i64 o.f] 40)).heap.size
    replace F := Lib.hid (F.out.below hd)
    replace E := Lib.hid (E.out.below hd)
    clear c0 c1 c2 c3
    obtain ⟨⟨c0, c1, c2, c3⟩, -⟩ := E.out
    go_wp2_with fail
    refine (HAL.out _).mono ?_
    rintro e w1 ⟨rfl, hB⟩
    go_wp2
    go_ret
    exact ⟨rfl, F.out.below hB⟩
  have hd2 : (o.n == p.n) = false := beq_eq_false_iff_ne.2 h2
  have HN := Lib.hid (fun W (h : OpSl W a l) => o_news a c l W h (by omega))
  have HFI := Lib.hid (fun x q W (h : OpSl W x l) => o_find x q l o.n o.u W h (by omega))
  have HO := Lib.hid (fun x q W (h : OpSl W x l) h1 h2 h3 => o_open x q l p W h h1 (by omega) h2 h3)
  have HC := Lib.hid (fun x q W (h : OpSl W x l) h2 h3 => o_change x q l p.n p.u p.s p.f W h (by omega) h2 h3)
  have HCL := Lib.hid (fun x q W (h : OpSl W x l) h2 h3 => o_close x q l p.n p.u p.f W h (by omega) h2 h3)
  have HF1 := Lib.hid (fun x q W (h : OpSl W x (openR l p)) => o_find x q (openR l p) o.n o.u W h (by have := openR_len l p; omega))
  have HF2 := Lib.hid (fun x q W (h : OpSl W x (chgR l p.n p.u p.s p.f)) => o_find x q (chgR l p.n p.u p.s p.f) o.n o.u W h (by have := chgR_len l p.n p.u p.s p.f; omega))
  have HF3 := Lib.hid (fun x q W (h : OpSl W x (cloR l p.n p.u)) => o_find x q (cloR l p.n p.u) o.n o.u W h (by have := cloR_len l p.n p.u; omega))
  have HG1 := Lib.hid (fun hC => oth_open (l := l) (e := p) (n := o.n) o.u h2 hC)
  have HG2 := Lib.hid (fun hC => oth_chg (l := l) (n := o.n) (m := p.n) (v := p.u) (s := p.s) (w := p.f) o.u h2 hC)
  have HG3 := Lib.hid (fun hC => oth_clo (l := l) (n := o.n) (m := p.n) (v := p.u) o.u h2 hC)
  clear hs hf hc hcm hn hp ho hb0 hE h1 h2
  generalize fndS l p.n p.u p.f = s at *
  generalize hG1 : openR l p = r1 at *
  generalize hG2 : chgR l p.n p.u p.s p.f = r2 at *
  generalize hG3 : cloR l p.n p.u = r3 at *
  generalize openC l p = CO at *
  generalize findC l p.n p.u = CF at *
  clear hG1 hG2 hG3
  have hb5 : (findC l o.n o.u == findC l o.n o.u) = true := beq_self_eq_true _
  by_cases hCO : CO = 0
  · obtain ⟨v1, v2⟩ := HG1.out hCO
    rw [v1, v2] at HF1
    have dO : (CO != 0) = false := by rw [hCO]; rfl
    clear v1 v2
    clear HG1 hCO
    by_cases hCF : CF = 0
    · obtain ⟨v1, v2⟩ := HG2.out hCF
      obtain ⟨v3, v4⟩ := HG3.out hCF
      rw [v1, v2] at HF2
      rw [v3, v4] at HF3
      have dF : (CF != 0) = false := by rw [hCF]; rfl
      clear v1 v2 v3 v4
      clear HG2 HG3 hCF
      generalize findE l o.n o.u = e0 at *
      generalize findC l o.n o.u = C0 at *
      have hb1 : (e0.n == e0.n) = true := beq_self_eq_true _
      have hb2 := txt_eq e0.u
      have hb3 : (e0.s == e0.s) = true := beq_self_eq_true _
      have hb4 : (e0.f == e0.f) = true := beq_self_eq_true _
      go_enter Try.func8, Try.ntmps8
      go_wp2
      go_quiet (fail)
      have hd := Drew.below (w := ((w.alloc (.cells #[.int .i64 p.n, .string p.u, .int .i64 p.s, .int .i64 p.f] 40)).alloc (.cells #[.int .i64 o.n, .string o.u, .int .i64 o.s, .int .i64 o.f] 40))) (w' := ((w.alloc (.cells #[.int .i64 p.n, .string p.u, .int .i64 p.s, .int .i64 p.f] 40)).alloc (.cells #[.int .i64 o.n, .string o.u, .int .i64 o.s, .int .i64 o.f] 40)).drewN nq) ⟨nq, rfl⟩ ((w.alloc (.cells #[.int .i64 p.n, .string p.u, .int .i64 p.s, .int .i64 p.f] 40)).alloc (.cells #[.int .i64 o.n, .string o.u, .int .i64 o.s, .int .i64 o.f] 40)).heap.size
      replace F := Lib.hid (F.out.below hd)
      replace A := Lib.hid (A.out.below hd)
      replace E := Lib.hid (E.out.below hd)
      clear hd o0 o1 o2 o3 c0 c1 c2 c3
      obtain ⟨⟨c0, c1, c2, c3⟩, -⟩ := E.out
      go_wp2_with fail
      refine (HN.out _ A.out).mono ?_
      rintro e w1 ⟨x1, q1, rfl, k1, m1, n1, z1, h1⟩
      have Z1 := Lib.hid z1
      replace F := Lib.hid (F.out.below h1)
      replace A := Lib.hid (A.out.below h1)
      replace E := Lib.hid (E.out.below h1)
      clear z1 h1
      clear c0 c1 c2 c3
      obtain ⟨⟨c0, c1, c2, c3⟩, -⟩ := E.out
      go_wp2_with fail
      refine (HFI.out x1 q1 _ Z1.out).mono ?_
      rintro e w2 ⟨rfl, h1⟩
      have hb := below_one w2 (.cells #[.int .i64 e0.n, .string e0.u, .int .i64 e0.s, .int .i64 e0.f] 31)
      have h2 := h1.trans (hb.mono h1.size)
      replace F := Lib.hid (F.out.below h2)
      replace A := Lib.hid (A.out.below h2)
      replace E := Lib.hid (E.out.below h2)
      replace Z1 := Lib.hid (Z1.out.below h2)
      have P0 := Lib.hid (Bk.new w2 (.int .i64 e0.n) (.string e0.u) (.int .i64 e0.s) (.int .i64 e0.f) 31)
      clear h1 hb h2
      clear c0 c1 c2 c3
      obtain ⟨⟨c0, c1, c2, c3⟩, -⟩ := E.out
      go_wp2_with fail
      refine (HO.out x1 q1 _ Z1.out n1 k1 m1).mono ?_
      rintro e w3 ⟨x2, q2, rfl, -, -, -, z1, h1⟩
      have Z2 := Lib.hid z1
      replace F := Lib.hid (F.out.below h1)
      replace A := Lib.hid (A.out.below h1)
      replace E := Lib.hid (E.out.below h1)
      replace Z1 := Lib.hid (Z1.out.below h1)
      replace P0 := Lib.hid (P0.out.below h1)
      clear z1 h1
      clear c0 c1 c2 c3
      obtain ⟨⟨c0, c1, c2, c3⟩, -⟩ := E.out
      go_wp2_with fail
      refine (HC.out x1 q1 _ Z1.out k1 m1).mono ?_
      rintro e w4 ⟨x3, q3, rfl, -, -, -, z1, h1⟩
      have Z3 := Lib.hid z1
      have hb := below_one w4 (.cells #[.int .i64 s.f, .int .i64 s.t, .int .i64 s.n, .int .i64 s.s] 44)
      have h2 := h1.trans (hb.mono h1.size)
      replace F := Lib.hid (F.out.below h2)
      replace A := Lib.hid (A.out.below h2)
      replace E := Lib.hid (E.out.below h2)
      replace Z1 := Lib.hid (Z1.out.below h2)
      replace P0 := Lib.hid (P0.out.below h2)
      replace Z2 := Lib.hid (Z2.out.below h2)
      replace Z3 := Lib.hid (Z3.out.below hb)
      clear z1 h1 hb h2
      clear c0 c1 c2 c3
      obtain ⟨⟨c0, c1, c2, c3⟩, -⟩ := E.out
      go_wp2_with fail
      refine (HCL.out x1 q1 _ Z1.out k1 m1).mono ?_
      rintro e w5 ⟨x4, q4, rfl, -, -, -, z1, h1⟩
      have Z4 := Lib.hid z1
      have hb := below_one w5 (.cells #[.int .i64 s.f, .int .i64 s.t, .int .i64 s.n, .int .i64 s.s] 44)
      have h2 := h1.trans (hb.mono h1.size)
      replace F := Lib.hid (F.out.below h2)
      replace A := Lib.hid (A.out.below h2)
      replace E := Lib.hid (E.out.below h2)
      replace P0 := Lib.hid (P0.out.below h2)
      replace Z2 := Lib.hid (Z2.out.below h2)
      replace Z3 := Lib.hid (Z3.out.below h2)
      replace Z4 := Lib.hid (Z4.out.below hb)
      clear z1 h1 Z1 hb h2
      clear c0 c1 c2 c3
      obtain ⟨⟨c0, c1, c2, c3⟩, -⟩ := E.out
      go_wp2_with fail
      refine (HF1.out x2 q2 _ Z2.out).mono ?_
      rintro e w6 ⟨rfl, h1⟩
      have hb := below_one w6 (.cells #[.int .i64 e0.n, .string e0.u, .int .i64 e0.s, .int .i64 e0.f] 31)
      have h2 := h1.trans (hb.mono h1.size)
      replace F := Lib.hid (F.out.below h2)
      replace A := Lib.hid (A.out.below h2)
      replace E := Lib.hid (E.out.below h2)
      replace P0 := Lib.hid (P0.out.below h2)
      replace Z3 := Lib.hid (Z3.out.below h2)
      replace Z4 := Lib.hid (Z4.out.below h2)
      have P1 := Lib.hid (Bk.new w6 (.int .i64 e0.n) (.string e0.u) (.int .i64 e0.s) (.int .i64 e0.f) 31)
      clear h1 Z2 hb h2
      clear c0 c1 c2 c3
      obtain ⟨⟨c0, c1, c2, c3⟩, -⟩ := E.out
      go_wp2_with fail
      refine (HF2.out x3 q3 _ Z3.out).mono ?_
      rintro e w7 ⟨rfl, h1⟩
      have hb := below_one w7 (.cells #[.int .i64 e0.n, .string e0.u, .int .i64 e0.s, .int .i64 e0.f] 31)
      have h2 := h1.trans (hb.mono h1.size)
      replace F := Lib.hid (F.out.below h2)
      replace A := Lib.hid (A.out.below h2)
      replace E := Lib.hid (E.out.below h2)
      replace P0 := Lib.hid (P0.out.below h2)
      replace Z4 := Lib.hid (Z4.out.below h2)
      replace P1 := Lib.hid (P1.out.below h2)
      have P2 := Lib.hid (Bk.new w7 (.int .i64 e0.n) (.string e0.u) (.int .i64 e0.s) (.int .i64 e0.f) 31)
      clear h1 Z3 hb h2
      clear c0 c1 c2 c3
      obtain ⟨⟨c0, c1, c2, c3⟩, -⟩ := E.out
      go_wp2_with fail
      refine (HF3.out x4 q4 _ Z4.out).mono ?_
      rintro e w8 ⟨rfl, h1⟩
      have hb := below_one w8 (.cells #[.int .i64 e0.n, .string e0.u, .int .i64 e0.s, .int .i64 e0.f] 31)
      have h2 := h1.trans (hb.mono h1.size)
      replace F := Lib.hid (F.out.below h2)
      replace A := Lib.hid (A.out.below h2)
      replace E := Lib.hid (E.out.below h2)
      replace P0 := Lib.hid (P0.out.below h2)
      replace P1 := Lib.hid (P1.out.below h2)
      replace P2 := Lib.hid (P2.out.below h2)
      have P3 := Lib.hid (Bk.new w8 (.int .i64 e0.n) (.string e0.u) (.int .i64 e0.s) (.int .i64 e0.f) 31)
      clear h1 Z4 hb h2
      clear c0 c1 c2 c3
      obtain ⟨⟨c0, c1, c2, c3⟩, -⟩ := E.out
      go_wp2_with fail
      refine (HAL.out _).mono ?_
      rintro e w9 ⟨rfl, h1⟩
      replace F := Lib.hid (F.out.below h1)
      replace A := Lib.hid (A.out.below h1)
      replace E := Lib.hid (E.out.below h1)
      replace P0 := Lib.hid (P0.out.below h1)
      replace P1 := Lib.hid (P1.out.below h1)
      replace P2 := Lib.hid (P2.out.below h1)
      replace P3 := Lib.hid (P3.out.below h1)
      clear h1
      clear c0 c1 c2 c3
      obtain ⟨⟨c0, c1, c2, c3⟩, -⟩ := E.out
      obtain ⟨⟨d0, d1, d2, d3⟩, -⟩ := P0.out
      obtain ⟨⟨f0, f1, f2, f3⟩, -⟩ := P1.out
      obtain ⟨⟨g0, g1, g2, g3⟩, -⟩ := P2.out
      obtain ⟨⟨h0, h1, h2, h3⟩, -⟩ := P3.out
      go_wp2
      go_ret
      exact ⟨rfl, F.out⟩
    · have dF : (CF != 0) = true := by simp [hCF]
      generalize findE r2 o.n o.u = e2 at *
      generalize findC r2 o.n o.u = C2 at *
      generalize findE r3 o.n o.u = e3 at *
      generalize findC r3 o.n o.u = C3 at *
      clear HG2 HG3 hCF
      generalize findE l o.n o.u = e0 at *
      generalize findC l o.n o.u = C0 at *
      have hb1 : (e0.n == e0.n) = true := beq_self_eq_true _
      have hb2 := txt_eq e0.u
      have hb3 : (e0.s == e0.s) = true := beq_self_eq_true _
      have hb4 : (e0.f == e0.f) = true := beq_self_eq_true _
      go_enter Try.func8, Try.ntmps8
      go_wp2
      go_quiet (fail)
      have hd := Drew.below (w := ((w.alloc (.cells #[.int .i64 p.n, .string p.u, .int .i64 p.s, .int .i64 p.f] 40)).alloc (.cells #[.int .i64 o.n, .string o.u, .int .i64 o.s, .int .i64 o.f] 40))) (w' := ((w.alloc (.cells #[.int .i64 p.n, .string p.u, .int .i64 p.s, .int .i64 p.f] 40)).alloc (.cells #[.int .i64 o.n, .string o.u, .int .i64 o.s, .int .i64 o.f] 40)).drewN nq) ⟨nq, rfl⟩ ((w.alloc (.cells #[.int .i64 p.n, .string p.u, .int .i64 p.s, .int .i64 p.f] 40)).alloc (.cells #[.int .i64 o.n, .string o.u, .int .i64 o.s, .int .i64 o.f] 40)).heap.size
      replace F := Lib.hid (F.out.below hd)
      replace A := Lib.hid (A.out.below hd)
      replace E := Lib.hid (E.out.below hd)
      clear hd o0 o1 o2 o3 c0 c1 c2 c3
      obtain ⟨⟨c0, c1, c2, c3⟩, -⟩ := E.out
      go_wp2_with fail
      refine (HN.out _ A.out).mono ?_
      rintro e w1 ⟨x1, q1, rfl, k1, m1, n1, z1, h1⟩
      have Z1 := Lib.hid z1
      replace F := Lib.hid (F.out.below h1)
      replace A := Lib.hid (A.out.below h1)
      replace E := Lib.hid (E.out.below h1)
      clear z1 h1
      clear c0 c1 c2 c3
      obtain ⟨⟨c0, c1, c2, c3⟩, -⟩ := E.out
      go_wp2_with fail
      refine (HFI.out x1 q1 _ Z1.out).mono ?_
      rintro e w2 ⟨rfl, h1⟩
      have hb := below_one w2 (.cells #[.int .i64 e0.n, .string e0.u, .int .i64 e0.s, .int .i64 e0.f] 31)
      have h2 := h1.trans (hb.mono h1.size)
      replace F := Lib.hid (F.out.below h2)
      replace A := Lib.hid (A.out.below h2)
      replace E := Lib.hid (E.out.below h2)
      replace Z1 := Lib.hid (Z1.out.below h2)
      have P0 := Lib.hid (Bk.new w2 (.int .i64 e0.n) (.string e0.u) (.int .i64 e0.s) (.int .i64 e0.f) 31)
      clear h1 hb h2
      clear c0 c1 c2 c3
      obtain ⟨⟨c0, c1, c2, c3⟩, -⟩ := E.out
      go_wp2_with fail
      refine (HO.out x1 q1 _ Z1.out n1 k1 m1).mono ?_
      rintro e w3 ⟨x2, q2, rfl, -, -, -, z1, h1⟩
      have Z2 := Lib.hid z1
      replace F := Lib.hid (F.out.below h1)
      replace A := Lib.hid (A.out.below h1)
      replace E := Lib.hid (E.out.below h1)
      replace Z1 := Lib.hid (Z1.out.below h1)
      replace P0 := Lib.hid (P0.out.below h1)
      clear z1 h1
      clear c0 c1 c2 c3
      obtain ⟨⟨c0, c1, c2, c3⟩, -⟩ := E.out
      go_wp2_with fail
      refine (HC.out x1 q1 _ Z1.out k1 m1).mono ?_
      rintro e w4 ⟨x3, q3, rfl, -, -, -, z1, h1⟩
      have Z3 := Lib.hid z1
      have hb := below_one w4 (.cells #[.int .i64 s.f, .int .i64 s.t, .int .i64 s.n, .int .i64 s.s] 44)
      have h2 := h1.trans (hb.mono h1.size)
      replace F := Lib.hid (F.out.below h2)
      replace A := Lib.hid (A.out.below h2)
      replace E := Lib.hid (E.out.below h2)
      replace Z1 := Lib.hid (Z1.out.below h2)
      replace P0 := Lib.hid (P0.out.below h2)
      replace Z2 := Lib.hid (Z2.out.below h2)
      replace Z3 := Lib.hid (Z3.out.below hb)
      clear z1 h1 hb h2
      clear c0 c1 c2 c3
      obtain ⟨⟨c0, c1, c2, c3⟩, -⟩ := E.out
      go_wp2_with fail
      refine (HCL.out x1 q1 _ Z1.out k1 m1).mono ?_
      rintro e w5 ⟨x4, q4, rfl, -, -, -, z1, h1⟩
      have Z4 := Lib.hid z1
      have hb := below_one w5 (.cells #[.int .i64 s.f, .int .i64 s.t, .int .i64 s.n, .int .i64 s.s] 44)
      have h2 := h1.trans (hb.mono h1.size)
      replace F := Lib.hid (F.out.below h2)
      replace A := Lib.hid (A.out.below h2)
      replace E := Lib.hid (E.out.below h2)
      replace P0 := Lib.hid (P0.out.below h2)
      replace Z2 := Lib.hid (Z2.out.below h2)
      replace Z3 := Lib.hid (Z3.out.below h2)
      replace Z4 := Lib.hid (Z4.out.below hb)
      clear z1 h1 Z1 hb h2
      clear c0 c1 c2 c3
      obtain ⟨⟨c0, c1, c2, c3⟩, -⟩ := E.out
      go_wp2_with fail
      refine (HF1.out x2 q2 _ Z2.out).mono ?_
      rintro e w6 ⟨rfl, h1⟩
      have hb := below_one w6 (.cells #[.int .i64 e0.n, .string e0.u, .int .i64 e0.s, .int .i64 e0.f] 31)
      have h2 := h1.trans (hb.mono h1.size)
      replace F := Lib.hid (F.out.below h2)
      replace A := Lib.hid (A.out.below h2)
      replace E := Lib.hid (E.out.below h2)
      replace P0 := Lib.hid (P0.out.below h2)
      replace Z3 := Lib.hid (Z3.out.below h2)
      replace Z4 := Lib.hid (Z4.out.below h2)
      have P1 := Lib.hid (Bk.new w6 (.int .i64 e0.n) (.string e0.u) (.int .i64 e0.s) (.int .i64 e0.f) 31)
      clear h1 Z2 hb h2
      clear c0 c1 c2 c3
      obtain ⟨⟨c0, c1, c2, c3⟩, -⟩ := E.out
      go_wp2_with fail
      refine (HF2.out x3 q3 _ Z3.out).mono ?_
      rintro e w7 ⟨rfl, h1⟩
      have hb := below_one w7 (.cells #[.int .i64 e2.n, .string e2.u, .int .i64 e2.s, .int .i64 e2.f] 31)
      have h2 := h1.trans (hb.mono h1.size)
      replace F := Lib.hid (F.out.below h2)
      replace A := Lib.hid (A.out.below h2)
      replace E := Lib.hid (E.out.below h2)
      replace P0 := Lib.hid (P0.out.below h2)
      replace Z4 := Lib.hid (Z4.out.below h2)
      replace P1 := Lib.hid (P1.out.below h2)
      have P2 := Lib.hid (Bk.new w7 (.int .i64 e2.n) (.string e2.u) (.int .i64 e2.s) (.int .i64 e2.f) 31)
      clear h1 Z3 hb h2
      clear c0 c1 c2 c3
      obtain ⟨⟨c0, c1, c2, c3⟩, -⟩ := E.out
      go_wp2_with fail
      refine (HF3.out x4 q4 _ Z4.out).mono ?_
      rintro e w8 ⟨rfl, h1⟩
      have hb := below_one w8 (.cells #[.int .i64 e3.n, .string e3.u, .int .i64 e3.s, .int .i64 e3.f] 31)
      have h2 := h1.trans (hb.mono h1.size)
      replace F := Lib.hid (F.out.below h2)
      replace A := Lib.hid (A.out.below h2)
      replace E := Lib.hid (E.out.below h2)
      replace P0 := Lib.hid (P0.out.below h2)
      replace P1 := Lib.hid (P1.out.below h2)
      replace P2 := Lib.hid (P2.out.below h2)
      have P3 := Lib.hid (Bk.new w8 (.int .i64 e3.n) (.string e3.u) (.int .i64 e3.s) (.int .i64 e3.f) 31)
      clear h1 Z4 hb h2
      clear c0 c1 c2 c3
      obtain ⟨⟨c0, c1, c2, c3⟩, -⟩ := E.out
      go_wp2_with fail
      refine (HAL.out _).mono ?_
      rintro e w9 ⟨rfl, h1⟩
      replace F := Lib.hid (F.out.below h1)
      replace A := Lib.hid (A.out.below h1)
      replace E := Lib.hid (E.out.below h1)
      replace P0 := Lib.hid (P0.out.below h1)
      replace P1 := Lib.hid (P1.out.below h1)
      replace P2 := Lib.hid (P2.out.below h1)
      replace P3 := Lib.hid (P3.out.below h1)
      clear h1
      clear c0 c1 c2 c3
      obtain ⟨⟨c0, c1, c2, c3⟩, -⟩ := E.out
      obtain ⟨⟨d0, d1, d2, d3⟩, -⟩ := P0.out
      obtain ⟨⟨f0, f1, f2, f3⟩, -⟩ := P1.out
      obtain ⟨⟨g0, g1, g2, g3⟩, -⟩ := P2.out
      obtain ⟨⟨h0, h1, h2, h3⟩, -⟩ := P3.out
      go_wp2
      go_ret
      exact ⟨rfl, F.out⟩
  · have dO : (CO != 0) = true := by simp [hCO]
    generalize findE r1 o.n o.u = e1 at *
    generalize findC r1 o.n o.u = C1 at *
    clear HG1 hCO
    by_cases hCF : CF = 0
    · obtain ⟨v1, v2⟩ := HG2.out hCF
      obtain ⟨v3, v4⟩ := HG3.out hCF
      rw [v1, v2] at HF2
      rw [v3, v4] at HF3
      have dF : (CF != 0) = false := by rw [hCF]; rfl
      clear v1 v2 v3 v4
      clear HG2 HG3 hCF
      generalize findE l o.n o.u = e0 at *
      generalize findC l o.n o.u = C0 at *
      have hb1 : (e0.n == e0.n) = true := beq_self_eq_true _
      have hb2 := txt_eq e0.u
      have hb3 : (e0.s == e0.s) = true := beq_self_eq_true _
      have hb4 : (e0.f == e0.f) = true := beq_self_eq_true _
      go_enter Try.func8, Try.ntmps8
      go_wp2
      go_quiet (fail)
      have hd := Drew.below (w := ((w.alloc (.cells #[.int .i64 p.n, .string p.u, .int .i64 p.s, .int .i64 p.f] 40)).alloc (.cells #[.int .i64 o.n, .string o.u, .int .i64 o.s, .int .i64 o.f] 40))) (w' := ((w.alloc (.cells #[.int .i64 p.n, .string p.u, .int .i64 p.s, .int .i64 p.f] 40)).alloc (.cells #[.int .i64 o.n, .string o.u, .int .i64 o.s, .int .i64 o.f] 40)).drewN nq) ⟨nq, rfl⟩ ((w.alloc (.cells #[.int .i64 p.n, .string p.u, .int .i64 p.s, .int .i64 p.f] 40)).alloc (.cells #[.int .i64 o.n, .string o.u, .int .i64 o.s, .int .i64 o.f] 40)).heap.size
      replace F := Lib.hid (F.out.below hd)
      replace A := Lib.hid (A.out.below hd)
      replace E := Lib.hid (E.out.below hd)
      clear hd o0 o1 o2 o3 c0 c1 c2 c3
      obtain ⟨⟨c0, c1, c2, c3⟩, -⟩ := E.out
      go_wp2_with fail
      refine (HN.out _ A.out).mono ?_
      rintro e w1 ⟨x1, q1, rfl, k1, m1, n1, z1, h1⟩
      have Z1 := Lib.hid z1
      replace F := Lib.hid (F.out.below h1)
      replace A := Lib.hid (A.out.below h1)
      replace E := Lib.hid (E.out.below h1)
      clear z1 h1
      clear c0 c1 c2 c3
      obtain ⟨⟨c0, c1, c2, c3⟩, -⟩ := E.out
      go_wp2_with fail
      refine (HFI.out x1 q1 _ Z1.out).mono ?_
      rintro e w2 ⟨rfl, h1⟩
      have hb := below_one w2 (.cells #[.int .i64 e0.n, .string e0.u, .int .i64 e0.s, .int .i64 e0.f] 31)
      have h2 := h1.trans (hb.mono h1.size)
      replace F := Lib.hid (F.out.below h2)
      replace A := Lib.hid (A.out.below h2)
      replace E := Lib.hid (E.out.below h2)
      replace Z1 := Lib.hid (Z1.out.below h2)
      have P0 := Lib.hid (Bk.new w2 (.int .i64 e0.n) (.string e0.u) (.int .i64 e0.s) (.int .i64 e0.f) 31)
      clear h1 hb h2
      clear c0 c1 c2 c3
      obtain ⟨⟨c0, c1, c2, c3⟩, -⟩ := E.out
      go_wp2_with fail
      refine (HO.out x1 q1 _ Z1.out n1 k1 m1).mono ?_
      rintro e w3 ⟨x2, q2, rfl, -, -, -, z1, h1⟩
      have Z2 := Lib.hid z1
      replace F := Lib.hid (F.out.below h1)
      replace A := Lib.hid (A.out.below h1)
      replace E := Lib.hid (E.out.below h1)
      replace Z1 := Lib.hid (Z1.out.below h1)
      replace P0 := Lib.hid (P0.out.below h1)
      clear z1 h1
      clear c0 c1 c2 c3
      obtain ⟨⟨c0, c1, c2, c3⟩, -⟩ := E.out
      go_wp2_with fail
      refine (HC.out x1 q1 _ Z1.out k1 m1).mono ?_
      rintro e w4 ⟨x3, q3, rfl, -, -, -, z1, h1⟩
      have Z3 := Lib.hid z1
      have hb := below_one w4 (.cells #[.int .i64 s.f, .int .i64 s.t, .int .i64 s.n, .int .i64 s.s] 44)
      have h2 := h1.trans (hb.mono h1.size)
      replace F := Lib.hid (F.out.below h2)
      replace A := Lib.hid (A.out.below h2)
      replace E := Lib.hid (E.out.below h2)
      replace Z1 := Lib.hid (Z1.out.below h2)
      replace P0 := Lib.hid (P0.out.below h2)
      replace Z2 := Lib.hid (Z2.out.below h2)
      replace Z3 := Lib.hid (Z3.out.below hb)
      clear z1 h1 hb h2
      clear c0 c1 c2 c3
      obtain ⟨⟨c0, c1, c2, c3⟩, -⟩ := E.out
      go_wp2_with fail
      refine (HCL.out x1 q1 _ Z1.out k1 m1).mono ?_
      rintro e w5 ⟨x4, q4, rfl, -, -, -, z1, h1⟩
      have Z4 := Lib.hid z1
      have hb := below_one w5 (.cells #[.int .i64 s.f, .int .i64 s.t, .int .i64 s.n, .int .i64 s.s] 44)
      have h2 := h1.trans (hb.mono h1.size)
      replace F := Lib.hid (F.out.below h2)
      replace A := Lib.hid (A.out.below h2)
      replace E := Lib.hid (E.out.below h2)
      replace P0 := Lib.hid (P0.out.below h2)
      replace Z2 := Lib.hid (Z2.out.below h2)
      replace Z3 := Lib.hid (Z3.out.below h2)
      replace Z4 := Lib.hid (Z4.out.below hb)
      clear z1 h1 Z1 hb h2
      clear c0 c1 c2 c3
      obtain ⟨⟨c0, c1, c2, c3⟩, -⟩ := E.out
      go_wp2_with fail
      refine (HF1.out x2 q2 _ Z2.out).mono ?_
      rintro e w6 ⟨rfl, h1⟩
      have hb := below_one w6 (.cells #[.int .i64 e1.n, .string e1.u, .int .i64 e1.s, .int .i64 e1.f] 31)
      have h2 := h1.trans (hb.mono h1.size)
      replace F := Lib.hid (F.out.below h2)
      replace A := Lib.hid (A.out.below h2)
      replace E := Lib.hid (E.out.below h2)
      replace P0 := Lib.hid (P0.out.below h2)
      replace Z3 := Lib.hid (Z3.out.below h2)
      replace Z4 := Lib.hid (Z4.out.below h2)
      have P1 := Lib.hid (Bk.new w6 (.int .i64 e1.n) (.string e1.u) (.int .i64 e1.s) (.int .i64 e1.f) 31)
      clear h1 Z2 hb h2
      clear c0 c1 c2 c3
      obtain ⟨⟨c0, c1, c2, c3⟩, -⟩ := E.out
      go_wp2_with fail
      refine (HF2.out x3 q3 _ Z3.out).mono ?_
      rintro e w7 ⟨rfl, h1⟩
      have hb := below_one w7 (.cells #[.int .i64 e0.n, .string e0.u, .int .i64 e0.s, .int .i64 e0.f] 31)
      have h2 := h1.trans (hb.mono h1.size)
      replace F := Lib.hid (F.out.below h2)
      replace A := Lib.hid (A.out.below h2)
      replace E := Lib.hid (E.out.below h2)
      replace P0 := Lib.hid (P0.out.below h2)
      replace Z4 := Lib.hid (Z4.out.below h2)
      replace P1 := Lib.hid (P1.out.below h2)
      have P2 := Lib.hid (Bk.new w7 (.int .i64 e0.n) (.string e0.u) (.int .i64 e0.s) (.int .i64 e0.f) 31)
      clear h1 Z3 hb h2
      clear c0 c1 c2 c3
      obtain ⟨⟨c0, c1, c2, c3⟩, -⟩ := E.out
      go_wp2_with fail
      refine (HF3.out x4 q4 _ Z4.out).mono ?_
      rintro e w8 ⟨rfl, h1⟩
      have hb := below_one w8 (.cells #[.int .i64 e0.n, .string e0.u, .int .i64 e0.s, .int .i64 e0.f] 31)
      have h2 := h1.trans (hb.mono h1.size)
      replace F := Lib.hid (F.out.below h2)
      replace A := Lib.hid (A.out.below h2)
      replace E := Lib.hid (E.out.below h2)
      replace P0 := Lib.hid (P0.out.below h2)
      replace P1 := Lib.hid (P1.out.below h2)
      replace P2 := Lib.hid (P2.out.below h2)
      have P3 := Lib.hid (Bk.new w8 (.int .i64 e0.n) (.string e0.u) (.int .i64 e0.s) (.int .i64 e0.f) 31)
      clear h1 Z4 hb h2
      clear c0 c1 c2 c3
      obtain ⟨⟨c0, c1, c2, c3⟩, -⟩ := E.out
      go_wp2_with fail
      refine (HAL.out _).mono ?_
      rintro e w9 ⟨rfl, h1⟩
      replace F := Lib.hid (F.out.below h1)
      replace A := Lib.hid (A.out.below h1)
      replace E := Lib.hid (E.out.below h1)
      replace P0 := Lib.hid (P0.out.below h1)
      replace P1 := Lib.hid (P1.out.below h1)
      replace P2 := Lib.hid (P2.out.below h1)
      replace P3 := Lib.hid (P3.out.below h1)
      clear h1
      clear c0 c1 c2 c3
      obtain ⟨⟨c0, c1, c2, c3⟩, -⟩ := E.out
      obtain ⟨⟨d0, d1, d2, d3⟩, -⟩ := P0.out
      obtain ⟨⟨f0, f1, f2, f3⟩, -⟩ := P1.out
      obtain ⟨⟨g0, g1, g2, g3⟩, -⟩ := P2.out
      obtain ⟨⟨h0, h1, h2, h3⟩, -⟩ := P3.out
      go_wp2
      go_ret
      exact ⟨rfl, F.out⟩
    · have dF : (CF != 0) = true := by simp [hCF]
      generalize findE r2 o.n o.u = e2 at *
      generalize findC r2 o.n o.u = C2 at *
      generalize findE r3 o.n o.u = e3 at *
      generalize findC r3 o.n o.u = C3 at *
      clear HG2 HG3 hCF
      generalize findE l o.n o.u = e0 at *
      generalize findC l o.n o.u = C0 at *
      have hb1 : (e0.n == e0.n) = true := beq_self_eq_true _
      have hb2 := txt_eq e0.u
      have hb3 : (e0.s == e0.s) = true := beq_self_eq_true _
      have hb4 : (e0.f == e0.f) = true := beq_self_eq_true _
      go_enter Try.func8, Try.ntmps8
      go_wp2
      go_quiet (fail)
      have hd := Drew.below (w := ((w.alloc (.cells #[.int .i64 p.n, .string p.u, .int .i64 p.s, .int .i64 p.f] 40)).alloc (.cells #[.int .i64 o.n, .string o.u, .int .i64 o.s, .int .i64 o.f] 40))) (w' := ((w.alloc (.cells #[.int .i64 p.n, .string p.u, .int .i64 p.s, .int .i64 p.f] 40)).alloc (.cells #[.int .i64 o.n, .string o.u, .int .i64 o.s, .int .i64 o.f] 40)).drewN nq) ⟨nq, rfl⟩ ((w.alloc (.cells #[.int .i64 p.n, .string p.u, .int .i64 p.s, .int .i64 p.f] 40)).alloc (.cells #[.int .i64 o.n, .string o.u, .int .i64 o.s, .int .i64 o.f] 40)).heap.size
      replace F := Lib.hid (F.out.below hd)
      replace A := Lib.hid (A.out.below hd)
      replace E := Lib.hid (E.out.below hd)
      clear hd o0 o1 o2 o3 c0 c1 c2 c3
      obtain ⟨⟨c0, c1, c2, c3⟩, -⟩ := E.out
      go_wp2_with fail
      refine (HN.out _ A.out).mono ?_
      rintro e w1 ⟨x1, q1, rfl, k1, m1, n1, z1, h1⟩
      have Z1 := Lib.hid z1
      replace F := Lib.hid (F.out.below h1)
      replace A := Lib.hid (A.out.below h1)
      replace E := Lib.hid (E.out.below h1)
      clear z1 h1
      clear c0 c1 c2 c3
      obtain ⟨⟨c0, c1, c2, c3⟩, -⟩ := E.out
      go_wp2_with fail
      refine (HFI.out x1 q1 _ Z1.out).mono ?_
      rintro e w2 ⟨rfl, h1⟩
      have hb := below_one w2 (.cells #[.int .i64 e0.n, .string e0.u, .int .i64 e0.s, .int .i64 e0.f] 31)
      have h2 := h1.trans (hb.mono h1.size)
      replace F := Lib.hid (F.out.below h2)
      replace A := Lib.hid (A.out.below h2)
      replace E := Lib.hid (E.out.below h2)
      replace Z1 := Lib.hid (Z1.out.below h2)
      have P0 := Lib.hid (Bk.new w2 (.int .i64 e0.n) (.string e0.u) (.int .i64 e0.s) (.int .i64 e0.f) 31)
      clear h1 hb h2
      clear c0 c1 c2 c3
      obtain ⟨⟨c0, c1, c2, c3⟩, -⟩ := E.out
      go_wp2_with fail
      refine (HO.out x1 q1 _ Z1.out n1 k1 m1).mono ?_
      rintro e w3 ⟨x2, q2, rfl, -, -, -, z1, h1⟩
      have Z2 := Lib.hid z1
      replace F := Lib.hid (F.out.below h1)
      replace A := Lib.hid (A.out.below h1)
      replace E := Lib.hid (E.out.below h1)
      replace Z1 := Lib.hid (Z1.out.below h1)
      replace P0 := Lib.hid (P0.out.below h1)
      clear z1 h1
      clear c0 c1 c2 c3
      obtain ⟨⟨c0, c1, c2, c3⟩, -⟩ := E.out
      go_wp2_with fail
      refine (HC.out x1 q1 _ Z1.out k1 m1).mono ?_
      rintro e w4 ⟨x3, q3, rfl, -, -, -, z1, h1⟩
      have Z3 := Lib.hid z1
      have hb := below_one w4 (.cells #[.int .i64 s.f, .int .i64 s.t, .int .i64 s.n, .int .i64 s.s] 44)
      have h2 := h1.trans (hb.mono h1.size)
      replace F := Lib.hid (F.out.below h2)
      replace A := Lib.hid (A.out.below h2)
      replace E := Lib.hid (E.out.below h2)
      replace Z1 := Lib.hid (Z1.out.below h2)
      replace P0 := Lib.hid (P0.out.below h2)
      replace Z2 := Lib.hid (Z2.out.below h2)
      replace Z3 := Lib.hid (Z3.out.below hb)
      clear z1 h1 hb h2
      clear c0 c1 c2 c3
      obtain ⟨⟨c0, c1, c2, c3⟩, -⟩ := E.out
      go_wp2_with fail
      refine (HCL.out x1 q1 _ Z1.out k1 m1).mono ?_
      rintro e w5 ⟨x4, q4, rfl, -, -, -, z1, h1⟩
      have Z4 := Lib.hid z1
      have hb := below_one w5 (.cells #[.int .i64 s.f, .int .i64 s.t, .int .i64 s.n, .int .i64 s.s] 44)
      have h2 := h1.trans (hb.mono h1.size)
      replace F := Lib.hid (F.out.below h2)
      replace A := Lib.hid (A.out.below h2)
      replace E := Lib.hid (E.out.below h2)
      replace P0 := Lib.hid (P0.out.below h2)
      replace Z2 := Lib.hid (Z2.out.below h2)
      replace Z3 := Lib.hid (Z3.out.below h2)
      replace Z4 := Lib.hid (Z4.out.below hb)
      clear z1 h1 Z1 hb h2
      clear c0 c1 c2 c3
      obtain ⟨⟨c0, c1, c2, c3⟩, -⟩ := E.out
      go_wp2_with fail
      refine (HF1.out x2 q2 _ Z2.out).mono ?_
      rintro e w6 ⟨rfl, h1⟩
      have hb := below_one w6 (.cells #[.int .i64 e1.n, .string e1.u, .int .i64 e1.s, .int .i64 e1.f] 31)
      have h2 := h1.trans (hb.mono h1.size)
      replace F := Lib.hid (F.out.below h2)
      replace A := Lib.hid (A.out.below h2)
      replace E := Lib.hid (E.out.below h2)
      replace P0 := Lib.hid (P0.out.below h2)
      replace Z3 := Lib.hid (Z3.out.below h2)
      replace Z4 := Lib.hid (Z4.out.below h2)
      have P1 := Lib.hid (Bk.new w6 (.int .i64 e1.n) (.string e1.u) (.int .i64 e1.s) (.int .i64 e1.f) 31)
      clear h1 Z2 hb h2
      clear c0 c1 c2 c3
      obtain ⟨⟨c0, c1, c2, c3⟩, -⟩ := E.out
      go_wp2_with fail
      refine (HF2.out x3 q3 _ Z3.out).mono ?_
      rintro e w7 ⟨rfl, h1⟩
      have hb := below_one w7 (.cells #[.int .i64 e2.n, .string e2.u, .int .i64 e2.s, .int .i64 e2.f] 31)
      have h2 := h1.trans (hb.mono h1.size)
      replace F := Lib.hid (F.out.below h2)
      replace A := Lib.hid (A.out.below h2)
      replace E := Lib.hid (E.out.below h2)
      replace P0 := Lib.hid (P0.out.below h2)
      replace Z4 := Lib.hid (Z4.out.below h2)
      replace P1 := Lib.hid (P1.out.below h2)
      have P2 := Lib.hid (Bk.new w7 (.int .i64 e2.n) (.string e2.u) (.int .i64 e2.s) (.int .i64 e2.f) 31)
      clear h1 Z3 hb h2
      clear c0 c1 c2 c3
      obtain ⟨⟨c0, c1, c2, c3⟩, -⟩ := E.out
      go_wp2_with fail
      refine (HF3.out x4 q4 _ Z4.out).mono ?_
      rintro e w8 ⟨rfl, h1⟩
      have hb := below_one w8 (.cells #[.int .i64 e3.n, .string e3.u, .int .i64 e3.s, .int .i64 e3.f] 31)
      have h2 := h1.trans (hb.mono h1.size)
      replace F := Lib.hid (F.out.below h2)
      replace A := Lib.hid (A.out.below h2)
      replace E := Lib.hid (E.out.below h2)
      replace P0 := Lib.hid (P0.out.below h2)
      replace P1 := Lib.hid (P1.out.below h2)
      replace P2 := Lib.hid (P2.out.below h2)
      have P3 := Lib.hid (Bk.new w8 (.int .i64 e3.n) (.string e3.u) (.int .i64 e3.s) (.int .i64 e3.f) 31)
      clear h1 Z4 hb h2
      clear c0 c1 c2 c3
      obtain ⟨⟨c0, c1, c2, c3⟩, -⟩ := E.out
      go_wp2_with fail
      refine (HAL.out _).mono ?_
      rintro e w9 ⟨rfl, h1⟩
      replace F := Lib.hid (F.out.below h1)
      replace A := Lib.hid (A.out.below h1)
      replace E := Lib.hid (E.out.below h1)
      replace P0 := Lib.hid (P0.out.below h1)
      replace P1 := Lib.hid (P1.out.below h1)
      replace P2 := Lib.hid (P2.out.below h1)
      replace P3 := Lib.hid (P3.out.below h1)
      clear h1
      clear c0 c1 c2 c3
      obtain ⟨⟨c0, c1, c2, c3⟩, -⟩ := E.out
      obtain ⟨⟨d0, d1, d2, d3⟩, -⟩ := P0.out
      obtain ⟨⟨f0, f1, f2, f3⟩, -⟩ := P1.out
      obtain ⟨⟨g0, g1, g2, g3⟩, -⟩ := P2.out
      obtain ⟨⟨h0, h1, h2, h3⟩, -⟩ := P3.out
      go_wp2
      go_ret
      exact ⟨rfl, F.out⟩

set_option maxRecDepth 100000 in
theorem lifted (os : Os) (started : os.Started) (H : Type) (enc : TypeId × Value → H) :
    ReturnsInHanded {} Try.checked os 8 .any (Rows.sessOthersSpec.pre6 enc Try.prog Try.f8 Rows.sessOthersRow.domain false) (Rows.sessOthersSpec.post enc Try.prog Try.f8 false true false false) := by
  refine returnsInHanded_of_change (C := Try.checked) own started (by kernel_rfl) Try.func8
    (ChangeSpec.witness6 (enc := enc) (C := Try.checked) false ⟨#[], #[.slice none 0 0, .agg #[.int .i64 0, .string ByteArray.empty, .int .i64 0, .int .i64 0], .agg #[.int .i64 0, .string ByteArray.empty, .int .i64 0, .int .i64 0]], []⟩ 8 (by kernel_rfl) (by kernel_rfl) (by kernel_rfl) (by kernel_rfl)) ?_
  intro W base args ds gs before hval0 hW hcnd _
  have hval : ∀ (j : Nat) t v, Try.f8.params[j]? = some t → args[j]? = some v → Value.okWide Try.prog W .any base t v := hval0
  have hW' := hW
  have hlt := hW.lt
  obtain ⟨p, q, hA0, hV, rfl, hfz, hnd⟩ := hW
  have hA : DataW.TrodAll enc Try.prog W 0 (fun _ => true) true Try.f8.params.toList args.toList ds p := hA0
  rw [Try.params8] at hA hval
  obtain ⟨v0, vs0, d0, ds0, p0, q0, hargs, rfl, rfl, h0, r0⟩ := trodAll_cons hA
  obtain ⟨v1, vs1, d1, ds1, p1, q1, rfl, rfl, rfl, h1, r1⟩ := trodAll_cons r0
  obtain ⟨v2, vs2, d2, ds2, p2, q2, rfl, rfl, rfl, h2, r2⟩ := trodAll_cons r1
  obtain ⟨rfl, rfl, rfl⟩ := trodAll_nil r2
  obtain rfl : args = #[v0, v1, v2] := by cases args; simp_all
  obtain ⟨a0, c0, l0, rfl, s0, f0, m0, n0, o0⟩ := open_sess (hval 0 22 v0 rfl rfl) h0
  obtain ⟨l1, rfl, f1⟩ := open_which (hval 1 40 v1 rfl rfl) h1
  obtain ⟨l2, rfl, f2⟩ := open_which (hval 2 40 v2 rfl rfl) h2
  refine (walk W a0 c0 l0 s0 f0 m0 n0 o0 l1 f1 l2 f2).mono fun e W' ⟨he, hb⟩ => ?_
  subst he
  exact ⟨_, rfl, law_post rfl hW' (fun ds h => by match ds, h with | [_, _, _], _ => rfl) (by kernel_rfl) (by kernel_rfl) (by kernel_rfl) hb⟩

theorem over : Rows.sessOthersRow.holds Try.pinned (OpenSpec.ofChange Rows.sessOthersSpec) :=
  OpenClaim.holds_of_wide 8 Try.f8 rfl rfl rfl rfl rfl rfl rfl ⟨rfl, rfl, rfl, rfl, rfl⟩ rfl rfl rfl rfl rfl (by kernel_rfl) Try.func8 (by kernel_rfl)
    (of_decide_eq_true (by kernel_rfl)) (by unfold Func.isWrapper; first | (rw [if_pos (by decide +kernel)]; kernel_rfl) | (rw [if_neg (by decide +kernel)]; exact ⟨rfl, rfl⟩))
    (fun os started H enc _ => lifted os started H enc)

theorem proved : Rows.SessOthersSaid := over
end Go.Proofs.Ytlgicjebaehgeaa.sessOthers
