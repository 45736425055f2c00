/- SpanSpreads: what two rows together have in common with a third one is what each has, together; likewise what is left of them; for all rows. No condition. -/
import Derived.Test.YtpbemglnifafaaaW19
namespace Go.Proofs.Ytpbemglnifafaaa.spanSpreads
open Go.ChangeShapes Go.WideShapes Go.ChangeAt Go.RowKit
open Go.ChangeMaps (open_string shut_string)
set_option linter.unusedVariables false
set_option maxRecDepth 100000

/-- three rows of one's own, all else as it was -/
structure St3 (w : World) (x y z : Option Addr) (l m k : List SpM) (W : World) : Prop where
  x : SpSl W x l
  y : SpSl W y m
  z : SpSl W z k
  frame : Below w.heap.size w W
theorem St3.below {w W W' : World} {x y z : Option Addr} {l m k : List SpM} (h : St3 w x y z l m k W) (q : Below W.heap.size W W') : St3 w x y z l m k W' :=
  ⟨h.x.below q, h.y.below q, h.z.below q, h.frame.trans (q.mono h.frame.size)⟩

set_option maxHeartbeats 1000000 in
theorem walk (w : World) (a : Option Addr) (c : Nat) (l : List SpM) (hs : SpSl w a l) (hf : FitsS l) (hc : l.length ≤ c) (hcm : c ≤ maxLen) (hn : a = none → c = 0) (b : Option Addr) (d : Nat) (m : List SpM) (hs' : SpSl w b m) (hf' : FitsS m) (hd : m.length ≤ d) (hdm : d ≤ maxLen) (hn' : b = none → d = 0) (o : Option Addr) (g : Nat) (k : List SpM) (hs'' : SpSl w o k) (hf'' : FitsS k) (hg : k.length ≤ g) (hgm : g ≤ maxLen) (hn'' : o = none → g = 0) :
    Calls Try.prog 10 #[.slice a l.length c, .slice b m.length d, .slice o k.length g] w fun e w' => e = .returned (.bool true) ∧ Below w.heap.size w w' := by
  have HAL := Lib.hid alive_any
  by_cases h1 : 20 < l.length
  · have hd1 : decide ((20 : Int) < (l.length : Int)) = true := decide_eq_true (by omega)
    clear hs hs' hs'' hc hcm hd hdm hg hgm
    go_enter Try.func10, Try.ntmps10
    go_wp2_with fail
    refine (HAL.out _).mono ?_
    rintro e w1 ⟨rfl, hB⟩
    go_wp2
    go_ret
    exact ⟨rfl, hB⟩
  by_cases h2 : 20 < m.length
  · have hd1 : decide ((20 : Int) < (l.length : Int)) = false := decide_eq_false (by omega)
    have hd2 : decide ((20 : Int) < (m.length : Int)) = true := decide_eq_true (by omega)
    clear hs hs' hs'' hc hcm hd hdm hg hgm
    go_enter Try.func10, Try.ntmps10
    go_wp2_with fail
    refine (HAL.out _).mono ?_
    rintro e w1 ⟨rfl, hB⟩
    go_wp2
    go_ret
    exact ⟨rfl, hB⟩
  by_cases h3 : 20 < k.length
  · have hd1 : decide ((20 : Int) < (l.length : Int)) = false := decide_eq_false (by omega)
    have hd2 : decide ((20 : Int) < (m.length : Int)) = false := decide_eq_false (by omega)
    have hd3 : decide ((20 : Int) < (k.length : Int)) = true := decide_eq_true (by omega)
    clear hs hs' hs'' hc hcm hd hdm hg hgm
    go_enter Try.func10, Try.ntmps10
    go_wp2_with fail
    refine (HAL.out _).mono ?_
    rintro e w1 ⟨rfl, hB⟩
    go_wp2
    go_ret
    exact ⟨rfl, hB⟩
  have hl1 : l.length ≤ 20 := by omega
  have hl2 : m.length ≤ 20 := by omega
  have hl3 : k.length ≤ 20 := by omega
  have hd1 : decide ((20 : Int) < (l.length : Int)) = false := decide_eq_false (by omega)
  have hd2 : decide ((20 : Int) < (m.length : Int)) = false := decide_eq_false (by omega)
  have hd3 : decide ((20 : Int) < (k.length : Int)) = false := decide_eq_false (by omega)
  have HNA := Lib.hid (c_news a c l w hs (by omega))
  have HNB := Lib.hid (fun W (h : Below w.heap.size w W) => c_news b d m W (hs'.below h) (by omega))
  have HNC := Lib.hid (fun W (h : Below w.heap.size w W) => c_news o g k W (hs''.below h) (by omega))
  have HPS := Lib.hid (fun x y p q r W (h : SpSl W x r) (k : SpSl W y r) (hl : r.length ≤ 1000) => c_same x y p q r W h k hl)
  have HMT := Lib.hid n_meet
  have HLT := Lib.hid n_less
  have HJN := Lib.hid n_join
  have FL := Lib.hid hf
  have FM := Lib.hid hf'
  have FK := Lib.hid hf''
  have ZL := Lib.hid hl1
  have ZM := Lib.hid hl2
  have ZK := Lib.hid hl3
  clear hs hs' hs'' hc hcm hd hdm hg hgm hf hf' hf'' hn hn' hn'' h1 h2 h3 hl1 hl2 hl3
  go_enter Try.func10, Try.ntmps10
  go_wp2_with fail
  refine HNA.out.mono ?_
  rintro e v1 ⟨x, p, rfl, hp1, hp2, hpn, hx, g1⟩
  go_wp2_with fail
  refine (HNB.out _ g1).mono ?_
  rintro e v2 ⟨y, q, rfl, hq1, hq2, hqn, hy, g2⟩
  have g3 := g1.trans (g2.mono g1.size)
  go_wp2_with fail
  refine (HNC.out _ g3).mono ?_
  rintro e v3 ⟨z, r, rfl, hr1, hr2, hrn, hz, g4⟩
  have g5 := g3.trans (g4.mono g3.size)
  have S0 : Hid (St3 w x y z l m k v3) := ⟨(hx.below g2).below g4, hy.below g4, hz, g5⟩
  have XA := Lib.hid hp1
  have XB := Lib.hid hp2
  have XN := Lib.hid hpn
  have YA := Lib.hid hq1
  have YB := Lib.hid hq2
  have YN := Lib.hid hqn
  have ZA := Lib.hid hr1
  have ZB := Lib.hid hr2
  have ZN := Lib.hid hrn
  clear hp1 hp2 hpn hq1 hq2 hqn hr1 hr2 hrn hx hy hz g1 g2 g3 g4 g5 HNA HNB HNC

  go_wp2_with fail
  refine (HJN.out _ _ _ _ _ l m _ rfl S0.out.x S0.out.y XN.out YN.out (by have := ZL.out; have := ZM.out; have := ZK.out; omega) (by have := ZL.out; have := ZM.out; have := ZK.out; omega) _).mono ?_
  rintro e w1 ⟨x1, q1, r1, rfl, hr1, l1, a1, b1, n1, k1, h1⟩
  have S1 := Lib.hid (S0.out.below h1)
  clear S0 h1
  have R1 := Lib.hid hr1
  have L1 := Lib.hid (show r1.length ≤ 40 by have := ZL.out; have := ZM.out; have := ZK.out; omega)
  have A1 := Lib.hid a1
  have B1 := Lib.hid b1
  have N1 := Lib.hid n1
  clear hr1 l1 a1 b1 n1
  go_wp2_with fail
  refine (HMT.out _ _ _ _ r1 k _ k1 S1.out.z A1.out ZA.out B1.out ZB.out (by have := L1.out; omega) (by have := ZL.out; have := ZM.out; have := ZK.out; omega)).mono ?_
  rintro e w2 ⟨x2, q2, r2, rfl, hr2, l2, a2, b2, n2, k2, h2⟩
  have S2 := Lib.hid (S1.out.below h2)
  clear S1 h2
  have R2 := Lib.hid hr2
  have L2 := Lib.hid (show r2.length ≤ 60 by have := ZL.out; have := ZM.out; have := ZK.out; have := L1.out; omega)
  have A2 := Lib.hid a2
  have B2 := Lib.hid b2
  have N2 := Lib.hid n2
  clear hr2 l2 a2 b2 n2
  clear k1
  go_wp2_with fail
  refine (HMT.out _ _ _ _ l k _ S2.out.x S2.out.z XA.out ZA.out XB.out ZB.out (by have := ZL.out; have := ZM.out; have := ZK.out; omega) (by have := ZL.out; have := ZM.out; have := ZK.out; omega)).mono ?_
  rintro e w3 ⟨x3, q3, r3, rfl, hr3, l3, a3, b3, n3, k3, h3⟩
  have S3 := Lib.hid (S2.out.below h3)
  replace k2 := k2.below h3
  clear S2 h3
  have R3 := Lib.hid hr3
  have L3 := Lib.hid (show r3.length ≤ 40 by have := ZL.out; have := ZM.out; have := ZK.out; omega)
  have A3 := Lib.hid a3
  have B3 := Lib.hid b3
  have N3 := Lib.hid n3
  clear hr3 l3 a3 b3 n3
  go_wp2_with fail
  refine (HMT.out _ _ _ _ m k _ S3.out.y S3.out.z YA.out ZA.out YB.out ZB.out (by have := ZL.out; have := ZM.out; have := ZK.out; omega) (by have := ZL.out; have := ZM.out; have := ZK.out; omega)).mono ?_
  rintro e w4 ⟨x4, q4, r4, rfl, hr4, l4, a4, b4, n4, k4, h4⟩
  have S4 := Lib.hid (S3.out.below h4)
  replace k2 := k2.below h4
  replace k3 := k3.below h4
  clear S3 h4
  have R4 := Lib.hid hr4
  have L4 := Lib.hid (show r4.length ≤ 40 by have := ZL.out; have := ZM.out; have := ZK.out; omega)
  have A4 := Lib.hid a4
  have B4 := Lib.hid b4
  have N4 := Lib.hid n4
  clear hr4 l4 a4 b4 n4
  go_wp2_with fail
  refine (HJN.out _ _ _ _ _ r3 r4 _ rfl k3 k4 N3.out N4.out (by have := L3.out; omega) (by have := L4.out; omega) _).mono ?_
  rintro e w5 ⟨x5, q5, r5, rfl, hr5, l5, a5, b5, n5, k5, h5⟩
  have S5 := Lib.hid (S4.out.below h5)
  replace k2 := k2.below h5
  clear S4 h5
  obtain rfl := (hr5.congr (fun t => ⟨fun h => h.elim (fun h => ⟨(R1.out.2 t).2 (.inl ((R3.out.2 t).1 h).1), ((R3.out.2 t).1 h).2⟩) (fun h => ⟨(R1.out.2 t).2 (.inr ((R4.out.2 t).1 h).1), ((R4.out.2 t).1 h).2⟩), fun h => ((R1.out.2 t).1 h.1).elim (fun h' => .inl ((R3.out.2 t).2 ⟨h', h.2⟩)) (fun h' => .inr ((R4.out.2 t).2 ⟨h', h.2⟩))⟩)).only R2.out
  clear hr5 l5 a5 b5 n5 k3 k4 R3 R4
  go_wp2_with fail
  refine (HPS.out _ _ _ _ r5 _ k2 k5 (by have := L2.out; omega)).mono ?_
  rintro e w6 ⟨rfl, h6⟩
  have S6 := Lib.hid (S5.out.below h6)
  clear S5 h6
  clear k2 k5 R1 R2
  go_wp2_with fail
  refine (HJN.out _ _ _ _ _ l m _ rfl S6.out.x S6.out.y XN.out YN.out (by have := ZL.out; have := ZM.out; have := ZK.out; omega) (by have := ZL.out; have := ZM.out; have := ZK.out; omega) _).mono ?_
  rintro e w7 ⟨x6, q6, r6, rfl, hr6, l6, a6, b6, n6, k6, h7⟩
  have S7 := Lib.hid (S6.out.below h7)
  clear S6 h7
  have R6 := Lib.hid hr6
  have L6 := Lib.hid (show r6.length ≤ 40 by have := ZL.out; have := ZM.out; have := ZK.out; omega)
  have A6 := Lib.hid a6
  have B6 := Lib.hid b6
  have N6 := Lib.hid n6
  clear hr6 l6 a6 b6 n6
  have F6 := Lib.hid (fits_set R6.out (fun t h => h.elim FL.out.has FM.out.has))
  go_wp2_with fail
  refine (HLT.out _ _ _ _ r6 k _ k6 S7.out.z A6.out ZA.out B6.out ZB.out (by have := L6.out; omega) (by have := ZL.out; have := ZM.out; have := ZK.out; omega) F6.out FK.out).mono ?_
  rintro e w8 ⟨x7, q7, r7, rfl, hr7, l7, a7, b7, n7, k7, h8⟩
  have S8 := Lib.hid (S7.out.below h8)
  clear S7 h8
  have R7 := Lib.hid hr7
  have L7 := Lib.hid (show r7.length ≤ 61 by have := ZL.out; have := ZM.out; have := ZK.out; have := L6.out; omega)
  have A7 := Lib.hid a7
  have B7 := Lib.hid b7
  have N7 := Lib.hid n7
  clear hr7 l7 a7 b7 n7
  clear k6
  go_wp2_with fail
  refine (HLT.out _ _ _ _ l k _ S8.out.x S8.out.z XA.out ZA.out XB.out ZB.out (by have := ZL.out; have := ZM.out; have := ZK.out; omega) (by have := ZL.out; have := ZM.out; have := ZK.out; omega) FL.out FK.out).mono ?_
  rintro e w9 ⟨x8, q8, r8, rfl, hr8, l8, a8, b8, n8, k8, h9⟩
  have S9 := Lib.hid (S8.out.below h9)
  replace k7 := k7.below h9
  clear S8 h9
  have R8 := Lib.hid hr8
  have L8 := Lib.hid (show r8.length ≤ 41 by have := ZL.out; have := ZM.out; have := ZK.out; omega)
  have A8 := Lib.hid a8
  have B8 := Lib.hid b8
  have N8 := Lib.hid n8
  clear hr8 l8 a8 b8 n8
  go_wp2_with fail
  refine (HLT.out _ _ _ _ m k _ S9.out.y S9.out.z YA.out ZA.out YB.out ZB.out (by have := ZL.out; have := ZM.out; have := ZK.out; omega) (by have := ZL.out; have := ZM.out; have := ZK.out; omega) FM.out FK.out).mono ?_
  rintro e w10 ⟨x9, q9, r9, rfl, hr9, l9, a9, b9, n9, k9, h10⟩
  have S10 := Lib.hid (S9.out.below h10)
  replace k7 := k7.below h10
  replace k8 := k8.below h10
  clear S9 h10
  have R9 := Lib.hid hr9
  have L9 := Lib.hid (show r9.length ≤ 41 by have := ZL.out; have := ZM.out; have := ZK.out; omega)
  have A9 := Lib.hid a9
  have B9 := Lib.hid b9
  have N9 := Lib.hid n9
  clear hr9 l9 a9 b9 n9
  go_wp2_with fail
  refine (HJN.out _ _ _ _ _ r8 r9 _ rfl k8 k9 N8.out N9.out (by have := L8.out; omega) (by have := L9.out; omega) _).mono ?_
  rintro e w11 ⟨x10, q10, r10, rfl, hr10, l10, a10, b10, n10, k10, h11⟩
  have S11 := Lib.hid (S10.out.below h11)
  replace k7 := k7.below h11
  clear S10 h11
  obtain rfl := (hr10.congr (fun t => ⟨fun h => h.elim (fun h => ⟨(R6.out.2 t).2 (.inl ((R8.out.2 t).1 h).1), ((R8.out.2 t).1 h).2⟩) (fun h => ⟨(R6.out.2 t).2 (.inr ((R9.out.2 t).1 h).1), ((R9.out.2 t).1 h).2⟩), fun h => ((R6.out.2 t).1 h.1).elim (fun h' => .inl ((R8.out.2 t).2 ⟨h', h.2⟩)) (fun h' => .inr ((R9.out.2 t).2 ⟨h', h.2⟩))⟩)).only R7.out
  clear hr10 l10 a10 b10 n10 k8 k9 R8 R9
  go_wp2_with fail
  refine (HPS.out _ _ _ _ r10 _ k7 k10 (by have := L7.out; omega)).mono ?_
  rintro e w12 ⟨rfl, h12⟩
  have S12 := Lib.hid (S11.out.below h12)
  clear S11 h12
  clear k7 k10 R6 R7
  go_wp2_with fail
  refine (HAL.out _).mono ?_
  rintro e w13 ⟨rfl, h13⟩
  have S13 := Lib.hid (S12.out.below h13)
  clear S12 h13
  go_wp2_with fail
  refine (HJN.out _ _ _ _ _ m k _ rfl S13.out.y S13.out.z YN.out ZN.out (by have := ZL.out; have := ZM.out; have := ZK.out; omega) (by have := ZL.out; have := ZM.out; have := ZK.out; omega) _).mono ?_
  rintro e w14 ⟨x11, q11, r11, rfl, hr11, l11, a11, b11, n11, k11, h14⟩
  have S14 := Lib.hid (S13.out.below h14)
  clear S13 h14
  have R11 := Lib.hid hr11
  have L11 := Lib.hid (show r11.length ≤ 40 by have := ZL.out; have := ZM.out; have := ZK.out; omega)
  have A11 := Lib.hid a11
  have B11 := Lib.hid b11
  have N11 := Lib.hid n11
  clear hr11 l11 a11 b11 n11
  have F11 := Lib.hid (fits_set R11.out (fun t h => h.elim FM.out.has FK.out.has))
  go_wp2_with fail
  refine (HLT.out _ _ _ _ l r11 _ S14.out.x k11 XA.out A11.out XB.out B11.out (by have := ZL.out; have := ZM.out; have := ZK.out; omega) (by have := L11.out; omega) FL.out F11.out).mono ?_
  rintro e w15 ⟨x12, q12, r12, rfl, hr12, l12, a12, b12, n12, k12, h15⟩
  have S15 := Lib.hid (S14.out.below h15)
  clear S14 h15
  have R12 := Lib.hid hr12
  have L12 := Lib.hid (show r12.length ≤ 61 by have := ZL.out; have := ZM.out; have := ZK.out; have := L11.out; omega)
  have A12 := Lib.hid a12
  have B12 := Lib.hid b12
  have N12 := Lib.hid n12
  clear hr12 l12 a12 b12 n12
  clear k11
  go_wp2_with fail
  refine (HLT.out _ _ _ _ l m _ S15.out.x S15.out.y XA.out YA.out XB.out YB.out (by have := ZL.out; have := ZM.out; have := ZK.out; omega) (by have := ZL.out; have := ZM.out; have := ZK.out; omega) FL.out FM.out).mono ?_
  rintro e w16 ⟨x13, q13, r13, rfl, hr13, l13, a13, b13, n13, k13, h16⟩
  have S16 := Lib.hid (S15.out.below h16)
  replace k12 := k12.below h16
  clear S15 h16
  have R13 := Lib.hid hr13
  have L13 := Lib.hid (show r13.length ≤ 41 by have := ZL.out; have := ZM.out; have := ZK.out; omega)
  have A13 := Lib.hid a13
  have B13 := Lib.hid b13
  have N13 := Lib.hid n13
  clear hr13 l13 a13 b13 n13
  have F13 := Lib.hid (fits_set R13.out (fun t h => FL.out.has h.1))
  go_wp2_with fail
  refine (HLT.out _ _ _ _ r13 k _ k13 S16.out.z A13.out ZA.out B13.out ZB.out (by have := L13.out; omega) (by have := ZL.out; have := ZM.out; have := ZK.out; omega) F13.out FK.out).mono ?_
  rintro e w17 ⟨x14, q14, r14, rfl, hr14, l14, a14, b14, n14, k14, h17⟩
  have S17 := Lib.hid (S16.out.below h17)
  replace k12 := k12.below h17
  clear S16 h17
  obtain rfl := (hr14.congr (fun t => ⟨fun h => ⟨((R13.out.2 t).1 h.1).1, fun h' => ((R11.out.2 t).1 h').elim ((R13.out.2 t).1 h.1).2 h.2⟩, fun h => ⟨(R13.out.2 t).2 ⟨h.1, fun h' => h.2 ((R11.out.2 t).2 (.inl h'))⟩, fun h' => h.2 ((R11.out.2 t).2 (.inr h'))⟩⟩)).only R12.out
  clear hr14 l14 a14 b14 n14 k13
  go_wp2_with fail
  refine (HPS.out _ _ _ _ r14 _ k12 k14 (by have := L12.out; omega)).mono ?_
  rintro e w18 ⟨rfl, h18⟩
  have S18 := Lib.hid (S17.out.below h18)
  clear S17 h18
  go_wp2
  go_ret
  exact ⟨rfl, S18.out.frame⟩

set_option maxRecDepth 100000 in
theorem lifted (os : Os) (started : os.Started) (H : Type) (enc : TypeId × Value → H) :
    ReturnsInHanded {} Try.checked os 10 .any (Rows.spanSpreadsSpec.pre6 enc Try.prog Try.f10 Rows.spanSpreadsRow.domain false) (Rows.spanSpreadsSpec.post enc Try.prog Try.f10 false true false false) := by
  refine returnsInHanded_of_change (C := Try.checked) own started (by kernel_rfl) Try.func10
    (ChangeSpec.witness6 (enc := enc) (C := Try.checked) false ⟨#[], #[.slice none 0 0, .slice none 0 0, .slice none 0 0], []⟩ 8 (by kernel_rfl) (by kernel_rfl) (by kernel_rfl) (by kernel_rfl)) ?_
  intro W base args ds gs before hval0 hW hcnd _
  have hval : ∀ (j : Nat) t v, Try.f10.params[j]? = some t → args[j]? = some v → Value.okWide Try.prog W .any base t v := hval0
  have hW' := hW
  have hlt := hW.lt
  obtain ⟨p, q, hA0, hV, rfl, hfz, hnd⟩ := hW
  have hA : DataW.TrodAll enc Try.prog W 0 (fun _ => true) true Try.f10.params.toList args.toList ds p := hA0
  rw [Try.params10] at hA hval
  obtain ⟨v0, vs0, d0, ds0, p0, q0, hargs, rfl, rfl, h0, r0⟩ := trodAll_cons hA
  obtain ⟨v1, vs1, d1, ds1, p1, q1, rfl, rfl, rfl, h1, r1⟩ := trodAll_cons r0
  obtain ⟨v2, vs2, d2, ds2, p2, q2, rfl, rfl, rfl, h2, r2⟩ := trodAll_cons r1
  obtain ⟨rfl, rfl, rfl⟩ := trodAll_nil r2
  obtain rfl : args = #[v0, v1, v2] := by cases args; simp_all
  obtain ⟨a0, c0, l0, rfl, s0, f0, m0, n0, o0⟩ := open_spans (hval 0 29 v0 rfl rfl) h0
  obtain ⟨a1, c1, l1, rfl, s1, f1, m1, n1, o1⟩ := open_spans (hval 1 29 v1 rfl rfl) h1
  obtain ⟨a2, c2, l2, rfl, s2, f2, m2, n2, o2⟩ := open_spans (hval 2 29 v2 rfl rfl) h2
  refine (walk W a0 c0 l0 s0 f0 m0 n0 o0 a1 c1 l1 s1 f1 m1 n1 o1 a2 c2 l2 s2 f2 m2 n2 o2).mono fun e W' ⟨he, hb⟩ => ?_
  subst he
  exact ⟨_, rfl, law_post rfl hW' (fun ds h => by match ds, h with | [_, _, _], _ => rfl) (by kernel_rfl) (by kernel_rfl) (by kernel_rfl) hb⟩

theorem over : Rows.spanSpreadsRow.holds Try.pinned (OpenSpec.ofChange Rows.spanSpreadsSpec) :=
  OpenClaim.holds_of_wide 10 Try.f10 rfl rfl rfl rfl rfl rfl rfl ⟨rfl, rfl, rfl, rfl, rfl⟩ rfl rfl rfl rfl rfl (by kernel_rfl) Try.func10 (by kernel_rfl)
    (of_decide_eq_true (by kernel_rfl)) (by unfold Func.isWrapper; first | (rw [if_pos (by decide +kernel)]; kernel_rfl) | (rw [if_neg (by decide +kernel)]; exact ⟨rfl, rfl⟩))
    (fun os started H enc _ => lifted os started H enc)

theorem proved : Rows.SpanSpreadsSaid := over
end Go.Proofs.Ytpbemglnifafaaa.spanSpreads
