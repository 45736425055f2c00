/- SpanMeets: what two rows of times have in common, and what the first one alone has; for all rows. No condition. -/
import Derived.Test.YtpbemglnifafaaaW18
namespace Go.Proofs.Ytpbemglnifafaaa.spanMeets
open Go.ChangeShapes Go.WideShapes Go.ChangeAt Go.RowKit
open Go.ChangeMaps (open_string shut_string)
set_option linter.unusedVariables false
set_option maxRecDepth 100000

set_option maxHeartbeats 1000000 in
theorem walk (w : World) (a : Option Addr) (c : Nat) (l : List SpM) (hs : SpSl w a l) (hf : FitsS l) (hc : l.length ≤ c) (hcm : c ≤ maxLen) (hn : a = none → c = 0) (b : Option Addr) (d : Nat) (m : List SpM) (hs' : SpSl w b m) (hf' : FitsS m) (hd : m.length ≤ d) (hdm : d ≤ maxLen) (hn' : b = none → d = 0) :
    Calls Try.prog 6 #[.slice a l.length c, .slice b m.length d] w fun e w' => e = .returned (.bool true) ∧ Below w.heap.size w w' := by
  have HAL := Lib.hid alive_any
  by_cases h1 : 30 < l.length
  · have hd1 : decide ((30 : Int) < (l.length : Int)) = true := decide_eq_true (by omega)
    clear hs hs' hc hcm hd hdm
    go_enter Try.func6, Try.ntmps6
    go_wp2_with fail
    refine (HAL.out _).mono ?_
    rintro e w1 ⟨rfl, hB⟩
    go_wp2
    go_ret
    exact ⟨rfl, hB⟩
  by_cases h2 : 30 < m.length
  · have hd1 : decide ((30 : Int) < (l.length : Int)) = false := decide_eq_false (by omega)
    have hd2 : decide ((30 : Int) < (m.length : Int)) = true := decide_eq_true (by omega)
    clear hs hs' hc hcm hd hdm
    go_enter Try.func6, Try.ntmps6
    go_wp2_with fail
    refine (HAL.out _).mono ?_
    rintro e w1 ⟨rfl, hB⟩
    go_wp2
    go_ret
    exact ⟨rfl, hB⟩
  have hl1 : l.length ≤ 30 := by omega
  have hl2 : m.length ≤ 30 := by omega
  have hd1 : decide ((30 : Int) < (l.length : Int)) = false := decide_eq_false (by omega)
  have hd2 : decide ((30 : Int) < (m.length : Int)) = false := decide_eq_false (by omega)
  have HNA := Lib.hid (c_news a c l w hs (by omega))
  have HNB := Lib.hid (fun W (h : Below w.heap.size w W) => c_news b d m W (hs'.below h) (by omega))
  have HSA := Lib.hid hs
  have HSB := Lib.hid hs'
  have HOl := Lib.hid (fun x q r W (h : SpSl W x r) (hl : r.length ≤ 1000) => c_olds x q r W h hl)
  have HRS := Lib.hid (fun x y p q r W (h : SpSl W x r) (k : SpSl W y r) (hl : r.length ≤ 1000) => c_rsame x y p q r W h k hl)
  have HPS := Lib.hid (fun x y p q r W (h : SpSl W x r) (k : SpSl W y r) (hl : r.length ≤ 1000) => c_same x y p q r W h k hl)
  have HL1 := Lib.hid (show l.length ≤ 1000 by omega)
  have HL2 := Lib.hid (show m.length ≤ 1000 by omega)
  have HMT := Lib.hid (fun x p y q W (h : SpSl W x l) (k : SpSl W y m) h1 h2 h3 h4 => c_meet x p y q l m W h k h1 h2 h3 h4 (by omega) (by omega))
  have HMU := Lib.hid (fun x p y q W (h : SpSl W x l) (k : SpSl W y m) h1 h2 h3 h4 => c_meet y q x p m l W k h h2 h1 h4 h3 (by omega) (by omega))
  have HLT := Lib.hid (fun x p y q W (h : SpSl W x l) (k : SpSl W y m) h1 h2 h3 h4 => c_less x p y q l m W h k h1 h2 h3 h4 (by omega) (by omega) hf hf')
  have HRM := Lib.hid (fun W (h : SpSl W a l) (k : SpSl W b m) r hr => c_rmeet a c b d l m W h k hn hn' (by omega) (by omega) r hr)
  have HRL := Lib.hid (fun W (h : SpSl W a l) (k : SpSl W b m) r hr => c_rless a c b d l m W h k hn hn' (by omega) (by omega) r hr)
  clear hs hs' hc hcm hd hdm hf hf' hn hn' h1 h2 hl1 hl2
  go_enter Try.func6, Try.ntmps6
  go_wp2_with fail
  refine HNA.out.mono ?_
  rintro e v1 ⟨x, p, rfl, hp1, hp2, hpn, hx, g1⟩
  go_wp2_with fail
  refine (HNB.out _ g1).mono ?_
  rintro e v2 ⟨y, q, rfl, hq1, hq2, hqn, hy, g2⟩
  have g3 := g1.trans (g2.mono g1.size)
  have S0 : Hid (St2 w a b x y l m v2) := ⟨HSA.out.below g3, HSB.out.below g3, hx.below g2, hy, g3⟩
  have HM := Lib.hid (fun W (S : St2 w a b x y l m W) => HMT.out x p y q W S.x S.y hp1 hq1 hp2 hq2)
  have HU := Lib.hid (fun W (S : St2 w a b x y l m W) => HMU.out x p y q W S.x S.y hp1 hq1 hp2 hq2)
  have HL := Lib.hid (fun W (S : St2 w a b x y l m W) => HLT.out x p y q W S.x S.y hp1 hq1 hp2 hq2)
  clear hp1 hp2 hpn hq1 hq2 hqn hx hy g1 g2 g3 HSA HSB HMT HMU HLT HNA HNB

  go_wp2_with fail
  refine (HAL.out _).mono ?_
  rintro e w1 ⟨rfl, h1⟩
  have S1 := Lib.hid (S0.out.below h1)
  clear S0 h1
  go_wp2_with fail
  refine (HM.out _ S1.out).mono ?_
  rintro e w2 ⟨x1, q1, r1, rfl, hr1, hq1, -, -, -, k1, h2⟩
  have S2 := Lib.hid (S1.out.below h2)
  clear S1 h2
  have R1 := Lib.hid hr1
  have Q1 := Lib.hid hq1
  clear hr1 hq1
  go_wp2_with fail
  refine (HOl.out x1 q1 r1 _ k1 Q1.out).mono ?_
  rintro e w3 ⟨x2, q2, rfl, k2, h3⟩
  have S3 := Lib.hid (S2.out.below h3)
  clear S2 h3
  clear k1
  go_wp2_with fail
  refine (HRM.out _ S3.out.a S3.out.b r1 R1.out).mono ?_
  rintro e w4 ⟨x3, q3, rfl, k3, h4⟩
  have S4 := Lib.hid (S3.out.below h4)
  replace k2 := k2.below h4
  clear S3 h4
  go_wp2_with fail
  refine (HRS.out x2 x3 q2 q3 r1 _ k2 k3 Q1.out).mono ?_
  rintro e w5 ⟨rfl, h5⟩
  have S5 := Lib.hid (S4.out.below h5)
  clear S4 h5
  clear k2 k3
  go_wp2_with fail
  refine (HL.out _ S5.out).mono ?_
  rintro e w6 ⟨x4, q4, r4, rfl, hr4, hq4, -, -, -, k4, h6⟩
  have S6 := Lib.hid (S5.out.below h6)
  clear S5 h6
  have R4 := Lib.hid hr4
  have Q4 := Lib.hid hq4
  clear hr4 hq4
  go_wp2_with fail
  refine (HOl.out x4 q4 r4 _ k4 Q4.out).mono ?_
  rintro e w7 ⟨x5, q5, rfl, k5, h7⟩
  have S7 := Lib.hid (S6.out.below h7)
  clear S6 h7
  clear k4
  go_wp2_with fail
  refine (HRL.out _ S7.out.a S7.out.b r4 R4.out).mono ?_
  rintro e w8 ⟨x6, q6, rfl, k6, h8⟩
  have S8 := Lib.hid (S7.out.below h8)
  replace k5 := k5.below h8
  clear S7 h8
  go_wp2_with fail
  refine (HRS.out x5 x6 q5 q6 r4 _ k5 k6 Q4.out).mono ?_
  rintro e w9 ⟨rfl, h9⟩
  have S9 := Lib.hid (S8.out.below h9)
  clear S8 h9
  clear k5 k6
  go_wp2_with fail
  refine (HU.out _ S9.out).mono ?_
  rintro e w10 ⟨x7, q7, r7, rfl, hr7, -, -, -, -, k7, h10⟩
  have S10 := Lib.hid (S9.out.below h10)
  clear S9 h10
  obtain rfl := (hr7.congr (fun t => and_comm)).only R1.out
  clear hr7
  go_wp2_with fail
  refine (HM.out _ S10.out).mono ?_
  rintro e w11 ⟨x8, q8, r8, rfl, hr8, hq8, -, -, -, k8, h11⟩
  have S11 := Lib.hid (S10.out.below h11)
  replace k7 := k7.below h11
  clear S10 h11
  obtain rfl := hr8.only R1.out
  have Q8 := Lib.hid hq8
  clear hr8 hq8
  go_wp2_with fail
  refine (HPS.out x7 x8 q7 q8 r8 _ k7 k8 Q8.out).mono ?_
  rintro e w12 ⟨rfl, h12⟩
  have S12 := Lib.hid (S11.out.below h12)
  clear S11 h12
  clear k7 k8
  go_wp2_with fail
  refine (HOl.out x p l _ S12.out.x HL1.out).mono ?_
  rintro e w13 ⟨x9, q9, rfl, k9, h13⟩
  have S13 := Lib.hid (S12.out.below h13)
  clear S12 h13
  go_wp2_with fail
  refine (HRS.out x9 a q9 c l _ k9 S13.out.a HL1.out).mono ?_
  rintro e w14 ⟨rfl, h14⟩
  have S14 := Lib.hid (S13.out.below h14)
  clear S13 h14
  clear k9
  go_wp2_with fail
  refine (HOl.out y q m _ S14.out.y HL2.out).mono ?_
  rintro e w15 ⟨x10, q10, rfl, k10, h15⟩
  have S15 := Lib.hid (S14.out.below h15)
  clear S14 h15
  go_wp2_with fail
  refine (HRS.out x10 b q10 d m _ k10 S15.out.b HL2.out).mono ?_
  rintro e w16 ⟨rfl, h16⟩
  have S16 := Lib.hid (S15.out.below h16)
  clear S15 h16
  clear k10
  go_wp2
  go_ret
  exact ⟨rfl, S16.out.frame⟩

set_option maxRecDepth 100000 in
theorem lifted (os : Os) (started : os.Started) (H : Type) (enc : TypeId × Value → H) :
    ReturnsInHanded {} Try.checked os 6 .any (Rows.spanMeetsSpec.pre6 enc Try.prog Try.f6 Rows.spanMeetsRow.domain false) (Rows.spanMeetsSpec.post enc Try.prog Try.f6 false true false false) := by
  refine returnsInHanded_of_change (C := Try.checked) own started (by kernel_rfl) Try.func6
    (ChangeSpec.witness6 (enc := enc) (C := Try.checked) false ⟨#[], #[.slice none 0 0, .slice none 0 0], []⟩ 8 (by kernel_rfl) (by kernel_rfl) (by kernel_rfl) (by kernel_rfl)) ?_
  intro W base args ds gs before hval0 hW hcnd _
  have hval : ∀ (j : Nat) t v, Try.f6.params[j]? = some t → args[j]? = some v → Value.okWide Try.prog W .any base t v := hval0
  have hW' := hW
  have hlt := hW.lt
  obtain ⟨p, q, hA0, hV, rfl, hfz, hnd⟩ := hW
  have hA : DataW.TrodAll enc Try.prog W 0 (fun _ => true) true Try.f6.params.toList args.toList ds p := hA0
  rw [Try.params6] at hA hval
  obtain ⟨v0, vs0, d0, ds0, p0, q0, hargs, rfl, rfl, h0, r0⟩ := trodAll_cons hA
  obtain ⟨v1, vs1, d1, ds1, p1, q1, rfl, rfl, rfl, h1, r1⟩ := trodAll_cons r0
  obtain ⟨rfl, rfl, rfl⟩ := trodAll_nil r1
  obtain rfl : args = #[v0, v1] := by cases args; simp_all
  obtain ⟨a0, c0, l0, rfl, s0, f0, m0, n0, o0⟩ := open_spans (hval 0 29 v0 rfl rfl) h0
  obtain ⟨a1, c1, l1, rfl, s1, f1, m1, n1, o1⟩ := open_spans (hval 1 29 v1 rfl rfl) h1
  refine (walk W a0 c0 l0 s0 f0 m0 n0 o0 a1 c1 l1 s1 f1 m1 n1 o1).mono fun e W' ⟨he, hb⟩ => ?_
  subst he
  exact ⟨_, rfl, law_post rfl hW' (fun ds h => by match ds, h with | [_, _], _ => rfl) (by kernel_rfl) (by kernel_rfl) (by kernel_rfl) hb⟩

theorem over : Rows.spanMeetsRow.holds Try.pinned (OpenSpec.ofChange Rows.spanMeetsSpec) :=
  OpenClaim.holds_of_wide 6 Try.f6 rfl rfl rfl rfl rfl rfl rfl ⟨rfl, rfl, rfl, rfl, rfl⟩ rfl rfl rfl rfl rfl (by kernel_rfl) Try.func6 (by kernel_rfl)
    (of_decide_eq_true (by kernel_rfl)) (by unfold Func.isWrapper; first | (rw [if_pos (by decide +kernel)]; kernel_rfl) | (rw [if_neg (by decide +kernel)]; exact ⟨rfl, rfl⟩))
    (fun os started H enc _ => lifted os started H enc)

theorem proved : Rows.SpanMeetsSaid := over
end Go.Proofs.Ytpbemglnifafaaa.spanMeets
