/- SpanParts: what both have, and what the first one alone has, is, joined, the first one; what is left has nothing of the second one; for all rows. No condition. -/
import Derived.Test.YtpbemglnifafaaaW19
namespace Go.Proofs.Ytpbemglnifafaaa.spanParts
open Go.ChangeShapes Go.WideShapes Go.ChangeAt Go.RowKit
open Go.ChangeMaps (open_string shut_string)
set_option linter.unusedVariables false
set_option maxRecDepth 100000

set_option maxHeartbeats 1000000 in
theorem walk (w : World) (a : Option Addr) (c : Nat) (l : List SpM) (hs : SpSl w a l) (hf : FitsS l) (hc : l.length ≤ c) (hcm : c ≤ maxLen) (hn : a = none → c = 0) (b : Option Addr) (d : Nat) (m : List SpM) (hs' : SpSl w b m) (hf' : FitsS m) (hd : m.length ≤ d) (hdm : d ≤ maxLen) (hn' : b = none → d = 0) :
    Calls Try.prog 8 #[.slice a l.length c, .slice b m.length d] w fun e w' => e = .returned (.bool true) ∧ Below w.heap.size w w' := by
  have HAL := Lib.hid alive_any
  by_cases h1 : 30 < l.length
  · have hd1 : decide ((30 : Int) < (l.length : Int)) = true := decide_eq_true (by omega)
    clear hs hs' hc hcm hd hdm
    go_enter Try.func8, Try.ntmps8
    go_wp2_with fail
    refine (HAL.out _).mono ?_
    rintro e w1 ⟨rfl, hB⟩
    go_wp2
    go_ret
    exact ⟨rfl, hB⟩
  by_cases h2 : 30 < m.length
  · have hd1 : decide ((30 : Int) < (l.length : Int)) = false := decide_eq_false (by omega)
    have hd2 : decide ((30 : Int) < (m.length : Int)) = true := decide_eq_true (by omega)
    clear hs hs' hc hcm hd hdm
    go_enter Try.func8, Try.ntmps8
    go_wp2_with fail
    refine (HAL.out _).mono ?_
    rintro e w1 ⟨rfl, hB⟩
    go_wp2
    go_ret
    exact ⟨rfl, hB⟩
  have hl1 : l.length ≤ 30 := by omega
  have hl2 : m.length ≤ 30 := by omega
  have hd1 : decide ((30 : Int) < (l.length : Int)) = false := decide_eq_false (by omega)
  have hd2 : decide ((30 : Int) < (m.length : Int)) = false := decide_eq_false (by omega)
  have HNA := Lib.hid (c_news a c l w hs (by omega))
  have HNB := Lib.hid (fun W (h : Below w.heap.size w W) => c_news b d m W (hs'.below h) (by omega))
  have HSA := Lib.hid hs
  have HSB := Lib.hid hs'
  have HPS := Lib.hid (fun x y p q r W (h : SpSl W x r) (k : SpSl W y r) (hl : r.length ≤ 1000) => c_same x y p q r W h k hl)
  have HMT := Lib.hid (fun x p y q W (h : SpSl W x l) (k : SpSl W y m) h1 h2 h3 h4 => n_meet x p y q l m W h k h1 h2 h3 h4 (by omega) (by omega))
  have HLT := Lib.hid (fun x p y q W (h : SpSl W x l) (k : SpSl W y m) h1 h2 h3 h4 => n_less x p y q l m W h k h1 h2 h3 h4 (by omega) (by omega) hf hf')
  have HNM := Lib.hid n_norm
  have HJN := Lib.hid n_join
  have HM2 := Lib.hid (fun x p y q r W (h : SpSl W x r) (k : SpSl W y m) h1 h2 h3 h4 (h5 : r.length ≤ 400) => n_meet x p y q r m W h k h1 h2 h3 h4 h5 (by omega))
  have HL2 := Lib.hid (fun x p y q r W (h : SpSl W x r) (k : SpSl W y m) h1 h2 h3 h4 (h5 : r.length ≤ 400) (h6 : FitsS r) => n_less x p y q r m W h k h1 h2 h3 h4 h5 (by omega) h6 hf')
  have HFI := Lib.hid hf
  have HZ1 := Lib.hid hl1
  have HZ2 := Lib.hid hl2
  clear hs hs' hc hcm hd hdm hf hf' hn hn' h1 h2 hl1 hl2
  go_enter Try.func8, Try.ntmps8
  go_wp2_with fail
  refine HNA.out.mono ?_
  rintro e v1 ⟨x, p, rfl, hp1, hp2, hpn, hx, g1⟩
  go_wp2_with fail
  refine (HNB.out _ g1).mono ?_
  rintro e v2 ⟨y, q, rfl, hq1, hq2, hqn, hy, g2⟩
  have g3 := g1.trans (g2.mono g1.size)
  have S0 : Hid (St2 w a b x y l m v2) := ⟨HSA.out.below g3, HSB.out.below g3, hx.below g2, hy, g3⟩
  have HM := Lib.hid (fun W (S : St2 w a b x y l m W) => HMT.out x p y q W S.x S.y hp1 hq1 hp2 hq2)
  have HL := Lib.hid (fun W (S : St2 w a b x y l m W) => HLT.out x p y q W S.x S.y hp1 hq1 hp2 hq2)
  have HN := Lib.hid (fun W (S : St2 w a b x y l m W) => HNM.out x p l W S.x hp1 hp2 (by have := HZ1.out; omega))
  have HMB := Lib.hid (fun z c r W (S : St2 w a b x y l m W) (h : SpSl W z r) h1 h2 h5 => HM2.out z c y q r W h S.y h1 hq1 h2 hq2 h5)
  have HLB := Lib.hid (fun z c r W (S : St2 w a b x y l m W) (h : SpSl W z r) h1 h2 h5 h6 => HL2.out z c y q r W h S.y h1 hq1 h2 hq2 h5 h6)
  clear hp1 hp2 hpn hq1 hq2 hqn hx hy g1 g2 g3 HSA HSB HMT HLT HNA HNB HM2 HL2

  go_wp2_with fail
  refine (HM.out _ S0.out).mono ?_
  rintro e w1 ⟨xm, qm, rm, rfl, hrm, lm, lmq, mq, nm, km, h1⟩
  have S1 := Lib.hid (S0.out.below h1)
  clear S0 h1
  have RM := Lib.hid hrm
  have LM := Lib.hid (show rm.length ≤ 400 by have := HZ1.out; have := HZ2.out; omega)
  clear hrm lm lmq mq
  go_wp2_with fail
  refine (HL.out _ S1.out).mono ?_
  rintro e w2 ⟨xl, ql, rl, rfl, hrl, ll, llq, lq, nl, kl, h2⟩
  have S2 := Lib.hid (S1.out.below h2)
  replace km := km.below h2
  clear S1 h2
  have RL := Lib.hid hrl
  have LL := Lib.hid (show rl.length ≤ 400 by have := HZ1.out; have := HZ2.out; omega)
  have LQ := Lib.hid llq
  have LQM := Lib.hid lq
  have NM := Lib.hid nm
  have NL := Lib.hid nl
  clear hrl ll llq lq nm nl
  go_wp2_with fail
  refine (HAL.out _).mono ?_
  rintro e w3 ⟨rfl, h3⟩
  have S3 := Lib.hid (S2.out.below h3)
  replace km := km.below h3
  replace kl := kl.below h3
  clear S2 h3
  go_wp2_with fail
  refine (HJN.out _ _ _ _ _ rm rl _ rfl km kl NM.out NL.out (by have := LM.out; omega) (by have := LL.out; omega) _).mono ?_
  rintro e w4 ⟨xj, qj, rj, rfl, hrj, -, -, -, -, kj, h4⟩
  have S4 := Lib.hid (S3.out.below h4)
  replace km := km.below h4
  replace kl := kl.below h4
  clear S3 h4
  have hu : IsSet (HasL l) rj := hrj.congr (fun t => ⟨fun h => h.elim (fun h => ((RM.out.2 t).1 h).1) (fun h => ((RL.out.2 t).1 h).1), fun h => by
    by_cases hb : HasL m t
    · exact .inl ((RM.out.2 t).2 ⟨h, hb⟩)
    · exact .inr ((RL.out.2 t).2 ⟨h, hb⟩)⟩)
  have RJ := Lib.hid hu
  clear hrj hu km
  go_wp2_with fail
  refine (HN.out _ S4.out).mono ?_
  rintro e w5 ⟨xn, qn, rn, rfl, hrn, ln, -, -, -, kn, h5⟩
  have S5 := Lib.hid (S4.out.below h5)
  replace kj := kj.below h5
  replace kl := kl.below h5
  clear S4 h5
  obtain rfl := hrn.only RJ.out
  have LN := Lib.hid (show rn.length ≤ 1000 by have := HZ1.out; omega)
  clear hrn ln
  go_wp2_with fail
  refine (HPS.out _ _ _ _ rn _ kj kn LN.out).mono ?_
  rintro e w6 ⟨rfl, h6⟩
  have S6 := Lib.hid (S5.out.below h6)
  replace kl := kl.below h6
  clear S5 h6
  clear kj kn
  go_wp2_with fail
  refine (HMB.out _ _ rl _ S6.out kl LQ.out LQM.out LL.out).mono ?_
  rintro e w7 ⟨x1, q1, r1, rfl, hr1, -, -, -, -, k1, h7⟩
  have S7 := Lib.hid (S6.out.below h7)
  replace kl := kl.below h7
  clear S6 h7
  obtain rfl := (hr1.congr (Q := fun _ => False) (fun t => ⟨fun h => ((RL.out.2 t).1 h.1).2 h.2, fun h => h.elim⟩)).only (set_nil (fun x h => h))
  clear hr1 k1
  go_wp2_with fail
  refine (HLB.out _ _ rl _ S7.out kl LQ.out LQM.out LL.out (fits_set RL.out (fun t h => HFI.out.has h.1))).mono ?_
  rintro e w8 ⟨x2, q2, r2, rfl, hr2, -, -, -, -, k2, h8⟩
  have S8 := Lib.hid (S7.out.below h8)
  replace kl := kl.below h8
  clear S7 h8
  obtain rfl := (hr2.congr (fun t => ⟨fun h => (RL.out.2 t).1 h.1, fun h => ⟨(RL.out.2 t).2 h, h.2⟩⟩)).only RL.out
  clear hr2
  go_wp2_with fail
  refine (HPS.out _ _ _ _ r2 _ k2 kl (by have := LL.out; omega)).mono ?_
  rintro e w9 ⟨rfl, h9⟩
  have S9 := Lib.hid (S8.out.below h9)
  clear S8 h9
  clear k2 kl
  go_wp2_with fail
  refine (HN.out _ S9.out).mono ?_
  rintro e w10 ⟨x3, q3, r3, rfl, hr3, l3, lq3, qm3, -, k3, h10⟩
  have S10 := Lib.hid (S9.out.below h10)
  clear S9 h10
  have R3 := Lib.hid hr3
  have L3 := Lib.hid (show r3.length ≤ 1000 by have := HZ1.out; omega)
  have LQ3 := Lib.hid lq3
  have QM3 := Lib.hid qm3
  clear hr3 l3 lq3 qm3
  go_wp2_with fail
  refine (HNM.out _ _ r3 _ k3 LQ3.out QM3.out L3.out).mono ?_
  rintro e w11 ⟨x4, q4, r4, rfl, hr4, -, -, -, -, k4, h11⟩
  have S11 := Lib.hid (S10.out.below h11)
  clear S10 h11
  obtain rfl := hr4.only (set_self R3.out)
  clear hr4 k3
  go_wp2_with fail
  refine (HN.out _ S11.out).mono ?_
  rintro e w12 ⟨x5, q5, r5, rfl, hr5, -, -, -, -, k5, h12⟩
  have S12 := Lib.hid (S11.out.below h12)
  replace k4 := k4.below h12
  clear S11 h12
  obtain rfl := hr5.only R3.out
  clear hr5
  go_wp2_with fail
  refine (HPS.out _ _ _ _ r5 _ k4 k5 L3.out).mono ?_
  rintro e w13 ⟨rfl, h13⟩
  have S13 := Lib.hid (S12.out.below h13)
  clear S12 h13
  go_wp2
  go_ret
  exact ⟨rfl, S13.out.frame⟩

set_option maxRecDepth 100000 in
theorem lifted (os : Os) (started : os.Started) (H : Type) (enc : TypeId × Value → H) :
    ReturnsInHanded {} Try.checked os 8 .any (Rows.spanPartsSpec.pre6 enc Try.prog Try.f8 Rows.spanPartsRow.domain false) (Rows.spanPartsSpec.post enc Try.prog Try.f8 false true false false) := by
  refine returnsInHanded_of_change (C := Try.checked) own started (by kernel_rfl) Try.func8
    (ChangeSpec.witness6 (enc := enc) (C := Try.checked) false ⟨#[], #[.slice none 0 0, .slice none 0 0], []⟩ 8 (by kernel_rfl) (by kernel_rfl) (by kernel_rfl) (by kernel_rfl)) ?_
  intro W base args ds gs before hval0 hW hcnd _
  have hval : ∀ (j : Nat) t v, Try.f8.params[j]? = some t → args[j]? = some v → Value.okWide Try.prog W .any base t v := hval0
  have hW' := hW
  have hlt := hW.lt
  obtain ⟨p, q, hA0, hV, rfl, hfz, hnd⟩ := hW
  have hA : DataW.TrodAll enc Try.prog W 0 (fun _ => true) true Try.f8.params.toList args.toList ds p := hA0
  rw [Try.params8] at hA hval
  obtain ⟨v0, vs0, d0, ds0, p0, q0, hargs, rfl, rfl, h0, r0⟩ := trodAll_cons hA
  obtain ⟨v1, vs1, d1, ds1, p1, q1, rfl, rfl, rfl, h1, r1⟩ := trodAll_cons r0
  obtain ⟨rfl, rfl, rfl⟩ := trodAll_nil r1
  obtain rfl : args = #[v0, v1] := by cases args; simp_all
  obtain ⟨a0, c0, l0, rfl, s0, f0, m0, n0, o0⟩ := open_spans (hval 0 29 v0 rfl rfl) h0
  obtain ⟨a1, c1, l1, rfl, s1, f1, m1, n1, o1⟩ := open_spans (hval 1 29 v1 rfl rfl) h1
  refine (walk W a0 c0 l0 s0 f0 m0 n0 o0 a1 c1 l1 s1 f1 m1 n1 o1).mono fun e W' ⟨he, hb⟩ => ?_
  subst he
  exact ⟨_, rfl, law_post rfl hW' (fun ds h => by match ds, h with | [_, _], _ => rfl) (by kernel_rfl) (by kernel_rfl) (by kernel_rfl) hb⟩

theorem over : Rows.spanPartsRow.holds Try.pinned (OpenSpec.ofChange Rows.spanPartsSpec) :=
  OpenClaim.holds_of_wide 8 Try.f8 rfl rfl rfl rfl rfl rfl rfl ⟨rfl, rfl, rfl, rfl, rfl⟩ rfl rfl rfl rfl rfl (by kernel_rfl) Try.func8 (by kernel_rfl)
    (of_decide_eq_true (by kernel_rfl)) (by unfold Func.isWrapper; first | (rw [if_pos (by decide +kernel)]; kernel_rfl) | (rw [if_neg (by decide +kernel)]; exact ⟨rfl, rfl⟩))
    (fun os started H enc _ => lifted os started H enc)

theorem proved : Rows.SpanPartsSaid := over
end Go.Proofs.Ytpbemglnifafaaa.spanParts
