/- HistCuts: what is left of any stays within any spans is what the document says; cut again likewise, it is the same; for all rows. No condition. -/
import Derived.Test.YtbcabbddgppkaaaZ22
namespace Go.Proofs.Ytbcabbddgppkaaa.histCuts
open Go.ChangeShapes Go.WideShapes Go.ChangeAt Go.RowKit
open Go.ChangeMaps (open_string shut_string)
set_option linter.unusedVariables false
set_option maxRecDepth 100000

/-- the rows that came in, the program's own spans, what is left, all else as it was -/
structure Cu (w : World) (a b x y : Option Addr) (l m : List StM) (A : List SpM) (W : World) : Prop where
  a : StSl W a l
  b : SpSl W b A
  x : SpSl W x A
  y : StSl W y m
  frame : Below w.heap.size w W
theorem Cu.below {w W W' : World} {a b x y : Option Addr} {l m : List StM} {A : List SpM} (h : Cu w a b x y l m A W) (q : Below W.heap.size W W') : Cu w a b x y l m A W' :=
  ⟨h.a.below q, h.b.below q, h.x.below q, h.y.below q, h.frame.trans (q.mono h.frame.size)⟩

set_option maxHeartbeats 4000000 in
theorem walk (w : World) (a : Option Addr) (c : Nat) (l : List StM) (hs : StSl w a l) (hf : FitsT l) (hc : l.length ≤ c) (hcm : c ≤ maxLen) (hn : a = none → c = 0) (b : Option Addr) (q : Nat) (A : List SpM) (hs' : SpSl w b A) (hf' : FitsS A) (hc' : A.length ≤ q) (hcm' : q ≤ maxLen) (hn' : b = none → q = 0) :
    Calls Try.prog 8 #[.slice a l.length c, .slice b A.length q] w fun e w' => e = .returned (.bool true) ∧ Below w.heap.size w w' := by
  have HAL := Lib.hid alive8_any
  by_cases h1 : 30 < l.length
  · have hd1 : decide ((30 : Int) < (l.length : Int)) = true := decide_eq_true (by omega)
    clear hs hs' hc hcm hc' hcm'
    go_enter Try.func8, Try.ntmps8
    go_wp2_with fail
    refine (HAL.out _).mono ?_
    rintro e w1 ⟨rfl, hB⟩
    go_wp2
    go_ret
    exact ⟨rfl, hB⟩
  have hd1 : decide ((30 : Int) < (l.length : Int)) = false := decide_eq_false (by omega)
  by_cases h2 : 30 < A.length
  · have hd2 : decide ((30 : Int) < (A.length : Int)) = true := decide_eq_true (by omega)
    clear hs hs' hc hcm hc' hcm'
    go_enter Try.func8, Try.ntmps8
    go_wp2_with fail
    refine (HAL.out _).mono ?_
    rintro e w1 ⟨rfl, hB⟩
    go_wp2
    go_ret
    exact ⟨rfl, hB⟩
  have hd2 : decide ((30 : Int) < (A.length : Int)) = false := decide_eq_false (by omega)
  have HL1 := Lib.hid (show l.length ≤ 30 by omega)
  have HL2 := Lib.hid (show A.length ≤ 30 by omega)
  have S0 : Hid (Cu w a b b a l l A w) := ⟨hs, hs', hs', hs, Below.refl _ _⟩
  have HNB := Lib.hid (fun W (h : SpSl W b A) => c_news b q A W h (by omega))
  have HNL := Lib.hid (fun W (h : StSl W a l) => s_news a c l W h (by omega))
  have HCU := Lib.hid (fun x p y q W h1 h2 h3 h4 => s_cut 30 30 x p l y q A W h1 h2 (by omega) (by omega) h3 h4 (by decide))
  have HC2 := Lib.hid (fun m x p y q W hm h1 h2 h3 h4 => s_cut 900 30 x p m y q A W h1 h2 hm (by omega) h3 h4 (by decide))
  have HRC := Lib.hid (fun W h1 h2 m hm => r_cut 30 30 a c l b q A W h1 h2 (by omega) (by omega) (by decide) m hm)
  have HOL := Lib.hid (fun x p m W (h : StSl W x m) hl => s_olds x p m W h hl)
  have HSM := Lib.hid (fun x y p q m W (h : StSl W x m) (k : StSl W y m) hl => s_rsame x y p q m W h k hl)
  have HSP := Lib.hid (fun x y p q m W (h : StSl W x m) (k : StSl W y m) hl => s_same x y p q m W h k hl)
  have HFT := Lib.hid (fun m (h : IsCut l (HasL A) m) => cut_fits h hf hf')
  have HLO := Lib.hid (fun x g y p W hg hb h1 h2 hx hw T => l_one x g y p A W hg hb h1 h2 (by omega) hx hf' hw T)
  clear hs hs' hf hf' hc hcm hn hc' hcm' hn' h1 h2
  go_enter Try.func8, Try.ntmps8
  go_wp2_with fail
  refine (HNB.out _ S0.out.b).mono ?_
  rintro e w1 ⟨x, p, rfl, hp1, hp2, -, hx, hB1⟩
  have S1 : Hid (Cu w a b x a l l A w1) := ⟨(S0.out.below hB1).a, (S0.out.below hB1).b, hx, (S0.out.below hB1).a, (S0.out.below hB1).frame⟩
  have P1 := Lib.hid hp1
  have P2 := Lib.hid hp2
  clear S0 hp1 hp2 hx hB1 HNB
  go_wp2_with fail
  refine (HNL.out _ S1.out.a).mono ?_
  rintro e w2 ⟨x2, p2, rfl, -, -, -, z2, hB2⟩
  have S2 := Lib.hid (S1.out.below hB2)
  clear S1 hB2 HNL
  go_wp2_with fail
  refine (HCU.out x2 p2 x p _ z2 S2.out.x P1.out P2.out).mono ?_
  rintro e w3 ⟨y, q3, m, rfl, hm, hml, hy, hB3⟩
  have S3 : Hid (Cu w a b x y l m A w3) := ⟨(S2.out.below hB3).a, (S2.out.below hB3).b, (S2.out.below hB3).x, hy, (S2.out.below hB3).frame⟩
  have HM := Lib.hid hm
  have HML := Lib.hid (show m.length ≤ 900 by omega)
  clear S2 hm hml hy hB3 HCU z2
  go_wp2_with fail
  refine (HOL.out y q3 m _ S3.out.y (by have := HML.out; omega)).mono ?_
  rintro e w4 ⟨x4, q4, rfl, z4, hB4⟩
  have S4 := Lib.hid (S3.out.below hB4)
  clear S3 hB4 HOL
  go_wp2_with fail
  refine (HRC.out _ S4.out.a S4.out.b m HM.out).mono ?_
  rintro e w5 ⟨x5, q5, rfl, z5, hB5⟩
  have S5 := Lib.hid (S4.out.below hB5)
  replace z4 := z4.below hB5
  clear S4 hB5 HRC
  go_wp2_with fail
  refine (HSM.out x4 x5 q4 q5 m _ z4 z5 (by have := HML.out; omega)).mono ?_
  rintro e w6 ⟨rfl, hB6⟩
  have S6 := Lib.hid (S5.out.below hB6)
  clear S5 hB6 HSM z4 z5
  have hml := HML.out
  go_wp2
  go_loopw [33] (fun i wr => ∃ (j : Nat), j ≤ m.length ∧ i = .int .i64 j ∧ Hid (Cu w a b x y l m A wr)) (fun i _ => m.length - (intOf i).toNat)
  case atStart => exact ⟨0, by omega, rfl, S6⟩
  case round =>
    obtain ⟨j, hj, rfl, HK⟩ := hrel
    clear S6
    by_cases hjl : j < m.length
    · obtain ⟨bb, off, rfl, hbl, d0, d1, d2, d3⟩ := HK.out.y.at_ hjl
      have HI := Lib.hid (HFT.out m HM.out m[j] (List.getElem_mem hjl))
      have HW := Lib.hid (HM.out.within m[j] (List.getElem_mem hjl))
      have HKA := Lib.hid (fun o => HK.out.below ((Below.refl wr.heap.size wr).alloc (Nat.le_refl _) o))
      generalize m[j] = z at *
      go_wp2_with fail
      refine (HLO.out z _ x p _ (size1 _ _).symm (HKA.out _).x P1.out P2.out HI.out HW.out _).mono ?_
      rintro e w8 ⟨x8, q8, rfl, hB8⟩
      have S8 := Lib.hid ((HKA.out _).below hB8)
      clear HKA hB8 HK HI HW
      go_wp2
      go_roundw
      case rel => exact ⟨j + 1, by omega, by go_num, S8⟩
      case measure => simp [intOf]; omega
    · obtain rfl : j = m.length := by omega
      clear hml
      go_wp2_with fail
      refine (HAL.out _).mono ?_
      rintro e w8 ⟨rfl, hB⟩
      have S8 := Lib.hid (HK.out.below hB)
      clear HK hB
      go_wp2_with fail
      refine (HC2.out m y q3 x p _ HML.out S8.out.y S8.out.x P1.out P2.out).mono ?_
      rintro e w9 ⟨x9, q9, r9, rfl, hc9, -, z9, hB⟩
      obtain rfl := HM.out.again hc9
      have S9 := Lib.hid (S8.out.below hB)
      clear S8 hB hc9
      go_wp2_with fail
      refine (HSP.out x9 y q9 q3 r9 _ z9 S9.out.y (by have := HML.out; omega)).mono ?_
      rintro e w10 ⟨rfl, hB⟩
      have S10 := Lib.hid (S9.out.below hB)
      clear S9 hB z9
      go_wp2
      go_ret
      exact ⟨rfl, S10.out.frame⟩

set_option maxRecDepth 100000 in
theorem lifted (os : Os) (started : os.Started) (H : Type) (enc : TypeId × Value → H) :
    ReturnsInHanded {} Try.checked os 8 .any (Rows.histCutsSpec.pre6 enc Try.prog Try.f8 Rows.histCutsRow.domain false) (Rows.histCutsSpec.post enc Try.prog Try.f8 false true false false) := by
  refine returnsInHanded_of_change (C := Try.checked) own started (by kernel_rfl) Try.func8
    (ChangeSpec.witness6 (enc := enc) (C := Try.checked) false ⟨#[], #[.slice none 0 0, .slice none 0 0], []⟩ 8 (by kernel_rfl) (by kernel_rfl) (by kernel_rfl) (by kernel_rfl)) ?_
  intro W base args ds gs before hval0 hW hcnd _
  have hval : ∀ (j : Nat) t v, Try.f8.params[j]? = some t → args[j]? = some v → Value.okWide Try.prog W .any base t v := hval0
  have hW' := hW
  have hlt := hW.lt
  obtain ⟨p, q, hA0, hV, rfl, hfz, hnd⟩ := hW
  have hA : DataW.TrodAll enc Try.prog W 0 (fun _ => true) true Try.f8.params.toList args.toList ds p := hA0
  rw [Try.params8] at hA hval
  obtain ⟨v0, vs0, d0, ds0, p0, q0, hargs, rfl, rfl, h0, r0⟩ := trodAll_cons hA
  obtain ⟨v1, vs1, d1, ds1, p1, q1, rfl, rfl, rfl, h1, r1⟩ := trodAll_cons r0
  obtain ⟨rfl, rfl, rfl⟩ := trodAll_nil r1
  obtain rfl : args = #[v0, v1] := by cases args; simp_all
  obtain ⟨a0, c0, l0, rfl, s0, f0, m0, n0, o0⟩ := open_stays (hval 0 49 v0 rfl rfl) h0
  obtain ⟨a1, c1, l1, rfl, s1, f1, m1, n1, o1⟩ := open_spans (hval 1 30 v1 rfl rfl) h1
  refine (walk W a0 c0 l0 s0 f0 m0 n0 o0 a1 c1 l1 s1 f1 m1 n1 o1).mono fun e W' ⟨he, hb⟩ => ?_
  subst he
  exact ⟨_, rfl, law_post rfl hW' (fun ds h => by match ds, h with | [_, _], _ => rfl) (by kernel_rfl) (by kernel_rfl) (by kernel_rfl) hb⟩

theorem over : Rows.histCutsRow.holds Try.pinned (OpenSpec.ofChange Rows.histCutsSpec) :=
  OpenClaim.holds_of_wide 8 Try.f8 rfl rfl rfl rfl rfl rfl rfl ⟨rfl, rfl, rfl, rfl, rfl⟩ rfl rfl rfl rfl rfl (by kernel_rfl) Try.func8 (by kernel_rfl)
    (of_decide_eq_true (by kernel_rfl)) (by unfold Func.isWrapper; first | (rw [if_pos (by decide +kernel)]; kernel_rfl) | (rw [if_neg (by decide +kernel)]; exact ⟨rfl, rfl⟩))
    (fun os started H enc _ => lifted os started H enc)

theorem proved : Rows.HistCutsSaid := over
end Go.Proofs.Ytbcabbddgppkaaa.histCuts
