/- HistNarrows: what is left within some spans, and then within others, is what is left within what both have in common; for all rows. No condition. -/
import Derived.Test.YtbcabbddgppkaaaZ22
namespace Go.Proofs.Ytbcabbddgppkaaa.histNarrows
open Go.ChangeShapes Go.WideShapes Go.ChangeAt Go.RowKit
open Go.ChangeMaps (open_string shut_string)
set_option linter.unusedVariables false
set_option maxRecDepth 100000

/-- the rows that came in, the program's own spans, all else as it was -/
structure Nr (w : World) (a b c x y : Option Addr) (l : List StM) (A B : List SpM) (W : World) : Prop where
  a : StSl W a l
  b : SpSl W b A
  c : SpSl W c B
  x : SpSl W x A
  y : SpSl W y B
  frame : Below w.heap.size w W
theorem Nr.below {w W W' : World} {a b c x y : Option Addr} {l : List StM} {A B : List SpM} (h : Nr w a b c x y l A B W) (q : Below W.heap.size W W') : Nr w a b c x y l A B W' :=
  ⟨h.a.below q, h.b.below q, h.c.below q, h.x.below q, h.y.below q, h.frame.trans (q.mono h.frame.size)⟩
theorem three {l m1 m2 m3 : List StM} {A B r : List SpM} (h1 : IsCut l (HasL A) m1) (h2 : IsCut m1 (HasL B) m2) (hr : IsSet (fun x => HasL A x ∧ HasL B x) r) (h3 : IsCut l (HasL r) m3) : m3 = m2 :=
  (h3.congr hr.2).only (h1.twice h2 hr)

set_option maxHeartbeats 4000000 in
theorem walk (w : World) (a : Option Addr) (c : Nat) (l : List StM) (hs : StSl w a l) (hf : FitsT l) (hc : l.length ≤ c) (hcm : c ≤ maxLen) (hn : a = none → c = 0) (b : Option Addr) (q : Nat) (A : List SpM) (hs' : SpSl w b A) (hf' : FitsS A) (hc' : A.length ≤ q) (hcm' : q ≤ maxLen) (hn' : b = none → q = 0) (d : Option Addr) (o : Nat) (B : List SpM) (hs2 : SpSl w d B) (hf2 : FitsS B) (hc2 : B.length ≤ o) (hcm2 : o ≤ maxLen) (hn2 : d = none → o = 0) :
    Calls Try.prog 12 #[.slice a l.length c, .slice b A.length q, .slice d B.length o] w fun e w' => e = .returned (.bool true) ∧ Below w.heap.size w w' := by
  have HAL := Lib.hid alive8_any
  by_cases h1 : 20 < l.length
  · have hd1 : decide ((20 : Int) < (l.length : Int)) = true := decide_eq_true (by omega)
    clear hs hs' hc hcm hc' hcm' hs2 hc2 hcm2
    go_enter Try.func12, Try.ntmps12
    go_wp2_with fail
    refine (HAL.out _).mono ?_
    rintro e w1 ⟨rfl, hB⟩
    go_wp2
    go_ret
    exact ⟨rfl, hB⟩
  have hd1 : decide ((20 : Int) < (l.length : Int)) = false := decide_eq_false (by omega)
  by_cases h2 : 15 < A.length
  · have hd2 : decide ((15 : Int) < (A.length : Int)) = true := decide_eq_true (by omega)
    clear hs hs' hc hcm hc' hcm' hs2 hc2 hcm2
    go_enter Try.func12, Try.ntmps12
    go_wp2_with fail
    refine (HAL.out _).mono ?_
    rintro e w1 ⟨rfl, hB⟩
    go_wp2
    go_ret
    exact ⟨rfl, hB⟩
  have hd2 : decide ((15 : Int) < (A.length : Int)) = false := decide_eq_false (by omega)
  by_cases h3 : 15 < B.length
  · have hd3 : decide ((15 : Int) < (B.length : Int)) = true := decide_eq_true (by omega)
    clear hs hs' hc hcm hc' hcm' hs2 hc2 hcm2
    go_enter Try.func12, Try.ntmps12
    go_wp2_with fail
    refine (HAL.out _).mono ?_
    rintro e w1 ⟨rfl, hB⟩
    go_wp2
    go_ret
    exact ⟨rfl, hB⟩
  have hd3 : decide ((15 : Int) < (B.length : Int)) = false := decide_eq_false (by omega)
  have HL1 := Lib.hid (show l.length ≤ 20 by omega)
  have HL2 := Lib.hid (show A.length ≤ 15 by omega)
  have HL3 := Lib.hid (show B.length ≤ 15 by omega)
  have S0 : Hid (Nr w a b d b d l A B w) := ⟨hs, hs', hs2, hs', hs2, Below.refl _ _⟩
  have HNB := Lib.hid (fun W (h : SpSl W b A) => c_news b q A W h (by omega))
  have HND := Lib.hid (fun W (h : SpSl W d B) => c_news d o B W h (by omega))
  have HNL := Lib.hid (fun W (h : StSl W a l) => s_news a c l W h (by omega))
  have HC1 := Lib.hid (fun x p y q W h1 h2 h3 h4 => s_cut 20 15 x p l y q A W h1 h2 (by omega) (by omega) h3 h4 (by decide))
  have HC2 := Lib.hid (fun m x p y q W hm h1 h2 h3 h4 => s_cut 300 15 x p m y q B W h1 h2 hm (by omega) h3 h4 (by decide))
  have HC3 := Lib.hid (fun r x p y q W hm h1 h2 h3 h4 => s_cut 20 30 x p l y q r W h1 h2 (by omega) hm h3 h4 (by decide))
  have HMT := Lib.hid (fun x p y q W (h : SpSl W x A) (k : SpSl W y B) h1 h2 h3 h4 => n_meet x p y q A B W h k h1 h2 h3 h4 (by omega) (by omega))
  have HSM := Lib.hid (fun x y p q m W (h : StSl W x m) (k : StSl W y m) hl => s_same x y p q m W h k hl)
  clear hs hs' hf hf' hc hcm hn hc' hcm' hn' h1 h2 h3 hs2 hf2 hc2 hcm2 hn2
  go_enter Try.func12, Try.ntmps12
  go_wp2_with fail
  refine (HNB.out _ S0.out.b).mono ?_
  rintro e w1 ⟨x, p, rfl, hp1, hp2, -, hx, hB1⟩
  have S1 : Hid (Nr w a b d x d l A B w1) := ⟨(S0.out.below hB1).a, (S0.out.below hB1).b, (S0.out.below hB1).c, hx, (S0.out.below hB1).c, (S0.out.below hB1).frame⟩
  have P1 := Lib.hid hp1
  have P2 := Lib.hid hp2
  clear S0 hp1 hp2 hx hB1 HNB
  go_wp2_with fail
  refine (HND.out _ S1.out.c).mono ?_
  rintro e w2 ⟨y, g, rfl, hp1, hp2, -, hx, hB1⟩
  have S2 : Hid (Nr w a b d x y l A B w2) := ⟨(S1.out.below hB1).a, (S1.out.below hB1).b, (S1.out.below hB1).c, (S1.out.below hB1).x, hx, (S1.out.below hB1).frame⟩
  have P3 := Lib.hid hp1
  have P4 := Lib.hid hp2
  clear S1 hp1 hp2 hx hB1 HND
  go_wp2_with fail
  refine (HNL.out _ S2.out.a).mono ?_
  rintro e w3 ⟨x3, q3, rfl, -, -, -, z3, h3⟩
  have S3 := Lib.hid (S2.out.below h3)
  clear S2 h3
  go_wp2_with fail
  refine (HC1.out x3 q3 x p _ z3 S3.out.x P1.out P2.out).mono ?_
  rintro e w4 ⟨x4, q4, m1, rfl, hm1, hl1, z4, h4⟩
  have S4 := Lib.hid (S3.out.below h4)
  clear S3 h4
  have M1 := Lib.hid hm1
  have M1L := Lib.hid (show m1.length ≤ 300 by omega)
  clear z3 hm1 hl1
  go_wp2_with fail
  refine (HC2.out m1 x4 q4 y g _ M1L.out z4 S4.out.y P3.out P4.out).mono ?_
  rintro e w5 ⟨x5, q5, m2, rfl, hm2, hl2, z5, h5⟩
  have S5 := Lib.hid (S4.out.below h5)
  clear S4 h5
  have M2 := Lib.hid hm2
  have M2L := Lib.hid (show m2.length ≤ 4500 by omega)
  clear z4 hm2 hl2
  go_wp2_with fail
  refine (HNL.out _ S5.out.a).mono ?_
  rintro e w6 ⟨x6, q6, rfl, -, -, -, z6, h6⟩
  have S6 := Lib.hid (S5.out.below h6)
  replace z5 := z5.below h6
  clear S5 h6
  go_wp2_with fail
  refine (HMT.out x p y g _ S6.out.x S6.out.y P1.out P3.out P2.out P4.out).mono ?_
  rintro e w7 ⟨x7, q7, r, rfl, hr, hrl, hr1, hr2, -, z7, h7⟩
  have S7 := Lib.hid (S6.out.below h7)
  replace z5 := z5.below h7
  replace z6 := z6.below h7
  clear S6 h7
  have R := Lib.hid hr
  have RL := Lib.hid (show r.length ≤ 30 by have := HL2.out; have := HL3.out; omega)
  have R1 := Lib.hid hr1
  have R2 := Lib.hid hr2
  clear hr hrl hr1 hr2
  go_wp2_with fail
  refine (HC3.out r x6 q6 x7 q7 _ RL.out z6 z7 R1.out R2.out).mono ?_
  rintro e w8 ⟨x8, q8, m3, rfl, hm3, -, z8, h8⟩
  have S8 := Lib.hid (S7.out.below h8)
  replace z5 := z5.below h8
  clear S7 h8
  obtain rfl := three M1.out M2.out R.out hm3
  clear z6 z7 hm3
  go_wp2_with fail
  refine (HSM.out x5 x8 q5 q8 m3 _ z5 z8 (by have := M2L.out; omega)).mono ?_
  rintro e w9 ⟨rfl, h9⟩
  have S9 := Lib.hid (S8.out.below h9)
  clear S8 h9
  clear z5 z8
  go_wp2_with fail
  refine (HAL.out _).mono ?_
  rintro e w10 ⟨rfl, h10⟩
  have S10 := Lib.hid (S9.out.below h10)
  clear S9 h10
  go_wp2
  go_ret
  exact ⟨rfl, S10.out.frame⟩

set_option maxRecDepth 100000 in
theorem lifted (os : Os) (started : os.Started) (H : Type) (enc : TypeId × Value → H) :
    ReturnsInHanded {} Try.checked os 12 .any (Rows.histNarrowsSpec.pre6 enc Try.prog Try.f12 Rows.histNarrowsRow.domain false) (Rows.histNarrowsSpec.post enc Try.prog Try.f12 false true false false) := by
  refine returnsInHanded_of_change (C := Try.checked) own started (by kernel_rfl) Try.func12
    (ChangeSpec.witness6 (enc := enc) (C := Try.checked) false ⟨#[], #[.slice none 0 0, .slice none 0 0, .slice none 0 0], []⟩ 8 (by kernel_rfl) (by kernel_rfl) (by kernel_rfl) (by kernel_rfl)) ?_
  intro W base args ds gs before hval0 hW hcnd _
  have hval : ∀ (j : Nat) t v, Try.f12.params[j]? = some t → args[j]? = some v → Value.okWide Try.prog W .any base t v := hval0
  have hW' := hW
  have hlt := hW.lt
  obtain ⟨p, q, hA0, hV, rfl, hfz, hnd⟩ := hW
  have hA : DataW.TrodAll enc Try.prog W 0 (fun _ => true) true Try.f12.params.toList args.toList ds p := hA0
  rw [Try.params12] at hA hval
  obtain ⟨v0, vs0, d0, ds0, p0, q0, hargs, rfl, rfl, h0, r0⟩ := trodAll_cons hA
  obtain ⟨v1, vs1, d1, ds1, p1, q1, rfl, rfl, rfl, h1, r1⟩ := trodAll_cons r0
  obtain ⟨v2, vs2, d2, ds2, p2, q2, rfl, rfl, rfl, h2, r2⟩ := trodAll_cons r1
  obtain ⟨rfl, rfl, rfl⟩ := trodAll_nil r2
  obtain rfl : args = #[v0, v1, v2] := by cases args; simp_all
  obtain ⟨a0, c0, l0, rfl, s0, f0, m0, n0, o0⟩ := open_stays (hval 0 49 v0 rfl rfl) h0
  obtain ⟨a1, c1, l1, rfl, s1, f1, m1, n1, o1⟩ := open_spans (hval 1 30 v1 rfl rfl) h1
  obtain ⟨a2, c2, l2, rfl, s2, f2, m2, n2, o2⟩ := open_spans (hval 2 30 v2 rfl rfl) h2
  refine (walk W a0 c0 l0 s0 f0 m0 n0 o0 a1 c1 l1 s1 f1 m1 n1 o1 a2 c2 l2 s2 f2 m2 n2 o2).mono fun e W' ⟨he, hb⟩ => ?_
  subst he
  exact ⟨_, rfl, law_post rfl hW' (fun ds h => by match ds, h with | [_, _, _], _ => rfl) (by kernel_rfl) (by kernel_rfl) (by kernel_rfl) hb⟩

theorem over : Rows.histNarrowsRow.holds Try.pinned (OpenSpec.ofChange Rows.histNarrowsSpec) :=
  OpenClaim.holds_of_wide 12 Try.f12 rfl rfl rfl rfl rfl rfl rfl ⟨rfl, rfl, rfl, rfl, rfl⟩ rfl rfl rfl rfl rfl (by kernel_rfl) Try.func12 (by kernel_rfl)
    (of_decide_eq_true (by kernel_rfl)) (by unfold Func.isWrapper; first | (rw [if_pos (by decide +kernel)]; kernel_rfl) | (rw [if_neg (by decide +kernel)]; exact ⟨rfl, rfl⟩))
    (fun os started H enc _ => lifted os started H enc)

theorem proved : Rows.HistNarrowsSaid := over
end Go.Proofs.Ytbcabbddgppkaaa.histNarrows
