/- SubsRising: which entries rise, and which are the same, is what the document says; for all rows. No condition. -/
import Derived.Test.YthaancmobpamhaaAB18
import Derived.Test.YthaancmobpamhaaAB2
namespace Go.Proofs.Ythaancmobpamhaa.subsRising
open Go.ChangeShapes Go.WideShapes Go.ChangeAt Go.RowKit
open Go.ChangeMaps (open_string shut_string)
set_option linter.unusedVariables false
set_option maxRecDepth 100000

/-- both rows that came in, all else as it was -/
structure Ri (w : World) (a b : Option Addr) (l m : List EnM) (W : World) : Prop where
  a : EnSl W a l
  b : EnSl W b m
  frame : Below w.heap.size w W
theorem Ri.below {w W W' : World} {a b : Option Addr} {l m : List EnM} (h : Ri w a b l m W) (q : Below W.heap.size W W') : Ri w a b l m W' :=
  ⟨h.a.below q, h.b.below q, h.frame.trans (q.mono h.frame.size)⟩

set_option maxHeartbeats 4000000 in
theorem walk (w : World) (a : Option Addr) (c : Nat) (l : List EnM) (hs : EnSl w a l) (hf : FitsE l) (hc : l.length ≤ c) (hcm : c ≤ maxLen) (hn : a = none → c = 0) (b : Option Addr) (q : Nat) (m : List EnM) (hs' : EnSl w b m) (hf' : FitsE m) (hc' : m.length ≤ q) (hcm' : q ≤ maxLen) (hn' : b = none → q = 0) :
    Calls Try.prog 5 #[.slice a l.length c, .slice b m.length q] w fun e w' => e = .returned (.bool true) ∧ Below w.heap.size w w' := by
  have HAL := Lib.hid alive_any
  have S0 : Hid (Ri w a b l m w) := ⟨hs, hs', Below.refl _ _⟩
  by_cases h1 : 60 < l.length
  · have hd1 : decide ((60 : Int) < (l.length : Int)) = true := decide_eq_true (by omega)
    clear hs hs' hf hf' hc hcm hn hc' hcm' hn'
    go_enter Try.func5, Try.ntmps5
    go_wp2_with fail
    refine (HAL.out _).mono ?_
    rintro e w1 ⟨rfl, hB⟩
    go_wp2
    go_ret
    exact ⟨rfl, hB⟩
  have hd1 : decide ((60 : Int) < (l.length : Int)) = false := decide_eq_false (by omega)
  by_cases h2 : 60 < m.length
  · have hd2 : decide ((60 : Int) < (m.length : Int)) = true := decide_eq_true (by omega)
    clear hs hs' hf hf' hc hcm hn hc' hcm' hn'
    go_enter Try.func5, Try.ntmps5
    go_wp2_with fail
    refine (HAL.out _).mono ?_
    rintro e w1 ⟨rfl, hB⟩
    go_wp2
    go_ret
    exact ⟨rfl, hB⟩
  have hd2 : decide ((60 : Int) < (m.length : Int)) = false := decide_eq_false (by omega)
  have HL1 := Lib.hid (show l.length ≤ 60 by omega)
  have HL2 := Lib.hid (show m.length ≤ 60 by omega)
  have HN1 := Lib.hid (fun W (h : EnSl W a l) => e_news a c l W h (by omega))
  have HN2 := Lib.hid (fun W (h : EnSl W b m) => e_news b q m W h (by omega))
  have HR1 := Lib.hid (fun x p W (h : EnSl W x l) => e_rising x p l W h (SzE.of hf) (by omega))
  have HR2 := Lib.hid (fun W (h : EnSl W a l) => e_rrising a c l W h (SzE.of hf) (by omega))
  have HS1 := Lib.hid (fun x y p r W (h : EnSl W x l) (k : EnSl W y m) => e_same x y p r l m W h k (by omega) (by omega))
  have HS2 := Lib.hid (fun W (h : EnSl W a l) (k : EnSl W b m) => e_rsame a b c q l m W h k (by omega) (by omega))
  have hbb : ∀ b : Bool, (b == b) = true := fun b => beq_self_eq_true b
  generalize decide (RiseE l) = r1 at *
  generalize decide (l = m) = r2 at *
  have he1 := hbb r1
  have he2 := hbb r2
  clear hs hs' hf hf' hc hcm hn hc' hcm' hn' hbb h1 h2
  go_enter Try.func5, Try.ntmps5
  go_wp2_with fail
  refine (HAL.out _).mono ?_
  rintro e w1 ⟨rfl, h1⟩
  have S1 := Lib.hid (S0.out.below h1)
  clear S0 h1 
  go_wp2_with fail
  refine (HN1.out _ S1.out.a).mono ?_
  rintro e w2 ⟨x1, q1, rfl, -, -, -, z1, h1⟩
  have S2 := Lib.hid (S1.out.below h1)
  clear S1 h1 
  go_wp2_with fail
  refine (HR1.out x1 q1 _ z1).mono ?_
  rintro e w3 ⟨rfl, h1⟩
  have S3 := Lib.hid (S2.out.below h1)
  clear S2 h1 
  go_wp2_with fail
  refine (HR2.out _ S3.out.a).mono ?_
  rintro e w4 ⟨rfl, h1⟩
  have S4 := Lib.hid (S3.out.below h1)
  clear S3 h1 
  go_wp2_with fail
  refine (HN1.out _ S4.out.a).mono ?_
  rintro e w5 ⟨x2, q2, rfl, -, -, -, z2, h1⟩
  have S5 := Lib.hid (S4.out.below h1)
  clear S4 h1 
  go_wp2_with fail
  refine (HN2.out _ S5.out.b).mono ?_
  rintro e w6 ⟨x3, q3, rfl, -, -, -, z3, h1⟩
  have S6 := Lib.hid (S5.out.below h1)
  replace z2 := z2.below h1
  clear S5 h1 
  go_wp2_with fail
  refine (HS1.out x2 x3 q2 q3 _ z2 z3).mono ?_
  rintro e w7 ⟨rfl, h1⟩
  have S7 := Lib.hid (S6.out.below h1)
  clear S6 h1 
  go_wp2_with fail
  refine (HS2.out _ S7.out.a S7.out.b).mono ?_
  rintro e w8 ⟨rfl, h1⟩
  have S8 := Lib.hid (S7.out.below h1)
  clear S7 h1 
  go_wp2
  go_ret
  exact ⟨rfl, S8.out.frame⟩

set_option maxRecDepth 100000 in
theorem lifted (os : Os) (started : os.Started) (H : Type) (enc : TypeId × Value → H) :
    ReturnsInHanded {} Try.checked os 5 .any (Rows.subsRisingSpec.pre6 enc Try.prog Try.f5 Rows.subsRisingRow.domain false) (Rows.subsRisingSpec.post enc Try.prog Try.f5 false true false false) := by
  refine returnsInHanded_of_change (C := Try.checked) own started (by kernel_rfl) Try.func5
    (ChangeSpec.witness6 (enc := enc) (C := Try.checked) false ⟨#[], #[.slice none 0 0, .slice none 0 0], []⟩ 8 (by kernel_rfl) (by kernel_rfl) (by kernel_rfl) (by kernel_rfl)) ?_
  intro W base args ds gs before hval0 hW hcnd _
  have hval : ∀ (j : Nat) t v, Try.f5.params[j]? = some t → args[j]? = some v → Value.okWide Try.prog W .any base t v := hval0
  have hW' := hW
  have hlt := hW.lt
  obtain ⟨p, q, hA0, hV, rfl, hfz, hnd⟩ := hW
  have hA : DataW.TrodAll enc Try.prog W 0 (fun _ => true) true Try.f5.params.toList args.toList ds p := hA0
  rw [Try.params5] at hA hval
  obtain ⟨v0, vs0, d0, ds0, p0, q0, hargs, rfl, rfl, h0, r0⟩ := trodAll_cons hA
  obtain ⟨v1, vs1, d1, ds1, p1, q1, rfl, rfl, rfl, h1, r1⟩ := trodAll_cons r0
  obtain ⟨rfl, rfl, rfl⟩ := trodAll_nil r1
  obtain rfl : args = #[v0, v1] := by cases args; simp_all
  obtain ⟨a0, c0, l0, rfl, s0, f0, m0, n0, o0⟩ := open_entries (hval 0 22 v0 rfl rfl) h0
  obtain ⟨a1, c1, l1, rfl, s1, f1, m1, n1, o1⟩ := open_entries (hval 1 22 v1 rfl rfl) h1
  refine (walk W a0 c0 l0 s0 f0 m0 n0 o0 a1 c1 l1 s1 f1 m1 n1 o1).mono fun e W' ⟨he, hb⟩ => ?_
  subst he
  exact ⟨_, rfl, law_post rfl hW' (fun ds h => by match ds, h with | [_, _], _ => rfl) (by kernel_rfl) (by kernel_rfl) (by kernel_rfl) hb⟩

theorem over : Rows.subsRisingRow.holds Try.pinned (OpenSpec.ofChange Rows.subsRisingSpec) :=
  OpenClaim.holds_of_wide 5 Try.f5 rfl rfl rfl rfl rfl rfl rfl ⟨rfl, rfl, rfl, rfl, rfl⟩ rfl rfl rfl rfl rfl (by kernel_rfl) Try.func5 (by kernel_rfl)
    (of_decide_eq_true (by kernel_rfl)) (by unfold Func.isWrapper; first | (rw [if_pos (by decide +kernel)]; kernel_rfl) | (rw [if_neg (by decide +kernel)]; exact ⟨rfl, rfl⟩))
    (fun os started H enc _ => lifted os started H enc)

theorem proved : Rows.SubsRisingSaid := over
end Go.Proofs.Ythaancmobpamhaa.subsRising
