/- HistAfter: what ends behind a time, and the greatest end, are what the document says; which rows are the same, too; for all rows and times. No condition. -/
import Derived.Test.YtbcabbddgppkaaaZ21
namespace Go.Proofs.Ytbcabbddgppkaaa.histAfter
open Go.ChangeShapes Go.WideShapes Go.ChangeAt Go.RowKit
open Go.ChangeMaps (open_string shut_string)
set_option linter.unusedVariables false
set_option maxRecDepth 100000

/-- the two rows that came in, all else as it was -/
structure Af (w : World) (a b : Option Addr) (l m : List StM) (W : World) : Prop where
  a : StSl W a l
  b : StSl W b m
  frame : Below w.heap.size w W
theorem Af.below {w W W' : World} {a b : Option Addr} {l m : List StM} (h : Af w a b l m W) (q : Below W.heap.size W W') : Af w a b l m W' :=
  ⟨h.a.below q, h.b.below q, h.frame.trans (q.mono h.frame.size)⟩

set_option maxHeartbeats 4000000 in
theorem walk (w : World) (a : Option Addr) (c : Nat) (l : List StM) (hs : StSl w a l) (hf : FitsT l) (hc : l.length ≤ c) (hcm : c ≤ maxLen) (hn : a = none → c = 0) (b : Option Addr) (q : Nat) (m : List StM) (hs' : StSl w b m) (hf' : FitsT m) (hc' : m.length ≤ q) (hcm' : q ≤ maxLen) (hn' : b = none → q = 0) (t : Int) (ht : (Lit.int .i64 t).wf = true) :
    Calls Try.prog 9 #[.agg #[.slice a l.length c, .slice b m.length q], .int .i64 t] w fun e w' => e = .returned (.bool true) ∧ Below w.heap.size w w' := by
  have HAL := Lib.hid alive8_any
  have hA := (Below.refl w.heap.size w).alloc (Nat.le_refl _) (.cells #[.slice a l.length c, .slice b m.length q] 69)
  have S0 : Hid (∀ r, Af w a b l m ((w.alloc (.cells #[.slice a l.length c, .slice b m.length q] 69)).drewN r)) := fun r => ⟨(hs.below hA).below (Drew.below ⟨r, rfl⟩ _), (hs'.below hA).below (Drew.below ⟨r, rfl⟩ _), (hA.trans ((Drew.below ⟨r, rfl⟩ _).mono hA.size))⟩
  have HNL := Lib.hid (fun W (h : StSl W a l) hl => s_news a c l W h hl)
  have HNM := Lib.hid (fun W (h : StSl W b m) hl => s_news b q m W h hl)
  have HLA := Lib.hid (fun x p W (h : StSl W x l) hl => last_any x p l W h hl)
  have HRL := Lib.hid (fun W (h : StSl W a l) hl => refLast_any a c l W h hl)
  have HAF := Lib.hid (fun x p W (h : StSl W x l) hl => s_after x p l t W h hl)
  have HRA := Lib.hid (fun W (h : StSl W a l) hl => s_rafter a c l t W h hl)
  have HOL := Lib.hid (fun x p W (h : StSl W x (aftS l t)) hl => s_olds x p (aftS l t) W h hl)
  have HSM := Lib.hid (fun x y p q W (h : StSl W x (aftS l t)) (k : StSl W y (aftS l t)) hl => s_rsame x y p q (aftS l t) W h k hl)
  have HS1 := Lib.hid (fun x y p q W (h : StSl W x l) (k : StSl W y m) hl hm => s_same2 x y p q l m W h k hl hm)
  have HS2 := Lib.hid (fun W (h : StSl W a l) (k : StSl W b m) hl hm => s_rsame2 a b c q l m W h k hl hm)
  have HLE := Lib.hid (aftS_le l t)
  clear hs hs' hf hf' hc hcm hn hc' hcm' hn' ht hA
  generalize decide (l = m) = same at *
  generalize (lastS l).1 = n1 at *
  generalize (lastS l).2 = n2 at *
  generalize haf : aftS l t = r at *
  have he1 : (n1 == n1) = true := beq_self_eq_true _
  have he2 : (n2 == n2) = true := by cases n2 <;> rfl
  have he3 : (same == same) = true := by cases same <;> rfl
  clear haf
  by_cases h1 : 60 < l.length
  · have hd1 : decide ((60 : Int) < (l.length : Int)) = true := decide_eq_true (by omega)
    go_enter Try.func9, Try.ntmps9
    go_wp2
    go_quiet (fail)
    go_wp2_with fail
    refine (HAL.out _).mono ?_
    rintro e w1 ⟨rfl, hB⟩
    go_wp2
    go_ret
    exact ⟨rfl, (S0.out _).frame.trans (hB.mono (S0.out _).frame.size)⟩
  have hd1 : decide ((60 : Int) < (l.length : Int)) = false := decide_eq_false (by omega)
  by_cases h2 : 60 < m.length
  · have hd2 : decide ((60 : Int) < (m.length : Int)) = true := decide_eq_true (by omega)
    go_enter Try.func9, Try.ntmps9
    go_wp2
    go_quiet (fail)
    go_wp2_with fail
    refine (HAL.out _).mono ?_
    rintro e w1 ⟨rfl, hB⟩
    go_wp2
    go_ret
    exact ⟨rfl, (S0.out _).frame.trans (hB.mono (S0.out _).frame.size)⟩
  have hd2 : decide ((60 : Int) < (m.length : Int)) = false := decide_eq_false (by omega)
  have HL1 := Lib.hid (show l.length ≤ 60 by omega)
  have HL2 := Lib.hid (show m.length ≤ 60 by omega)
  clear h1 h2
  go_enter Try.func9, Try.ntmps9
  go_wp2
  go_quiet (fail)
  go_wp2_with fail
  refine (HNL.out _ (S0.out _).a (by have := HL1.out; omega)).mono ?_
  rintro e w1 ⟨x1, q1, rfl, -, -, -, z1, h1⟩
  have S1 := Lib.hid ((S0.out _).below h1)
  clear S0 h1
  go_wp2_with fail
  refine (HLA.out x1 q1 _ z1 (by have := HL1.out; omega)).mono ?_
  rintro e w2 ⟨rfl, h2⟩
  have S2 := Lib.hid (S1.out.below h2)
  clear S1 h2
  clear z1
  go_wp2_with fail
  refine (HRL.out _ S2.out.a (by have := HL1.out; omega)).mono ?_
  rintro e w3 ⟨rfl, h3⟩
  have S3 := Lib.hid (S2.out.below h3)
  clear S2 h3
  go_wp2_with fail
  refine (HAL.out _).mono ?_
  rintro e w4 ⟨rfl, h4⟩
  have S4 := Lib.hid (S3.out.below h4)
  clear S3 h4
  go_wp2_with fail
  refine (HNL.out _ S4.out.a (by have := HL1.out; omega)).mono ?_
  rintro e w5 ⟨x5, q5, rfl, -, -, -, z5, h5⟩
  have S5 := Lib.hid (S4.out.below h5)
  clear S4 h5
  go_wp2_with fail
  refine (HAF.out x5 q5 _ z5 (by have := HL1.out; omega)).mono ?_
  rintro e w6 ⟨x6, q6, rfl, z6, h6⟩
  have S6 := Lib.hid (S5.out.below h6)
  clear S5 h6
  clear z5
  go_wp2_with fail
  refine (HOL.out x6 q6 _ z6 (by have := HL1.out; have := HLE.out; omega)).mono ?_
  rintro e w7 ⟨x7, q7, rfl, z7, h7⟩
  have S7 := Lib.hid (S6.out.below h7)
  clear S6 h7
  clear z6
  go_wp2_with fail
  refine (HRA.out _ S7.out.a (by have := HL1.out; omega)).mono ?_
  rintro e w8 ⟨x8, q8, rfl, z8, h8⟩
  have S8 := Lib.hid (S7.out.below h8)
  replace z7 := z7.below h8
  clear S7 h8
  go_wp2_with fail
  refine (HSM.out x7 x8 q7 q8 _ z7 z8 (by have := HL1.out; have := HLE.out; omega)).mono ?_
  rintro e w9 ⟨rfl, h9⟩
  have S9 := Lib.hid (S8.out.below h9)
  clear S8 h9
  clear z7 z8
  go_wp2_with fail
  refine (HNL.out _ S9.out.a (by have := HL1.out; omega)).mono ?_
  rintro e w10 ⟨x10, q10, rfl, -, -, -, z10, h10⟩
  have S10 := Lib.hid (S9.out.below h10)
  clear S9 h10
  go_wp2_with fail
  refine (HNM.out _ S10.out.b (by have := HL2.out; omega)).mono ?_
  rintro e w11 ⟨x11, q11, rfl, -, -, -, z11, h11⟩
  have S11 := Lib.hid (S10.out.below h11)
  replace z10 := z10.below h11
  clear S10 h11
  go_wp2_with fail
  refine (HS1.out x10 x11 q10 q11 _ z10 z11 (by have := HL1.out; omega) (by have := HL2.out; omega)).mono ?_
  rintro e w12 ⟨rfl, h12⟩
  have S12 := Lib.hid (S11.out.below h12)
  clear S11 h12
  clear z10 z11
  go_wp2_with fail
  refine (HS2.out _ S12.out.a S12.out.b (by have := HL1.out; omega) (by have := HL2.out; omega)).mono ?_
  rintro e w13 ⟨rfl, h13⟩
  have S13 := Lib.hid (S12.out.below h13)
  clear S12 h13
  go_wp2
  go_ret
  exact ⟨rfl, S13.out.frame⟩

set_option maxRecDepth 100000 in
theorem lifted (os : Os) (started : os.Started) (H : Type) (enc : TypeId × Value → H) :
    ReturnsInHanded {} Try.checked os 9 .any (Rows.histAfterSpec.pre6 enc Try.prog Try.f9 Rows.histAfterRow.domain false) (Rows.histAfterSpec.post enc Try.prog Try.f9 false true false false) := by
  refine returnsInHanded_of_change (C := Try.checked) own started (by kernel_rfl) Try.func9
    (ChangeSpec.witness6 (enc := enc) (C := Try.checked) false ⟨#[], #[.agg #[.slice none 0 0, .slice none 0 0], .int .i64 0], []⟩ 8 (by kernel_rfl) (by kernel_rfl) (by kernel_rfl) (by kernel_rfl)) ?_
  intro W base args ds gs before hval0 hW hcnd _
  have hval : ∀ (j : Nat) t v, Try.f9.params[j]? = some t → args[j]? = some v → Value.okWide Try.prog W .any base t v := hval0
  have hW' := hW
  have hlt := hW.lt
  obtain ⟨p, q, hA0, hV, rfl, hfz, hnd⟩ := hW
  have hA : DataW.TrodAll enc Try.prog W 0 (fun _ => true) true Try.f9.params.toList args.toList ds p := hA0
  rw [Try.params9] at hA hval
  obtain ⟨v0, vs0, d0, ds0, p0, q0, hargs, rfl, rfl, h0, r0⟩ := trodAll_cons hA
  obtain ⟨v1, vs1, d1, ds1, p1, q1, rfl, rfl, rfl, h1, r1⟩ := trodAll_cons r0
  obtain ⟨rfl, rfl, rfl⟩ := trodAll_nil r1
  obtain rfl : args = #[v0, v1] := by cases args; simp_all
  obtain ⟨a0, b0, c0, q0, l0, k0, rfl, ⟨s0, f0, m0, n0, o0⟩, ⟨s0', f0', m0', n0', o0'⟩⟩ := open_stays2 (hval 0 69 v0 rfl rfl) h0
  obtain ⟨a1, rfl, -, -, w1⟩ := open_int Try.underlying3 (hval 1 3 v1 rfl rfl) h1
  refine (walk W a0 c0 l0 s0 f0 m0 n0 o0 b0 q0 k0 s0' f0' m0' n0' o0' a1 w1).mono fun e W' ⟨he, hb⟩ => ?_
  subst he
  exact ⟨_, rfl, law_post rfl hW' (fun ds h => by match ds, h with | [_, _], _ => rfl) (by kernel_rfl) (by kernel_rfl) (by kernel_rfl) hb⟩

theorem over : Rows.histAfterRow.holds Try.pinned (OpenSpec.ofChange Rows.histAfterSpec) :=
  OpenClaim.holds_of_wide 9 Try.f9 rfl rfl rfl rfl rfl rfl rfl ⟨rfl, rfl, rfl, rfl, rfl⟩ rfl rfl rfl rfl rfl (by kernel_rfl) Try.func9 (by kernel_rfl)
    (of_decide_eq_true (by kernel_rfl)) (by unfold Func.isWrapper; first | (rw [if_pos (by decide +kernel)]; kernel_rfl) | (rw [if_neg (by decide +kernel)]; exact ⟨rfl, rfl⟩))
    (fun os started H enc _ => lifted os started H enc)

theorem proved : Rows.HistAfterSaid := over
end Go.Proofs.Ytbcabbddgppkaaa.histAfter
