/- SpanNorm: the times of any spans, as spans that rise and do not touch, are what the document says; nothing that was given is changed; for all rows. No condition. -/
import Derived.Test.YtpbemglnifafaaaW19
namespace Go.Proofs.Ytpbemglnifafaaa.spanNorm
open Go.ChangeShapes Go.WideShapes Go.ChangeAt Go.RowKit
open Go.ChangeMaps (open_string shut_string)
set_option linter.unusedVariables false
set_option maxRecDepth 100000

theorem row_lt : ∀ (r : List SpM), RowL r → ∀ (i : Nat) (h : i + 1 < r.length), r[i].t < r[i + 1].f
  | [], _, i, h => by simp at h
  | s :: r, hr, 0, h => hr.2.1 _ (List.getElem_mem _)
  | s :: r, hr, i + 1, h => by
    have := row_lt r hr.2.2 i (by simpa using h)
    simpa using this
/-- the row that came in, the program's own of it, and what Norm made of that, all else as it was -/
structure StN (w : World) (a x n : Option Addr) (l r : List SpM) (W : World) : Prop where
  a : SpSl W a l
  x : SpSl W x l
  n : SpSl W n r
  frame : Below w.heap.size w W
theorem StN.below {w W W' : World} {a x n : Option Addr} {l r : List SpM} (h : StN w a x n l r W) (q : Below W.heap.size W W') : StN w a x n l r W' :=
  ⟨h.a.below q, h.x.below q, h.n.below q, h.frame.trans (q.mono h.frame.size)⟩

set_option maxHeartbeats 1000000 in
theorem walk (w : World) (a : Option Addr) (c : Nat) (l : List SpM) (hs : SpSl w a l) (hf : FitsS l) (hc : l.length ≤ c) (hcm : c ≤ maxLen) (hn : a = none → c = 0) :
    Calls Try.prog 4 #[.slice a l.length c] w fun e w' => e = .returned (.bool true) ∧ Below w.heap.size w w' := by
  have HAL := Lib.hid alive_any
  by_cases h1 : 60 < l.length
  · have hd1 : decide ((60 : Int) < (l.length : Int)) = true := decide_eq_true (by omega)
    clear hs hc hcm
    go_enter Try.func4, Try.ntmps4
    go_wp2_with fail
    refine (HAL.out _).mono ?_
    rintro e w1 ⟨rfl, hB⟩
    go_wp2
    go_ret
    exact ⟨rfl, hB⟩
  have hl1 : l.length ≤ 60 := by omega
  have hd1 : decide ((60 : Int) < (l.length : Int)) = false := decide_eq_false (by omega)
  have HNA := Lib.hid (c_news a c l w hs (by omega))
  have HSA := Lib.hid hs
  have HOl := Lib.hid (fun x q r W (h : SpSl W x r) (hl : r.length ≤ 1000) => c_olds x q r W h hl)
  have HRS := Lib.hid (fun x y p q r W (h : SpSl W x r) (k : SpSl W y r) (hl : r.length ≤ 1000) => c_rsame x y p q r W h k hl)
  have HNM := Lib.hid n_norm
  have HRN := Lib.hid (fun W (h : SpSl W a l) r hr => c_rnorm a c l W h (by omega) r hr)
  have HL1 := Lib.hid (show l.length ≤ 1000 by omega)
  clear hs hc hcm hf hn h1 hl1
  go_enter Try.func4, Try.ntmps4
  go_wp2_with fail
  refine HNA.out.mono ?_
  rintro e v1 ⟨x, p, rfl, hp1, hp2, hpn, hx, g1⟩
  go_wp2_with fail
  refine (HNM.out x p l v1 hx hp1 hp2 HL1.out).mono ?_
  rintro e v2 ⟨x1, q1, r, rfl, hr1, lr, -, -, -, k1, g2⟩
  have hlr : r.length ≤ 1000 := by have := HL1.out; omega
  go_wp2_with fail
  refine (HOl.out x1 q1 r v2 k1 hlr).mono ?_
  rintro e v3 ⟨y, q2, rfl, k2, g3⟩
  have g5 := (g1.trans (g2.mono g1.size)).trans (g3.mono (Nat.le_trans g1.size g2.size))
  have S0 : Hid (StN w a x y l r v3) := ⟨HSA.out.below g5, (hx.below g2).below g3, k2, g5⟩
  have R1 := Lib.hid hr1
  clear hp1 hp2 hpn hx g1 g2 g3 g5 hr1 lr k1 k2 HSA HNA HNM
  go_wp2
  go_loopw [18] (fun i wr => ∃ (j : Nat), i = .int .i64 j ∧ j ≤ r.length ∧ Hid (StN w a x y l r wr)) (fun i _ => r.length - (intOf i).toNat)
  case atStart => exact ⟨0, rfl, by omega, S0⟩
  case round =>
    obtain ⟨j, rfl, hj, S1⟩ := hrel
    clear S0
    by_cases hjl : j < r.length
    · have hpos := R1.out.1.2 r[j] (List.getElem_mem hjl)
      have hA := (Below.refl wr.heap.size wr).alloc (Nat.le_refl _) (.cells #[.int .i64 r[j].f, .int .i64 r[j].t] 23)
      have S2 := Lib.hid (S1.out.below hA)
      have SD : ∀ q, Hid (StN w a x y l r ((wr.alloc (.cells #[.int .i64 r[j].f, .int .i64 r[j].t] 23)).drewN q)) := fun q => S2.out.below (Drew.below ⟨q, rfl⟩ _)
      rcases Nat.eq_zero_or_pos j with h0 | h0
      · have hd4 : decide ((0 : Int) < (j : Int)) = false := decide_eq_false (by omega)
        have hd5 : decide (0 < j) = false := decide_eq_false (by omega)
        have hd6 : ¬ 0 < j := by omega
        have hd7 : ¬ (0 : Int) < (j : Int) := by omega
        obtain ⟨b, off, rfl, hbl, hc0, hc1⟩ := S1.out.n.at_ hjl
        generalize r[j] = s at *
        have hd2 : decide (s.t ≤ s.f) = false := decide_eq_false (by omega)
        clear hA h0
        go_wp2
        go_quiet (fail)
        clear hd4 hd5 hd6 hd7
        go_wp2
        go_roundw
        case rel => exact ⟨j + 1, by go_num, by omega, SD _⟩
        case measure => simp [intOf]; omega
      · obtain ⟨i, rfl⟩ : ∃ i, j = i + 1 := ⟨j - 1, by omega⟩
        obtain ⟨b, off, rfl, hbl, hc0, hc1⟩ := S1.out.n.at_ hjl
        obtain ⟨_, _, e1, _, hp0, hp1⟩ := S2.out.n.at_ (k := i) (by omega)
        cases e1
        have hrow := row_lt r R1.out.1.1 i hjl
        generalize r[i + 1] = s at *
        generalize r[i] = u at *
        have hd2 : decide (s.t ≤ s.f) = false := decide_eq_false (by omega)
        have hd3 : decide (s.f ≤ u.t) = false := decide_eq_false (by omega)
        have hw1 : IntKind.i64.wrap ((i : Int) + 1 - 1) = (i : Int) := by rw [IntWalk.i64_in] <;> omega
        have hw2 : IntKind.i64.wrap (i : Int) = (i : Int) := by rw [IntWalk.i64_in] <;> omega
        have hi0 : (0 : Int) ≤ (i : Int) := Int.natCast_nonneg _
        have hi1 : (i : Int) < (r.length : Int) := by omega
        have hi2 : (0 : Int) < (i : Int) + 1 := by omega
        clear hA
        go_wp2
        go_quiet (fail)
        clear hw1 hw2
        go_wp2
        go_roundw
        case rel => exact ⟨i + 1 + 1, by go_num, by omega, SD _⟩
        case measure => simp [intOf]; omega
    · obtain rfl : j = r.length := by omega

      go_wp2_with fail
      refine (HAL.out _).mono ?_
      rintro e w11 ⟨rfl, h11⟩
      have S11 := Lib.hid (S1.out.below h11)
      clear S1 h11
      go_wp2_with fail
      refine (HRN.out _ S11.out.a r R1.out).mono ?_
      rintro e w12 ⟨x3, q3, rfl, k3, h12⟩
      have S12 := Lib.hid (S11.out.below h12)
      clear S11 h12
      go_wp2_with fail
      refine (HRS.out y x3 q2 q3 r _ S12.out.n k3 hlr).mono ?_
      rintro e w13 ⟨rfl, h13⟩
      have S13 := Lib.hid (S12.out.below h13)
      clear S12 h13
      clear k3
      go_wp2_with fail
      refine (HOl.out x p l _ S13.out.x HL1.out).mono ?_
      rintro e w14 ⟨x4, q4, rfl, k4, h14⟩
      have S14 := Lib.hid (S13.out.below h14)
      clear S13 h14
      go_wp2_with fail
      refine (HRS.out x4 a q4 c l _ k4 S14.out.a HL1.out).mono ?_
      rintro e w15 ⟨rfl, h15⟩
      have S15 := Lib.hid (S14.out.below h15)
      clear S14 h15
      clear k4
      go_wp2
      go_ret
      exact ⟨rfl, S15.out.frame⟩

set_option maxRecDepth 100000 in
theorem lifted (os : Os) (started : os.Started) (H : Type) (enc : TypeId × Value → H) :
    ReturnsInHanded {} Try.checked os 4 .any (Rows.spanNormSpec.pre6 enc Try.prog Try.f4 Rows.spanNormRow.domain false) (Rows.spanNormSpec.post enc Try.prog Try.f4 false true false false) := by
  refine returnsInHanded_of_change (C := Try.checked) own started (by kernel_rfl) Try.func4
    (ChangeSpec.witness6 (enc := enc) (C := Try.checked) false ⟨#[], #[.slice none 0 0], []⟩ 8 (by kernel_rfl) (by kernel_rfl) (by kernel_rfl) (by kernel_rfl)) ?_
  intro W base args ds gs before hval0 hW hcnd _
  have hval : ∀ (j : Nat) t v, Try.f4.params[j]? = some t → args[j]? = some v → Value.okWide Try.prog W .any base t v := hval0
  have hW' := hW
  have hlt := hW.lt
  obtain ⟨p, q, hA0, hV, rfl, hfz, hnd⟩ := hW
  have hA : DataW.TrodAll enc Try.prog W 0 (fun _ => true) true Try.f4.params.toList args.toList ds p := hA0
  rw [Try.params4] at hA hval
  obtain ⟨v0, vs0, d0, ds0, p0, q0, hargs, rfl, rfl, h0, r0⟩ := trodAll_cons hA
  obtain ⟨rfl, rfl, rfl⟩ := trodAll_nil r0
  obtain rfl : args = #[v0] := by cases args; simp_all
  obtain ⟨a0, c0, l0, rfl, s0, f0, m0, n0, o0⟩ := open_spans (hval 0 29 v0 rfl rfl) h0
  refine (walk W a0 c0 l0 s0 f0 m0 n0 o0).mono fun e W' ⟨he, hb⟩ => ?_
  subst he
  exact ⟨_, rfl, law_post rfl hW' (fun ds h => by match ds, h with | [_], _ => rfl) (by kernel_rfl) (by kernel_rfl) (by kernel_rfl) hb⟩

theorem over : Rows.spanNormRow.holds Try.pinned (OpenSpec.ofChange Rows.spanNormSpec) :=
  OpenClaim.holds_of_wide 4 Try.f4 rfl rfl rfl rfl rfl rfl rfl ⟨rfl, rfl, rfl, rfl, rfl⟩ rfl rfl rfl rfl rfl (by kernel_rfl) Try.func4 (by kernel_rfl)
    (of_decide_eq_true (by kernel_rfl)) (by unfold Func.isWrapper; first | (rw [if_pos (by decide +kernel)]; kernel_rfl) | (rw [if_neg (by decide +kernel)]; exact ⟨rfl, rfl⟩))
    (fun os started H enc _ => lifted os started H enc)

theorem proved : Rows.SpanNormSaid := over
end Go.Proofs.Ytpbemglnifafaaa.spanNorm
