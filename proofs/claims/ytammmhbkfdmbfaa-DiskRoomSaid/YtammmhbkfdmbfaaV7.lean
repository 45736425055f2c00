/- DiskRoom: no more bytes are used than the limit says, ever: for every limit, row of ops and row of numbers. No condition. -/
import Derived.Test.YtammmhbkfdmbfaaU4
import Derived.Test.YtammmhbkfdmbfaaU5
namespace Go.Proofs.Ytammmhbkfdmbfaa.diskRoom
open Go.ChangeShapes Go.WideShapes Go.ChangeAt Go.RowKit
open Go.ChangeMaps (open_string shut_string)
set_option linter.unusedVariables false

theorem do_limit (d : DiskM) (o : OpM) : (doM d o).1.limit = d.limit := by
  unfold doM; split
  · rfl
  · split
    · rfl
    · split <;> rfl
theorem step_limit (d : DiskM) (o : OpM) (keep : List Int) : (stepM d o keep).1.limit = d.limit := by
  unfold stepM
  split
  · exact do_limit d o
  · split
    · simp only [readD]; split <;> rfl
    · split
      · rfl
      · split <;> rfl

set_option maxRecDepth 100000 in
set_option maxHeartbeats 4000000 in
theorem walk (w : World) (n : Int) (hn : (Lit.int .i64 n).wf = true) (a : Option Addr) (c : Nat) (l : List OpM) (hs : OpSl w a l) (hf : FitO l) (hm : l.length ≤ maxLen) (ka : Option Addr) (kc : Nat) (keep : List Int) (hks : Sl w ka (intV keep)) (hkl : keep.length ≤ kc) (hkm : kc ≤ maxLen) :
    Calls Try.prog 7 #[.int .i64 n, .slice a l.length c, .slice ka keep.length kc] w fun e w' => e = .returned (.bool true) ∧ Below w.heap.size w w' := by
  have hn' := wf64 hn
  clear hn
  have HAL := Lib.hid alive_any
  have HFEW := Lib.hid (few_any a c l w hs hm hf)
  have HS := Lib.hid hs
  have HF := Lib.hid hf
  have HKS := Lib.hid hks
  have HKL := Lib.hid hkl
  have hkk : keep.length ≤ 9223372036854775807 := by unfold maxLen at hkm; omega
  have HKM := Lib.hid hkm
  have HFB : Hid (fewB l = true → l.length ≤ 60) := fun h => by
    unfold fewB at h; rw [Bool.and_eq_true, decide_eq_true_eq, decide_eq_true_eq] at h; exact h.2
  obtain ⟨N, hN⟩ : ∃ N, N = l.length := ⟨_, rfl⟩
  have HN := Lib.hid hN
  obtain ⟨M, hM⟩ : ∃ M, M = keep.length := ⟨_, rfl⟩
  have HM := Lib.hid hM
  rw [← hN] at HFB HFEW ⊢
  rw [← hM] at hkk ⊢
  clear hN hM hs hf hks hkl hkm hm
  generalize fewB l = FB at *
  go_enter Try.func7, Try.ntmps7
  go_wp2_with fail
  refine (HFEW.out).mono ?_
  rintro e w1 ⟨rfl, hB1⟩
  have HB1 := Lib.hid hB1
  clear hB1 HFEW
  cases FB
  · go_wp2_with fail
    refine (HAL.out _).mono ?_
    rintro e w2 ⟨rfl, hB2⟩
    go_wp2
    go_ret
    exact ⟨rfl, HB1.out.trans (hB2.mono HB1.out.size)⟩
  by_cases h60 : 60 < M
  · go_wp2_with fail
    refine (HAL.out _).mono ?_
    rintro e w2 ⟨rfl, hB2⟩
    go_wp2
    go_ret
    exact ⟨rfl, HB1.out.trans (hB2.mono HB1.out.size)⟩
  have hN60 := HFB.out rfl
  go_wp2_with fail
  refine (liv_new n _).mono ?_
  rintro e w2 ⟨p, rfl, h2⟩
  have H2 := Lib.hid h2
  clear h2
  go_wp2
  go_loopw [25] (fun i wr => ∃ (k : Nat) (d : DiskM), k ≤ N ∧ i = .int .i64 k ∧ Hid (d.L.length ≤ k) ∧ Hid (d.limit = min (max n 0) 1073741824) ∧ Hid (Liv (NewK w1) w1 wr p d)) (fun i _ => N - (intOf i).toNat)
  case atStart => exact ⟨0, newM n, by omega, rfl, by simp [newM, Hid], rfl, H2⟩
  case round =>
    obtain ⟨k, d, hk, rfl, HD1, HD2, HL⟩ := hrel
    have HB2 : Hid (Below w1.heap.size w1 wr) := HL.out.frame (Nat.le_refl _) (fun i hi hk => by unfold NewK at hk; omega)
    by_cases hlt : k < N
    · have hkl : k < l.length := by have := HN.out; omega
      obtain ⟨b, off, rfl, hbl, hc0, hc1, hc2, hc3⟩ := ((HS.out.below HB1.out).below HB2.out).at hkl
      obtain ⟨f1, f2, f3⟩ := HF.out _ (List.getElem_mem hkl)
      have HDO := Lib.hid (fun ob => do_any l[k] (by unfold maxLen; omega) (by unfold maxLen; omega) f3 keep ka kc HKL.out HKM.out (HL.out.alloc ob) (by have := HD1.out; omega) (Sl.below HKS.out HB1.out) (fun b hb hk => by unfold NewK at hk; omega))
      rw [← HM.out] at HDO
      have HST1 := Lib.hid (step_len d l[k] keep)
      have HST2 := Lib.hid (step_limit d l[k] keep)
      have HOV : Hid (opV l[k] = .agg #[.int .i64 l[k].kind, .string (tx l[k].a), .string (tx l[k].b), .int .i64 l[k].n]) := rfl
      rw [HOV.out] at HDO
      clear f1 f2 f3
      generalize (stepM d l[k] keep) = D at *
      generalize l[k].kind = x0 at *
      generalize tx l[k].a = x1 at *
      generalize tx l[k].b = x2 at *
      generalize l[k].n = x3 at *
      go_wp2_with fail
      refine (HDO.out _).mono ?_
      rintro e w3 ⟨rfl, h3⟩
      have hroom := h3.ok.room
      have H3 := Lib.hid h3
      have HUS := Lib.hid (liv_used h3)
      have HLI := Lib.hid (liv_limit h3)
      have hnn : (0 : Int) ≤ (usedL D.1.L : Int) := by omega
      clear h3 HDO
      generalize (usedL D.1.L : Int) = u at *
      have HLM := Lib.hid (HST2.out.trans HD2.out)
      generalize hlim : D.1.limit = lim at *
      have HDL := Lib.hid hlim
      clear hlim
      go_wp2_with fail
      refine (HUS.out).mono ?_
      rintro e w4 ⟨rfl, rfl⟩
      go_wp2_with fail
      refine (HLI.out).mono ?_
      rintro e w4 ⟨rfl, rfl⟩
      go_wp2_with fail
      refine (HUS.out).mono ?_
      rintro e w4 ⟨rfl, rfl⟩
      go_wp2
      go_roundw
      case rel => exact ⟨k + 1, D.1, by omega, by go_num, (by have := HD1.out; have := HST1.out; unfold Hid; omega), HDL.out.trans HLM.out, H3⟩
      case measure => simp [intOf]; omega
    · obtain rfl : k = N := by omega
      go_wp2_with fail
      refine (HAL.out _).mono ?_
      rintro e w3 ⟨rfl, h3⟩
      have HLI := Lib.hid (liv_limit (HL.out.below h3))
      rw [HD2.out] at HLI
      have HB3 := Lib.hid (HB1.out.trans ((HB2.out.trans (h3.mono HB2.out.size)).mono HB1.out.size))
      clear h3
      go_wp2_with fail
      refine (HLI.out).mono ?_
      rintro e w4 ⟨rfl, rfl⟩
      go_wp2
      go_ret
      exact ⟨rfl, HB3.out⟩

set_option maxRecDepth 100000 in
theorem lifted (os : Os) (started : os.Started) (H : Type) (enc : TypeId × Value → H) :
    ReturnsInHanded {} Try.checked os 7 .any (Rows.diskRoomSpec.pre6 enc Try.prog Try.f7 Rows.diskRoomRow.domain false) (Rows.diskRoomSpec.post enc Try.prog Try.f7 false true false false) := by
  refine returnsInHanded_of_change_sized (C := Try.checked) own started (by kernel_rfl) Try.func7
    (ChangeSpec.witness6 (enc := enc) (C := Try.checked) false ⟨#[], #[.int .i64 0, .slice none 0 0, .slice none 0 0], []⟩ 8 (by kernel_rfl) (by kernel_rfl) (by kernel_rfl) (by kernel_rfl)) ?_
  intro W base args ds gs before hval0 hW hcnd hsz0 _
  have hval : ∀ (j : Nat) t v, Try.f7.params[j]? = some t → args[j]? = some v → Value.okWide Try.prog W .any base t v := hval0
  have hW' := hW
  have hlt := hW.lt
  obtain ⟨p, q, hA0, hV, rfl, hfz, hnd⟩ := hW
  have hA : DataW.TrodAll enc Try.prog W 0 (fun _ => true) true Try.f7.params.toList args.toList ds p := hA0
  rw [Try.params7] at hA hval
  obtain ⟨v0, vs0, d0, ds0, p0, q0, hargs, rfl, rfl, h0, r0⟩ := trodAll_cons hA
  obtain ⟨v1, vs1, d1, ds1, p1, q1, rfl, rfl, rfl, h1, r1⟩ := trodAll_cons r0
  obtain ⟨v2, vs2, d2, ds2, p2, q2, rfl, rfl, rfl, h2, r2⟩ := trodAll_cons r1
  obtain ⟨rfl, rfl, rfl⟩ := trodAll_nil r2
  obtain rfl : args = #[v0, v1, v2] := by cases args; simp_all
  obtain ⟨rfl, rfl⟩ := trodVars_none hV
  obtain ⟨a0, rfl, -, -, w0⟩ := open_int Try.underlying3 (hval 0 3 v0 rfl rfl) h0
  obtain ⟨a1, c1, l1, rfl, s1, f1, m1⟩ := open_ops (hval 1 22 v1 rfl rfl) h1 (fun n hn => of_decide_eq_true (List.all_eq_true.1 hsz0 n (DataW.weights_mem_each (j := 1) (t := 22) (by kernel_rfl) rfl n hn)))
  obtain ⟨a2, c2, l2, rfl, s2, m2, n2⟩ := open_nums (hval 2 23 v2 rfl rfl) h2
  refine (walk W a0 w0 a1 c1 l1 s1 f1 m1 a2 c2 l2 s2 m2 n2).mono fun e W' ⟨he, hb⟩ => ?_
  subst he
  exact ⟨_, rfl, law_post rfl hW' (fun ds h => by match ds, h with | [_, _, _], _ => rfl) (by kernel_rfl) (by kernel_rfl) (by kernel_rfl) hb⟩

theorem over : Rows.diskRoomRow.holds Try.pinned (OpenSpec.ofChange Rows.diskRoomSpec) :=
  OpenClaim.holds_of_wide 7 Try.f7 rfl rfl rfl rfl rfl rfl rfl ⟨rfl, rfl, rfl, rfl, rfl⟩ rfl rfl rfl rfl rfl (by kernel_rfl) Try.func7 (by kernel_rfl)
    (of_decide_eq_true (by kernel_rfl)) (by unfold Func.isWrapper; first | (rw [if_pos (by decide +kernel)]; kernel_rfl) | (rw [if_neg (by decide +kernel)]; exact ⟨rfl, rfl⟩))
    (fun os started H enc _ => lifted os started H enc)

theorem proved : Rows.DiskRoomSaid := over
end Go.Proofs.Ytammmhbkfdmbfaa.diskRoom
