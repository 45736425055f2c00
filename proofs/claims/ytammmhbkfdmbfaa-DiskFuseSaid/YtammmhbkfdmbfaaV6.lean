/- DiskFuse: a fuse lets just so many ops be done, and then none: for every row of ops and number. No condition. -/
import Derived.Test.YtammmhbkfdmbfaaU4
import Derived.Test.YtammmhbkfdmbfaaU5
namespace Go.Proofs.Ytammmhbkfdmbfaa.diskFuse
open Go.ChangeShapes Go.WideShapes Go.ChangeAt Go.RowKit
open Go.ChangeMaps (open_string shut_string)
set_option linter.unusedVariables false

/-- where the loop stands: as many ops are done as the fuse has lost -/
structure At (n : Int) (d : DiskM) (done : Nat) (used : Int) : Prop where
  ops : d.ops = done
  used : used = (usedL d.L : Int)
  fuse : d.fuse = n - done
  left : (done : Int) ≤ n
  spent : d.down = true → (done : Int) = n
/-- what an op of the five tells, and leaves -/
theorem At.go {n : Int} {d : DiskM} {done : Nat} {used : Int} (h : At n d done used) (hd : done ≤ 100) (o : OpM) :
    (d.down = true → (doM d o).2 = 50) ∧ (d.down = false → (doM d o).2 = 50 → (done : Int) = n) ∧
    ((doM d o).2 = 0 → At n (doM d o).1 (done + 1) (usedL (doM d o).1.L : Int)) ∧ ((doM d o).2 ≠ 0 → At n (doM d o).1 done used) := by
  have hw : whyM d o = 51 ∨ whyM d o = 52 ∨ whyM d o = 0 := by
    unfold whyM
    split
    · exact .inl rfl
    · split
      · exact .inl rfl
      · split
        · exact .inr (.inl rfl)
        · split
          · exact .inl rfl
          · exact .inr (.inr rfl)
  cases hdn : d.down with
  | true =>
    have e : doM d o = (d, 50) := by unfold doM; rw [if_pos hdn]
    rw [e]
    exact ⟨fun _ => rfl, fun hh => (by cases hh), fun hh => (by cases hh), fun _ => h⟩
  | false =>
    by_cases hw0 : whyM d o = 0
    · by_cases hf : d.fuse = 0
      · have e : doM d o = ({ d with down := true }, 50) := by unfold doM; rw [if_neg (by simp [hdn]), if_neg (by simp [hw0]), if_pos hf]
        rw [e]
        have h2 := h.fuse
        exact ⟨fun hh => (by cases hh), fun _ _ => (by omega), fun hh => (by cases hh), fun _ => ⟨h.ops, h.used, h.fuse, h.left, fun _ => by omega⟩⟩
      · have e : doM d o = (d.next o, 0) := by unfold doM; rw [if_neg (by simp [hdn]), if_neg (by simp [hw0]), if_neg hf]
        rw [e]
        have h2 := h.fuse
        have h3 := h.left
        have h4 : 0 < d.fuse := by omega
        refine ⟨fun hh => (by cases hh), fun _ hh => (by cases hh), fun _ => ⟨?_, rfl, ?_, by omega, fun hh => ?_⟩, fun hh => absurd rfl hh⟩
        · show IntKind.i64.wrap (d.ops + 1) = _
          rw [h.ops, IntWalk.i64_in _ (by omega)]; omega
        · show (if 0 < d.fuse then d.fuse - 1 else d.fuse) = _
          rw [if_pos h4]; omega
        · exact absurd (show d.down = true from hh) (by simp [hdn])
    · have e : doM d o = (d, whyM d o) := by unfold doM; rw [if_neg (by simp [hdn]), if_pos hw0]
      rw [e]
      refine ⟨fun hh => (by cases hh), fun _ hh => ?_, fun hh => absurd hh hw0, fun _ => h⟩
      simp only at hh
      omega

set_option maxRecDepth 100000 in
set_option maxHeartbeats 4000000 in
theorem walk (w : World) (a : Option Addr) (c : Nat) (l : List OpM) (hs : OpSl w a l) (hf : FitO l) (hm : l.length ≤ maxLen) (n : Int) (hn : (Lit.int .i64 n).wf = true) :
    Calls Try.prog 6 #[.slice a l.length c, .int .i64 n] w fun e w' => e = .returned (.bool true) ∧ Below w.heap.size w w' := by
  have hn' := wf64 hn
  clear hn
  have HAL := Lib.hid alive_any
  have HFEW := Lib.hid (few_any a c l w hs hm hf)
  have HS := Lib.hid hs
  have HF := Lib.hid hf
  have HFB : Hid (fewB l = true → l.length ≤ 60) := fun h => by
    unfold fewB at h; rw [Bool.and_eq_true, decide_eq_true_eq, decide_eq_true_eq] at h; exact h.2
  obtain ⟨N, hN⟩ : ∃ N, N = l.length := ⟨_, rfl⟩
  have HN := Lib.hid hN
  rw [← hN] at HFB HFEW ⊢
  clear hN hs hf hm
  generalize fewB l = FB at *
  go_enter Try.func6, Try.ntmps6
  go_wp2_with fail
  refine (HFEW.out).mono ?_
  rintro e w1 ⟨rfl, hB1⟩
  have HB1 := Lib.hid hB1
  clear hB1 HFEW
  cases FB
  · go_wp2_with fail
    refine (HAL.out _).mono ?_
    rintro e w2 ⟨rfl, hB2⟩
    go_wp2
    go_ret
    exact ⟨rfl, HB1.out.trans (hB2.mono HB1.out.size)⟩
  by_cases hneg : n < 0
  · go_wp2_with fail
    refine (HAL.out _).mono ?_
    rintro e w2 ⟨rfl, hB2⟩
    go_wp2
    go_ret
    exact ⟨rfl, HB1.out.trans (hB2.mono HB1.out.size)⟩
  have hN60 := HFB.out rfl
  go_wp2_with fail
  refine (liv_new 1000 _).mono ?_
  rintro e w2 ⟨p, rfl, h2⟩
  have H2 := Lib.hid (liv_setFuse n hn'.2 h2)
  clear h2
  go_wp2_with fail
  refine (H2.out).mono ?_
  rintro e w3 ⟨rfl, h3⟩
  have H3 := Lib.hid h3
  have HAT : Hid (At n { newM 1000 with fuse := max n (-1) } 0 0) := ⟨rfl, rfl, by simp only; omega, by omega, fun h => by cases h⟩
  have HL0 : Hid (({ newM 1000 with fuse := max n (-1) } : DiskM).L.length = 0) := rfl
  clear h3 H2
  generalize ({ newM 1000 with fuse := max n (-1) } : DiskM) = d0 at *
  go_wp2
  go_loopw [6, 7, 28] (fun dn us i wr => ∃ (k done : Nat) (used : Int) (d : DiskM), k ≤ N ∧ i = .int .i64 k ∧ dn = .int .i64 done ∧ us = .int .i64 used ∧ done ≤ k ∧ Hid (d.L.length ≤ k) ∧ Hid (At n d done used) ∧ Hid (Liv (NewK w1) w1 wr p d)) (fun _ _ i _ => N - (intOf i).toNat)
  case atStart => exact ⟨0, 0, 0, d0, by omega, rfl, rfl, rfl, by omega, by unfold Hid; rw [HL0.out]; omega, HAT, H3⟩
  case round =>
    obtain ⟨k, done, used, d, hk, rfl, rfl, rfl, hdk, HD1, HAD, HL⟩ := hrel
    have HB2 : Hid (Below w1.heap.size w1 wr) := HL.out.frame (Nat.le_refl _) (fun i hi hk => by unfold NewK at hk; omega)
    by_cases hlt : k < N
    · have hkl : k < l.length := by have := HN.out; omega
      obtain ⟨b, off, rfl, hbl, hc0, hc1, hc2, hc3⟩ := ((HS.out.below HB1.out).below HB2.out).at hkl
      obtain ⟨f1, f2, f3⟩ := HF.out _ (List.getElem_mem hkl)
      have HDO := Lib.hid (fun W (h : Liv (NewK w1) w1 W p d) => do_any (w := W) l[k] (by unfold maxLen; omega) (by unfold maxLen; omega) f3 [] none 0 (Nat.le_refl _) (by decide) h (by have := HD1.out; omega) (Sl.nil _ _) (fun b hb hk => by unfold NewK at hk; omega))
      have HST1 := Lib.hid (step_len d l[k] [])
      have HOV : Hid (opV l[k] = .agg #[.int .i64 l[k].kind, .string (tx l[k].a), .string (tx l[k].b), .int .i64 l[k].n]) := rfl
      rw [HOV.out] at HDO
      clear f1 f2 f3
      have HLA : Hid (∀ o, Liv (NewK w1) w1 (wr.alloc o) p d) := fun o => HL.out.alloc o
      by_cases hkd : l[k].kind < 0 ∨ 4 < l[k].kind
      · generalize l[k].kind = x0 at *
        generalize tx l[k].a = x1 at *
        generalize tx l[k].b = x2 at *
        generalize l[k].n = x3 at *
        rcases hkd with hkd | hkd
        · go_wp2
          go_roundw
          case rel => exact ⟨k + 1, done, used, d, by omega, by go_num, rfl, rfl, by omega, (by have := HD1.out; unfold Hid; omega), HAD, HLA.out _⟩
          case measure => simp [intOf]; omega
        · have hkd2 : ¬ x0 < 0 := by omega
          go_wp2
          go_roundw
          case rel => exact ⟨k + 1, done, used, d, by omega, by go_num, rfl, rfl, by omega, (by have := HD1.out; unfold Hid; omega), HAD, HLA.out _⟩
          case measure => simp [intOf]; omega
      · have hk1 : ¬ l[k].kind < 0 := by omega
        have hk2 : ¬ 4 < l[k].kind := by omega
        rw [stepM_do (by omega) (by omega) []] at HDO HST1
        obtain ⟨g1, g2, g3, g4⟩ := HAD.out.go (by omega) l[k]
        have G1 := Lib.hid g1
        have G2 := Lib.hid g2
        have G3 := Lib.hid g3
        have G4 := Lib.hid g4
        clear g1 g2 g3 g4 hkd
        have hdn : Hid (∃ b, b = d.down) := ⟨_, rfl⟩
        have HDW : Hid (∀ W, Liv (NewK w1) w1 W p d → Calls Try.prog 29 #[pt p] W fun e w' => e = .returned (.bool d.down) ∧ w' = W) := fun W h => liv_down h
        generalize doM d l[k] = D at *
        generalize l[k].kind = x0 at *
        generalize tx l[k].a = x1 at *
        generalize tx l[k].b = x2 at *
        generalize l[k].n = x3 at *
        obtain ⟨dd, hdd⟩ : ∃ b, b = d.down := ⟨_, rfl⟩
        rw [← hdd] at HDW G1 G2
        clear hdn hdd
        go_wp2_with fail
        refine (HDW.out _ (HLA.out _)).mono ?_
        rintro e w4 ⟨rfl, rfl⟩
        go_wp2_with fail
        refine (HDO.out _ (HLA.out _)).mono ?_
        rintro e w5 ⟨rfl, h5⟩
        have H5 := Lib.hid h5
        have HUS := Lib.hid (liv_used h5)
        have HOP := Lib.hid (liv_ops h5)
        clear h5
        by_cases hE : D.2 = 0
        · have HA2 := Lib.hid (G3.out hE)
          have e1 := Lib.hid HA2.out.ops
          have hl2 := HA2.out.left
          rw [e1.out] at HOP
          cases dd
          · rw [hE]
            clear hE e1
            go_wp2_with fail
            refine (HUS.out).mono ?_
            rintro e w6 ⟨rfl, rfl⟩
            go_wp2_with fail
            refine (HOP.out).mono ?_
            rintro e w6 ⟨rfl, rfl⟩
            go_wp2_with fail
            refine (HUS.out).mono ?_
            rintro e w6 ⟨rfl, rfl⟩
            go_wp2
            go_roundw
            case rel => exact ⟨k + 1, done + 1, _, D.1, by omega, by go_num, by go_num, rfl, by omega, (by have := HD1.out; have := HST1.out; unfold Hid; omega), HA2, H5⟩
            case measure => simp [intOf]; omega
          · exact absurd (G1.out rfl) (by rw [hE]; decide)
        · have HA2 := Lib.hid (G4.out hE)
          have e1 := Lib.hid HA2.out.ops
          have e2 := Lib.hid HA2.out.used
          have hl2 := HA2.out.left
          rw [e1.out] at HOP
          rw [← e2.out] at HUS
          have hEb : (D.2 == 0) = false := by simpa using hE
          cases dd
          · by_cases hE5 : D.2 = 50
            · have hdn := G2.out rfl hE5
              rw [hE5]
              clear hE hEb hE5
              generalize D.2 = E2 at *
              subst hdn
              go_wp2_with fail
              refine (HOP.out).mono ?_
              rintro e w6 ⟨rfl, rfl⟩
              go_wp2_with fail
              refine (HUS.out).mono ?_
              rintro e w6 ⟨rfl, rfl⟩
              go_wp2
              go_roundw
              case rel => exact ⟨k + 1, done, used, D.1, by omega, by go_num, rfl, rfl, by omega, (by have := HD1.out; have := HST1.out; unfold Hid; omega), HA2, H5⟩
              case measure => simp [intOf]; omega
            · have hE5b : (D.2 == 50) = false := by simpa using hE5
              generalize D.2 = E2 at *
              go_wp2_with fail
              refine (HOP.out).mono ?_
              rintro e w6 ⟨rfl, rfl⟩
              go_wp2_with fail
              refine (HUS.out).mono ?_
              rintro e w6 ⟨rfl, rfl⟩
              go_wp2
              go_roundw
              case rel => exact ⟨k + 1, done, used, D.1, by omega, by go_num, rfl, rfl, by omega, (by have := HD1.out; have := HST1.out; unfold Hid; omega), HA2, H5⟩
              case measure => simp [intOf]; omega
          · have hE5 := G1.out rfl
            rw [hE5]
            clear hE hEb hE5
            generalize D.2 = E2 at *
            go_wp2_with fail
            refine (HOP.out).mono ?_
            rintro e w6 ⟨rfl, rfl⟩
            go_wp2_with fail
            refine (HUS.out).mono ?_
            rintro e w6 ⟨rfl, rfl⟩
            go_wp2
            go_roundw
            case rel => exact ⟨k + 1, done, used, D.1, by omega, by go_num, rfl, rfl, by omega, (by have := HD1.out; have := HST1.out; unfold Hid; omega), HA2, H5⟩
            case measure => simp [intOf]; omega
    · obtain rfl : k = N := by omega
      go_wp2_with fail
      refine (HAL.out _).mono ?_
      rintro e w3 ⟨rfl, h3⟩
      have HB3 := Lib.hid (HB1.out.trans ((HB2.out.trans (h3.mono HB2.out.size)).mono HB1.out.size))
      clear h3
      go_wp2
      go_ret
      exact ⟨rfl, HB3.out⟩

set_option maxRecDepth 100000 in
theorem lifted (os : Os) (started : os.Started) (H : Type) (enc : TypeId × Value → H) :
    ReturnsInHanded {} Try.checked os 6 .any (Rows.diskFuseSpec.pre6 enc Try.prog Try.f6 Rows.diskFuseRow.domain false) (Rows.diskFuseSpec.post enc Try.prog Try.f6 false true false false) := by
  refine returnsInHanded_of_change_sized (C := Try.checked) own started (by kernel_rfl) Try.func6
    (ChangeSpec.witness6 (enc := enc) (C := Try.checked) false ⟨#[], #[.slice none 0 0, .int .i64 0], []⟩ 8 (by kernel_rfl) (by kernel_rfl) (by kernel_rfl) (by kernel_rfl)) ?_
  intro W base args ds gs before hval0 hW hcnd hsz0 _
  have hval : ∀ (j : Nat) t v, Try.f6.params[j]? = some t → args[j]? = some v → Value.okWide Try.prog W .any base t v := hval0
  have hW' := hW
  have hlt := hW.lt
  obtain ⟨p, q, hA0, hV, rfl, hfz, hnd⟩ := hW
  have hA : DataW.TrodAll enc Try.prog W 0 (fun _ => true) true Try.f6.params.toList args.toList ds p := hA0
  rw [Try.params6] at hA hval
  obtain ⟨v0, vs0, d0, ds0, p0, q0, hargs, rfl, rfl, h0, r0⟩ := trodAll_cons hA
  obtain ⟨v1, vs1, d1, ds1, p1, q1, rfl, rfl, rfl, h1, r1⟩ := trodAll_cons r0
  obtain ⟨rfl, rfl, rfl⟩ := trodAll_nil r1
  obtain rfl : args = #[v0, v1] := by cases args; simp_all
  obtain ⟨rfl, rfl⟩ := trodVars_none hV
  obtain ⟨a0, c0, l0, rfl, s0, f0, m0⟩ := open_ops (hval 0 22 v0 rfl rfl) h0 (fun n hn => of_decide_eq_true (List.all_eq_true.1 hsz0 n (DataW.weights_mem_each (j := 0) (t := 22) (by kernel_rfl) rfl n hn)))
  obtain ⟨a1, rfl, -, -, w1⟩ := open_int Try.underlying3 (hval 1 3 v1 rfl rfl) h1
  refine (walk W a0 c0 l0 s0 f0 m0 a1 w1).mono fun e W' ⟨he, hb⟩ => ?_
  subst he
  exact ⟨_, rfl, law_post rfl hW' (fun ds h => by match ds, h with | [_, _], _ => rfl) (by kernel_rfl) (by kernel_rfl) (by kernel_rfl) hb⟩

theorem over : Rows.diskFuseRow.holds Try.pinned (OpenSpec.ofChange Rows.diskFuseSpec) :=
  OpenClaim.holds_of_wide 6 Try.f6 rfl rfl rfl rfl rfl rfl rfl ⟨rfl, rfl, rfl, rfl, rfl⟩ rfl rfl rfl rfl rfl (by kernel_rfl) Try.func6 (by kernel_rfl)
    (of_decide_eq_true (by kernel_rfl)) (by unfold Func.isWrapper; first | (rw [if_pos (by decide +kernel)]; kernel_rfl) | (rw [if_neg (by decide +kernel)]; exact ⟨rfl, rfl⟩))
    (fun os started H enc _ => lifted os started H enc)

theorem proved : Rows.DiskFuseSaid := over
end Go.Proofs.Ytammmhbkfdmbfaa.diskFuse
