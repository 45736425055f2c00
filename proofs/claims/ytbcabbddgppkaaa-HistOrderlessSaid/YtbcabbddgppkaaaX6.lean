/- HistOrderless: two stays that are added to a rising row make the same row, in either order; for all rows and stays. No condition. -/
import Derived.Test.YtbcabbddgppkaaaZ21
namespace Go.Proofs.Ytbcabbddgppkaaa.histOrderless
open Go.ChangeShapes Go.WideShapes Go.ChangeAt Go.RowKit
open Go.ChangeMaps (open_string shut_string)
set_option linter.unusedVariables false
set_option maxRecDepth 100000

/-- both stays, the row that came in and the program's own of it, all else as it was -/
structure Ol (w : World) (s o : StM) (a x : Option Addr) (l : List StM) (W : World) : Prop where
  s : W.heap[w.heap.size]? = some (.cells #[.int .i64 s.f, .int .i64 s.t, .int .i64 s.n, .int .i64 s.s] 47 (0, 0))
  o : W.heap[w.heap.size + 1]? = some (.cells #[.int .i64 o.f, .int .i64 o.t, .int .i64 o.n, .int .i64 o.s] 47 (0, 0))
  a : StSl W a l
  x : StSl W x l
  frame : Below w.heap.size w W
theorem Ol.below {w W W' : World} {s o : StM} {a x : Option Addr} {l : List StM} (h : Ol w s o a x l W) (q : Below W.heap.size W W') : Ol w s o a x l W' :=
  ⟨(q.block _ (heap_lt h.s)).trans h.s, (q.block _ (heap_lt h.o)).trans h.o, h.a.below q, h.x.below q, h.frame.trans (q.mono h.frame.size)⟩
theorem Ol.new {w : World} (s o : StM) {a : Option Addr} {l : List StM} (h : StSl w a l) : Ol w s o a a l ((w.alloc (.cells #[.int .i64 s.f, .int .i64 s.t, .int .i64 s.n, .int .i64 s.s] 47)).alloc (.cells #[.int .i64 o.f, .int .i64 o.t, .int .i64 o.n, .int .i64 o.s] 47)) := by
  have h1 := heap_alloc_new w (.cells #[.int .i64 s.f, .int .i64 s.t, .int .i64 s.n, .int .i64 s.s] 47)
  have b1 := (Below.refl w.heap.size w).alloc (Nat.le_refl _) (.cells #[.int .i64 s.f, .int .i64 s.t, .int .i64 s.n, .int .i64 s.s] 47)
  have z1 := size1 w (.cells #[.int .i64 s.f, .int .i64 s.t, .int .i64 s.n, .int .i64 s.s] 47)
  generalize w.alloc (.cells #[.int .i64 s.f, .int .i64 s.t, .int .i64 s.n, .int .i64 s.s] 47) = w1 at *
  have h2 := heap_alloc_new w1 (.cells #[.int .i64 o.f, .int .i64 o.t, .int .i64 o.n, .int .i64 o.s] 47)
  have b2 := (Below.refl w1.heap.size w1).alloc (Nat.le_refl _) (.cells #[.int .i64 o.f, .int .i64 o.t, .int .i64 o.n, .int .i64 o.s] 47)
  generalize w1.alloc (.cells #[.int .i64 o.f, .int .i64 o.t, .int .i64 o.n, .int .i64 o.s] 47) = w2 at *
  rw [z1] at h2
  exact ⟨(b2.block _ (heap_lt h1)).trans h1, h2, (h.below b1).below b2, (h.below b1).below b2, b1.trans (b2.mono (by omega))⟩

set_option maxHeartbeats 4000000 in
theorem walk (w : World) (a : Option Addr) (c : Nat) (l : List StM) (hs : StSl w a l) (hf : FitsT l) (hc : l.length ≤ c) (hcm : c ≤ maxLen) (hn : a = none → c = 0) (s : StM) (hs1 : I64 s.f) (hs2 : I64 s.t) (o : StM) (ho1 : I64 o.f) (ho2 : I64 o.t) :
    Calls Try.prog 11 #[.slice a l.length c, stV s, stV o] w fun e w' => e = .returned (.bool true) ∧ Below w.heap.size w w' := by
  have HAL := Lib.hid alive8_any
  have S0 := Lib.hid (Ol.new s o hs)
  have HRR := Lib.hid (fun W (h : StSl W a l) hl => refRising_any a c l W h hl)
  have HNS := Lib.hid (fun W (h : StSl W a l) hl => s_news a c l W h hl)
  have HN1 := Lib.hid (s_new s)
  have HN2 := Lib.hid (s_new o)
  have HAD := Lib.hid (fun x q m u W h1 h2 h3 h4 h5 => s_add x q m u W h1 h2 h3 h4 h5)
  have HSM := Lib.hid (fun x y p q m W h k hl => s_same x y p q m W h k hl)
  unfold stV at *
  clear hs hf hs1 hs2 ho1 ho2
  by_cases h1 : 60 < l.length
  · have hd1 : decide ((60 : Int) < (l.length : Int)) = true := decide_eq_true (by omega)
    clear hc hcm hn
    go_enter Try.func11, Try.ntmps11
    go_wp2_with fail
    refine (HAL.out _).mono ?_
    rintro e w1 ⟨rfl, hB⟩
    go_wp2
    go_ret
    exact ⟨rfl, S0.out.frame.trans (hB.mono S0.out.frame.size)⟩
  have hl1 : l.length ≤ 60 := by omega
  have hd1 : decide ((60 : Int) < (l.length : Int)) = false := decide_eq_false (by omega)
  by_cases h2 : RiseS l
  · have hcom := Lib.hid (fun u v => addS_comm (rise_sorted h2) u v)
    have hL1 := Lib.hid (fun u => addS_len l u)
    have hL2 := Lib.hid (fun u v => addS_len (addS l u) v)
    have HRT := Lib.hid (fun W (h : StSl W a l) => by have := HRR.out W h (by omega); rw [decide_eq_true h2] at this; exact this)
    have HHL := Lib.hid hl1
    clear HRR h2 h1 hl1 hc hcm hn
    go_enter Try.func11, Try.ntmps11
    go_wp2_with fail
    refine (HRT.out _ S0.out.a).mono ?_
    rintro e w1 ⟨rfl, hB1⟩
    have S1 := Lib.hid (S0.out.below hB1)
    clear S0 HRT
    go_wp2_with fail
    refine (HNS.out _ S1.out.a (by have := HHL.out; omega)).mono ?_
    rintro e w2 ⟨x, q, rfl, hq1, hq2, hq3, hx, hB2⟩
    have S2 : Hid (Ol w s o a x l w2) := ⟨(S1.out.below hB2).s, (S1.out.below hB2).o, (S1.out.below hB2).a, hx, (S1.out.below hB2).frame⟩
    have HBL : Hid (∀ W W', Ol w s o a x l W → Below W.heap.size W W' → Ol w s o a x l W') := fun W W' h r => h.below r
    have HSC : Hid (∀ W, Ol w s o a x l W → W.cell? ⟨w.heap.size, 0, none⟩ = some (.int .i64 s.f) ∧ W.cell? ⟨w.heap.size, 1, none⟩ = some (.int .i64 s.t) ∧ W.cell? ⟨w.heap.size, 2, none⟩ = some (.int .i64 s.n) ∧ W.cell? ⟨w.heap.size, 3, none⟩ = some (.int .i64 s.s) ∧ W.cell? ⟨w.heap.size + 1, 0, none⟩ = some (.int .i64 o.f) ∧ W.cell? ⟨w.heap.size + 1, 1, none⟩ = some (.int .i64 o.t) ∧ W.cell? ⟨w.heap.size + 1, 2, none⟩ = some (.int .i64 o.n) ∧ W.cell? ⟨w.heap.size + 1, 3, none⟩ = some (.int .i64 o.s)) := fun W h => by
      obtain ⟨a0, a1, a2, a3⟩ := cells4 h.s
      obtain ⟨b0, b1, b2, b3⟩ := cells4 h.o
      exact ⟨a0, a1, a2, a3, b0, b1, b2, b3⟩
    have HQ1 := Lib.hid hq1
    have HQ2 := Lib.hid hq2
    have HQ3 := Lib.hid hq3
    have K0 : Ol w s o a x l w2.drew := S2.out.below (Below.refl _ _).drew
    clear hq1 hq2 hq3 hx hB1 hB2 S1 HNS
    go_wp2_with fail
    go_region_held3 (fun W => W.cell? ⟨w.heap.size, 0, none⟩ = some (.int .i64 s.f) ∧ W.cell? ⟨w.heap.size, 1, none⟩ = some (.int .i64 s.t) ∧ W.cell? ⟨w.heap.size, 2, none⟩ = some (.int .i64 s.n) ∧ W.cell? ⟨w.heap.size, 3, none⟩ = some (.int .i64 s.s) ∧ W.cell? ⟨w.heap.size + 1, 0, none⟩ = some (.int .i64 o.f) ∧ W.cell? ⟨w.heap.size + 1, 1, none⟩ = some (.int .i64 o.t) ∧ W.cell? ⟨w.heap.size + 1, 2, none⟩ = some (.int .i64 o.n) ∧ W.cell? ⟨w.heap.size + 1, 3, none⟩ = some (.int .i64 o.s))
      (first |  with_reducible exact HSC.out _ K10 | with_reducible exact HSC.out _ K9 | with_reducible exact HSC.out _ K8 | with_reducible exact HSC.out _ K7 | with_reducible exact HSC.out _ K6 | with_reducible exact HSC.out _ K5 | with_reducible exact HSC.out _ K4 | with_reducible exact HSC.out _ K3 | with_reducible exact HSC.out _ K2 | with_reducible exact HSC.out _ K1 | with_reducible exact HSC.out _ K0 | assumption)
      (first | (have hseen := K9; clear hseen; go_at_call 29; refine (HAL.out _).mono ?_; rintro e v10 ⟨rfl, h10⟩; have K10 := HBL.out _ _ K9 h10) | (have hseen := K8; clear hseen; go_at_call 42; refine (HSM.out x2 x4 q2 q4 (addS (addS l s) o) _ z7 y3 (by have := HHL.out; have := hL1.out s; have := hL2.out s o; omega)).mono ?_; rintro e v9 ⟨rfl, h9⟩; have K9 := HBL.out _ _ K8 h9) | (have hseen := K7; clear hseen; go_at_call 36; refine (HAD.out x3 q3 (addS l o) s _ y2 n3 (by have := HHL.out; have := hL1.out o; omega) k3 m3).mono ?_; rintro e v8 ⟨x4, q4, hv4, k4, m4, n4, y3, h8⟩; have K8 := HBL.out _ _ K7 h8; rw [hcom.out o s] at hv4 y3; subst hv4; have z7 := StSl.below z6 h8) | (have hseen := K6; clear hseen; go_at_call 31; refine (HN1.out _).mono ?_; rintro e v7 ⟨rfl, h7⟩; have K7 := HBL.out _ _ K6 h7; have z6 := StSl.below z5 h7; have y2 := StSl.below y1 h7) | (have hseen := K5; clear hseen; go_at_call 36; refine (HAD.out x q l o _ K5.x HQ3.out (by have := HHL.out; omega) HQ1.out HQ2.out).mono ?_; rintro e v6 ⟨x3, q3, rfl, k3, m3, n3, y1, h6⟩; have K6 := HBL.out _ _ K5 h6; have z5 := StSl.below z4 h6) | (have hseen := K4; clear hseen; go_at_call 31; refine (HN2.out _).mono ?_; rintro e v5 ⟨rfl, h5⟩; have K5 := HBL.out _ _ K4 h5; have z4 := StSl.below z3 h5) | (have hseen := K3; clear hseen; go_at_call 36; refine (HAD.out x1 q1 (addS l s) o _ z2 n1 (by have := HHL.out; have := hL1.out s; omega) k1 m1).mono ?_; rintro e v4 ⟨x2, q2, rfl, k2, m2, n2, z3, h4⟩; have K4 := HBL.out _ _ K3 h4) | (have hseen := K2; clear hseen; go_at_call 31; refine (HN2.out _).mono ?_; rintro e v3 ⟨rfl, h3⟩; have K3 := HBL.out _ _ K2 h3; have z2 := StSl.below z1 h3) | (have hseen := K1; clear hseen; go_at_call 36; refine (HAD.out x q l s _ K1.x HQ3.out (by have := HHL.out; omega) HQ1.out HQ2.out).mono ?_; rintro e v2 ⟨x1, q1, rfl, k1, m1, n1, z1, h2⟩; have K2 := HBL.out _ _ K1 h2) | (have hseen := K0; clear hseen; go_at_call 31; refine (HN1.out _).mono ?_; rintro e v1 ⟨rfl, h1⟩; have K1 := HBL.out _ _ K0 h1))
    go_wp2
    go_ret
    exact ⟨rfl, K10.frame⟩
  · have HRF := Lib.hid (fun W (h : StSl W a l) => by have := HRR.out W h (by omega); rw [decide_eq_false h2] at this; exact this)
    clear HRR h2 h1 hl1 hc hcm hn
    go_enter Try.func11, Try.ntmps11
    go_wp2_with fail
    refine (HRF.out _ S0.out.a).mono ?_
    rintro e w1 ⟨rfl, hB1⟩
    have S1 := Lib.hid (S0.out.below hB1)
    clear S0 HRF hB1
    go_wp2_with fail
    refine (HAL.out _).mono ?_
    rintro e w2 ⟨rfl, hB⟩
    go_wp2
    go_ret
    exact ⟨rfl, S1.out.frame.trans (hB.mono S1.out.frame.size)⟩

set_option maxRecDepth 100000 in
theorem lifted (os : Os) (started : os.Started) (H : Type) (enc : TypeId × Value → H) :
    ReturnsInHanded {} Try.checked os 11 .any (Rows.histOrderlessSpec.pre6 enc Try.prog Try.f11 Rows.histOrderlessRow.domain false) (Rows.histOrderlessSpec.post enc Try.prog Try.f11 false true false false) := by
  refine returnsInHanded_of_change (C := Try.checked) own started (by kernel_rfl) Try.func11
    (ChangeSpec.witness6 (enc := enc) (C := Try.checked) false ⟨#[], #[.slice none 0 0, .agg #[.int .i64 0, .int .i64 0, .int .i64 0, .int .i64 0], .agg #[.int .i64 0, .int .i64 0, .int .i64 0, .int .i64 0]], []⟩ 8 (by kernel_rfl) (by kernel_rfl) (by kernel_rfl) (by kernel_rfl)) ?_
  intro W base args ds gs before hval0 hW hcnd _
  have hval : ∀ (j : Nat) t v, Try.f11.params[j]? = some t → args[j]? = some v → Value.okWide Try.prog W .any base t v := hval0
  have hW' := hW
  have hlt := hW.lt
  obtain ⟨p, q, hA0, hV, rfl, hfz, hnd⟩ := hW
  have hA : DataW.TrodAll enc Try.prog W 0 (fun _ => true) true Try.f11.params.toList args.toList ds p := hA0
  rw [Try.params11] at hA hval
  obtain ⟨v0, vs0, d0, ds0, p0, q0, hargs, rfl, rfl, h0, r0⟩ := trodAll_cons hA
  obtain ⟨v1, vs1, d1, ds1, p1, q1, rfl, rfl, rfl, h1, r1⟩ := trodAll_cons r0
  obtain ⟨v2, vs2, d2, ds2, p2, q2, rfl, rfl, rfl, h2, r2⟩ := trodAll_cons r1
  obtain ⟨rfl, rfl, rfl⟩ := trodAll_nil r2
  obtain rfl : args = #[v0, v1, v2] := by cases args; simp_all
  obtain ⟨a0, c0, l0, rfl, s0, f0, m0, n0, o0⟩ := open_stays (hval 0 49 v0 rfl rfl) h0
  obtain ⟨l1, rfl, f1, g1⟩ := open_stay (hval 1 47 v1 rfl rfl) h1
  obtain ⟨l2, rfl, f2, g2⟩ := open_stay (hval 2 47 v2 rfl rfl) h2
  refine (walk W a0 c0 l0 s0 f0 m0 n0 o0 l1 f1 g1 l2 f2 g2).mono fun e W' ⟨he, hb⟩ => ?_
  subst he
  exact ⟨_, rfl, law_post rfl hW' (fun ds h => by match ds, h with | [_, _, _], _ => rfl) (by kernel_rfl) (by kernel_rfl) (by kernel_rfl) hb⟩

theorem over : Rows.histOrderlessRow.holds Try.pinned (OpenSpec.ofChange Rows.histOrderlessSpec) :=
  OpenClaim.holds_of_wide 11 Try.f11 rfl rfl rfl rfl rfl rfl rfl ⟨rfl, rfl, rfl, rfl, rfl⟩ rfl rfl rfl rfl rfl (by kernel_rfl) Try.func11 (by kernel_rfl)
    (of_decide_eq_true (by kernel_rfl)) (by unfold Func.isWrapper; first | (rw [if_pos (by decide +kernel)]; kernel_rfl) | (rw [if_neg (by decide +kernel)]; exact ⟨rfl, rfl⟩))
    (fun os started H enc _ => lifted os started H enc)

theorem proved : Rows.HistOrderlessSaid := over
end Go.Proofs.Ytbcabbddgppkaaa.histOrderless
