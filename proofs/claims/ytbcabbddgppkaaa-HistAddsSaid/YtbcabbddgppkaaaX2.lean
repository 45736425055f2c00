/- HistAdds: any row with any stay more is what the document says; what was given stays as it was; a rising row rises on, unless it had it; for all rows and stays. No condition. -/
import Derived.Test.YtbcabbddgppkaaaZ21
namespace Go.Proofs.Ytbcabbddgppkaaa.histAdds
open Go.ChangeShapes Go.WideShapes Go.ChangeAt Go.RowKit
open Go.ChangeMaps (open_string shut_string)
set_option linter.unusedVariables false
set_option maxRecDepth 100000

/-- the stay, the row that came in, the program's own of it, the row with one more, all else as it was -/
structure Ad (w : World) (s : StM) (a x y : Option Addr) (l m : List StM) (W : World) : Prop where
  s : W.heap[w.heap.size]? = some (.cells #[.int .i64 s.f, .int .i64 s.t, .int .i64 s.n, .int .i64 s.s] 47 (0, 0))
  a : StSl W a l
  x : StSl W x l
  y : StSl W y m
  frame : Below w.heap.size w W
theorem Ad.below {w W W' : World} {s : StM} {a x y : Option Addr} {l m : List StM} (h : Ad w s a x y l m W) (q : Below W.heap.size W W') : Ad w s a x y l m W' :=
  ⟨(q.block _ (heap_lt h.s)).trans h.s, h.a.below q, h.x.below q, h.y.below q, h.frame.trans (q.mono h.frame.size)⟩
theorem Ad.new {w : World} (s : StM) {a : Option Addr} {l : List StM} (h : StSl w a l) : Ad w s a a a l l (w.alloc (.cells #[.int .i64 s.f, .int .i64 s.t, .int .i64 s.n, .int .i64 s.s] 47)) := by
  have b1 := (Below.refl w.heap.size w).alloc (Nat.le_refl _) (.cells #[.int .i64 s.f, .int .i64 s.t, .int .i64 s.n, .int .i64 s.s] 47)
  exact ⟨heap_alloc_new w _, h.below b1, h.below b1, h.below b1, b1⟩
theorem Ad.lt {w W : World} {s : StM} {a x y : Option Addr} {l m : List StM} (h : Ad w s a x y l m W) : w.heap.size < W.heap.size := heap_lt h.s
theorem mem_next {l : List StM} {s : StM} {j : Nat} (h : j < l.length) : s ∈ l.take (j + 1) ↔ s ∈ l.take j ∨ l[j] = s := by
  rw [List.take_succ_eq_append_getElem h, List.mem_append, List.mem_singleton]
  exact or_congr Iff.rfl eq_comm

set_option maxHeartbeats 4000000 in
theorem walk (w : World) (a : Option Addr) (c : Nat) (l : List StM) (hs : StSl w a l) (hf : FitsT l) (hc : l.length ≤ c) (hcm : c ≤ maxLen) (hn : a = none → c = 0) (s : StM) (hs1 : I64 s.f) (hs2 : I64 s.t) :
    Calls Try.prog 7 #[.slice a l.length c, stV s] w fun e w' => e = .returned (.bool true) ∧ Below w.heap.size w w' := by
  have HAL := Lib.hid alive8_any
  have S0 := Lib.hid (Ad.new s hs)
  have HRR := Lib.hid (fun W (h : StSl W a l) hl => refRising_any a c l W h hl)
  have HRG := Lib.hid (fun y p W (h : StSl W y (addS l s)) hl => rising8_any y p (addS l s) W h hl)
  have HNS := Lib.hid (fun W (h : StSl W a l) hl => s_news a c l W h hl)
  have HN1 := Lib.hid (s_new s)
  have HAD := Lib.hid (fun x q W h1 h2 h3 h4 h5 => s_add x q l s W h1 h2 h3 h4 h5)
  have HRA := Lib.hid (fun W (h : StSl W a l) h3 => refAdd_any a c l s W h hn h3 hc hcm)
  have HOL := Lib.hid (fun x q m W (h : StSl W x m) h3 => s_olds x q m W h h3)
  have HSM := Lib.hid (fun x y p q m W h k hl => s_rsame x y p q m W h k hl)
  have hL := Lib.hid (addS_len l s)
  unfold stV at *
  clear hs hf hs1 hs2
  by_cases h1 : 60 < l.length
  · have hd1 : decide ((60 : Int) < (l.length : Int)) = true := decide_eq_true (by omega)
    clear hc hcm hn
    go_enter Try.func7, Try.ntmps7
    go_wp2_with fail
    refine (HAL.out _).mono ?_
    rintro e w1 ⟨rfl, hB⟩
    go_wp2
    go_ret
    exact ⟨rfl, S0.out.frame.trans (hB.mono S0.out.frame.size)⟩
  have hl1 : l.length ≤ 60 := by omega
  have hd1 : decide ((60 : Int) < (l.length : Int)) = false := decide_eq_false (by omega)
  have HHL := Lib.hid hl1
  have HBL : Hid (∀ y W W', Ad w s a y y l (addS l s) W → Below W.heap.size W W' → True) := fun _ _ _ _ _ => trivial
  clear HBL h1 hl1 hc hcm hn
  have HR : Hid (∃ b, b = decide (RiseS l) ∧ (b = true → RiseS l) ∧ ∀ W, StSl W a l → Calls Try.prog 35 #[.slice a l.length c] W fun e w' => e = .returned (.bool b) ∧ Below W.heap.size W w') := ⟨decide (RiseS l), rfl, of_decide_eq_true, fun W h => HRR.out W h (by have := HHL.out; omega)⟩
  obtain ⟨rb, hrb, hrise, hrc⟩ := HR.out
  have HRI := Lib.hid hrise
  have HRC := Lib.hid hrc
  clear hrb hrise hrc HR HRR
  go_enter Try.func7, Try.ntmps7
  go_wp2_with fail
  refine (HNS.out _ S0.out.a (by have := HHL.out; omega)).mono ?_
  rintro e w1 ⟨x, q, rfl, hq1, hq2, hq3, hx, hB1⟩
  have S1 : Hid (Ad w s a x a l l w1) := ⟨(S0.out.below hB1).s, (S0.out.below hB1).a, hx, (S0.out.below hB1).a, (S0.out.below hB1).frame⟩
  have HQ1 := Lib.hid hq1
  have HQ2 := Lib.hid hq2
  have HQ3 := Lib.hid hq3
  obtain ⟨c0, c1, c2, c3⟩ := cells4 S1.out.s
  clear hq1 hq2 hq3 hx hB1 S0 HNS
  go_wp2_with fail
  refine (HN1.out _).mono ?_
  rintro e w2 ⟨rfl, hB2⟩
  have S2 := Lib.hid (S1.out.below hB2)
  clear c0 c1 c2 c3 hB2 S1 HN1
  go_wp2_with fail
  refine (HAD.out x q _ S2.out.x HQ3.out (by have := HHL.out; omega) HQ1.out HQ2.out).mono ?_
  rintro e w3 ⟨y, p, rfl, hp1, hp2, hp3, hy, hB3⟩
  have S3 : Hid (Ad w s a x y l (addS l s) w3) := ⟨(S2.out.below hB3).s, (S2.out.below hB3).a, (S2.out.below hB3).x, hy, (S2.out.below hB3).frame⟩
  have K0 : Ad w s a x y l (addS l s) w3.drew := S3.out.below (Below.refl _ _).drew
  have HBL : Hid (∀ W W', Ad w s a x y l (addS l s) W → Below W.heap.size W W' → Ad w s a x y l (addS l s) W') := fun W W' h r => h.below r
  have HSC : Hid (∀ W, Ad w s a x y l (addS l s) W → W.cell? ⟨w.heap.size, 0, none⟩ = some (.int .i64 s.f) ∧ W.cell? ⟨w.heap.size, 1, none⟩ = some (.int .i64 s.t) ∧ W.cell? ⟨w.heap.size, 2, none⟩ = some (.int .i64 s.n) ∧ W.cell? ⟨w.heap.size, 3, none⟩ = some (.int .i64 s.s)) := fun W h => cells4 h.s
  clear hp1 hp2 hp3 hy hB3 S2 HAD HQ1 HQ2 HQ3 S3
  go_wp2_with fail
  go_region_held3 (fun W => W.cell? ⟨w.heap.size, 0, none⟩ = some (.int .i64 s.f) ∧ W.cell? ⟨w.heap.size, 1, none⟩ = some (.int .i64 s.t) ∧ W.cell? ⟨w.heap.size, 2, none⟩ = some (.int .i64 s.n) ∧ W.cell? ⟨w.heap.size, 3, none⟩ = some (.int .i64 s.s))
    (first |  with_reducible exact HSC.out _ K5 | with_reducible exact HSC.out _ K4 | with_reducible exact HSC.out _ K3 | with_reducible exact HSC.out _ K2 | with_reducible exact HSC.out _ K1 | with_reducible exact HSC.out _ K0 | assumption)
    (first | (have hseen := K4; clear hseen; go_at_call 37; refine (HSM.out x3 a q3 c l _ z4 K4.a (by have := HHL.out; omega)).mono ?_; rintro e v5 ⟨rfl, h5⟩; have K5 := HBL.out _ _ K4 h5) | (have hseen := K3; clear hseen; go_at_call 38; refine (HOL.out x q _ _ K3.x (by have := HHL.out; omega)).mono ?_; rintro e v4 ⟨x3, q3, rfl, z4, h4⟩; have K4 := HBL.out _ _ K3 h4) | (have hseen := K2; clear hseen; go_at_call 37; refine (HSM.out x1 x2 q1 q2 (addS l s) _ z3 z2 (by have := HHL.out; have := hL.out; omega)).mono ?_; rintro e v3 ⟨rfl, h3⟩; have K3 := HBL.out _ _ K2 h3) | (have hseen := K1; clear hseen; go_at_call 39; refine (HRA.out _ K1.a (by have := HHL.out; omega)).mono ?_; rintro e v2 ⟨x2, q2, rfl, z2, h2⟩; have K2 := HBL.out _ _ K1 h2; have z3 := StSl.below z1 h2) | (have hseen := K0; clear hseen; go_at_call 38; refine (HOL.out y p _ _ K0.y (by have := HHL.out; have := hL.out; omega)).mono ?_; rintro e v1 ⟨x1, q1, rfl, z1, h1⟩; have K1 := HBL.out _ _ K0 h1))
  have S5 := Lib.hid K5
  go_wp2_with fail
  refine (HRC.out _ S5.out.a).mono ?_
  rintro e w7 ⟨rfl, hB7⟩
  have S7 := Lib.hid (S5.out.below hB7)
  clear hB7 S5
  cases rb with
  | false =>
    go_wp2_with fail
    refine (HAL.out _).mono ?_
    rintro e w8 ⟨rfl, hB⟩
    go_wp2
    go_ret
    exact ⟨rfl, S7.out.frame.trans (hB.mono S7.out.frame.size)⟩
  | true =>
    have HRS := Lib.hid (addS_rise (s := s) (HRI.out rfl))
    clear HRI HRC HSC HBL
    go_wp2
    go_loopw [7, 40] (fun v i wr => ∃ (j : Nat), j ≤ l.length ∧ i = .int .i64 j ∧ v = .bool (decide (s ∈ l.take j)) ∧ Hid (Ad w s a x y l (addS l s) wr)) (fun _ i _ => l.length - (intOf i).toNat)
    case atStart => exact ⟨0, by omega, rfl, by simp, S7⟩
    case round =>
      obtain ⟨j, hj, rfl, rfl, HK⟩ := hrel
      have hl60 := HHL.out
      clear S7
      by_cases hjl : j < l.length
      · obtain ⟨b, off, rfl, hbl, d0, d1, d2, d3⟩ := HK.out.a.at_ hjl
        obtain ⟨c0, c1, c2, c3⟩ := cells4 HK.out.s
        have hgl := HK.out.lt
        have HM := Lib.hid (mem_next (s := s) hjl)
        have HX : Hid (∀ q o, Ad w s (some ⟨b, off, none⟩) x y l (addS l s) ((wr.alloc o).drewN q)) := fun q o => (HK.out.below ((Below.refl _ _).alloc (Nat.le_refl _) o)).below (Drew.below ⟨q, rfl⟩ _)
        have HX0 : Hid (∀ o, Ad w s (some ⟨b, off, none⟩) x y l (addS l s) (wr.alloc o)) := fun o => (HK.out.below ((Below.refl _ _).alloc (Nat.le_refl _) o))
        generalize l[j] = z at *
        generalize hgg : w.heap.size = g at *
        by_cases hb : s ∈ l.take j
        · have hd2 : decide (s ∈ l.take j) = true := decide_eq_true hb
          have HE : Hid (decide (s ∈ l.take (j + 1)) = true) := decide_eq_true (HM.out.2 (.inl hb))
          rw [hd2]
          clear hb hd2 HM
          go_wp2
          go_roundw
          case rel => exact ⟨j + 1, by omega, by go_num, by rw [HE.out], HX0.out _⟩
          case measure => simp [intOf]; omega
        · have hd2 : decide (s ∈ l.take j) = false := decide_eq_false hb
          rw [hd2]
          have HE : Hid (decide (s ∈ l.take (j + 1)) = decide (z = s)) := by
            unfold Hid
            by_cases hz : z = s
            · rw [decide_eq_true (HM.out.2 (.inr hz)), decide_eq_true hz]
            · rw [decide_eq_false (fun h => (HM.out.1 h).elim hb hz), decide_eq_false hz]
          clear hb hd2 HM
          obtain ⟨f1, t1, n1, s1⟩ := z
          have HEQ : Hid (∀ b1 : Bool, (b1 = (((f1 == s.f) && (t1 == s.t)) && ((n1 == s.n) && (s1 == s.s)))) → decide (s ∈ l.take (j + 1)) = b1) := fun b1 hb1 => by
            rw [HE.out, hb1, Bool.eq_iff_iff]
            simp only [decide_eq_true_eq, Bool.and_eq_true, beq_iff_eq, StM.iff]
            exact ⟨fun ⟨h0, h1, h2, h3⟩ => ⟨⟨h0, h1⟩, h2, h3⟩, fun ⟨⟨h0, h1⟩, h2, h3⟩ => ⟨h0, h1, h2, h3⟩⟩
          dsimp only at *
          clear HE
          generalize s.f = f2 at *
          generalize s.t = t2 at *
          generalize s.n = n2 at *
          generalize s.s = s2 at *
          by_cases h0 : f1 = f2
          · subst h0
            have he0 : (f1 == f1) = true := beq_self_eq_true _
            by_cases h1 : t1 = t2
            · subst h1
              have he1 : (t1 == t1) = true := beq_self_eq_true _
              by_cases h2 : n1 = n2
              · subst h2
                have he2 : (n1 == n1) = true := beq_self_eq_true _
                by_cases h3 : s1 = s2
                · subst h3
                  have he3 : (s1 == s1) = true := beq_self_eq_true _
                  have HB := Lib.hid (HEQ.out true (by rw [he0, he1, he2, he3]; rfl))
                  clear HEQ
                  go_wp2
                  go_roundw
                  case rel => exact ⟨j + 1, by omega, by go_num, by rw [HB.out], HX0.out _⟩
                  case measure => simp [intOf]; omega
                · have heq : (s1 == s2) = false := beq_eq_false_iff_ne.2 h3
                  have HB := Lib.hid (HEQ.out false (by rw [he0, he1, he2, heq]; rfl))
                  clear HEQ
                  go_wp2
                  go_roundw
                  case rel => exact ⟨j + 1, by omega, by go_num, by rw [HB.out], HX0.out _⟩
                  case measure => simp [intOf]; omega
              · have heq : (n1 == n2) = false := beq_eq_false_iff_ne.2 h2
                have HB := Lib.hid (HEQ.out false (by rw [he0, he1, heq]; rfl))
                clear HEQ
                go_wp2
                go_roundw
                case rel => exact ⟨j + 1, by omega, by go_num, by rw [HB.out], HX0.out _⟩
                case measure => simp [intOf]; omega
            · have heq : (t1 == t2) = false := beq_eq_false_iff_ne.2 h1
              have HB := Lib.hid (HEQ.out false (by rw [he0, heq]; rfl))
              clear HEQ
              go_wp2
              go_roundw
              case rel => exact ⟨j + 1, by omega, by go_num, by rw [HB.out], HX0.out _⟩
              case measure => simp [intOf]; omega
          · have heq : (f1 == f2) = false := beq_eq_false_iff_ne.2 h0
            have HB := Lib.hid (HEQ.out false (by rw [heq]; rfl))
            clear HEQ
            go_wp2
            go_roundw
            case rel => exact ⟨j + 1, by omega, by go_num, by rw [HB.out], HX0.out _⟩
            case measure => simp [intOf]; omega
      · obtain rfl : j = l.length := by omega
        have HTK : Hid (l.take l.length = l) := List.take_length
        rw [HTK.out]
        by_cases hm : s ∈ l
        · have HRF : Hid (decide (RiseS (addS l s)) = false) := decide_eq_false (fun h => HRS.out.1 h hm)
          rw [decide_eq_true hm]
          clear hm HRS
          go_wp2_with fail
          refine (HAL.out _).mono ?_
          rintro e w8 ⟨rfl, hB⟩
          have S8 := Lib.hid (HK.out.below hB)
          clear HK hB
          go_wp2_with fail
          refine (HRG.out y p _ S8.out.y (by have := HHL.out; have := hL.out; omega)).mono ?_
          rintro e w9 ⟨rfl, hB⟩
          rw [HRF.out]
          have S9 := Lib.hid (S8.out.below hB)
          clear S8 hB
          go_wp2
          go_ret
          exact ⟨rfl, S9.out.frame⟩
        · have HRF : Hid (decide (RiseS (addS l s)) = true) := decide_eq_true (HRS.out.2 hm)
          rw [decide_eq_false hm]
          clear hm HRS
          go_wp2_with fail
          refine (HAL.out _).mono ?_
          rintro e w8 ⟨rfl, hB⟩
          have S8 := Lib.hid (HK.out.below hB)
          clear HK hB
          go_wp2_with fail
          refine (HRG.out y p _ S8.out.y (by have := HHL.out; have := hL.out; omega)).mono ?_
          rintro e w9 ⟨rfl, hB⟩
          rw [HRF.out]
          have S9 := Lib.hid (S8.out.below hB)
          clear S8 hB
          go_wp2
          go_ret
          exact ⟨rfl, S9.out.frame⟩

set_option maxRecDepth 100000 in
theorem lifted (os : Os) (started : os.Started) (H : Type) (enc : TypeId × Value → H) :
    ReturnsInHanded {} Try.checked os 7 .any (Rows.histAddsSpec.pre6 enc Try.prog Try.f7 Rows.histAddsRow.domain false) (Rows.histAddsSpec.post enc Try.prog Try.f7 false true false false) := by
  refine returnsInHanded_of_change (C := Try.checked) own started (by kernel_rfl) Try.func7
    (ChangeSpec.witness6 (enc := enc) (C := Try.checked) false ⟨#[], #[.slice none 0 0, .agg #[.int .i64 0, .int .i64 0, .int .i64 0, .int .i64 0]], []⟩ 8 (by kernel_rfl) (by kernel_rfl) (by kernel_rfl) (by kernel_rfl)) ?_
  intro W base args ds gs before hval0 hW hcnd _
  have hval : ∀ (j : Nat) t v, Try.f7.params[j]? = some t → args[j]? = some v → Value.okWide Try.prog W .any base t v := hval0
  have hW' := hW
  have hlt := hW.lt
  obtain ⟨p, q, hA0, hV, rfl, hfz, hnd⟩ := hW
  have hA : DataW.TrodAll enc Try.prog W 0 (fun _ => true) true Try.f7.params.toList args.toList ds p := hA0
  rw [Try.params7] at hA hval
  obtain ⟨v0, vs0, d0, ds0, p0, q0, hargs, rfl, rfl, h0, r0⟩ := trodAll_cons hA
  obtain ⟨v1, vs1, d1, ds1, p1, q1, rfl, rfl, rfl, h1, r1⟩ := trodAll_cons r0
  obtain ⟨rfl, rfl, rfl⟩ := trodAll_nil r1
  obtain rfl : args = #[v0, v1] := by cases args; simp_all
  obtain ⟨a0, c0, l0, rfl, s0, f0, m0, n0, o0⟩ := open_stays (hval 0 49 v0 rfl rfl) h0
  obtain ⟨l1, rfl, f1, g1⟩ := open_stay (hval 1 47 v1 rfl rfl) h1
  refine (walk W a0 c0 l0 s0 f0 m0 n0 o0 l1 f1 g1).mono fun e W' ⟨he, hb⟩ => ?_
  subst he
  exact ⟨_, rfl, law_post rfl hW' (fun ds h => by match ds, h with | [_, _], _ => rfl) (by kernel_rfl) (by kernel_rfl) (by kernel_rfl) hb⟩

theorem over : Rows.histAddsRow.holds Try.pinned (OpenSpec.ofChange Rows.histAddsSpec) :=
  OpenClaim.holds_of_wide 7 Try.f7 rfl rfl rfl rfl rfl rfl rfl ⟨rfl, rfl, rfl, rfl, rfl⟩ rfl rfl rfl rfl rfl (by kernel_rfl) Try.func7 (by kernel_rfl)
    (of_decide_eq_true (by kernel_rfl)) (by unfold Func.isWrapper; first | (rw [if_pos (by decide +kernel)]; kernel_rfl) | (rw [if_neg (by decide +kernel)]; exact ⟨rfl, rfl⟩))
    (fun os started H enc _ => lifted os started H enc)

theorem proved : Rows.HistAddsSaid := over
end Go.Proofs.Ytbcabbddgppkaaa.histAdds
