/- Layer 10: what sessions stayed so far, in the program and in the document: contracts. -/
import Derived.Test.YtlgicjebaehgeaaBA5
import Derived.Test.YtlgicjebaehgeaaZ13
import Derived.Test.YtlgicjebaehgeaaZ10
namespace Go.Proofs.Ytlgicjebaehgeaa
open Go.RowKit Go.Sort Go.Proofs
set_option linter.unusedVariables false
set_option maxRecDepth 100000

theorem st_one (f t n s : Int) : ∀ u ∈ [Value.int .i64 f, .int .i64 t, .int .i64 n, .int .i64 s], u.oneCell' = true := by
  intro u hu
  simp only [List.mem_cons, List.mem_nil_iff, or_false] at hu
  rcases hu with rfl | rfl | rfl | rfl <;> rfl

set_option maxHeartbeats 4000000 in
theorem ostays_any (a : Option Addr) (c : Nat) (l : List OpM) (u : ByteArray) (t : Int) (w : World) (hr : OpSl w a l) (hl : l.length ≤ 1000) :
    Calls Try.prog 27 #[.slice a l.length c, .string u, .int .i64 t] w fun e w' => ∃ v, e = .returned v ∧ w'.ownsRow w.heap.size 44 4 v (staysO l u t).length (sts (staysO l u t)) ∧ Below w.heap.size w w' := by
  obtain ⟨i0, hi, hz0, hz1, hz2⟩ := info_parts infoStay
  have HR := Lib.hid hr
  have HST := Lib.hid (fun (x : OpM) W => stay_any x t W)
  have HNO := Lib.hid none_any
  have HSO := Lib.hid sort8_any
  have HFIN := Lib.hid (fun (m : List StM) (hp : m.Perm (rawO l u t)) (hs : m.Pairwise fun a b => ¬ ltSt b a) => stays_only hp hs)
  unfold opV stV stayO at HST
  clear hr
  generalize staysO l u t = G at *
  go_enter Try.func27, Try.ntmps27
  go_wp2
  go_loopw [7, 13] (fun v i wr => ∃ (j : Nat), j ≤ l.length ∧ i = .int .i64 j ∧ Hid (wr.ownsRow w.heap.size 44 4 v (rawO (l.take j) u t).length (sts (rawO (l.take j) u t))) ∧ Hid (Below w.heap.size w wr)) (fun _ i _ => l.length - (intOf i).toNat)
  case atStart => exact ⟨0, by omega, rfl, ⟨rfl, .inl ⟨rfl, rfl⟩⟩, Below.refl _ _⟩
  case round =>
    obtain ⟨j, hj, rfl, HO, HB⟩ := hrel
    by_cases hjl : j < l.length
    · obtain ⟨b, off, rfl, hbl, hc0, hc1, hc2, hc3⟩ := (HR.out.below HB.out).at_ hjl
      have HN := Lib.hid (rawO_next l u t j hjl)
      have hln : (rawO (l.take j) u t).length ≤ 1000 := by
        have h1 := rawO_len (l.take j) u t
        have h2 : (l.take j).length ≤ j := by simp; omega
        omega
      generalize rawO (l.take j) u t = M at *
      generalize l[j] = x at *
      have HX := Lib.hid (heap_alloc_new wr (.cells #[.int .i64 x.n, .string x.u, .int .i64 x.s, .int .i64 x.f] 31))
      have HSTX := 0; clear HSTX
      clear HSO HFIN
      by_cases hu : x.u = u
      · have q1 : (x.u.toList == u.toList) = true := by rw [hu]; exact txt_eq u
        have q2 : decide (x.u = u) = true := decide_eq_true hu
        by_cases hw : x.f < t
        · have HN2 : Hid (rawO (l.take (j + 1)) u t = M ++ [stayO x t]) := by
            have := HN.out
            rwa [if_pos (show stU u t x = true by unfold stU; rw [q2, decide_eq_true hw]; rfl)] at this
          have q3 : decide (t ≤ x.f) = false := decide_eq_false (by omega)
          have HNN : Hid (∀ W, Calls Try.prog 36 #[.agg #[.int .i64 x.f, .int .i64 t]] W fun e w' => e = .returned (.bool false) ∧ Below W.heap.size W w') := fun W => by
            have := HNO.out x.f t W
            rwa [q3] at this
          clear HN hu q2 hw q3 HNO
          go_wp2_with fail
          refine (HST.out x _).mono ?_
          rintro r w2 ⟨rfl, hB⟩
          have hb2 : Below wr.heap.size wr w2 := (below_one wr (.cells #[.int .i64 x.n, .string x.u, .int .i64 x.s, .int .i64 x.f] 31)).trans (hB.mono (by rw [size1]; omega))
          obtain ⟨d0, d1, d2, d3⟩ := cells4 ((hB.block _ (heap_lt HX.out)).trans HX.out)
          have hlt : wr.heap.size < w2.heap.size := by have := hB.size; rw [size1] at this; omega
          have HY := Lib.hid (heap_alloc_new w2 (.cells #[.int .i64 x.f, .int .i64 t, .int .i64 x.n, .int .i64 x.s] 44))
          obtain ⟨e0, e1, e2, e3⟩ := cells4 HY.out
          have hb3 := below_one w2 (.cells #[.int .i64 x.f, .int .i64 t, .int .i64 x.n, .int .i64 x.s] 44)
          have g1 : (w2.alloc (.cells #[.int .i64 x.f, .int .i64 t, .int .i64 x.n, .int .i64 x.s] 44)).cell? ⟨wr.heap.size, 1, none⟩ = some (.string x.u) := (hb3.cell (p := ⟨wr.heap.size, 1, none⟩) hlt).trans d1
          have HB3 : Hid (Below wr.heap.size wr (w2.alloc (.cells #[.int .i64 x.f, .int .i64 t, .int .i64 x.n, .int .i64 x.s] 44))) := hb2.trans (hb3.mono hb2.size)
          clear hB hb2 hb3 d0 d1 d2 d3 hc0 hc1 hc2 hc3
          go_wp2_with fail
          refine (HNN.out _).mono ?_
          rintro r w4 ⟨rfl, hB4⟩
          have hb4 : Below wr.heap.size wr w4 := HB3.out.trans (hB4.mono HB3.out.size)
          obtain ⟨m0, m1, m2, m3⟩ := cells4 ((hB4.block _ (heap_lt HY.out)).trans HY.out)
          have HO2 := Lib.hid (own_below HO.out (hb4.trans ((below_one w4 (.cells #[.int .i64 x.f, .int .i64 t, .int .i64 x.n, .int .i64 x.s] 44)).mono hb4.size)))
          have HB2 : Hid (Below w.heap.size w (w4.alloc (.cells #[.int .i64 x.f, .int .i64 t, .int .i64 x.n, .int .i64 x.s] 44))) := HB.out.trans ((hb4.trans ((below_one w4 _).mono hb4.size)).mono HB.out.size)
          have HS2 := Lib.hid HB2.out.size
          clear hB4 hb4 HX HY HB3 e0 e1 e2 e3 g1 hlt
          go_wp2_with (at_builtin; refine wpList_append_own _ rfl (.tmp 30) (.tmp 32) 63 rfl w.heap.size 44 i0 _ 4 32 Try.underlying63 hi hz0 hz1 hz2 rfl (by decide) _ _ _ rfl HO2.out ⟨w4.heap.size, 0, none⟩ 1 1 [.int .i64 x.f, .int .i64 t, .int .i64 x.n, .int .i64 x.s] rfl rfl (news_at _ _ _ _ rfl) (st_one _ _ _ _) (by unfold maxLen; omega) (by omega) HS2.out ?_; intro v' w5 hown' hgrow hiff)
          have HB5 := Lib.hid (app_below HB2.out HS2.out HO2.out hgrow)
          have HO5 := Lib.hid hown'
          clear hown' hgrow hiff HB2 HS2 HO2
          go_wp2
          go_roundw
          case rel => exact ⟨j + 1, by omega, by go_num, (by unfold Hid; rw [HN2.out, List.length_append, sts_snoc]; exact HO5.out), HB5⟩
          case measure => simp [intOf]; omega
        · have HN2 : Hid (rawO (l.take (j + 1)) u t = M) := by
            have := HN.out
            rwa [if_neg (show ¬ stU u t x = true by unfold stU; rw [decide_eq_false hw, Bool.and_false]; exact Bool.false_ne_true)] at this
          have q3 : decide (t ≤ x.f) = true := decide_eq_true (by omega)
          have HNN : Hid (∀ W, Calls Try.prog 36 #[.agg #[.int .i64 x.f, .int .i64 t]] W fun e w' => e = .returned (.bool true) ∧ Below W.heap.size W w') := fun W => by
            have := HNO.out x.f t W
            rwa [q3] at this
          clear HN hu q2 hw q3 HNO
          go_wp2_with fail
          refine (HST.out x _).mono ?_
          rintro r w2 ⟨rfl, hB⟩
          have hb2 : Below wr.heap.size wr w2 := (below_one wr (.cells #[.int .i64 x.n, .string x.u, .int .i64 x.s, .int .i64 x.f] 31)).trans (hB.mono (by rw [size1]; omega))
          obtain ⟨d0, d1, d2, d3⟩ := cells4 ((hB.block _ (heap_lt HX.out)).trans HX.out)
          have hlt : wr.heap.size < w2.heap.size := by have := hB.size; rw [size1] at this; omega
          have HY := Lib.hid (heap_alloc_new w2 (.cells #[.int .i64 x.f, .int .i64 t, .int .i64 x.n, .int .i64 x.s] 44))
          obtain ⟨e0, e1, e2, e3⟩ := cells4 HY.out
          have hb3 := below_one w2 (.cells #[.int .i64 x.f, .int .i64 t, .int .i64 x.n, .int .i64 x.s] 44)
          have g1 : (w2.alloc (.cells #[.int .i64 x.f, .int .i64 t, .int .i64 x.n, .int .i64 x.s] 44)).cell? ⟨wr.heap.size, 1, none⟩ = some (.string x.u) := (hb3.cell (p := ⟨wr.heap.size, 1, none⟩) hlt).trans d1
          have HB3 : Hid (Below wr.heap.size wr (w2.alloc (.cells #[.int .i64 x.f, .int .i64 t, .int .i64 x.n, .int .i64 x.s] 44))) := hb2.trans (hb3.mono hb2.size)
          clear hB hb2 hb3 d0 d1 d2 d3 hc0 hc1 hc2 hc3
          go_wp2_with fail
          refine (HNN.out _).mono ?_
          rintro r w4 ⟨rfl, hB4⟩
          have hb4 : Below wr.heap.size wr w4 := HB3.out.trans (hB4.mono HB3.out.size)
          have HO2 := Lib.hid (own_below HO.out hb4)
          have HB2 := Lib.hid (HB.out.trans (hb4.mono HB.out.size))
          clear hB4 hb4 HX HY HB3 e0 e1 e2 e3 g1 hlt
          go_wp2
          go_roundw
          case rel => exact ⟨j + 1, by omega, by go_num, (by unfold Hid; rw [HN2.out]; exact HO2.out), HB2⟩
          case measure => simp [intOf]; omega
      · have q1 := txt_ne hu
        have HN2 : Hid (rawO (l.take (j + 1)) u t = M) := by
          have := HN.out
          rwa [if_neg (show ¬ stU u t x = true by unfold stU; rw [decide_eq_false hu]; exact Bool.false_ne_true)] at this
        clear HN hu HNO
        go_wp2_with fail
        refine (HST.out x _).mono ?_
        rintro r w2 ⟨rfl, hB⟩
        have hb2 : Below wr.heap.size wr w2 := (below_one wr (.cells #[.int .i64 x.n, .string x.u, .int .i64 x.s, .int .i64 x.f] 31)).trans (hB.mono (by rw [size1]; omega))
        obtain ⟨d0, d1, d2, d3⟩ := cells4 ((hB.block _ (heap_lt HX.out)).trans HX.out)
        have hlt : wr.heap.size < w2.heap.size := by have := hB.size; rw [size1] at this; omega
        have HY := Lib.hid (heap_alloc_new w2 (.cells #[.int .i64 x.f, .int .i64 t, .int .i64 x.n, .int .i64 x.s] 44))
        obtain ⟨e0, e1, e2, e3⟩ := cells4 HY.out
        have hb3 := below_one w2 (.cells #[.int .i64 x.f, .int .i64 t, .int .i64 x.n, .int .i64 x.s] 44)
        have g1 : (w2.alloc (.cells #[.int .i64 x.f, .int .i64 t, .int .i64 x.n, .int .i64 x.s] 44)).cell? ⟨wr.heap.size, 1, none⟩ = some (.string x.u) := (hb3.cell (p := ⟨wr.heap.size, 1, none⟩) hlt).trans d1
        have HB3 : Hid (Below wr.heap.size wr (w2.alloc (.cells #[.int .i64 x.f, .int .i64 t, .int .i64 x.n, .int .i64 x.s] 44))) := hb2.trans (hb3.mono hb2.size)
        clear hB hb2 hb3 d0 d1 d2 d3 hc0 hc1 hc2 hc3
        have HO2 := Lib.hid (own_below HO.out HB3.out)
        have HB2 := Lib.hid (HB.out.trans (HB3.out.mono HB.out.size))
        clear HX HY HB3 e0 e1 e2 e3 hlt
        go_wp2
        go_roundw
        case rel => exact ⟨j + 1, by omega, by go_num, (by unfold Hid; rw [HN2.out]; exact HO2.out), HB2⟩
        case measure => simp [intOf]; omega
    · obtain rfl : j = l.length := by omega
      rw [List.take_of_length_le (Nat.le_refl _)] at HO
      have hrl := rawO_len l u t
      have HS := Lib.hid (HSO.out w.heap.size _ (rawO l u t) wr HB.out.size HO.out (by omega))
      clear HST HNO HSO
      go_wp2_with fail
      refine HS.out.mono ?_
      rintro e w5 ⟨rfl, m, hperm, hsort, ho5, hb5⟩
      have hm := HFIN.out m hperm hsort
      subst hm
      go_wp2
      go_ret
      exact ⟨_, rfl, ho5, HB.out.trans hb5⟩

set_option maxHeartbeats 4000000 in
theorem rstays_any (a : Option Addr) (c : Nat) (l : List OpM) (u : ByteArray) (t : Int) (w : World) (hr : OpSl w a l) (hl : l.length ≤ 1000) :
    Calls Try.prog 28 #[.slice a l.length c, .string u, .int .i64 t] w fun e w' => ∃ x q, e = .returned (.slice x (staysO l u t).length q) ∧ StSl w' x (staysO l u t) ∧ Below w.heap.size w w' := by
  have HR := Lib.hid hr
  have HST := Lib.hid (fun (x : OpM) W => rstay_any x t W)
  unfold opV stV stayO at HST
  clear hr
  go_enter Try.func28, Try.ntmps28
  go_wp2
  go_loopw [7, 8] (fun v i wr => ∃ (j : Nat) (x : Option Addr) (q : Nat), j ≤ l.length ∧ i = .int .i64 j ∧ v = .slice x (staysO (l.take j) u t).length q ∧ Hid (Wd x q (staysO (l.take j) u t).length) ∧ Hid (StSl wr x (staysO (l.take j) u t)) ∧ Hid (Below w.heap.size w wr)) (fun _ i _ => l.length - (intOf i).toNat)
  case atStart => exact ⟨0, none, 0, by omega, rfl, rfl, ⟨Nat.le_refl _, by unfold maxLen; omega, fun _ => rfl⟩, StSl.nil _ _, Below.refl _ _⟩
  case round =>
    obtain ⟨j, x0, q0, hj, rfl, rfl, HW, HS, HB⟩ := hrel
    by_cases hjl : j < l.length
    · obtain ⟨b, off, rfl, hbl, hc0, hc1, hc2, hc3⟩ := (HR.out.below HB.out).at_ hjl
      have HN := Lib.hid (staysO_next l u t j hjl)
      have HLN := Lib.hid (staysO_len l u t j)
      generalize staysO (l.take j) u t = M at *
      generalize l[j] = x at *
      by_cases hu : x.u = u
      · have q1 : (x.u.toList == u.toList) = true := by rw [hu]; exact txt_eq u
        have HN2 : Hid (staysO (l.take (j + 1)) u t = addS M (stayO x t)) := by
          have := HN.out
          rwa [if_pos hu] at this
        have HAD := Lib.hid (fun W (h : StSl W x0 M) => refAdd_more x0 q0 M (stayO x t) W h HW.out.nil (by have := HLN.out; omega) HW.out.le HW.out.max)
        unfold stV stayO at HAD
        unfold stayO at HN2
        dsimp only at HAD HN2
        generalize addS M ⟨x.f, t, x.n, x.s⟩ = M2 at *
        clear HN hu HLN HW
        go_wp2_with fail
        refine (HST.out x _).mono ?_
        rintro r w2 ⟨rfl, hB⟩
        have HB2 := Lib.hid (HB.out.trans (hB.mono HB.out.size))
        have HS2 := Lib.hid (HS.out.below hB)
        clear hB HST hc0 hc1 hc2 hc3
        go_wp2_with fail
        refine (HAD.out _ HS2.out).mono ?_
        rintro r w3 ⟨x1, q1', rfl, hs, hB, hw⟩
        have HB3 := Lib.hid (HB2.out.trans (hB.mono HB2.out.size))
        have HS3 := Lib.hid hs
        have HW3 := Lib.hid hw
        clear hs hw hB HAD
        go_wp2
        go_roundw
        case rel => exact ⟨j + 1, x1, q1', by omega, by go_num, by rw [HN2.out], (by unfold Hid; rw [HN2.out]; exact HW3.out), (by unfold Hid; rw [HN2.out]; exact HS3.out), HB3.out⟩
        case measure => simp [intOf]; omega
      · have q1 := txt_ne hu
        have HN2 : Hid (staysO (l.take (j + 1)) u t = M) := by
          have := HN.out
          rwa [if_neg hu] at this
        clear HN hu HLN HST
        go_wp2
        go_roundw
        case rel => exact ⟨j + 1, x0, q0, by omega, by go_num, by rw [HN2.out], (by unfold Hid; rw [HN2.out]; exact HW.out), (by unfold Hid; rw [HN2.out]; exact HS.out), HB.out⟩
        case measure => simp [intOf]; omega
    · obtain rfl : j = l.length := by omega
      rw [List.take_of_length_le (Nat.le_refl _)] at HS
      have HE : Hid (staysO (l.take l.length) u t = staysO l u t) := by unfold Hid; rw [List.take_of_length_le (Nat.le_refl _)]
      go_wp2
      go_ret
      exact ⟨x0, q0, (by rw [HE.out]; rfl), HS.out, HB.out⟩
end Go.Proofs.Ytlgicjebaehgeaa
