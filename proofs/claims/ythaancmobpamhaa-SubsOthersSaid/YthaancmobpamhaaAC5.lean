/- SubsOthers: a grant, or a revoke, changes no period of another pair; for all rows, pairs and times. No condition. -/
import Derived.Test.YthaancmobpamhaaAB18
import Derived.Test.YthaancmobpamhaaAB2
namespace Go.Proofs.Ythaancmobpamhaa.subsOthers
open Go.ChangeShapes Go.WideShapes Go.ChangeAt Go.RowKit
open Go.ChangeMaps (open_string shut_string)
set_option linter.unusedVariables false
set_option maxRecDepth 100000

/-- both pairs, the row that came in, the program's own, all else as it was -/
structure Ot (w : World) (g h : Nat) (p u v t : ByteArray) (a x : Option Addr) (l : List EnM) (W : World) : Prop where
  p : PcAt W g p u
  q : PcAt W h v t
  a : EnSl W a l
  x : EnSl W x l
  frame : Below w.heap.size w W
theorem Ot.below {w W W' : World} {g h : Nat} {p u v t : ByteArray} {a x : Option Addr} {l : List EnM} (k : Ot w g h p u v t a x l W) (r : Below W.heap.size W W') : Ot w g h p u v t a x l W' :=
  ⟨k.p.below r, k.q.below r, k.a.below r, k.x.below r, k.frame.trans (r.mono k.frame.size)⟩
theorem Ot.cells {w W : World} {g h : Nat} {p u v t : ByteArray} {a x : Option Addr} {l : List EnM} (k : Ot w g h p u v t a x l W) : W.cell? ⟨g, 0, none⟩ = some (.string p) ∧ W.cell? ⟨g, 1, none⟩ = some (.string u) ∧ W.cell? ⟨h, 0, none⟩ = some (.string v) ∧ W.cell? ⟨h, 1, none⟩ = some (.string t) :=
  ⟨k.p.1, k.p.2.1, k.q.1, k.q.2.1⟩
theorem Ot.swap {w W : World} {g h : Nat} {p u v t : ByteArray} {a x : Option Addr} {l : List EnM} (k : Ot w g h p u v t a x l W) : Ot w h g v t p u a x l W := ⟨k.q, k.p, k.a, k.x, k.frame⟩
/-- two pairs laid one behind the other, behind another block -/
theorem Ot.lay {w : World} (p u v t : ByteArray) {a : Option Addr} {l : List EnM} (B : Obj) (h : EnSl w a l) : Ot w (w.heap.size + 1) (w.heap.size + 1 + 1) p u v t a a l ((((w.alloc B).alloc (.cells #[.string p, .string u] 24)).alloc (.cells #[.string v, .string t] 24)).drew) := by
  have b0 := below_one w B
  have z0 := size1 w B
  generalize w.alloc B = w0 at *
  have h1 := PcAt.new w0 p u 24
  have b1 := below_one w0 (.cells #[.string p, .string u] 24)
  have z1 := size1 w0 (.cells #[.string p, .string u] 24)
  generalize w0.alloc (.cells #[.string p, .string u] 24) = w1 at *
  have h2 := PcAt.new w1 v t 24
  have b2 := below_one w1 (.cells #[.string v, .string t] 24)
  generalize w1.alloc (.cells #[.string v, .string t] 24) = w2 at *
  rw [z0] at h1 z1
  rw [z1] at h2
  exact Ot.below (W := w2) ⟨h1.below b2, h2, ((h.below b0).below b1).below b2, ((h.below b0).below b1).below b2, (b0.trans (b1.mono (by omega))).trans (b2.mono (by omega))⟩ (Below.refl _ _).drew

set_option maxHeartbeats 8000000 in
theorem walk (w : World) (a : Option Addr) (c : Nat) (l : List EnM) (hs : EnSl w a l) (hf : FitsE l) (hc : l.length ≤ c) (hcm : c ≤ maxLen) (hn : a = none → c = 0) (p u v t : ByteArray) (hp : p.size ≤ maxLen) (hu : u.size ≤ maxLen) (hv : v.size ≤ maxLen) (ht : t.size ≤ maxLen) (n : Int) (hn64 : (Lit.int .i64 n).wf = true) :
    Calls Try.prog 7 #[.slice a l.length c, .agg #[.string p, .string u, .string v, .string t], .int .i64 n] w fun e w' => e = .returned (.bool true) ∧ Below w.heap.size w w' := by
  have HAL := Lib.hid alive_any
  have L1 := Lib.hid (fun B => Ot.lay p u v t B hs)
  have L2 := Lib.hid (fun B => (Ot.lay v t p u B hs).swap)
  by_cases h1 : 60 < l.length
  · have hd1 : decide ((60 : Int) < (l.length : Int)) = true := decide_eq_true (by omega)
    clear hs hf hc hcm hn hp hu hv ht hn64
    go_enter Try.func7, Try.ntmps7
    go_wp2_with fail
    go_region
    all_goals
      go_wp2_with fail
      refine (HAL.out _).mono ?_
      rintro e w1 ⟨rfl, hB⟩
      go_wp2
      go_ret
      first | exact ⟨rfl, (L1.out _).frame.trans (hB.mono (L1.out _).frame.size)⟩ | exact ⟨rfl, (L2.out _).frame.trans (hB.mono (L2.out _).frame.size)⟩
  have hd1 : decide ((60 : Int) < (l.length : Int)) = false := decide_eq_false (by omega)
  by_cases hpq : p = v ∧ u = t
  · have e1 : (p.toList == v.toList) = true := by rw [hpq.1]; exact str_eq v
    have e2 : (u.toList == t.toList) = true := by rw [hpq.2]; exact str_eq t
    clear hs hf hc hcm hn hp hu hv ht hn64 hpq
    go_enter Try.func7, Try.ntmps7
    go_wp2_with fail
    go_region
    · have S0 := L1.out (.cells #[.string p, .string u, .string v, .string t] 59)
      clear L1 L2
      generalize World.drew _ = W0 at *
      generalize w.heap.size + 1 + 1 = h at *
      generalize w.heap.size + 1 = g at *
      replace S0 := Lib.hid S0
      obtain ⟨c0, c1, c2, c3⟩ := S0.out.cells
      go_wp2_with fail
      refine (HAL.out _).mono ?_
      rintro e w1 ⟨rfl, hB⟩
      go_wp2
      go_ret
      exact ⟨rfl, S0.out.frame.trans (hB.mono S0.out.frame.size)⟩
    · have S0 := L2.out (.cells #[.string p, .string u, .string v, .string t] 59)
      clear L1 L2
      generalize World.drew _ = W0 at *
      generalize w.heap.size + 1 + 1 = g at *
      generalize w.heap.size + 1 = h at *
      replace S0 := Lib.hid S0
      obtain ⟨c0, c1, c2, c3⟩ := S0.out.cells
      go_wp2_with fail
      refine (HAL.out _).mono ?_
      rintro e w1 ⟨rfl, hB⟩
      go_wp2
      go_ret
      exact ⟨rfl, S0.out.frame.trans (hB.mono S0.out.frame.size)⟩
  have HL := Lib.hid (show l.length ≤ 60 by omega)
  have hcase : (p.toList == v.toList) = false ∨ ((p.toList == v.toList) = true ∧ (u.toList == t.toList) = false) := by
    by_cases h : p = v
    · right; exact ⟨by rw [h]; exact str_eq v, str_ne (fun k => hpq ⟨h, k⟩)⟩
    · left; exact str_ne h
  have HN := Lib.hid (fun W (h : EnSl W a l) => e_news a c l W h (by omega))
  have HPE := Lib.hid (fun x q W (h : EnSl W x l) => e_periods x q l v t W h (by omega))
  have HSS := Lib.hid (fun x y p q r W (h : SpSl W x r) (k : SpSl W y r) hl => c_same x y p q r W h k hl)
  cases hi : l.any (infE p u) with
  | true =>
    have HGR := Lib.hid (fun x q W (h : EnSl W x l) h1 h2 h3 => e_grant_no x q l p u n W h h1 (by omega) h2 h3 hi)
    have HRV := Lib.hid (fun x q W (h : EnSl W x l) h2 h3 => e_revoke x q l p u n W h (by omega) h2 h3 hi)
    have HP2 : Hid (∀ r, IsSet (HasL (perS l v t)) r → ∀ x q W, EnSl W x (revokeS l p u n) → Calls Try.prog 22 #[.slice x (revokeS l p u n).length q, .agg #[.string v, .string t]] W fun e w' => ∃ x q, e = .returned (.slice x r.length q) ∧ SpSl w' x r ∧ Below W.heap.size W w') := fun r hr x q W h => by
      rw [← per_revoke (a := n) hpq] at hr
      exact e_periods_r x q (revokeS l p u n) v t r W h hr (Nat.le_trans (revoke_len l p u n) (by omega))
    generalize revokeS l p u n = G at *
    clear hs hf hc hcm hn hp hu hv ht hn64 h1 hi hpq
    rcases hcase with e1 | ⟨e1, e2⟩
    · go_enter Try.func7, Try.ntmps7
      go_wp2_with fail
      go_region
      · have S0 := L1.out (.cells #[.string p, .string u, .string v, .string t] 59)
        clear L1 L2
        generalize World.drew _ = W0 at *
        generalize w.heap.size + 1 + 1 = h at *
        generalize w.heap.size + 1 = g at *
        replace S0 := Lib.hid S0
        obtain ⟨c0, c1, c2, c3⟩ := S0.out.cells
        go_wp2_with fail
        refine (HN.out _ S0.out.a).mono ?_
        rintro e w1 ⟨x, q, rfl, k1, m1, n1, z1, h1⟩
        have S1 : Hid (Ot w g h p u v t a x l w1) := ⟨S0.out.p.below h1, S0.out.q.below h1, S0.out.a.below h1, z1, S0.out.frame.trans (h1.mono S0.out.frame.size)⟩
        have KQ := Lib.hid k1
        have MQ := Lib.hid m1
        have NQ := Lib.hid n1
        clear S0 c0 c1 c2 c3 h1 z1 k1 m1 n1
        obtain ⟨c0, c1, c2, c3⟩ := S1.out.cells
        go_wp2_with fail
        refine (HPE.out x q _ S1.out.x).mono ?_
        rintro e w2 ⟨y, qy, r, rfl, hr, hrl, -, -, -, zy, h1⟩
        have S2 := Lib.hid (S1.out.below h1)
        clear S1 h1 c0 c1 c2 c3
        obtain ⟨c0, c1, c2, c3⟩ := S2.out.cells
        have HPR := Lib.hid (HP2.out r hr)
        have HRL := Lib.hid (show r.length ≤ 1000 by have := HL.out; omega)
        clear hr hrl
        go_wp2_with fail
        refine (HGR.out x q _ S2.out.x NQ.out KQ.out MQ.out).mono ?_
        rintro e w3 ⟨rfl, h1⟩
        have S3 := Lib.hid (S2.out.below h1)
        replace zy := zy.below h1
        clear S2 h1 c0 c1 c2 c3
        obtain ⟨c0, c1, c2, c3⟩ := S3.out.cells
        go_wp2_with fail
        refine (HRV.out x q _ S3.out.x KQ.out MQ.out).mono ?_
        rintro e w4 ⟨y2, q2, rfl, -, -, -, z2, h1⟩
        have S4 := Lib.hid (S3.out.below h1)
        replace zy := zy.below h1
        clear S3 h1 c0 c1 c2 c3
        obtain ⟨c0, c1, c2, c3⟩ := S4.out.cells
        go_wp2_with fail
        refine (HAL.out _).mono ?_
        rintro e w5 ⟨rfl, h1⟩
        have S5 := Lib.hid (S4.out.below h1)
        replace zy := zy.below h1
        replace z2 := z2.below h1
        clear S4 h1 c0 c1 c2 c3
        obtain ⟨c0, c1, c2, c3⟩ := S5.out.cells
        go_wp2_with fail
        refine (HPR.out y2 q2 _ z2).mono ?_
        rintro e w6 ⟨y3, q3, rfl, z3, h1⟩
        have S6 := Lib.hid (S5.out.below h1)
        replace zy := zy.below h1
        clear S5 h1 c0 c1 c2 c3
        obtain ⟨c0, c1, c2, c3⟩ := S6.out.cells
        go_wp2_with fail
        refine (HSS.out y3 y q3 qy r _ z3 zy HRL.out).mono ?_
        rintro e w7 ⟨rfl, h1⟩
        have S7 := Lib.hid (S6.out.below h1)
        clear S6 h1 c0 c1 c2 c3
        obtain ⟨c0, c1, c2, c3⟩ := S7.out.cells
        go_wp2
        go_ret
        exact ⟨rfl, S7.out.frame⟩
      · have S0 := L2.out (.cells #[.string p, .string u, .string v, .string t] 59)
        clear L1 L2
        generalize World.drew _ = W0 at *
        generalize w.heap.size + 1 + 1 = g at *
        generalize w.heap.size + 1 = h at *
        replace S0 := Lib.hid S0
        obtain ⟨c0, c1, c2, c3⟩ := S0.out.cells
        go_wp2_with fail
        refine (HN.out _ S0.out.a).mono ?_
        rintro e w1 ⟨x, q, rfl, k1, m1, n1, z1, h1⟩
        have S1 : Hid (Ot w g h p u v t a x l w1) := ⟨S0.out.p.below h1, S0.out.q.below h1, S0.out.a.below h1, z1, S0.out.frame.trans (h1.mono S0.out.frame.size)⟩
        have KQ := Lib.hid k1
        have MQ := Lib.hid m1
        have NQ := Lib.hid n1
        clear S0 c0 c1 c2 c3 h1 z1 k1 m1 n1
        obtain ⟨c0, c1, c2, c3⟩ := S1.out.cells
        go_wp2_with fail
        refine (HPE.out x q _ S1.out.x).mono ?_
        rintro e w2 ⟨y, qy, r, rfl, hr, hrl, -, -, -, zy, h1⟩
        have S2 := Lib.hid (S1.out.below h1)
        clear S1 h1 c0 c1 c2 c3
        obtain ⟨c0, c1, c2, c3⟩ := S2.out.cells
        have HPR := Lib.hid (HP2.out r hr)
        have HRL := Lib.hid (show r.length ≤ 1000 by have := HL.out; omega)
        clear hr hrl
        go_wp2_with fail
        refine (HGR.out x q _ S2.out.x NQ.out KQ.out MQ.out).mono ?_
        rintro e w3 ⟨rfl, h1⟩
        have S3 := Lib.hid (S2.out.below h1)
        replace zy := zy.below h1
        clear S2 h1 c0 c1 c2 c3
        obtain ⟨c0, c1, c2, c3⟩ := S3.out.cells
        go_wp2_with fail
        refine (HRV.out x q _ S3.out.x KQ.out MQ.out).mono ?_
        rintro e w4 ⟨y2, q2, rfl, -, -, -, z2, h1⟩
        have S4 := Lib.hid (S3.out.below h1)
        replace zy := zy.below h1
        clear S3 h1 c0 c1 c2 c3
        obtain ⟨c0, c1, c2, c3⟩ := S4.out.cells
        go_wp2_with fail
        refine (HAL.out _).mono ?_
        rintro e w5 ⟨rfl, h1⟩
        have S5 := Lib.hid (S4.out.below h1)
        replace zy := zy.below h1
        replace z2 := z2.below h1
        clear S4 h1 c0 c1 c2 c3
        obtain ⟨c0, c1, c2, c3⟩ := S5.out.cells
        go_wp2_with fail
        refine (HPR.out y2 q2 _ z2).mono ?_
        rintro e w6 ⟨y3, q3, rfl, z3, h1⟩
        have S6 := Lib.hid (S5.out.below h1)
        replace zy := zy.below h1
        clear S5 h1 c0 c1 c2 c3
        obtain ⟨c0, c1, c2, c3⟩ := S6.out.cells
        go_wp2_with fail
        refine (HSS.out y3 y q3 qy r _ z3 zy HRL.out).mono ?_
        rintro e w7 ⟨rfl, h1⟩
        have S7 := Lib.hid (S6.out.below h1)
        clear S6 h1 c0 c1 c2 c3
        obtain ⟨c0, c1, c2, c3⟩ := S7.out.cells
        go_wp2
        go_ret
        exact ⟨rfl, S7.out.frame⟩
    · go_enter Try.func7, Try.ntmps7
      go_wp2_with fail
      go_region
      · have S0 := L1.out (.cells #[.string p, .string u, .string v, .string t] 59)
        clear L1 L2
        generalize World.drew _ = W0 at *
        generalize w.heap.size + 1 + 1 = h at *
        generalize w.heap.size + 1 = g at *
        replace S0 := Lib.hid S0
        obtain ⟨c0, c1, c2, c3⟩ := S0.out.cells
        go_wp2_with fail
        refine (HN.out _ S0.out.a).mono ?_
        rintro e w1 ⟨x, q, rfl, k1, m1, n1, z1, h1⟩
        have S1 : Hid (Ot w g h p u v t a x l w1) := ⟨S0.out.p.below h1, S0.out.q.below h1, S0.out.a.below h1, z1, S0.out.frame.trans (h1.mono S0.out.frame.size)⟩
        have KQ := Lib.hid k1
        have MQ := Lib.hid m1
        have NQ := Lib.hid n1
        clear S0 c0 c1 c2 c3 h1 z1 k1 m1 n1
        obtain ⟨c0, c1, c2, c3⟩ := S1.out.cells
        go_wp2_with fail
        refine (HPE.out x q _ S1.out.x).mono ?_
        rintro e w2 ⟨y, qy, r, rfl, hr, hrl, -, -, -, zy, h1⟩
        have S2 := Lib.hid (S1.out.below h1)
        clear S1 h1 c0 c1 c2 c3
        obtain ⟨c0, c1, c2, c3⟩ := S2.out.cells
        have HPR := Lib.hid (HP2.out r hr)
        have HRL := Lib.hid (show r.length ≤ 1000 by have := HL.out; omega)
        clear hr hrl
        go_wp2_with fail
        refine (HGR.out x q _ S2.out.x NQ.out KQ.out MQ.out).mono ?_
        rintro e w3 ⟨rfl, h1⟩
        have S3 := Lib.hid (S2.out.below h1)
        replace zy := zy.below h1
        clear S2 h1 c0 c1 c2 c3
        obtain ⟨c0, c1, c2, c3⟩ := S3.out.cells
        go_wp2_with fail
        refine (HRV.out x q _ S3.out.x KQ.out MQ.out).mono ?_
        rintro e w4 ⟨y2, q2, rfl, -, -, -, z2, h1⟩
        have S4 := Lib.hid (S3.out.below h1)
        replace zy := zy.below h1
        clear S3 h1 c0 c1 c2 c3
        obtain ⟨c0, c1, c2, c3⟩ := S4.out.cells
        go_wp2_with fail
        refine (HAL.out _).mono ?_
        rintro e w5 ⟨rfl, h1⟩
        have S5 := Lib.hid (S4.out.below h1)
        replace zy := zy.below h1
        replace z2 := z2.below h1
        clear S4 h1 c0 c1 c2 c3
        obtain ⟨c0, c1, c2, c3⟩ := S5.out.cells
        go_wp2_with fail
        refine (HPR.out y2 q2 _ z2).mono ?_
        rintro e w6 ⟨y3, q3, rfl, z3, h1⟩
        have S6 := Lib.hid (S5.out.below h1)
        replace zy := zy.below h1
        clear S5 h1 c0 c1 c2 c3
        obtain ⟨c0, c1, c2, c3⟩ := S6.out.cells
        go_wp2_with fail
        refine (HSS.out y3 y q3 qy r _ z3 zy HRL.out).mono ?_
        rintro e w7 ⟨rfl, h1⟩
        have S7 := Lib.hid (S6.out.below h1)
        clear S6 h1 c0 c1 c2 c3
        obtain ⟨c0, c1, c2, c3⟩ := S7.out.cells
        go_wp2
        go_ret
        exact ⟨rfl, S7.out.frame⟩
      · have S0 := L2.out (.cells #[.string p, .string u, .string v, .string t] 59)
        clear L1 L2
        generalize World.drew _ = W0 at *
        generalize w.heap.size + 1 + 1 = g at *
        generalize w.heap.size + 1 = h at *
        replace S0 := Lib.hid S0
        obtain ⟨c0, c1, c2, c3⟩ := S0.out.cells
        go_wp2_with fail
        refine (HN.out _ S0.out.a).mono ?_
        rintro e w1 ⟨x, q, rfl, k1, m1, n1, z1, h1⟩
        have S1 : Hid (Ot w g h p u v t a x l w1) := ⟨S0.out.p.below h1, S0.out.q.below h1, S0.out.a.below h1, z1, S0.out.frame.trans (h1.mono S0.out.frame.size)⟩
        have KQ := Lib.hid k1
        have MQ := Lib.hid m1
        have NQ := Lib.hid n1
        clear S0 c0 c1 c2 c3 h1 z1 k1 m1 n1
        obtain ⟨c0, c1, c2, c3⟩ := S1.out.cells
        go_wp2_with fail
        refine (HPE.out x q _ S1.out.x).mono ?_
        rintro e w2 ⟨y, qy, r, rfl, hr, hrl, -, -, -, zy, h1⟩
        have S2 := Lib.hid (S1.out.below h1)
        clear S1 h1 c0 c1 c2 c3
        obtain ⟨c0, c1, c2, c3⟩ := S2.out.cells
        have HPR := Lib.hid (HP2.out r hr)
        have HRL := Lib.hid (show r.length ≤ 1000 by have := HL.out; omega)
        clear hr hrl
        go_wp2_with fail
        refine (HGR.out x q _ S2.out.x NQ.out KQ.out MQ.out).mono ?_
        rintro e w3 ⟨rfl, h1⟩
        have S3 := Lib.hid (S2.out.below h1)
        replace zy := zy.below h1
        clear S2 h1 c0 c1 c2 c3
        obtain ⟨c0, c1, c2, c3⟩ := S3.out.cells
        go_wp2_with fail
        refine (HRV.out x q _ S3.out.x KQ.out MQ.out).mono ?_
        rintro e w4 ⟨y2, q2, rfl, -, -, -, z2, h1⟩
        have S4 := Lib.hid (S3.out.below h1)
        replace zy := zy.below h1
        clear S3 h1 c0 c1 c2 c3
        obtain ⟨c0, c1, c2, c3⟩ := S4.out.cells
        go_wp2_with fail
        refine (HAL.out _).mono ?_
        rintro e w5 ⟨rfl, h1⟩
        have S5 := Lib.hid (S4.out.below h1)
        replace zy := zy.below h1
        replace z2 := z2.below h1
        clear S4 h1 c0 c1 c2 c3
        obtain ⟨c0, c1, c2, c3⟩ := S5.out.cells
        go_wp2_with fail
        refine (HPR.out y2 q2 _ z2).mono ?_
        rintro e w6 ⟨y3, q3, rfl, z3, h1⟩
        have S6 := Lib.hid (S5.out.below h1)
        replace zy := zy.below h1
        clear S5 h1 c0 c1 c2 c3
        obtain ⟨c0, c1, c2, c3⟩ := S6.out.cells
        go_wp2_with fail
        refine (HSS.out y3 y q3 qy r _ z3 zy HRL.out).mono ?_
        rintro e w7 ⟨rfl, h1⟩
        have S7 := Lib.hid (S6.out.below h1)
        clear S6 h1 c0 c1 c2 c3
        obtain ⟨c0, c1, c2, c3⟩ := S7.out.cells
        go_wp2
        go_ret
        exact ⟨rfl, S7.out.frame⟩
  | false =>
    have HGR := Lib.hid (fun x q W (h : EnSl W x l) h1 h2 h3 => e_grant x q l p u n W h h1 (by omega) h2 h3 hi)
    have HRV := Lib.hid (fun x q W (h : EnSl W x l) h2 h3 => e_revoke_no x q l p u n W h (by omega) h2 h3 hi)
    have HP2 : Hid (∀ r, IsSet (HasL (perS l v t)) r → ∀ x q W, EnSl W x (grantS l (mkE p u n)) → Calls Try.prog 22 #[.slice x (grantS l (mkE p u n)).length q, .agg #[.string v, .string t]] W fun e w' => ∃ x q, e = .returned (.slice x r.length q) ∧ SpSl w' x r ∧ Below W.heap.size W w') := fun r hr x q W h => by
      rw [← per_grant (a := n) hpq] at hr
      exact e_periods_r x q (grantS l (mkE p u n)) v t r W h hr (by rw [grant_len]; omega)
    generalize grantS l (mkE p u n) = G at *
    clear hs hf hc hcm hn hp hu hv ht hn64 h1 hi hpq
    rcases hcase with e1 | ⟨e1, e2⟩
    · go_enter Try.func7, Try.ntmps7
      go_wp2_with fail
      go_region
      · have S0 := L1.out (.cells #[.string p, .string u, .string v, .string t] 59)
        clear L1 L2
        generalize World.drew _ = W0 at *
        generalize w.heap.size + 1 + 1 = h at *
        generalize w.heap.size + 1 = g at *
        replace S0 := Lib.hid S0
        obtain ⟨c0, c1, c2, c3⟩ := S0.out.cells
        go_wp2_with fail
        refine (HN.out _ S0.out.a).mono ?_
        rintro e w1 ⟨x, q, rfl, k1, m1, n1, z1, h1⟩
        have S1 : Hid (Ot w g h p u v t a x l w1) := ⟨S0.out.p.below h1, S0.out.q.below h1, S0.out.a.below h1, z1, S0.out.frame.trans (h1.mono S0.out.frame.size)⟩
        have KQ := Lib.hid k1
        have MQ := Lib.hid m1
        have NQ := Lib.hid n1
        clear S0 c0 c1 c2 c3 h1 z1 k1 m1 n1
        obtain ⟨c0, c1, c2, c3⟩ := S1.out.cells
        go_wp2_with fail
        refine (HPE.out x q _ S1.out.x).mono ?_
        rintro e w2 ⟨y, qy, r, rfl, hr, hrl, -, -, -, zy, h1⟩
        have S2 := Lib.hid (S1.out.below h1)
        clear S1 h1 c0 c1 c2 c3
        obtain ⟨c0, c1, c2, c3⟩ := S2.out.cells
        have HPR := Lib.hid (HP2.out r hr)
        have HRL := Lib.hid (show r.length ≤ 1000 by have := HL.out; omega)
        clear hr hrl
        go_wp2_with fail
        refine (HGR.out x q _ S2.out.x NQ.out KQ.out MQ.out).mono ?_
        rintro e w3 ⟨y2, q2, rfl, -, -, -, z2, h1⟩
        have S3 := Lib.hid (S2.out.below h1)
        replace zy := zy.below h1
        clear S2 h1 c0 c1 c2 c3
        obtain ⟨c0, c1, c2, c3⟩ := S3.out.cells
        go_wp2_with fail
        refine (HRV.out x q _ S3.out.x KQ.out MQ.out).mono ?_
        rintro e w4 ⟨rfl, h1⟩
        have S4 := Lib.hid (S3.out.below h1)
        replace zy := zy.below h1
        replace z2 := z2.below h1
        clear S3 h1 c0 c1 c2 c3
        obtain ⟨c0, c1, c2, c3⟩ := S4.out.cells
        go_wp2_with fail
        refine (HAL.out _).mono ?_
        rintro e w5 ⟨rfl, h1⟩
        have S5 := Lib.hid (S4.out.below h1)
        replace zy := zy.below h1
        replace z2 := z2.below h1
        clear S4 h1 c0 c1 c2 c3
        obtain ⟨c0, c1, c2, c3⟩ := S5.out.cells
        go_wp2_with fail
        refine (HPR.out y2 q2 _ z2).mono ?_
        rintro e w6 ⟨y3, q3, rfl, z3, h1⟩
        have S6 := Lib.hid (S5.out.below h1)
        replace zy := zy.below h1
        clear S5 h1 c0 c1 c2 c3
        obtain ⟨c0, c1, c2, c3⟩ := S6.out.cells
        go_wp2_with fail
        refine (HSS.out y3 y q3 qy r _ z3 zy HRL.out).mono ?_
        rintro e w7 ⟨rfl, h1⟩
        have S7 := Lib.hid (S6.out.below h1)
        clear S6 h1 c0 c1 c2 c3
        obtain ⟨c0, c1, c2, c3⟩ := S7.out.cells
        go_wp2
        go_ret
        exact ⟨rfl, S7.out.frame⟩
      · have S0 := L2.out (.cells #[.string p, .string u, .string v, .string t] 59)
        clear L1 L2
        generalize World.drew _ = W0 at *
        generalize w.heap.size + 1 + 1 = g at *
        generalize w.heap.size + 1 = h at *
        replace S0 := Lib.hid S0
        obtain ⟨c0, c1, c2, c3⟩ := S0.out.cells
        go_wp2_with fail
        refine (HN.out _ S0.out.a).mono ?_
        rintro e w1 ⟨x, q, rfl, k1, m1, n1, z1, h1⟩
        have S1 : Hid (Ot w g h p u v t a x l w1) := ⟨S0.out.p.below h1, S0.out.q.below h1, S0.out.a.below h1, z1, S0.out.frame.trans (h1.mono S0.out.frame.size)⟩
        have KQ := Lib.hid k1
        have MQ := Lib.hid m1
        have NQ := Lib.hid n1
        clear S0 c0 c1 c2 c3 h1 z1 k1 m1 n1
        obtain ⟨c0, c1, c2, c3⟩ := S1.out.cells
        go_wp2_with fail
        refine (HPE.out x q _ S1.out.x).mono ?_
        rintro e w2 ⟨y, qy, r, rfl, hr, hrl, -, -, -, zy, h1⟩
        have S2 := Lib.hid (S1.out.below h1)
        clear S1 h1 c0 c1 c2 c3
        obtain ⟨c0, c1, c2, c3⟩ := S2.out.cells
        have HPR := Lib.hid (HP2.out r hr)
        have HRL := Lib.hid (show r.length ≤ 1000 by have := HL.out; omega)
        clear hr hrl
        go_wp2_with fail
        refine (HGR.out x q _ S2.out.x NQ.out KQ.out MQ.out).mono ?_
        rintro e w3 ⟨y2, q2, rfl, -, -, -, z2, h1⟩
        have S3 := Lib.hid (S2.out.below h1)
        replace zy := zy.below h1
        clear S2 h1 c0 c1 c2 c3
        obtain ⟨c0, c1, c2, c3⟩ := S3.out.cells
        go_wp2_with fail
        refine (HRV.out x q _ S3.out.x KQ.out MQ.out).mono ?_
        rintro e w4 ⟨rfl, h1⟩
        have S4 := Lib.hid (S3.out.below h1)
        replace zy := zy.below h1
        replace z2 := z2.below h1
        clear S3 h1 c0 c1 c2 c3
        obtain ⟨c0, c1, c2, c3⟩ := S4.out.cells
        go_wp2_with fail
        refine (HAL.out _).mono ?_
        rintro e w5 ⟨rfl, h1⟩
        have S5 := Lib.hid (S4.out.below h1)
        replace zy := zy.below h1
        replace z2 := z2.below h1
        clear S4 h1 c0 c1 c2 c3
        obtain ⟨c0, c1, c2, c3⟩ := S5.out.cells
        go_wp2_with fail
        refine (HPR.out y2 q2 _ z2).mono ?_
        rintro e w6 ⟨y3, q3, rfl, z3, h1⟩
        have S6 := Lib.hid (S5.out.below h1)
        replace zy := zy.below h1
        clear S5 h1 c0 c1 c2 c3
        obtain ⟨c0, c1, c2, c3⟩ := S6.out.cells
        go_wp2_with fail
        refine (HSS.out y3 y q3 qy r _ z3 zy HRL.out).mono ?_
        rintro e w7 ⟨rfl, h1⟩
        have S7 := Lib.hid (S6.out.below h1)
        clear S6 h1 c0 c1 c2 c3
        obtain ⟨c0, c1, c2, c3⟩ := S7.out.cells
        go_wp2
        go_ret
        exact ⟨rfl, S7.out.frame⟩
    · go_enter Try.func7, Try.ntmps7
      go_wp2_with fail
      go_region
      · have S0 := L1.out (.cells #[.string p, .string u, .string v, .string t] 59)
        clear L1 L2
        generalize World.drew _ = W0 at *
        generalize w.heap.size + 1 + 1 = h at *
        generalize w.heap.size + 1 = g at *
        replace S0 := Lib.hid S0
        obtain ⟨c0, c1, c2, c3⟩ := S0.out.cells
        go_wp2_with fail
        refine (HN.out _ S0.out.a).mono ?_
        rintro e w1 ⟨x, q, rfl, k1, m1, n1, z1, h1⟩
        have S1 : Hid (Ot w g h p u v t a x l w1) := ⟨S0.out.p.below h1, S0.out.q.below h1, S0.out.a.below h1, z1, S0.out.frame.trans (h1.mono S0.out.frame.size)⟩
        have KQ := Lib.hid k1
        have MQ := Lib.hid m1
        have NQ := Lib.hid n1
        clear S0 c0 c1 c2 c3 h1 z1 k1 m1 n1
        obtain ⟨c0, c1, c2, c3⟩ := S1.out.cells
        go_wp2_with fail
        refine (HPE.out x q _ S1.out.x).mono ?_
        rintro e w2 ⟨y, qy, r, rfl, hr, hrl, -, -, -, zy, h1⟩
        have S2 := Lib.hid (S1.out.below h1)
        clear S1 h1 c0 c1 c2 c3
        obtain ⟨c0, c1, c2, c3⟩ := S2.out.cells
        have HPR := Lib.hid (HP2.out r hr)
        have HRL := Lib.hid (show r.length ≤ 1000 by have := HL.out; omega)
        clear hr hrl
        go_wp2_with fail
        refine (HGR.out x q _ S2.out.x NQ.out KQ.out MQ.out).mono ?_
        rintro e w3 ⟨y2, q2, rfl, -, -, -, z2, h1⟩
        have S3 := Lib.hid (S2.out.below h1)
        replace zy := zy.below h1
        clear S2 h1 c0 c1 c2 c3
        obtain ⟨c0, c1, c2, c3⟩ := S3.out.cells
        go_wp2_with fail
        refine (HRV.out x q _ S3.out.x KQ.out MQ.out).mono ?_
        rintro e w4 ⟨rfl, h1⟩
        have S4 := Lib.hid (S3.out.below h1)
        replace zy := zy.below h1
        replace z2 := z2.below h1
        clear S3 h1 c0 c1 c2 c3
        obtain ⟨c0, c1, c2, c3⟩ := S4.out.cells
        go_wp2_with fail
        refine (HAL.out _).mono ?_
        rintro e w5 ⟨rfl, h1⟩
        have S5 := Lib.hid (S4.out.below h1)
        replace zy := zy.below h1
        replace z2 := z2.below h1
        clear S4 h1 c0 c1 c2 c3
        obtain ⟨c0, c1, c2, c3⟩ := S5.out.cells
        go_wp2_with fail
        refine (HPR.out y2 q2 _ z2).mono ?_
        rintro e w6 ⟨y3, q3, rfl, z3, h1⟩
        have S6 := Lib.hid (S5.out.below h1)
        replace zy := zy.below h1
        clear S5 h1 c0 c1 c2 c3
        obtain ⟨c0, c1, c2, c3⟩ := S6.out.cells
        go_wp2_with fail
        refine (HSS.out y3 y q3 qy r _ z3 zy HRL.out).mono ?_
        rintro e w7 ⟨rfl, h1⟩
        have S7 := Lib.hid (S6.out.below h1)
        clear S6 h1 c0 c1 c2 c3
        obtain ⟨c0, c1, c2, c3⟩ := S7.out.cells
        go_wp2
        go_ret
        exact ⟨rfl, S7.out.frame⟩
      · have S0 := L2.out (.cells #[.string p, .string u, .string v, .string t] 59)
        clear L1 L2
        generalize World.drew _ = W0 at *
        generalize w.heap.size + 1 + 1 = g at *
        generalize w.heap.size + 1 = h at *
        replace S0 := Lib.hid S0
        obtain ⟨c0, c1, c2, c3⟩ := S0.out.cells
        go_wp2_with fail
        refine (HN.out _ S0.out.a).mono ?_
        rintro e w1 ⟨x, q, rfl, k1, m1, n1, z1, h1⟩
        have S1 : Hid (Ot w g h p u v t a x l w1) := ⟨S0.out.p.below h1, S0.out.q.below h1, S0.out.a.below h1, z1, S0.out.frame.trans (h1.mono S0.out.frame.size)⟩
        have KQ := Lib.hid k1
        have MQ := Lib.hid m1
        have NQ := Lib.hid n1
        clear S0 c0 c1 c2 c3 h1 z1 k1 m1 n1
        obtain ⟨c0, c1, c2, c3⟩ := S1.out.cells
        go_wp2_with fail
        refine (HPE.out x q _ S1.out.x).mono ?_
        rintro e w2 ⟨y, qy, r, rfl, hr, hrl, -, -, -, zy, h1⟩
        have S2 := Lib.hid (S1.out.below h1)
        clear S1 h1 c0 c1 c2 c3
        obtain ⟨c0, c1, c2, c3⟩ := S2.out.cells
        have HPR := Lib.hid (HP2.out r hr)
        have HRL := Lib.hid (show r.length ≤ 1000 by have := HL.out; omega)
        clear hr hrl
        go_wp2_with fail
        refine (HGR.out x q _ S2.out.x NQ.out KQ.out MQ.out).mono ?_
        rintro e w3 ⟨y2, q2, rfl, -, -, -, z2, h1⟩
        have S3 := Lib.hid (S2.out.below h1)
        replace zy := zy.below h1
        clear S2 h1 c0 c1 c2 c3
        obtain ⟨c0, c1, c2, c3⟩ := S3.out.cells
        go_wp2_with fail
        refine (HRV.out x q _ S3.out.x KQ.out MQ.out).mono ?_
        rintro e w4 ⟨rfl, h1⟩
        have S4 := Lib.hid (S3.out.below h1)
        replace zy := zy.below h1
        replace z2 := z2.below h1
        clear S3 h1 c0 c1 c2 c3
        obtain ⟨c0, c1, c2, c3⟩ := S4.out.cells
        go_wp2_with fail
        refine (HAL.out _).mono ?_
        rintro e w5 ⟨rfl, h1⟩
        have S5 := Lib.hid (S4.out.below h1)
        replace zy := zy.below h1
        replace z2 := z2.below h1
        clear S4 h1 c0 c1 c2 c3
        obtain ⟨c0, c1, c2, c3⟩ := S5.out.cells
        go_wp2_with fail
        refine (HPR.out y2 q2 _ z2).mono ?_
        rintro e w6 ⟨y3, q3, rfl, z3, h1⟩
        have S6 := Lib.hid (S5.out.below h1)
        replace zy := zy.below h1
        clear S5 h1 c0 c1 c2 c3
        obtain ⟨c0, c1, c2, c3⟩ := S6.out.cells
        go_wp2_with fail
        refine (HSS.out y3 y q3 qy r _ z3 zy HRL.out).mono ?_
        rintro e w7 ⟨rfl, h1⟩
        have S7 := Lib.hid (S6.out.below h1)
        clear S6 h1 c0 c1 c2 c3
        obtain ⟨c0, c1, c2, c3⟩ := S7.out.cells
        go_wp2
        go_ret
        exact ⟨rfl, S7.out.frame⟩

set_option maxRecDepth 100000 in
theorem lifted (os : Os) (started : os.Started) (H : Type) (enc : TypeId × Value → H) :
    ReturnsInHanded {} Try.checked os 7 .any (Rows.subsOthersSpec.pre6 enc Try.prog Try.f7 Rows.subsOthersRow.domain false) (Rows.subsOthersSpec.post enc Try.prog Try.f7 false true false false) := by
  refine returnsInHanded_of_change (C := Try.checked) own started (by kernel_rfl) Try.func7
    (ChangeSpec.witness6 (enc := enc) (C := Try.checked) false ⟨#[], #[.slice none 0 0, .agg #[.string ByteArray.empty, .string ByteArray.empty, .string ByteArray.empty, .string ByteArray.empty], .int .i64 0], []⟩ 8 (by kernel_rfl) (by kernel_rfl) (by kernel_rfl) (by kernel_rfl)) ?_
  intro W base args ds gs before hval0 hW hcnd _
  have hval : ∀ (j : Nat) t v, Try.f7.params[j]? = some t → args[j]? = some v → Value.okWide Try.prog W .any base t v := hval0
  have hW' := hW
  have hlt := hW.lt
  obtain ⟨p, q, hA0, hV, rfl, hfz, hnd⟩ := hW
  have hA : DataW.TrodAll enc Try.prog W 0 (fun _ => true) true Try.f7.params.toList args.toList ds p := hA0
  rw [Try.params7] at hA hval
  obtain ⟨v0, vs0, d0, ds0, p0, q0, hargs, rfl, rfl, h0, r0⟩ := trodAll_cons hA
  obtain ⟨v1, vs1, d1, ds1, p1, q1, rfl, rfl, rfl, h1, r1⟩ := trodAll_cons r0
  obtain ⟨v2, vs2, d2, ds2, p2, q2, rfl, rfl, rfl, h2, r2⟩ := trodAll_cons r1
  obtain ⟨rfl, rfl, rfl⟩ := trodAll_nil r2
  obtain rfl : args = #[v0, v1, v2] := by cases args; simp_all
  obtain ⟨a0, c0, l0, rfl, s0, f0, m0, n0, o0⟩ := open_entries (hval 0 22 v0 rfl rfl) h0
  obtain ⟨x1, y1, x1', y1', rfl, f1, g1, f1', g1'⟩ := open_prr2 (hval 1 59 v1 rfl rfl) h1
  obtain ⟨a2, rfl, -, -, w2⟩ := open_int Try.underlying3 (hval 2 3 v2 rfl rfl) h2
  refine (walk W a0 c0 l0 s0 f0 m0 n0 o0 x1 y1 x1' y1' f1 g1 f1' g1' a2 w2).mono fun e W' ⟨he, hb⟩ => ?_
  subst he
  exact ⟨_, rfl, law_post rfl hW' (fun ds h => by match ds, h with | [_, _, _], _ => rfl) (by kernel_rfl) (by kernel_rfl) (by kernel_rfl) hb⟩

theorem over : Rows.subsOthersRow.holds Try.pinned (OpenSpec.ofChange Rows.subsOthersSpec) :=
  OpenClaim.holds_of_wide 7 Try.f7 rfl rfl rfl rfl rfl rfl rfl ⟨rfl, rfl, rfl, rfl, rfl⟩ rfl rfl rfl rfl rfl (by kernel_rfl) Try.func7 (by kernel_rfl)
    (of_decide_eq_true (by kernel_rfl)) (by unfold Func.isWrapper; first | (rw [if_pos (by decide +kernel)]; kernel_rfl) | (rw [if_neg (by decide +kernel)]; exact ⟨rfl, rfl⟩))
    (fun os started H enc _ => lifted os started H enc)

theorem proved : Rows.SubsOthersSaid := over
end Go.Proofs.Ythaancmobpamhaa.subsOthers
