/- SpanHas: whether any span has a time is what the document says, of rows, and of what is made of them; for all rows. No condition. -/
import Derived.Test.YtpbemglnifafaaaW19
namespace Go.Proofs.Ytpbemglnifafaaa.spanHas
open Go.ChangeShapes Go.WideShapes Go.ChangeAt Go.RowKit
open Go.ChangeMaps (open_string shut_string)
set_option linter.unusedVariables false
set_option maxRecDepth 100000

theorem hb_one {l r : List SpM} {t : Int} {p : Bool} (hs : IsSet (HasL l) r) (hp : hasB l t = p) : hasB r t = p := by
  rw [← hp, Bool.eq_iff_iff, hasB_iff, hasB_iff]
  exact hs.2 t
theorem hb_or {l m r : List SpM} {t : Int} {p q : Bool} (hs : IsSet (fun x => HasL l x ∨ HasL m x) r) (hp : hasB l t = p) (hq : hasB m t = q) : hasB r t = (p || q) := by
  rw [← hp, ← hq, Bool.eq_iff_iff, Bool.or_eq_true, hasB_iff, hasB_iff, hasB_iff]
  exact hs.2 t
theorem hb_and {l m r : List SpM} {t : Int} {p q : Bool} (hs : IsSet (fun x => HasL l x ∧ HasL m x) r) (hp : hasB l t = p) (hq : hasB m t = q) : hasB r t = (p && q) := by
  rw [← hp, ← hq, Bool.eq_iff_iff, Bool.and_eq_true, hasB_iff, hasB_iff, hasB_iff]
  exact hs.2 t
theorem hb_less {l m r : List SpM} {t : Int} {p q : Bool} (hs : IsSet (fun x => HasL l x ∧ ¬ HasL m x) r) (hp : hasB l t = p) (hq : hasB m t = q) : hasB r t = (p && !q) := by
  rw [← hp, ← hq, Bool.eq_iff_iff, Bool.and_eq_true, Bool.not_eq_true', ← Bool.not_eq_true, hasB_iff, hasB_iff, hasB_iff]
  exact hs.2 t
theorem c_has (x : Option Addr) (q : Nat) (r : List SpM) (t : Int) (W : World) (b : Bool) (h : SpSl W x r) (hl : r.length ≤ 1000) (hb : hasB r t = b) : Calls Try.prog 27 #[.slice x r.length q, .int .i64 t] W fun e w' => e = .returned (.bool b) ∧ Below W.heap.size W w' := by
  have := lhas_any x q r t W h (by unfold maxLen; omega)
  rw [hb] at this
  exact this
theorem c_rhas (x : Option Addr) (q : Nat) (r : List SpM) (t : Int) (W : World) (b : Bool) (h : SpSl W x r) (hl : r.length ≤ 1000) (hb : hasB r t = b) : Calls Try.prog 26 #[.slice x r.length q, .int .i64 t] W fun e w' => e = .returned (.bool b) ∧ Below W.heap.size W w' := by
  have := refHas_any x q r t W h (by unfold maxLen; omega)
  rw [hb] at this
  refine this.mono ?_
  rintro e w' ⟨rfl, rfl⟩
  exact ⟨rfl, Below.refl _ _⟩
theorem c_samed (a b : Option Addr) (c q : Nat) (l m : List SpM) (W : World) (D : Bool) (hD : decide (l = m) = D) (ha : SpSl W a l) (hb : SpSl W b m) (hl : l.length ≤ 1000) (hm : m.length ≤ 1000) : Calls Try.prog 21 #[.slice a l.length c, .slice b m.length q] W fun e w' => e = .returned (.bool D) ∧ Below W.heap.size W w' := by
  have h := same_any a b c q l m W ha hb (by unfold maxLen; omega) (by unfold maxLen; omega)
  rw [hD] at h
  exact h
theorem c_rsamed (a b : Option Addr) (c q : Nat) (l m : List SpM) (W : World) (D : Bool) (hD : decide (l = m) = D) (ha : SpSl W a l) (hb : SpSl W b m) (hl : l.length ≤ 1000) (hm : m.length ≤ 1000) : Calls Try.prog 18 #[.slice a l.length c, .slice b m.length q] W fun e w' => e = .returned (.bool D) ∧ Below W.heap.size W w' := by
  have h := refSame_any a b c q l m W ha hb (by unfold maxLen; omega) (by unfold maxLen; omega)
  rw [hD] at h
  exact h

set_option maxHeartbeats 4000000 in
theorem walk (w : World) (a : Option Addr) (c : Nat) (l : List SpM) (hs : SpSl w a l) (hf : FitsS l) (hc : l.length ≤ c) (hcm : c ≤ maxLen) (hn : a = none → c = 0) (b : Option Addr) (d : Nat) (m : List SpM) (hs' : SpSl w b m) (hf' : FitsS m) (hd : m.length ≤ d) (hdm : d ≤ maxLen) (hn' : b = none → d = 0) (t : Int) (ht : (Lit.int .i64 t).wf = true) :
    Calls Try.prog 7 #[.slice a l.length c, .slice b m.length d, .int .i64 t] w fun e w' => e = .returned (.bool true) ∧ Below w.heap.size w w' := by
  clear ht
  have HAL := Lib.hid alive_any
  by_cases h1 : 30 < l.length
  · have hd1 : decide ((30 : Int) < (l.length : Int)) = true := decide_eq_true (by omega)
    clear hs hs' hc hcm hd hdm
    go_enter Try.func7, Try.ntmps7
    go_wp2_with fail
    refine (HAL.out _).mono ?_
    rintro e w1 ⟨rfl, hB⟩
    go_wp2
    go_ret
    exact ⟨rfl, hB⟩
  by_cases h2 : 30 < m.length
  · have hd1 : decide ((30 : Int) < (l.length : Int)) = false := decide_eq_false (by omega)
    have hd2 : decide ((30 : Int) < (m.length : Int)) = true := decide_eq_true (by omega)
    clear hs hs' hc hcm hd hdm
    go_enter Try.func7, Try.ntmps7
    go_wp2_with fail
    refine (HAL.out _).mono ?_
    rintro e w1 ⟨rfl, hB⟩
    go_wp2
    go_ret
    exact ⟨rfl, hB⟩
  have hl1 : l.length ≤ 30 := by omega
  have hl2 : m.length ≤ 30 := by omega
  have hd1 : decide ((30 : Int) < (l.length : Int)) = false := decide_eq_false (by omega)
  have hd2 : decide ((30 : Int) < (m.length : Int)) = false := decide_eq_false (by omega)
  have HNA := Lib.hid (c_news a c l w hs (by omega))
  have HNB := Lib.hid (fun W (h : Below w.heap.size w W) => c_news b d m W (hs'.below h) (by omega))
  have HSA := Lib.hid hs
  have HSB := Lib.hid hs'
  have HZ1 := Lib.hid hl1
  have HZ2 := Lib.hid hl2
  have HPS := Lib.hid c_samed
  have HRS := Lib.hid c_rsamed
  have HH := Lib.hid c_has
  have HRH := Lib.hid c_rhas
  have HMT := Lib.hid (fun x p y q W (h : SpSl W x l) (k : SpSl W y m) h1 h2 h3 h4 => n_meet x p y q l m W h k h1 h2 h3 h4 (by omega) (by omega))
  have HLT := Lib.hid (fun x p y q W (h : SpSl W x l) (k : SpSl W y m) h1 h2 h3 h4 => n_less x p y q l m W h k h1 h2 h3 h4 (by omega) (by omega) hf hf')
  have HNM := Lib.hid n_norm
  have HJN := Lib.hid n_join
  obtain ⟨D, hD⟩ : ∃ D, decide (l = m) = D := ⟨_, rfl⟩
  have HD := Lib.hid hD
  have hDD : (D == D) = true := by cases D <;> rfl
  clear hs hs' hc hcm hd hdm hf hf' hn hn' h1 h2 hl1 hl2 hD

  obtain ⟨P, hP⟩ : ∃ P, hasB l t = P := ⟨_, rfl⟩
  obtain ⟨Q, hQ⟩ : ∃ Q, hasB m t = Q := ⟨_, rfl⟩
  have HP := Lib.hid hP
  have HQ := Lib.hid hQ
  clear hP hQ
  rcases P with _ | _ <;> rcases Q with _ | _
  · go_enter Try.func7, Try.ntmps7
    go_wp2_with fail
    refine HNA.out.mono ?_
    rintro e v1 ⟨x, p, rfl, hp1, hp2, hpn, hx, g1⟩
    go_wp2_with fail
    refine (HNB.out _ g1).mono ?_
    rintro e v2 ⟨y, q, rfl, hq1, hq2, hqn, hy, g2⟩
    have g3 := g1.trans (g2.mono g1.size)
    have S0 : Hid (St2 w a b x y l m v2) := ⟨HSA.out.below g3, HSB.out.below g3, hx.below g2, hy, g3⟩
    have HM := Lib.hid (fun W (S : St2 w a b x y l m W) => HMT.out x p y q W S.x S.y hp1 hq1 hp2 hq2)
    have HL := Lib.hid (fun W (S : St2 w a b x y l m W) => HLT.out x p y q W S.x S.y hp1 hq1 hp2 hq2)
    have HN := Lib.hid (fun W (S : St2 w a b x y l m W) => HNM.out x p l W S.x hp1 hp2 (by have := HZ1.out; omega))
    have XN := Lib.hid hpn
    have YN := Lib.hid hqn
    have LX := Lib.hid (show l.length ≤ 1000 by have := HZ1.out; omega)
    have LY := Lib.hid (show m.length ≤ 1000 by have := HZ2.out; omega)
    clear hp1 hp2 hpn hq1 hq2 hqn hx hy g1 g2 g3 HSA HSB HMT HLT HNA HNB
    go_wp2_with fail
    refine (HRH.out a c l t _ _ S0.out.a LX.out HP.out).mono ?_
    rintro e w1 ⟨rfl, h1⟩
    have S1 := Lib.hid (S0.out.below h1)
    clear S0 h1
    go_wp2_with fail
    refine (HRH.out b d m t _ _ S1.out.b LY.out HQ.out).mono ?_
    rintro e w2 ⟨rfl, h2⟩
    have S2 := Lib.hid (S1.out.below h2)
    clear S1 h2
    go_wp2_with fail
    refine (HAL.out _).mono ?_
    rintro e w3 ⟨rfl, h3⟩
    have S3 := Lib.hid (S2.out.below h3)
    clear S2 h3
    go_wp2_with fail
    refine (HH.out x p l t _ _ S3.out.x LX.out HP.out).mono ?_
    rintro e w4 ⟨rfl, h4⟩
    have S4 := Lib.hid (S3.out.below h4)
    clear S3 h4
    go_wp2_with fail
    refine (HN.out _ S4.out).mono ?_
    rintro e w5 ⟨x1, q1, r1, rfl, hr1, l1, -, -, -, k1, h5⟩
    have S5 := Lib.hid (S4.out.below h5)
    clear S4 h5
    have B1 := Lib.hid (show hasB r1 t = false from hb_one hr1 HP.out)
    have L1 := Lib.hid (show r1.length ≤ 1000 by have := HZ1.out; have := HZ2.out; omega)
    clear hr1 l1
    go_wp2_with fail
    refine (HH.out x1 q1 r1 t _ _ k1 L1.out B1.out).mono ?_
    rintro e w6 ⟨rfl, h6⟩
    have S6 := Lib.hid (S5.out.below h6)
    clear S5 h6
    clear k1 L1 B1
    go_wp2_with fail
    refine (HJN.out _ _ _ _ _ l m _ rfl S6.out.x S6.out.y XN.out YN.out LX.out LY.out _).mono ?_
    rintro e w7 ⟨x2, q2, r2, rfl, hr2, l2, -, -, -, k2, h7⟩
    have S7 := Lib.hid (S6.out.below h7)
    clear S6 h7
    have B2 := Lib.hid (show hasB r2 t = false from hb_or hr2 HP.out HQ.out)
    have L2 := Lib.hid (show r2.length ≤ 1000 by have := HZ1.out; have := HZ2.out; omega)
    clear hr2 l2
    go_wp2_with fail
    refine (HH.out x2 q2 r2 t _ _ k2 L2.out B2.out).mono ?_
    rintro e w8 ⟨rfl, h8⟩
    have S8 := Lib.hid (S7.out.below h8)
    clear S7 h8
    clear k2 L2 B2
    go_wp2_with fail
    refine (HM.out _ S8.out).mono ?_
    rintro e w9 ⟨x3, q3, r3, rfl, hr3, l3, -, -, -, k3, h9⟩
    have S9 := Lib.hid (S8.out.below h9)
    clear S8 h9
    have B3 := Lib.hid (show hasB r3 t = false from hb_and hr3 HP.out HQ.out)
    have L3 := Lib.hid (show r3.length ≤ 1000 by have := HZ1.out; have := HZ2.out; omega)
    clear hr3 l3
    go_wp2_with fail
    refine (HH.out x3 q3 r3 t _ _ k3 L3.out B3.out).mono ?_
    rintro e w10 ⟨rfl, h10⟩
    have S10 := Lib.hid (S9.out.below h10)
    clear S9 h10
    clear k3 L3 B3
    go_wp2_with fail
    refine (HL.out _ S10.out).mono ?_
    rintro e w11 ⟨x4, q4, r4, rfl, hr4, l4, -, -, -, k4, h11⟩
    have S11 := Lib.hid (S10.out.below h11)
    clear S10 h11
    have B4 := Lib.hid (show hasB r4 t = false from hb_less hr4 HP.out HQ.out)
    have L4 := Lib.hid (show r4.length ≤ 1000 by have := HZ1.out; have := HZ2.out; omega)
    clear hr4 l4
    go_wp2_with fail
    refine (HH.out x4 q4 r4 t _ _ k4 L4.out B4.out).mono ?_
    rintro e w12 ⟨rfl, h12⟩
    have S12 := Lib.hid (S11.out.below h12)
    clear S11 h12
    clear k4 L4 B4
    go_wp2_with fail
    refine (HPS.out x x p p l l _ true (decide_eq_true rfl) S12.out.x S12.out.x LX.out LX.out).mono ?_
    rintro e w13 ⟨rfl, h13⟩
    have S13 := Lib.hid (S12.out.below h13)
    clear S12 h13
    go_wp2_with fail
    refine (HPS.out x y p q l m _ D HD.out S13.out.x S13.out.y LX.out LY.out).mono ?_
    rintro e w14 ⟨rfl, h14⟩
    have S14 := Lib.hid (S13.out.below h14)
    clear S13 h14
    go_wp2_with fail
    refine (HRS.out a b c d l m _ D HD.out S14.out.a S14.out.b LX.out LY.out).mono ?_
    rintro e w15 ⟨rfl, h15⟩
    have S15 := Lib.hid (S14.out.below h15)
    clear S14 h15
    go_wp2
    go_ret
    exact ⟨rfl, S15.out.frame⟩
  · go_enter Try.func7, Try.ntmps7
    go_wp2_with fail
    refine HNA.out.mono ?_
    rintro e v1 ⟨x, p, rfl, hp1, hp2, hpn, hx, g1⟩
    go_wp2_with fail
    refine (HNB.out _ g1).mono ?_
    rintro e v2 ⟨y, q, rfl, hq1, hq2, hqn, hy, g2⟩
    have g3 := g1.trans (g2.mono g1.size)
    have S0 : Hid (St2 w a b x y l m v2) := ⟨HSA.out.below g3, HSB.out.below g3, hx.below g2, hy, g3⟩
    have HM := Lib.hid (fun W (S : St2 w a b x y l m W) => HMT.out x p y q W S.x S.y hp1 hq1 hp2 hq2)
    have HL := Lib.hid (fun W (S : St2 w a b x y l m W) => HLT.out x p y q W S.x S.y hp1 hq1 hp2 hq2)
    have HN := Lib.hid (fun W (S : St2 w a b x y l m W) => HNM.out x p l W S.x hp1 hp2 (by have := HZ1.out; omega))
    have XN := Lib.hid hpn
    have YN := Lib.hid hqn
    have LX := Lib.hid (show l.length ≤ 1000 by have := HZ1.out; omega)
    have LY := Lib.hid (show m.length ≤ 1000 by have := HZ2.out; omega)
    clear hp1 hp2 hpn hq1 hq2 hqn hx hy g1 g2 g3 HSA HSB HMT HLT HNA HNB
    go_wp2_with fail
    refine (HRH.out a c l t _ _ S0.out.a LX.out HP.out).mono ?_
    rintro e w1 ⟨rfl, h1⟩
    have S1 := Lib.hid (S0.out.below h1)
    clear S0 h1
    go_wp2_with fail
    refine (HRH.out b d m t _ _ S1.out.b LY.out HQ.out).mono ?_
    rintro e w2 ⟨rfl, h2⟩
    have S2 := Lib.hid (S1.out.below h2)
    clear S1 h2
    go_wp2_with fail
    refine (HAL.out _).mono ?_
    rintro e w3 ⟨rfl, h3⟩
    have S3 := Lib.hid (S2.out.below h3)
    clear S2 h3
    go_wp2_with fail
    refine (HH.out x p l t _ _ S3.out.x LX.out HP.out).mono ?_
    rintro e w4 ⟨rfl, h4⟩
    have S4 := Lib.hid (S3.out.below h4)
    clear S3 h4
    go_wp2_with fail
    refine (HN.out _ S4.out).mono ?_
    rintro e w5 ⟨x1, q1, r1, rfl, hr1, l1, -, -, -, k1, h5⟩
    have S5 := Lib.hid (S4.out.below h5)
    clear S4 h5
    have B1 := Lib.hid (show hasB r1 t = false from hb_one hr1 HP.out)
    have L1 := Lib.hid (show r1.length ≤ 1000 by have := HZ1.out; have := HZ2.out; omega)
    clear hr1 l1
    go_wp2_with fail
    refine (HH.out x1 q1 r1 t _ _ k1 L1.out B1.out).mono ?_
    rintro e w6 ⟨rfl, h6⟩
    have S6 := Lib.hid (S5.out.below h6)
    clear S5 h6
    clear k1 L1 B1
    go_wp2_with fail
    refine (HJN.out _ _ _ _ _ l m _ rfl S6.out.x S6.out.y XN.out YN.out LX.out LY.out _).mono ?_
    rintro e w7 ⟨x2, q2, r2, rfl, hr2, l2, -, -, -, k2, h7⟩
    have S7 := Lib.hid (S6.out.below h7)
    clear S6 h7
    have B2 := Lib.hid (show hasB r2 t = true from hb_or hr2 HP.out HQ.out)
    have L2 := Lib.hid (show r2.length ≤ 1000 by have := HZ1.out; have := HZ2.out; omega)
    clear hr2 l2
    go_wp2_with fail
    refine (HH.out x2 q2 r2 t _ _ k2 L2.out B2.out).mono ?_
    rintro e w8 ⟨rfl, h8⟩
    have S8 := Lib.hid (S7.out.below h8)
    clear S7 h8
    clear k2 L2 B2
    go_wp2_with fail
    refine (HM.out _ S8.out).mono ?_
    rintro e w9 ⟨x3, q3, r3, rfl, hr3, l3, -, -, -, k3, h9⟩
    have S9 := Lib.hid (S8.out.below h9)
    clear S8 h9
    have B3 := Lib.hid (show hasB r3 t = false from hb_and hr3 HP.out HQ.out)
    have L3 := Lib.hid (show r3.length ≤ 1000 by have := HZ1.out; have := HZ2.out; omega)
    clear hr3 l3
    go_wp2_with fail
    refine (HH.out x3 q3 r3 t _ _ k3 L3.out B3.out).mono ?_
    rintro e w10 ⟨rfl, h10⟩
    have S10 := Lib.hid (S9.out.below h10)
    clear S9 h10
    clear k3 L3 B3
    go_wp2_with fail
    refine (HL.out _ S10.out).mono ?_
    rintro e w11 ⟨x4, q4, r4, rfl, hr4, l4, -, -, -, k4, h11⟩
    have S11 := Lib.hid (S10.out.below h11)
    clear S10 h11
    have B4 := Lib.hid (show hasB r4 t = false from hb_less hr4 HP.out HQ.out)
    have L4 := Lib.hid (show r4.length ≤ 1000 by have := HZ1.out; have := HZ2.out; omega)
    clear hr4 l4
    go_wp2_with fail
    refine (HH.out x4 q4 r4 t _ _ k4 L4.out B4.out).mono ?_
    rintro e w12 ⟨rfl, h12⟩
    have S12 := Lib.hid (S11.out.below h12)
    clear S11 h12
    clear k4 L4 B4
    go_wp2_with fail
    refine (HPS.out x x p p l l _ true (decide_eq_true rfl) S12.out.x S12.out.x LX.out LX.out).mono ?_
    rintro e w13 ⟨rfl, h13⟩
    have S13 := Lib.hid (S12.out.below h13)
    clear S12 h13
    go_wp2_with fail
    refine (HPS.out x y p q l m _ D HD.out S13.out.x S13.out.y LX.out LY.out).mono ?_
    rintro e w14 ⟨rfl, h14⟩
    have S14 := Lib.hid (S13.out.below h14)
    clear S13 h14
    go_wp2_with fail
    refine (HRS.out a b c d l m _ D HD.out S14.out.a S14.out.b LX.out LY.out).mono ?_
    rintro e w15 ⟨rfl, h15⟩
    have S15 := Lib.hid (S14.out.below h15)
    clear S14 h15
    go_wp2
    go_ret
    exact ⟨rfl, S15.out.frame⟩
  · go_enter Try.func7, Try.ntmps7
    go_wp2_with fail
    refine HNA.out.mono ?_
    rintro e v1 ⟨x, p, rfl, hp1, hp2, hpn, hx, g1⟩
    go_wp2_with fail
    refine (HNB.out _ g1).mono ?_
    rintro e v2 ⟨y, q, rfl, hq1, hq2, hqn, hy, g2⟩
    have g3 := g1.trans (g2.mono g1.size)
    have S0 : Hid (St2 w a b x y l m v2) := ⟨HSA.out.below g3, HSB.out.below g3, hx.below g2, hy, g3⟩
    have HM := Lib.hid (fun W (S : St2 w a b x y l m W) => HMT.out x p y q W S.x S.y hp1 hq1 hp2 hq2)
    have HL := Lib.hid (fun W (S : St2 w a b x y l m W) => HLT.out x p y q W S.x S.y hp1 hq1 hp2 hq2)
    have HN := Lib.hid (fun W (S : St2 w a b x y l m W) => HNM.out x p l W S.x hp1 hp2 (by have := HZ1.out; omega))
    have XN := Lib.hid hpn
    have YN := Lib.hid hqn
    have LX := Lib.hid (show l.length ≤ 1000 by have := HZ1.out; omega)
    have LY := Lib.hid (show m.length ≤ 1000 by have := HZ2.out; omega)
    clear hp1 hp2 hpn hq1 hq2 hqn hx hy g1 g2 g3 HSA HSB HMT HLT HNA HNB
    go_wp2_with fail
    refine (HRH.out a c l t _ _ S0.out.a LX.out HP.out).mono ?_
    rintro e w1 ⟨rfl, h1⟩
    have S1 := Lib.hid (S0.out.below h1)
    clear S0 h1
    go_wp2_with fail
    refine (HRH.out b d m t _ _ S1.out.b LY.out HQ.out).mono ?_
    rintro e w2 ⟨rfl, h2⟩
    have S2 := Lib.hid (S1.out.below h2)
    clear S1 h2
    go_wp2_with fail
    refine (HAL.out _).mono ?_
    rintro e w3 ⟨rfl, h3⟩
    have S3 := Lib.hid (S2.out.below h3)
    clear S2 h3
    go_wp2_with fail
    refine (HH.out x p l t _ _ S3.out.x LX.out HP.out).mono ?_
    rintro e w4 ⟨rfl, h4⟩
    have S4 := Lib.hid (S3.out.below h4)
    clear S3 h4
    go_wp2_with fail
    refine (HN.out _ S4.out).mono ?_
    rintro e w5 ⟨x1, q1, r1, rfl, hr1, l1, -, -, -, k1, h5⟩
    have S5 := Lib.hid (S4.out.below h5)
    clear S4 h5
    have B1 := Lib.hid (show hasB r1 t = true from hb_one hr1 HP.out)
    have L1 := Lib.hid (show r1.length ≤ 1000 by have := HZ1.out; have := HZ2.out; omega)
    clear hr1 l1
    go_wp2_with fail
    refine (HH.out x1 q1 r1 t _ _ k1 L1.out B1.out).mono ?_
    rintro e w6 ⟨rfl, h6⟩
    have S6 := Lib.hid (S5.out.below h6)
    clear S5 h6
    clear k1 L1 B1
    go_wp2_with fail
    refine (HJN.out _ _ _ _ _ l m _ rfl S6.out.x S6.out.y XN.out YN.out LX.out LY.out _).mono ?_
    rintro e w7 ⟨x2, q2, r2, rfl, hr2, l2, -, -, -, k2, h7⟩
    have S7 := Lib.hid (S6.out.below h7)
    clear S6 h7
    have B2 := Lib.hid (show hasB r2 t = true from hb_or hr2 HP.out HQ.out)
    have L2 := Lib.hid (show r2.length ≤ 1000 by have := HZ1.out; have := HZ2.out; omega)
    clear hr2 l2
    go_wp2_with fail
    refine (HH.out x2 q2 r2 t _ _ k2 L2.out B2.out).mono ?_
    rintro e w8 ⟨rfl, h8⟩
    have S8 := Lib.hid (S7.out.below h8)
    clear S7 h8
    clear k2 L2 B2
    go_wp2_with fail
    refine (HM.out _ S8.out).mono ?_
    rintro e w9 ⟨x3, q3, r3, rfl, hr3, l3, -, -, -, k3, h9⟩
    have S9 := Lib.hid (S8.out.below h9)
    clear S8 h9
    have B3 := Lib.hid (show hasB r3 t = false from hb_and hr3 HP.out HQ.out)
    have L3 := Lib.hid (show r3.length ≤ 1000 by have := HZ1.out; have := HZ2.out; omega)
    clear hr3 l3
    go_wp2_with fail
    refine (HH.out x3 q3 r3 t _ _ k3 L3.out B3.out).mono ?_
    rintro e w10 ⟨rfl, h10⟩
    have S10 := Lib.hid (S9.out.below h10)
    clear S9 h10
    clear k3 L3 B3
    go_wp2_with fail
    refine (HL.out _ S10.out).mono ?_
    rintro e w11 ⟨x4, q4, r4, rfl, hr4, l4, -, -, -, k4, h11⟩
    have S11 := Lib.hid (S10.out.below h11)
    clear S10 h11
    have B4 := Lib.hid (show hasB r4 t = true from hb_less hr4 HP.out HQ.out)
    have L4 := Lib.hid (show r4.length ≤ 1000 by have := HZ1.out; have := HZ2.out; omega)
    clear hr4 l4
    go_wp2_with fail
    refine (HH.out x4 q4 r4 t _ _ k4 L4.out B4.out).mono ?_
    rintro e w12 ⟨rfl, h12⟩
    have S12 := Lib.hid (S11.out.below h12)
    clear S11 h12
    clear k4 L4 B4
    go_wp2_with fail
    refine (HPS.out x x p p l l _ true (decide_eq_true rfl) S12.out.x S12.out.x LX.out LX.out).mono ?_
    rintro e w13 ⟨rfl, h13⟩
    have S13 := Lib.hid (S12.out.below h13)
    clear S12 h13
    go_wp2_with fail
    refine (HPS.out x y p q l m _ D HD.out S13.out.x S13.out.y LX.out LY.out).mono ?_
    rintro e w14 ⟨rfl, h14⟩
    have S14 := Lib.hid (S13.out.below h14)
    clear S13 h14
    go_wp2_with fail
    refine (HRS.out a b c d l m _ D HD.out S14.out.a S14.out.b LX.out LY.out).mono ?_
    rintro e w15 ⟨rfl, h15⟩
    have S15 := Lib.hid (S14.out.below h15)
    clear S14 h15
    go_wp2
    go_ret
    exact ⟨rfl, S15.out.frame⟩
  · go_enter Try.func7, Try.ntmps7
    go_wp2_with fail
    refine HNA.out.mono ?_
    rintro e v1 ⟨x, p, rfl, hp1, hp2, hpn, hx, g1⟩
    go_wp2_with fail
    refine (HNB.out _ g1).mono ?_
    rintro e v2 ⟨y, q, rfl, hq1, hq2, hqn, hy, g2⟩
    have g3 := g1.trans (g2.mono g1.size)
    have S0 : Hid (St2 w a b x y l m v2) := ⟨HSA.out.below g3, HSB.out.below g3, hx.below g2, hy, g3⟩
    have HM := Lib.hid (fun W (S : St2 w a b x y l m W) => HMT.out x p y q W S.x S.y hp1 hq1 hp2 hq2)
    have HL := Lib.hid (fun W (S : St2 w a b x y l m W) => HLT.out x p y q W S.x S.y hp1 hq1 hp2 hq2)
    have HN := Lib.hid (fun W (S : St2 w a b x y l m W) => HNM.out x p l W S.x hp1 hp2 (by have := HZ1.out; omega))
    have XN := Lib.hid hpn
    have YN := Lib.hid hqn
    have LX := Lib.hid (show l.length ≤ 1000 by have := HZ1.out; omega)
    have LY := Lib.hid (show m.length ≤ 1000 by have := HZ2.out; omega)
    clear hp1 hp2 hpn hq1 hq2 hqn hx hy g1 g2 g3 HSA HSB HMT HLT HNA HNB
    go_wp2_with fail
    refine (HRH.out a c l t _ _ S0.out.a LX.out HP.out).mono ?_
    rintro e w1 ⟨rfl, h1⟩
    have S1 := Lib.hid (S0.out.below h1)
    clear S0 h1
    go_wp2_with fail
    refine (HRH.out b d m t _ _ S1.out.b LY.out HQ.out).mono ?_
    rintro e w2 ⟨rfl, h2⟩
    have S2 := Lib.hid (S1.out.below h2)
    clear S1 h2
    go_wp2_with fail
    refine (HAL.out _).mono ?_
    rintro e w3 ⟨rfl, h3⟩
    have S3 := Lib.hid (S2.out.below h3)
    clear S2 h3
    go_wp2_with fail
    refine (HH.out x p l t _ _ S3.out.x LX.out HP.out).mono ?_
    rintro e w4 ⟨rfl, h4⟩
    have S4 := Lib.hid (S3.out.below h4)
    clear S3 h4
    go_wp2_with fail
    refine (HN.out _ S4.out).mono ?_
    rintro e w5 ⟨x1, q1, r1, rfl, hr1, l1, -, -, -, k1, h5⟩
    have S5 := Lib.hid (S4.out.below h5)
    clear S4 h5
    have B1 := Lib.hid (show hasB r1 t = true from hb_one hr1 HP.out)
    have L1 := Lib.hid (show r1.length ≤ 1000 by have := HZ1.out; have := HZ2.out; omega)
    clear hr1 l1
    go_wp2_with fail
    refine (HH.out x1 q1 r1 t _ _ k1 L1.out B1.out).mono ?_
    rintro e w6 ⟨rfl, h6⟩
    have S6 := Lib.hid (S5.out.below h6)
    clear S5 h6
    clear k1 L1 B1
    go_wp2_with fail
    refine (HJN.out _ _ _ _ _ l m _ rfl S6.out.x S6.out.y XN.out YN.out LX.out LY.out _).mono ?_
    rintro e w7 ⟨x2, q2, r2, rfl, hr2, l2, -, -, -, k2, h7⟩
    have S7 := Lib.hid (S6.out.below h7)
    clear S6 h7
    have B2 := Lib.hid (show hasB r2 t = true from hb_or hr2 HP.out HQ.out)
    have L2 := Lib.hid (show r2.length ≤ 1000 by have := HZ1.out; have := HZ2.out; omega)
    clear hr2 l2
    go_wp2_with fail
    refine (HH.out x2 q2 r2 t _ _ k2 L2.out B2.out).mono ?_
    rintro e w8 ⟨rfl, h8⟩
    have S8 := Lib.hid (S7.out.below h8)
    clear S7 h8
    clear k2 L2 B2
    go_wp2_with fail
    refine (HM.out _ S8.out).mono ?_
    rintro e w9 ⟨x3, q3, r3, rfl, hr3, l3, -, -, -, k3, h9⟩
    have S9 := Lib.hid (S8.out.below h9)
    clear S8 h9
    have B3 := Lib.hid (show hasB r3 t = true from hb_and hr3 HP.out HQ.out)
    have L3 := Lib.hid (show r3.length ≤ 1000 by have := HZ1.out; have := HZ2.out; omega)
    clear hr3 l3
    go_wp2_with fail
    refine (HH.out x3 q3 r3 t _ _ k3 L3.out B3.out).mono ?_
    rintro e w10 ⟨rfl, h10⟩
    have S10 := Lib.hid (S9.out.below h10)
    clear S9 h10
    clear k3 L3 B3
    go_wp2_with fail
    refine (HL.out _ S10.out).mono ?_
    rintro e w11 ⟨x4, q4, r4, rfl, hr4, l4, -, -, -, k4, h11⟩
    have S11 := Lib.hid (S10.out.below h11)
    clear S10 h11
    have B4 := Lib.hid (show hasB r4 t = false from hb_less hr4 HP.out HQ.out)
    have L4 := Lib.hid (show r4.length ≤ 1000 by have := HZ1.out; have := HZ2.out; omega)
    clear hr4 l4
    go_wp2_with fail
    refine (HH.out x4 q4 r4 t _ _ k4 L4.out B4.out).mono ?_
    rintro e w12 ⟨rfl, h12⟩
    have S12 := Lib.hid (S11.out.below h12)
    clear S11 h12
    clear k4 L4 B4
    go_wp2_with fail
    refine (HPS.out x x p p l l _ true (decide_eq_true rfl) S12.out.x S12.out.x LX.out LX.out).mono ?_
    rintro e w13 ⟨rfl, h13⟩
    have S13 := Lib.hid (S12.out.below h13)
    clear S12 h13
    go_wp2_with fail
    refine (HPS.out x y p q l m _ D HD.out S13.out.x S13.out.y LX.out LY.out).mono ?_
    rintro e w14 ⟨rfl, h14⟩
    have S14 := Lib.hid (S13.out.below h14)
    clear S13 h14
    go_wp2_with fail
    refine (HRS.out a b c d l m _ D HD.out S14.out.a S14.out.b LX.out LY.out).mono ?_
    rintro e w15 ⟨rfl, h15⟩
    have S15 := Lib.hid (S14.out.below h15)
    clear S14 h15
    go_wp2
    go_ret
    exact ⟨rfl, S15.out.frame⟩

set_option maxRecDepth 100000 in
theorem lifted (os : Os) (started : os.Started) (H : Type) (enc : TypeId × Value → H) :
    ReturnsInHanded {} Try.checked os 7 .any (Rows.spanHasSpec.pre6 enc Try.prog Try.f7 Rows.spanHasRow.domain false) (Rows.spanHasSpec.post enc Try.prog Try.f7 false true false false) := by
  refine returnsInHanded_of_change (C := Try.checked) own started (by kernel_rfl) Try.func7
    (ChangeSpec.witness6 (enc := enc) (C := Try.checked) false ⟨#[], #[.slice none 0 0, .slice none 0 0, .int .i64 0], []⟩ 8 (by kernel_rfl) (by kernel_rfl) (by kernel_rfl) (by kernel_rfl)) ?_
  intro W base args ds gs before hval0 hW hcnd _
  have hval : ∀ (j : Nat) t v, Try.f7.params[j]? = some t → args[j]? = some v → Value.okWide Try.prog W .any base t v := hval0
  have hW' := hW
  have hlt := hW.lt
  obtain ⟨p, q, hA0, hV, rfl, hfz, hnd⟩ := hW
  have hA : DataW.TrodAll enc Try.prog W 0 (fun _ => true) true Try.f7.params.toList args.toList ds p := hA0
  rw [Try.params7] at hA hval
  obtain ⟨v0, vs0, d0, ds0, p0, q0, hargs, rfl, rfl, h0, r0⟩ := trodAll_cons hA
  obtain ⟨v1, vs1, d1, ds1, p1, q1, rfl, rfl, rfl, h1, r1⟩ := trodAll_cons r0
  obtain ⟨v2, vs2, d2, ds2, p2, q2, rfl, rfl, rfl, h2, r2⟩ := trodAll_cons r1
  obtain ⟨rfl, rfl, rfl⟩ := trodAll_nil r2
  obtain rfl : args = #[v0, v1, v2] := by cases args; simp_all
  obtain ⟨a0, c0, l0, rfl, s0, f0, m0, n0, o0⟩ := open_spans (hval 0 29 v0 rfl rfl) h0
  obtain ⟨a1, c1, l1, rfl, s1, f1, m1, n1, o1⟩ := open_spans (hval 1 29 v1 rfl rfl) h1
  obtain ⟨a2, rfl, -, -, w2⟩ := open_int Try.underlying3 (hval 2 3 v2 rfl rfl) h2
  refine (walk W a0 c0 l0 s0 f0 m0 n0 o0 a1 c1 l1 s1 f1 m1 n1 o1 a2 w2).mono fun e W' ⟨he, hb⟩ => ?_
  subst he
  exact ⟨_, rfl, law_post rfl hW' (fun ds h => by match ds, h with | [_, _, _], _ => rfl) (by kernel_rfl) (by kernel_rfl) (by kernel_rfl) hb⟩

theorem over : Rows.spanHasRow.holds Try.pinned (OpenSpec.ofChange Rows.spanHasSpec) :=
  OpenClaim.holds_of_wide 7 Try.f7 rfl rfl rfl rfl rfl rfl rfl ⟨rfl, rfl, rfl, rfl, rfl⟩ rfl rfl rfl rfl rfl (by kernel_rfl) Try.func7 (by kernel_rfl)
    (of_decide_eq_true (by kernel_rfl)) (by unfold Func.isWrapper; first | (rw [if_pos (by decide +kernel)]; kernel_rfl) | (rw [if_neg (by decide +kernel)]; exact ⟨rfl, rfl⟩))
    (fun os started H enc _ => lifted os started H enc)

theorem proved : Rows.SpanHasSaid := over
end Go.Proofs.Ytpbemglnifafaaa.spanHas
