/- Texts of mine, one behind the other, of each what is wanted. -/
import Derived.Test.YtmfpjapiijgdgaaGreatQ00
import Derived.Test.YtmfpjapiijgdgaaGreatShelf
import Derived.Test.YtmfpjapiijgdgaaGreatRows
import Derived.Test.YtmfpjapiijgdgaaGreatQ01
import Derived.Test.YtmfpjapiijgdgaaGreatQ02
import Derived.Test.YtmfpjapiijgdgaaGreatQ05
import Derived.Test.YtmfpjapiijgdgaaGreatQ06
import Derived.Test.YtmfpjapiijgdgaaGreatQ17
import Derived.Test.YtmfpjapiijgdgaaGreatQ20
namespace Go.Proofs.YtmfpjapiijgdgaaGreat
open Go.RowKit
set_option linter.unusedVariables false
set_option maxRecDepth 100000
set_option maxRecDepth 100000
set_option maxHeartbeats 4000000 in
theorem oequal_any (a b : Option Addr) (ca cb : Nat) (l m : List OpM) (w : World) (ha : OpSl w a l) (hb : OpSl w b m) (hla : l.length ≤ maxLen) (hlb : m.length ≤ maxLen) :
  Calls Tryz.prog 152 #[.slice a l.length ca, .slice b m.length cb] w fun e w' => e = .returned (.bool (decide (l = m))) ∧ Below w.heap.size w w' := by
 have HA := Lib.hid ha
 have HB := Lib.hid hb
 clear ha hb
 unfold maxLen at hla hlb
 by_cases hll : l.length = m.length
 ·obtain ⟨n, hn⟩ : ∃ n, n = m.length := ⟨_, rfl⟩
  have HL : Hid (l.length = n) := hll.trans hn.symm
  have HM : Hid (m.length = n) := hn.symm
  rw [HL.out, HM.out]
  rw [HM.out] at hlb
  clear hll hn hla
  go_enter Tryz.func152, Tryz.ntmps152
  go_wp2
  go_loopw [13] (fun i wr => ∃ (j : Nat), j ≤ n ∧ i = .int .i64 j ∧ Hid (l.take j = m.take j) ∧ Hid (Drew w wr)) (fun i _ => n - (intOf i).toNat)
  case atStart => exact ⟨0, by omega, rfl, (by unfold Hid; rfl), Drew.refl _⟩
  case round =>
   obtain ⟨j, hj, rfl, HT, HD⟩ := hrel
   by_cases hjn : j < n
   ·have hjl : j < l.length := by have := HL.out; omega
    have hjm : j < m.length := by have := HM.out; omega
    obtain ⟨b1, o1, rfl, hb1, hc0, hc1, hc2, hc3⟩ := (HA.out.below (HD.out.below _)).at_ hjl
    obtain ⟨b2, o2, rfl, hb2, hd0, hd1, hd2, hd3⟩ := (HB.out.below (HD.out.below _)).at_ hjm
    have HN := Lib.hid (take_same hjl hjm HT.out)
    have HNE : Hid (l[j] ≠ m[j] → l ≠ m) := fun h e => h (by subst e; rfl)
    generalize l[j] = x at *
    generalize m[j] = y at *
    clear hjl hjm
    obtain ⟨f1, t1, n1, s1⟩ := x
    obtain ⟨f2, t2, n2, s2⟩ := y
    dsimp only at *
    by_cases h0 : f1 = f2
    ·subst h0
     have he0 : (f1 == f1) = true := beq_self_eq_true _
     by_cases h1 : t1 = t2
     ·subst h1
      have he1 := txt_eq t1
      by_cases h2 : n1 = n2
      ·subst h2
       have he2 : (n1 == n1) = true := beq_self_eq_true _
       by_cases h3 : s1 = s2
       ·subst h3
        have he3 : (s1 == s1) = true := beq_self_eq_true _
        have HN2 := Lib.hid (HN.out rfl)
        clear HN HNE
        go_wp2
        go_quiet (fail)
        go_wp2
        go_roundw
        case rel => exact ⟨j + 1, by omega, by go_num, HN2, HD.out.trans ⟨_, rfl⟩⟩
        case measure => simp [intOf]; omega
       ·have HF : Hid (decide (l = m) = false) := decide_eq_false (HNE.out (fun e => h3 (congrArg OpM.f e)))
        have heq : (s1 == s2) = false := beq_eq_false_iff_ne.2 h3
        clear HN HNE
        go_wp2
        go_quiet (fail)
        go_wp2
        go_ret
        exact ⟨by rw [HF.out]; rfl, (HD.out.trans ⟨_, rfl⟩).below _⟩
      ·have HF : Hid (decide (l = m) = false) := decide_eq_false (HNE.out (fun e => h2 (congrArg OpM.s e)))
       have heq : (n1 == n2) = false := beq_eq_false_iff_ne.2 h2
       clear HN HNE
       go_wp2
       go_quiet (fail)
       go_wp2
       go_ret
       exact ⟨by rw [HF.out]; rfl, (HD.out.trans ⟨_, rfl⟩).below _⟩
     ·have HF : Hid (decide (l = m) = false) := decide_eq_false (HNE.out (fun e => h1 (congrArg OpM.u e)))
      have heq := txt_ne h1
      clear HN HNE
      go_wp2
      go_quiet (fail)
      go_wp2
      go_ret
      exact ⟨by rw [HF.out]; rfl, (HD.out.trans ⟨_, rfl⟩).below _⟩
    ·have HF : Hid (decide (l = m) = false) := decide_eq_false (HNE.out (fun e => h0 (congrArg OpM.n e)))
     have heq : (f1 == f2) = false := beq_eq_false_iff_ne.2 h0
     clear HN HNE
     go_wp2
     go_quiet (fail)
     go_wp2
     go_ret
     exact ⟨by rw [HF.out]; rfl, (HD.out.trans ⟨_, rfl⟩).below _⟩
   ·obtain rfl : j = n := by omega
    have HE : Hid (decide (l = m) = true) := decide_eq_true (by
     have := HT.out
     rwa [List.take_of_length_le (Nat.le_of_eq HL.out), List.take_of_length_le (Nat.le_of_eq HM.out)] at this)
    go_wp2
    go_ret
    exact ⟨by rw [HE.out]; rfl, HD.out.below _⟩
 ·have HE : Hid (decide (l = m) = false) := decide_eq_false (fun e => hll (by rw [e]))
  have hne : ((l.length : Int) == (m.length : Int)) = false := beq_eq_false_iff_ne.2 (by omega)
  go_enter Tryz.func152, Tryz.ntmps152
  go_wp2
  go_ret
  exact ⟨by rw [HE.out]; rfl, Below.refl _ _⟩
set_option maxHeartbeats 4000000 in
theorem orefSame_any (a b : Option Addr) (ca cb : Nat) (l m : List OpM) (w : World) (ha : OpSl w a l) (hb : OpSl w b m) (hla : l.length ≤ maxLen) (hlb : m.length ≤ maxLen) :
  Calls Tryz.prog 75 #[.slice a l.length ca, .slice b m.length cb] w fun e w' => e = .returned (.bool (decide (l = m))) ∧ Below w.heap.size w w' := by
 have HA := Lib.hid ha
 have HB := Lib.hid hb
 clear ha hb
 unfold maxLen at hla hlb
 by_cases hll : l.length = m.length
 ·obtain ⟨n, hn⟩ : ∃ n, n = m.length := ⟨_, rfl⟩
  have HL : Hid (l.length = n) := hll.trans hn.symm
  have HM : Hid (m.length = n) := hn.symm
  rw [HL.out, HM.out]
  rw [HM.out] at hlb
  clear hll hn hla
  go_enter Tryz.func75, Tryz.ntmps75
  go_wp2
  go_loopw [5] (fun i wr => ∃ (j : Nat), j ≤ n ∧ i = .int .i64 j ∧ Hid (l.take j = m.take j) ∧ Hid (Drew w wr)) (fun i _ => n - (intOf i).toNat)
  case atStart => exact ⟨0, by omega, rfl, (by unfold Hid; rfl), Drew.refl _⟩
  case round =>
   obtain ⟨j, hj, rfl, HT, HD⟩ := hrel
   by_cases hjn : j < n
   ·have hjl : j < l.length := by have := HL.out; omega
    have hjm : j < m.length := by have := HM.out; omega
    obtain ⟨b1, o1, rfl, hb1, hc0, hc1, hc2, hc3⟩ := (HA.out.below (HD.out.below _)).at_ hjl
    obtain ⟨b2, o2, rfl, hb2, hd0, hd1, hd2, hd3⟩ := (HB.out.below (HD.out.below _)).at_ hjm
    have HN := Lib.hid (take_same hjl hjm HT.out)
    have HNE : Hid (l[j] ≠ m[j] → l ≠ m) := fun h e => h (by subst e; rfl)
    generalize l[j] = x at *
    generalize m[j] = y at *
    clear hjl hjm
    obtain ⟨f1, t1, n1, s1⟩ := x
    obtain ⟨f2, t2, n2, s2⟩ := y
    dsimp only at *
    by_cases h0 : f1 = f2
    ·subst h0
     have he0 : (f1 == f1) = true := beq_self_eq_true _
     by_cases h1 : t1 = t2
     ·subst h1
      have he1 := txt_eq t1
      by_cases h2 : n1 = n2
      ·subst h2
       have he2 : (n1 == n1) = true := beq_self_eq_true _
       by_cases h3 : s1 = s2
       ·subst h3
        have he3 : (s1 == s1) = true := beq_self_eq_true _
        have HN2 := Lib.hid (HN.out rfl)
        clear HN HNE
        go_wp2
        go_quiet (fail)
        go_wp2
        go_roundw
        case rel => exact ⟨j + 1, by omega, by go_num, HN2, HD.out.trans ⟨_, rfl⟩⟩
        case measure => simp [intOf]; omega
       ·have HF : Hid (decide (l = m) = false) := decide_eq_false (HNE.out (fun e => h3 (congrArg OpM.f e)))
        have heq : (s1 == s2) = false := beq_eq_false_iff_ne.2 h3
        clear HN HNE
        go_wp2
        go_quiet (fail)
        go_wp2
        go_ret
        exact ⟨by rw [HF.out]; rfl, (HD.out.trans ⟨_, rfl⟩).below _⟩
      ·have HF : Hid (decide (l = m) = false) := decide_eq_false (HNE.out (fun e => h2 (congrArg OpM.s e)))
       have heq : (n1 == n2) = false := beq_eq_false_iff_ne.2 h2
       clear HN HNE
       go_wp2
       go_quiet (fail)
       go_wp2
       go_ret
       exact ⟨by rw [HF.out]; rfl, (HD.out.trans ⟨_, rfl⟩).below _⟩
     ·have HF : Hid (decide (l = m) = false) := decide_eq_false (HNE.out (fun e => h1 (congrArg OpM.u e)))
      have heq := txt_ne h1
      clear HN HNE
      go_wp2
      go_quiet (fail)
      go_wp2
      go_ret
      exact ⟨by rw [HF.out]; rfl, (HD.out.trans ⟨_, rfl⟩).below _⟩
    ·have HF : Hid (decide (l = m) = false) := decide_eq_false (HNE.out (fun e => h0 (congrArg OpM.n e)))
     have heq : (f1 == f2) = false := beq_eq_false_iff_ne.2 h0
     clear HN HNE
     go_wp2
     go_quiet (fail)
     go_wp2
     go_ret
     exact ⟨by rw [HF.out]; rfl, (HD.out.trans ⟨_, rfl⟩).below _⟩
   ·obtain rfl : j = n := by omega
    have HE : Hid (decide (l = m) = true) := decide_eq_true (by
     have := HT.out
     rwa [List.take_of_length_le (Nat.le_of_eq HL.out), List.take_of_length_le (Nat.le_of_eq HM.out)] at this)
    go_wp2
    go_ret
    exact ⟨by rw [HE.out]; rfl, HD.out.below _⟩
 ·have HE : Hid (decide (l = m) = false) := decide_eq_false (fun e => hll (by rw [e]))
  have hne : ((l.length : Int) == (m.length : Int)) = false := beq_eq_false_iff_ne.2 (by omega)
  go_enter Tryz.func75, Tryz.ntmps75
  go_wp2
  go_ret
  exact ⟨by rw [HE.out]; rfl, Below.refl _ _⟩
theorem osame_any (a b : Option Addr) (ca cb : Nat) (l m : List OpM) (w : World) (ha : OpSl w a l) (hb : OpSl w b m) (hla : l.length ≤ maxLen) (hlb : m.length ≤ maxLen) :
  Calls Tryz.prog 83 #[.slice a l.length ca, .slice b m.length cb] w fun e w' => e = .returned (.bool (decide (l = m))) ∧ Below w.heap.size w w' := by
 have HC := Lib.hid (oequal_any a b ca cb l m w ha hb hla hlb)
 unfold maxLen at hla hlb
 clear ha hb
 go_enter Tryz.func83, Tryz.ntmps83
 go_wp2_with fail
 refine HC.out.mono ?_
 rintro e w2 ⟨rfl, h2⟩
 go_wp2
 go_ret
 exact ⟨rfl, h2⟩
set_option maxHeartbeats 4000000 in
theorem eequal_any (a b : Option Addr) (ca cb : Nat) (l m : List EnM) (w : World) (ha : EnSl w a l) (hb : EnSl w b m) (hla : l.length ≤ maxLen) (hlb : m.length ≤ maxLen) :
  Calls Tryz.prog 153 #[.slice a l.length ca, .slice b m.length cb] w fun e w' => e = .returned (.bool (decide (l = m))) ∧ Below w.heap.size w w' := by
 have HA := Lib.hid ha
 have HB := Lib.hid hb
 clear ha hb
 unfold maxLen at hla hlb
 by_cases hll : l.length = m.length
 ·obtain ⟨n, hn⟩ : ∃ n, n = m.length := ⟨_, rfl⟩
  have HL : Hid (l.length = n) := hll.trans hn.symm
  have HM : Hid (m.length = n) := hn.symm
  rw [HL.out, HM.out]
  rw [HM.out] at hlb
  clear hll hn hla
  go_enter Tryz.func153, Tryz.ntmps153
  go_wp2
  go_loopw [13] (fun i wr => ∃ (j : Nat), j ≤ n ∧ i = .int .i64 j ∧ Hid (l.take j = m.take j) ∧ Hid (Drew w wr)) (fun i _ => n - (intOf i).toNat)
  case atStart => exact ⟨0, by omega, rfl, (by unfold Hid; rfl), Drew.refl _⟩
  case round =>
   obtain ⟨j, hj, rfl, HT, HD⟩ := hrel
   by_cases hjn : j < n
   ·have hjl : j < l.length := by have := HL.out; omega
    have hjm : j < m.length := by have := HM.out; omega
    obtain ⟨b1, o1, rfl, hb1, hc0, hc1, hc2, hc3⟩ := (HA.out.below (HD.out.below _)).at_ hjl
    obtain ⟨b2, o2, rfl, hb2, hd0, hd1, hd2, hd3⟩ := (HB.out.below (HD.out.below _)).at_ hjm
    have HN := Lib.hid (take_same hjl hjm HT.out)
    have HNE : Hid (l[j] ≠ m[j] → l ≠ m) := fun h e => h (by subst e; rfl)
    generalize l[j] = x at *
    generalize m[j] = y at *
    clear hjl hjm
    obtain ⟨f1, t1, n1, s1⟩ := x
    obtain ⟨f2, t2, n2, s2⟩ := y
    dsimp only at *
    by_cases h0 : f1 = f2
    ·subst h0
     have he0 := str_eq f1
     by_cases h1 : t1 = t2
     ·subst h1
      have he1 := str_eq t1
      by_cases h2 : n1 = n2
      ·subst h2
       have he2 : (n1 == n1) = true := beq_self_eq_true _
       by_cases h3 : s1 = s2
       ·subst h3
        have he3 : (s1 == s1) = true := beq_self_eq_true _
        have HN2 := Lib.hid (HN.out rfl)
        clear HN HNE
        go_wp2
        go_quiet (fail)
        go_wp2
        go_roundw
        case rel => exact ⟨j + 1, by omega, by go_num, HN2, HD.out.trans ⟨_, rfl⟩⟩
        case measure => simp [intOf]; omega
       ·have HF : Hid (decide (l = m) = false) := decide_eq_false (HNE.out (fun e => h3 (congrArg EnM.t e)))
        have heq : (s1 == s2) = false := beq_eq_false_iff_ne.2 h3
        clear HN HNE
        go_wp2
        go_quiet (fail)
        go_wp2
        go_ret
        exact ⟨by rw [HF.out]; rfl, (HD.out.trans ⟨_, rfl⟩).below _⟩
      ·have HF : Hid (decide (l = m) = false) := decide_eq_false (HNE.out (fun e => h2 (congrArg EnM.f e)))
       have heq : (n1 == n2) = false := beq_eq_false_iff_ne.2 h2
       clear HN HNE
       go_wp2
       go_quiet (fail)
       go_wp2
       go_ret
       exact ⟨by rw [HF.out]; rfl, (HD.out.trans ⟨_, rfl⟩).below _⟩
     ·have HF : Hid (decide (l = m) = false) := decide_eq_false (HNE.out (fun e => h1 (congrArg EnM.u e)))
      have heq := str_ne h1
      clear HN HNE
      go_wp2
      go_quiet (fail)
      go_wp2
      go_ret
      exact ⟨by rw [HF.out]; rfl, (HD.out.trans ⟨_, rfl⟩).below _⟩
    ·have HF : Hid (decide (l = m) = false) := decide_eq_false (HNE.out (fun e => h0 (congrArg EnM.w e)))
     have heq := str_ne h0
     clear HN HNE
     go_wp2
     go_quiet (fail)
     go_wp2
     go_ret
     exact ⟨by rw [HF.out]; rfl, (HD.out.trans ⟨_, rfl⟩).below _⟩
   ·obtain rfl : j = n := by omega
    have HE : Hid (decide (l = m) = true) := decide_eq_true (by
     have := HT.out
     rwa [List.take_of_length_le (Nat.le_of_eq HL.out), List.take_of_length_le (Nat.le_of_eq HM.out)] at this)
    go_wp2
    go_ret
    exact ⟨by rw [HE.out]; rfl, HD.out.below _⟩
 ·have HE : Hid (decide (l = m) = false) := decide_eq_false (fun e => hll (by rw [e]))
  have hne : ((l.length : Int) == (m.length : Int)) = false := beq_eq_false_iff_ne.2 (by omega)
  go_enter Tryz.func153, Tryz.ntmps153
  go_wp2
  go_ret
  exact ⟨by rw [HE.out]; rfl, Below.refl _ _⟩
set_option maxHeartbeats 4000000 in
theorem erefSame_any (a b : Option Addr) (ca cb : Nat) (l m : List EnM) (w : World) (ha : EnSl w a l) (hb : EnSl w b m) (hla : l.length ≤ maxLen) (hlb : m.length ≤ maxLen) :
  Calls Tryz.prog 76 #[.slice a l.length ca, .slice b m.length cb] w fun e w' => e = .returned (.bool (decide (l = m))) ∧ Below w.heap.size w w' := by
 have HA := Lib.hid ha
 have HB := Lib.hid hb
 clear ha hb
 unfold maxLen at hla hlb
 by_cases hll : l.length = m.length
 ·obtain ⟨n, hn⟩ : ∃ n, n = m.length := ⟨_, rfl⟩
  have HL : Hid (l.length = n) := hll.trans hn.symm
  have HM : Hid (m.length = n) := hn.symm
  rw [HL.out, HM.out]
  rw [HM.out] at hlb
  clear hll hn hla
  go_enter Tryz.func76, Tryz.ntmps76
  go_wp2
  go_loopw [5] (fun i wr => ∃ (j : Nat), j ≤ n ∧ i = .int .i64 j ∧ Hid (l.take j = m.take j) ∧ Hid (Drew w wr)) (fun i _ => n - (intOf i).toNat)
  case atStart => exact ⟨0, by omega, rfl, (by unfold Hid; rfl), Drew.refl _⟩
  case round =>
   obtain ⟨j, hj, rfl, HT, HD⟩ := hrel
   by_cases hjn : j < n
   ·have hjl : j < l.length := by have := HL.out; omega
    have hjm : j < m.length := by have := HM.out; omega
    obtain ⟨b1, o1, rfl, hb1, hc0, hc1, hc2, hc3⟩ := (HA.out.below (HD.out.below _)).at_ hjl
    obtain ⟨b2, o2, rfl, hb2, hd0, hd1, hd2, hd3⟩ := (HB.out.below (HD.out.below _)).at_ hjm
    have HN := Lib.hid (take_same hjl hjm HT.out)
    have HNE : Hid (l[j] ≠ m[j] → l ≠ m) := fun h e => h (by subst e; rfl)
    generalize l[j] = x at *
    generalize m[j] = y at *
    clear hjl hjm
    obtain ⟨f1, t1, n1, s1⟩ := x
    obtain ⟨f2, t2, n2, s2⟩ := y
    dsimp only at *
    by_cases h0 : f1 = f2
    ·subst h0
     have he0 := str_eq f1
     by_cases h1 : t1 = t2
     ·subst h1
      have he1 := str_eq t1
      by_cases h2 : n1 = n2
      ·subst h2
       have he2 : (n1 == n1) = true := beq_self_eq_true _
       by_cases h3 : s1 = s2
       ·subst h3
        have he3 : (s1 == s1) = true := beq_self_eq_true _
        have HN2 := Lib.hid (HN.out rfl)
        clear HN HNE
        go_wp2
        go_quiet (fail)
        go_wp2
        go_roundw
        case rel => exact ⟨j + 1, by omega, by go_num, HN2, HD.out.trans ⟨_, rfl⟩⟩
        case measure => simp [intOf]; omega
       ·have HF : Hid (decide (l = m) = false) := decide_eq_false (HNE.out (fun e => h3 (congrArg EnM.t e)))
        have heq : (s1 == s2) = false := beq_eq_false_iff_ne.2 h3
        clear HN HNE
        go_wp2
        go_quiet (fail)
        go_wp2
        go_ret
        exact ⟨by rw [HF.out]; rfl, (HD.out.trans ⟨_, rfl⟩).below _⟩
      ·have HF : Hid (decide (l = m) = false) := decide_eq_false (HNE.out (fun e => h2 (congrArg EnM.f e)))
       have heq : (n1 == n2) = false := beq_eq_false_iff_ne.2 h2
       clear HN HNE
       go_wp2
       go_quiet (fail)
       go_wp2
       go_ret
       exact ⟨by rw [HF.out]; rfl, (HD.out.trans ⟨_, rfl⟩).below _⟩
     ·have HF : Hid (decide (l = m) = false) := decide_eq_false (HNE.out (fun e => h1 (congrArg EnM.u e)))
      have heq := str_ne h1
      clear HN HNE
      go_wp2
      go_quiet (fail)
      go_wp2
      go_ret
      exact ⟨by rw [HF.out]; rfl, (HD.out.trans ⟨_, rfl⟩).below _⟩
    ·have HF : Hid (decide (l = m) = false) := decide_eq_false (HNE.out (fun e => h0 (congrArg EnM.w e)))
     have heq := str_ne h0
     clear HN HNE
     go_wp2
     go_quiet (fail)
     go_wp2
     go_ret
     exact ⟨by rw [HF.out]; rfl, (HD.out.trans ⟨_, rfl⟩).below _⟩
   ·obtain rfl : j = n := by omega
    have HE : Hid (decide (l = m) = true) := decide_eq_true (by
     have := HT.out
     rwa [List.take_of_length_le (Nat.le_of_eq HL.out), List.take_of_length_le (Nat.le_of_eq HM.out)] at this)
    go_wp2
    go_ret
    exact ⟨by rw [HE.out]; rfl, HD.out.below _⟩
 ·have HE : Hid (decide (l = m) = false) := decide_eq_false (fun e => hll (by rw [e]))
  have hne : ((l.length : Int) == (m.length : Int)) = false := beq_eq_false_iff_ne.2 (by omega)
  go_enter Tryz.func76, Tryz.ntmps76
  go_wp2
  go_ret
  exact ⟨by rw [HE.out]; rfl, Below.refl _ _⟩
theorem esame_any (a b : Option Addr) (ca cb : Nat) (l m : List EnM) (w : World) (ha : EnSl w a l) (hb : EnSl w b m) (hla : l.length ≤ maxLen) (hlb : m.length ≤ maxLen) :
  Calls Tryz.prog 86 #[.slice a l.length ca, .slice b m.length cb] w fun e w' => e = .returned (.bool (decide (l = m))) ∧ Below w.heap.size w w' := by
 have HC := Lib.hid (eequal_any a b ca cb l m w ha hb hla hlb)
 unfold maxLen at hla hlb
 clear ha hb
 go_enter Tryz.func86, Tryz.ntmps86
 go_wp2_with fail
 refine HC.out.mono ?_
 rintro e w2 ⟨rfl, h2⟩
 go_wp2
 go_ret
 exact ⟨rfl, h2⟩
end Go.Proofs.YtmfpjapiijgdgaaGreat
namespace Go.Proofs.YtmfpjapiijgdgaaGreat
open Go.RowKit Go.Proofs
set_option linter.unusedVariables false
set_option maxRecDepth 100000
set_option maxRecDepth 100000
theorem two_states {w : World} {x y : SaL} (h : SaAt w x) (k : SaAt w y) (t t' : TypeId) : SB w w.heap.size t x ((w.alloc (.cells (saC x) t)).alloc (.cells (saC y) t')) ∧ SB w (w.heap.size + 1) t' y ((w.alloc (.cells (saC x) t)).alloc (.cells (saC y) t')) := by
 have S0 := SB.new (Below.refl w.heap.size w) h t
 have Z0 := SB.new (S0.frame) (k.below (below_one w (.cells (saC x) t))) t'
 rw [size1] at Z0
 exact ⟨S0.alloc _, Z0⟩
end Go.Proofs.YtmfpjapiijgdgaaGreat
