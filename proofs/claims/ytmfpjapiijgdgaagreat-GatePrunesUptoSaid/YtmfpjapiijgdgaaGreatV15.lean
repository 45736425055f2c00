/- Texts of mine, one behind the other, of each what is wanted. -/
import Derived.Test.YtmfpjapiijgdgaaGreatV00
import Derived.Test.YtmfpjapiijgdgaaGreatV01
import Derived.Test.YtmfpjapiijgdgaaGreatV05
namespace Go.Proofs.YtmfpjapiijgdgaaGreat
open Go.RowKit
set_option linter.unusedVariables false
set_option maxRecDepth 100000
theorem Drew.refl (w : World) : Drew w w := ⟨0, rfl⟩
theorem Drew.trans {w w' w'' : World} (h : Drew w w') (k : Drew w' w'') : Drew w w'' := by
 obtain ⟨n, rfl⟩ := h; obtain ⟨m, rfl⟩ := k; exact ⟨_, by rw [World.drewN_drewN]⟩
end Go.Proofs.YtmfpjapiijgdgaaGreat
namespace Go.Proofs.YtmfpjapiijgdgaaGreat
open Go.RowKit
set_option linter.unusedVariables false
set_option maxRecDepth 100000
set_option maxRecDepth 100000
theorem take_same {α : Type} {l m : List α} {j : Nat} (hl : j < l.length) (hm : j < m.length) (h : l.take j = m.take j) (e : l[j] = m[j]) : l.take (j + 1) = m.take (j + 1) := by
 rw [List.take_add_one, List.take_add_one, List.getElem?_eq_getElem hl, List.getElem?_eq_getElem hm, h, e]
set_option maxHeartbeats 4000000 in
theorem sequal_any (a b : Option Addr) (ca cb : Nat) (l m : List StM) (w : World) (ha : StSl w a l) (hb : StSl w b m) (hla : l.length ≤ maxLen) (hlb : m.length ≤ maxLen) :
  Calls Tryz.prog 129 #[.slice a l.length ca, .slice b m.length cb] w fun e w' => e = .returned (.bool (decide (l = m))) ∧ Below w.heap.size w w' := by
 have HA := Lib.hid ha
 have HB := Lib.hid hb
 clear ha hb
 unfold maxLen at hla hlb
 by_cases hll : l.length = m.length
 ·obtain ⟨n, hn⟩ : ∃ n, n = m.length := ⟨_, rfl⟩
  have HL : Hid (l.length = n) := hll.trans hn.symm
  have HM : Hid (m.length = n) := hn.symm
  rw [HL.out, HM.out]
  rw [HM.out] at hlb
  clear hll hn hla
  go_enter Tryz.func129, Tryz.ntmps129
  go_wp2
  go_loopw [13] (fun i wr => ∃ (j : Nat), j ≤ n ∧ i = .int .i64 j ∧ Hid (l.take j = m.take j) ∧ Hid (Drew w wr)) (fun i _ => n - (intOf i).toNat)
  case atStart => exact ⟨0, by omega, rfl, (by unfold Hid; rfl), Drew.refl _⟩
  case round =>
   obtain ⟨j, hj, rfl, HT, HD⟩ := hrel
   by_cases hjn : j < n
   ·have hjl : j < l.length := by have := HL.out; omega
    have hjm : j < m.length := by have := HM.out; omega
    obtain ⟨b1, o1, rfl, hb1, hc0, hc1, hc2, hc3⟩ := (HA.out.below (HD.out.below _)).at_ hjl
    obtain ⟨b2, o2, rfl, hb2, hd0, hd1, hd2, hd3⟩ := (HB.out.below (HD.out.below _)).at_ hjm
    have HN := Lib.hid (take_same hjl hjm HT.out)
    have HNE : Hid (l[j] ≠ m[j] → l ≠ m) := fun h e => h (by subst e; rfl)
    generalize l[j] = x at *
    generalize m[j] = y at *
    clear hjl hjm
    obtain ⟨f1, t1, n1, s1⟩ := x
    obtain ⟨f2, t2, n2, s2⟩ := y
    dsimp only at *
    by_cases h0 : f1 = f2
    ·subst h0
     have he0 : (f1 == f1) = true := beq_self_eq_true _
     by_cases h1 : t1 = t2
     ·subst h1
      have he1 : (t1 == t1) = true := beq_self_eq_true _
      by_cases h2 : n1 = n2
      ·subst h2
       have he2 : (n1 == n1) = true := beq_self_eq_true _
       by_cases h3 : s1 = s2
       ·subst h3
        have he3 : (s1 == s1) = true := beq_self_eq_true _
        have HN2 := Lib.hid (HN.out rfl)
        clear HN HNE
        go_wp2
        go_quiet (fail)
        go_wp2
        go_roundw
        case rel => exact ⟨j + 1, by omega, by go_num, HN2, HD.out.trans ⟨_, rfl⟩⟩
        case measure => simp [intOf]; omega
       ·have HF : Hid (decide (l = m) = false) := decide_eq_false (HNE.out (fun e => h3 (congrArg StM.s e)))
        have heq : (s1 == s2) = false := beq_eq_false_iff_ne.2 h3
        clear HN HNE
        go_wp2
        go_quiet (fail)
        go_wp2
        go_ret
        exact ⟨by rw [HF.out]; rfl, (HD.out.trans ⟨_, rfl⟩).below _⟩
      ·have HF : Hid (decide (l = m) = false) := decide_eq_false (HNE.out (fun e => h2 (congrArg StM.n e)))
       have heq : (n1 == n2) = false := beq_eq_false_iff_ne.2 h2
       clear HN HNE
       go_wp2
       go_quiet (fail)
       go_wp2
       go_ret
       exact ⟨by rw [HF.out]; rfl, (HD.out.trans ⟨_, rfl⟩).below _⟩
     ·have HF : Hid (decide (l = m) = false) := decide_eq_false (HNE.out (fun e => h1 (congrArg StM.t e)))
      have heq : (t1 == t2) = false := beq_eq_false_iff_ne.2 h1
      clear HN HNE
      go_wp2
      go_quiet (fail)
      go_wp2
      go_ret
      exact ⟨by rw [HF.out]; rfl, (HD.out.trans ⟨_, rfl⟩).below _⟩
    ·have HF : Hid (decide (l = m) = false) := decide_eq_false (HNE.out (fun e => h0 (congrArg StM.f e)))
     have heq : (f1 == f2) = false := beq_eq_false_iff_ne.2 h0
     clear HN HNE
     go_wp2
     go_quiet (fail)
     go_wp2
     go_ret
     exact ⟨by rw [HF.out]; rfl, (HD.out.trans ⟨_, rfl⟩).below _⟩
   ·obtain rfl : j = n := by omega
    have HE : Hid (decide (l = m) = true) := decide_eq_true (by
     have := HT.out
     rwa [List.take_of_length_le (Nat.le_of_eq HL.out), List.take_of_length_le (Nat.le_of_eq HM.out)] at this)
    go_wp2
    go_ret
    exact ⟨by rw [HE.out]; rfl, HD.out.below _⟩
 ·have HE : Hid (decide (l = m) = false) := decide_eq_false (fun e => hll (by rw [e]))
  have hne : ((l.length : Int) == (m.length : Int)) = false := beq_eq_false_iff_ne.2 (by omega)
  go_enter Tryz.func129, Tryz.ntmps129
  go_wp2
  go_ret
  exact ⟨by rw [HE.out]; rfl, Below.refl _ _⟩
end Go.Proofs.YtmfpjapiijgdgaaGreat
