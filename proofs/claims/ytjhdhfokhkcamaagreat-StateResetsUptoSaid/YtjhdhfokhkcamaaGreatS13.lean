/- Texts of mine, one behind the other, of each what is wanted. -/
import Derived.Test.YtjhdhfokhkcamaaGreatS00
import Derived.Test.YtjhdhfokhkcamaaGreatShelf
import Derived.Test.YtjhdhfokhkcamaaGreatRows
import Derived.Test.YtjhdhfokhkcamaaGreatS01
import Derived.Test.YtjhdhfokhkcamaaGreatS02
import Derived.Test.YtjhdhfokhkcamaaGreatS03
import Derived.Test.YtjhdhfokhkcamaaGreatS04
import Derived.Test.YtjhdhfokhkcamaaGreatS05
import Derived.Test.YtjhdhfokhkcamaaGreatS07
import Derived.Test.YtjhdhfokhkcamaaGreatS08
import Derived.Test.YtjhdhfokhkcamaaGreatS09
import Derived.Test.YtjhdhfokhkcamaaGreatS12
namespace Go.Proofs.YtjhdhfokhkcamaaGreat
open Go.RowKit Go.Proofs
set_option linter.unusedVariables false
set_option maxRecDepth 100000
deriving instance DecidableEq for TbM
deriving instance DecidableEq for UsM
def sameS (s t : SaM) : Bool := decide (s.now = t.now) && decide (s.hor = t.hor) && decide (s.op = t.op) && decide (s.us = t.us) && decide (s.su = t.su) && decide (s.tb = t.tb)
theorem sameS_iff (s t : SaM) : sameS s t = true ↔ s = t := by
 unfold sameS
 obtain ⟨a, b, c, d, e, f⟩ := s
 obtain ⟨a', b', c', d', e', f'⟩ := t
 simp [and_assoc]
set_option maxHeartbeats 4000000 in
theorem teq_any (a b : Option Addr) (ca cb : Nat) (l m : List TbM) (w : World) (ha : TbSl w a l) (hb : TbSl w b m) (hla : l.length ≤ maxLen) (hlb : m.length ≤ maxLen) :
  Calls Tryz.prog 86 #[.slice a l.length ca, .slice b m.length cb] w fun e w' => e = .returned (.bool (decide (l = m))) ∧ Below w.heap.size w w' := by
 have HA := Lib.hid ha
 have HB := Lib.hid hb
 clear ha hb
 unfold maxLen at hla hlb
 by_cases hll : l.length = m.length
 ·obtain ⟨n, hn⟩ : ∃ n, n = m.length := ⟨_, rfl⟩
  have HL : Hid (l.length = n) := hll.trans hn.symm
  have HM : Hid (m.length = n) := hn.symm
  rw [HL.out, HM.out]
  rw [HM.out] at hlb
  clear hll hn hla
  go_enter Tryz.func86, Tryz.ntmps86
  go_wp2
  go_loopw [13] (fun i wr => ∃ (j : Nat), j ≤ n ∧ i = .int .i64 j ∧ Hid (l.take j = m.take j) ∧ Hid (Drew w wr)) (fun i _ => n - (intOf i).toNat)
  case atStart => exact ⟨0, by omega, rfl, (by unfold Hid; rfl), Drew.refl _⟩
  case round =>
   obtain ⟨j, hj, rfl, HT, HD⟩ := hrel
   by_cases hjn : j < n
   ·have hjl : j < l.length := by have := HL.out; omega
    have hjm : j < m.length := by have := HM.out; omega
    obtain ⟨b1, o1, rfl, hb1, hc0, hc1⟩ := (HA.out.below (HD.out.below _)).get hjl
    obtain ⟨b2, o2, rfl, hb2, hd0, hd1⟩ := (HB.out.below (HD.out.below _)).get hjm
    have HN := Lib.hid (take_same hjl hjm HT.out)
    have HNE : Hid (l[j] ≠ m[j] → l ≠ m) := fun h e => h (by subst e; rfl)
    generalize l[j] = x at *
    generalize m[j] = y at *
    clear hjl hjm
    obtain ⟨t1, f1⟩ := x
    obtain ⟨t2, f2⟩ := y
    dsimp only at *
    by_cases h1 : t1 = t2
    ·subst h1
     have he1 := txt_eq t1
     by_cases h0 : f1 = f2
     ·subst h0
      have he0 : (f1 == f1) = true := beq_self_eq_true _
      have HN2 := Lib.hid (HN.out rfl)
      clear HN HNE
      go_wp2
      go_quiet (fail)
      go_wp2
      go_roundw
      case rel => exact ⟨j + 1, by omega, by go_num, HN2, HD.out.trans ⟨_, rfl⟩⟩
      case measure => simp [intOf]; omega
     ·have HF : Hid (decide (l = m) = false) := decide_eq_false (HNE.out (fun e => h0 (congrArg TbM.a e)))
      have heq : (f1 == f2) = false := beq_eq_false_iff_ne.2 h0
      clear HN HNE
      go_wp2
      go_quiet (fail)
      go_wp2
      go_ret
      exact ⟨by rw [HF.out]; rfl, (HD.out.trans ⟨_, rfl⟩).below _⟩
    ·have HF : Hid (decide (l = m) = false) := decide_eq_false (HNE.out (fun e => h1 (congrArg TbM.u e)))
     have heq := txt_ne h1
     clear HN HNE
     go_wp2
     go_quiet (fail)
     go_wp2
     go_ret
     exact ⟨by rw [HF.out]; rfl, (HD.out.trans ⟨_, rfl⟩).below _⟩
   ·obtain rfl : j = n := by omega
    have HE : Hid (decide (l = m) = true) := decide_eq_true (by
     have := HT.out
     rwa [List.take_of_length_le (Nat.le_of_eq HL.out), List.take_of_length_le (Nat.le_of_eq HM.out)] at this)
    go_wp2
    go_ret
    exact ⟨by rw [HE.out]; rfl, HD.out.below _⟩
 ·have HE : Hid (decide (l = m) = false) := decide_eq_false (fun e => hll (by rw [e]))
  have hne : ((l.length : Int) == (m.length : Int)) = false := beq_eq_false_iff_ne.2 (by omega)
  go_enter Tryz.func86, Tryz.ntmps86
  go_wp2
  go_ret
  exact ⟨by rw [HE.out]; rfl, Below.refl _ _⟩
theorem c_same (x y : UsL) (W : World) (hx : UsAt W x) (hy : UsAt W y) (hl : x.l.length ≤ 1000) (hm : y.l.length ≤ 1000) :
  Calls Tryz.prog 83 #[.agg #[.string x.u, .slice x.a x.l.length x.c], .agg #[.string y.u, .slice y.a y.l.length y.c]] W fun r w' => r = .returned (.bool (decide (x.m = y.m))) ∧ Below W.heap.size W w' := by
 have hb := below_two W (.cells #[.string x.u, .slice x.a x.l.length x.c] 89) (.cells #[.string y.u, .slice y.a y.l.length y.c] 89)
 have HS := Lib.hid (ssame_any x.a y.a x.c y.c x.l y.l _ (hx.st.below hb) (hy.st.below hb) (by unfold maxLen; omega) (by unfold maxLen; omega))
 have HB := Lib.hid hb
 have hd : decide (x.m = y.m) = (decide (x.u = y.u) && decide (x.l = y.l)) := by
  unfold UsL.m
  rw [Bool.eq_iff_iff]
  simp
 rw [hd]
 by_cases h1 : x.u = y.u
 ·have he1 := txt_eq x.u
  have hd2 : decide (x.u = y.u) = true := decide_eq_true h1
  rw [hd2, Bool.true_and]
  rw [← h1] at HS HB ⊢
  clear hd hd2 hx hy hl hm hb h1
  generalize decide (x.l = y.l) = r at *
  go_enter Tryz.func83, Tryz.ntmps83
  go_wp2_with fail
  refine HS.out.mono ?_
  rintro e w1 ⟨rfl, h2⟩
  have HF := Lib.hid (HB.out.trans (h2.mono HB.out.size))
  go_wp2
  go_ret
  exact ⟨rfl, HF.out⟩
 ·have heq := txt_ne h1
  have hd2 : decide (x.u = y.u) = false := decide_eq_false h1
  rw [hd2, Bool.false_and]
  clear hd hd2 hx hy hl hm hb h1 HS
  go_enter Tryz.func83, Tryz.ntmps83
  go_wp2
  go_ret
  exact ⟨rfl, HB.out⟩
set_option maxHeartbeats 4000000 in
theorem ueq_any (a b : Option Addr) (ca cb : Nat) (l m : List UsL) (w : World) (ha : UsSl w a l) (hb : UsSl w b m) (hla : l.length ≤ 1000) (hlb : m.length ≤ 1000) (hsl : ∀ y ∈ l, y.l.length ≤ 1000) (hsm : ∀ y ∈ m, y.l.length ≤ 1000) :
  Calls Tryz.prog 82 #[.slice a l.length ca, .slice b m.length cb, .func (.func 83) #[] #[]] w fun e w' => e = .returned (.bool (decide (umS l = umS m))) ∧ Below w.heap.size w w' := by
 have HA := Lib.hid ha
 have HB := Lib.hid hb
 clear ha hb
 by_cases hll : l.length = m.length
 ·obtain ⟨n, hn⟩ : ∃ n, n = m.length := ⟨_, rfl⟩
  have HL : Hid (l.length = n) := hll.trans hn.symm
  have HM : Hid (m.length = n) := hn.symm
  rw [HL.out, HM.out]
  rw [HM.out] at hlb
  clear hll hn hla
  go_enter Tryz.func82, Tryz.ntmps82
  go_wp2
  go_loopw [17] (fun i wr => ∃ (j : Nat), j ≤ n ∧ i = .int .i64 j ∧ Hid ((umS l).take j = (umS m).take j) ∧ Hid (Below w.heap.size w wr)) (fun i _ => n - (intOf i).toNat)
  case atStart => exact ⟨0, by omega, rfl, (by unfold Hid; rfl), Below.refl _ _⟩
  case round =>
   obtain ⟨j, hj, rfl, HT, HD⟩ := hrel
   by_cases hjn : j < n
   ·have hjl : j < l.length := by have := HL.out; omega
    have hjm : j < m.length := by have := HM.out; omega
    obtain ⟨b1, o1, rfl, hb1, hc0, hc1, hu1⟩ := (HA.out.below HD.out).get hjl
    obtain ⟨b2, o2, rfl, hb2, hd0, hd1, hu2⟩ := (HB.out.below HD.out).get hjm
    have HN : Hid ((l[j]).m = (m[j]).m → (umS l).take (j + 1) = (umS m).take (j + 1)) := fun e => by
     have h1 : j < (umS l).length := by rw [umS_len]; exact hjl
     have h2 : j < (umS m).length := by rw [umS_len]; exact hjm
     exact take_same h1 h2 HT.out (by simpa [umS] using e)
    have HNE : Hid ((l[j]).m ≠ (m[j]).m → umS l ≠ umS m) := fun h e => h (by
     have h1 : j < (umS l).length := by rw [umS_len]; exact hjl
     have h2 : j < (umS m).length := by rw [umS_len]; exact hjm
     have h3 : (umS l)[j] = (umS m)[j] := by simp only [e]
     simpa [umS] using h3)
    have hbb := below_two wr (.cells #[.string (l[j]).u, .slice (l[j]).a (l[j]).l.length (l[j]).c] 89) (.cells #[.string (m[j]).u, .slice (m[j]).a (m[j]).l.length (m[j]).c] 89)
    have HC := Lib.hid (c_same l[j] m[j] _ (hu1.below hbb) (hu2.below hbb) (hsl _ (List.getElem_mem hjl)) (hsm _ (List.getElem_mem hjm)))
    have HD2 := Lib.hid (HD.out.trans (hbb.mono HD.out.size))
    clear hu1 hu2 hbb
    generalize l[j] = x at *
    generalize m[j] = y at *
    clear hjl hjm HD HA HB
    by_cases he : x.m = y.m
    ·rw [decide_eq_true he] at HC
     have HN2 := Lib.hid (HN.out he)
     clear HN HNE he
     go_wp2_with fail
     refine HC.out.mono ?_
     rintro e w1 ⟨rfl, h1⟩
     have HD3 := Lib.hid (HD2.out.trans (h1.mono HD2.out.size))
     clear h1 HD2 HC
     go_wp2
     go_roundw
     case rel => exact ⟨j + 1, by omega, by go_num, HN2, HD3⟩
     case measure => simp [intOf]; omega
    ·rw [decide_eq_false he] at HC
     have HF : Hid (decide (umS l = umS m) = false) := decide_eq_false (HNE.out he)
     clear HN HNE he
     go_wp2_with fail
     refine HC.out.mono ?_
     rintro e w1 ⟨rfl, h1⟩
     have HD3 := Lib.hid (HD2.out.trans (h1.mono HD2.out.size))
     clear h1 HD2 HC
     go_wp2
     go_ret
     exact ⟨by rw [HF.out]; rfl, HD3.out⟩
   ·obtain rfl : j = n := by omega
    have HE : Hid (decide (umS l = umS m) = true) := decide_eq_true (by
     have := HT.out
     rwa [List.take_of_length_le (by rw [umS_len]; exact Nat.le_of_eq HL.out), List.take_of_length_le (by rw [umS_len]; exact Nat.le_of_eq HM.out)] at this)
    go_wp2
    go_ret
    exact ⟨by rw [HE.out]; rfl, HD.out⟩
 ·have HE : Hid (decide (umS l = umS m) = false) := decide_eq_false (fun e => hll (by have := congrArg List.length e; rwa [umS_len, umS_len] at this))
  have hne : ((l.length : Int) == (m.length : Int)) = false := beq_eq_false_iff_ne.2 (by omega)
  go_enter Tryz.func82, Tryz.ntmps82
  go_wp2
  go_ret
  exact ⟨by rw [HE.out]; rfl, Below.refl _ _⟩
end Go.Proofs.YtjhdhfokhkcamaaGreat
