/- Texts of mine, one behind the other, of each what is wanted. -/
import Derived.Test.YtapacckmgmdnoaaGreatU00
import Derived.Test.YtapacckmgmdnoaaGreatShelf
import Derived.Test.YtapacckmgmdnoaaGreatRows
import Derived.Test.YtapacckmgmdnoaaGreatU01
import Derived.Test.YtapacckmgmdnoaaGreatU02
import Derived.Test.YtapacckmgmdnoaaGreatU07
import Derived.Test.YtapacckmgmdnoaaGreatU09
import Derived.Test.YtapacckmgmdnoaaGreatU10
import Derived.Test.YtapacckmgmdnoaaGreatU11
import Derived.Test.YtapacckmgmdnoaaGreatU16
import Derived.Test.YtapacckmgmdnoaaGreatU21
import Derived.Test.YtapacckmgmdnoaaGreatU22
import Derived.Test.YtapacckmgmdnoaaGreatU23
import Derived.Test.YtapacckmgmdnoaaGreatU27
import Derived.Test.YtapacckmgmdnoaaGreatU31
import Derived.Test.YtapacckmgmdnoaaGreatU32
import Derived.Test.YtapacckmgmdnoaaGreatU33
import Derived.Test.YtapacckmgmdnoaaGreatU34
import Derived.Test.YtapacckmgmdnoaaGreatU35
import Derived.Test.YtapacckmgmdnoaaGreatU36
namespace Go.Proofs.YtapacckmgmdnoaaGreat
open Go.RowKit
set_option linter.unusedVariables false
set_option maxRecDepth 100000
set_option maxRecDepth 100000
set_option maxHeartbeats 4000000 in
theorem sequal_any (a b : Option Addr) (ca cb : Nat) (l m : List StM) (w : World) (ha : StSl w a l) (hb : StSl w b m) (hla : l.length ≤ maxLen) (hlb : m.length ≤ maxLen) :
  Calls Tryz.prog 129 #[.slice a l.length ca, .slice b m.length cb] w fun e w' => e = .returned (.bool (decide (l = m))) ∧ Below w.heap.size w w' := by
 have HA := Lib.hid ha
 have HB := Lib.hid hb
 clear ha hb
 unfold maxLen at hla hlb
 by_cases hll : l.length = m.length
 ·obtain ⟨n, hn⟩ : ∃ n, n = m.length := ⟨_, rfl⟩
  have HL : Hid (l.length = n) := hll.trans hn.symm
  have HM : Hid (m.length = n) := hn.symm
  rw [HL.out, HM.out]
  rw [HM.out] at hlb
  clear hll hn hla
  go_enter Tryz.func129, Tryz.ntmps129
  go_wp2
  go_loopw [13] (fun i wr => ∃ (j : Nat), j ≤ n ∧ i = .int .i64 j ∧ Hid (l.take j = m.take j) ∧ Hid (Drew w wr)) (fun i _ => n - (intOf i).toNat)
  case atStart => exact ⟨0, by omega, rfl, (by unfold Hid; rfl), Drew.refl _⟩
  case round =>
   obtain ⟨j, hj, rfl, HT, HD⟩ := hrel
   by_cases hjn : j < n
   ·have hjl : j < l.length := by have := HL.out; omega
    have hjm : j < m.length := by have := HM.out; omega
    obtain ⟨b1, o1, rfl, hb1, hc0, hc1, hc2, hc3⟩ := (HA.out.below (HD.out.below _)).at_ hjl
    obtain ⟨b2, o2, rfl, hb2, hd0, hd1, hd2, hd3⟩ := (HB.out.below (HD.out.below _)).at_ hjm
    have HN := Lib.hid (take_same hjl hjm HT.out)
    have HNE : Hid (l[j] ≠ m[j] → l ≠ m) := fun h e => h (by subst e; rfl)
    generalize l[j] = x at *
    generalize m[j] = y at *
    clear hjl hjm
    obtain ⟨f1, t1, n1, s1⟩ := x
    obtain ⟨f2, t2, n2, s2⟩ := y
    dsimp only at *
    by_cases h0 : f1 = f2
    ·subst h0
     have he0 : (f1 == f1) = true := beq_self_eq_true _
     by_cases h1 : t1 = t2
     ·subst h1
      have he1 : (t1 == t1) = true := beq_self_eq_true _
      by_cases h2 : n1 = n2
      ·subst h2
       have he2 : (n1 == n1) = true := beq_self_eq_true _
       by_cases h3 : s1 = s2
       ·subst h3
        have he3 : (s1 == s1) = true := beq_self_eq_true _
        have HN2 := Lib.hid (HN.out rfl)
        clear HN HNE
        go_wp2
        go_quiet (fail)
        go_wp2
        go_roundw
        case rel => exact ⟨j + 1, by omega, by go_num, HN2, HD.out.trans ⟨_, rfl⟩⟩
        case measure => simp [intOf]; omega
       ·have HF : Hid (decide (l = m) = false) := decide_eq_false (HNE.out (fun e => h3 (congrArg StM.s e)))
        have heq : (s1 == s2) = false := beq_eq_false_iff_ne.2 h3
        clear HN HNE
        go_wp2
        go_quiet (fail)
        go_wp2
        go_ret
        exact ⟨by rw [HF.out]; rfl, (HD.out.trans ⟨_, rfl⟩).below _⟩
      ·have HF : Hid (decide (l = m) = false) := decide_eq_false (HNE.out (fun e => h2 (congrArg StM.n e)))
       have heq : (n1 == n2) = false := beq_eq_false_iff_ne.2 h2
       clear HN HNE
       go_wp2
       go_quiet (fail)
       go_wp2
       go_ret
       exact ⟨by rw [HF.out]; rfl, (HD.out.trans ⟨_, rfl⟩).below _⟩
     ·have HF : Hid (decide (l = m) = false) := decide_eq_false (HNE.out (fun e => h1 (congrArg StM.t e)))
      have heq : (t1 == t2) = false := beq_eq_false_iff_ne.2 h1
      clear HN HNE
      go_wp2
      go_quiet (fail)
      go_wp2
      go_ret
      exact ⟨by rw [HF.out]; rfl, (HD.out.trans ⟨_, rfl⟩).below _⟩
    ·have HF : Hid (decide (l = m) = false) := decide_eq_false (HNE.out (fun e => h0 (congrArg StM.f e)))
     have heq : (f1 == f2) = false := beq_eq_false_iff_ne.2 h0
     clear HN HNE
     go_wp2
     go_quiet (fail)
     go_wp2
     go_ret
     exact ⟨by rw [HF.out]; rfl, (HD.out.trans ⟨_, rfl⟩).below _⟩
   ·obtain rfl : j = n := by omega
    have HE : Hid (decide (l = m) = true) := decide_eq_true (by
     have := HT.out
     rwa [List.take_of_length_le (Nat.le_of_eq HL.out), List.take_of_length_le (Nat.le_of_eq HM.out)] at this)
    go_wp2
    go_ret
    exact ⟨by rw [HE.out]; rfl, HD.out.below _⟩
 ·have HE : Hid (decide (l = m) = false) := decide_eq_false (fun e => hll (by rw [e]))
  have hne : ((l.length : Int) == (m.length : Int)) = false := beq_eq_false_iff_ne.2 (by omega)
  go_enter Tryz.func129, Tryz.ntmps129
  go_wp2
  go_ret
  exact ⟨by rw [HE.out]; rfl, Below.refl _ _⟩
theorem ssame_any (a b : Option Addr) (ca cb : Nat) (l m : List StM) (w : World) (ha : StSl w a l) (hb : StSl w b m) (hla : l.length ≤ maxLen) (hlb : m.length ≤ maxLen) :
  Calls Tryz.prog 59 #[.slice a l.length ca, .slice b m.length cb] w fun e w' => e = .returned (.bool (decide (l = m))) ∧ Below w.heap.size w w' := by
 have HC := Lib.hid (sequal_any a b ca cb l m w ha hb hla hlb)
 unfold maxLen at hla hlb
 clear ha hb
 go_enter Tryz.func59, Tryz.ntmps59
 go_wp2_with fail
 refine HC.out.mono ?_
 rintro e w2 ⟨rfl, h2⟩
 go_wp2
 go_ret
 exact ⟨rfl, h2⟩
end Go.Proofs.YtapacckmgmdnoaaGreat
namespace Go.Proofs.YtapacckmgmdnoaaGreat
open Go.RowKit Go.Proofs
set_option linter.unusedVariables false
set_option maxRecDepth 100000
def everM (p u : ByteArray) (n : Int) : AskM := ⟨p, u, 0, 1099511627776, n⟩
set_option maxHeartbeats 4000000 in
theorem last_any13 (x : SaL) (p u : ByteArray) (n : Int) (w : World) (h : SaAt w x) (hf : Few x.m 200) (hp : p.size ≤ maxLen) (hu : u.size ≤ maxLen) :
  Calls Tryz.prog 51 #[saV x, pr p u, .int .i64 n] w fun e w' => ∃ m, e = .returned (.tuple #[.int .i64 (lastS m).1, .bool (lastS m).2, .int .i64 (whyV x.m p u n)]) ∧ GTold x.m (everM p u n) m ∧ Below w.heap.size w w' := by
 have S := SB.new (Below.refl w.heap.size w) h 39
 have S := S.alloc (.cells #[.string p, .string u] 79)
 have HR := Lib.hid (fun V (h : SaAt V x) => range_any13 x (everM p u n) V h hf hp hu)
 have HS := Lib.hid S
 obtain ⟨c0, c1, c2, c3, c4, c5⟩ := S.cells
 have hnew := heap_alloc_new (w.alloc (.cells (saC x) 39)) (.cells #[.string p, .string u] 79)
 rw [size1] at hnew
 have p0 := cell_of_row _ _ 0 _ _ (0, 0) hnew
 have p1 := cell_of_row _ _ 1 _ _ (0, 0) hnew
 rw [show whyV x.m (everM p u n).w (everM p u n).u (everM p u n).n = whyV x.m p u n from rfl] at HR
 generalize GTold x.m (everM p u n) = TD at *
 generalize whyV x.m p u n = Y at *
 obtain ⟨now, hor, oa, op, oc, ua, us, uc, sa, su, sc, ta, tb, tc⟩ := x
 unfold saV saC askV askC everM pr at *
 dsimp only at *
 clear h hf S hnew
 go_enter Tryz.func51, Tryz.ntmps51
 go_wp2_with fail
 refine (HR.out _ HS.out.at_).mono ?_
 rintro e w1 ⟨y, c, m, rfl, k1, k2, k3, h1⟩
 have HF := Lib.hid (HS.out.frame.trans (h1.mono HS.out.frame.size))
 have HL := Lib.hid (last_any y c m w1 k3 (by omega))
 have HT := Lib.hid k1
 clear c0 c1 c2 c3 c4 c5 p0 p1 HS HR h1 k1 k2 k3
 go_wp2_with fail
 refine HL.out.mono ?_
 rintro e w2 ⟨rfl, h2⟩
 have HF2 := Lib.hid (HF.out.trans (h2.mono HF.out.size))
 clear HL HF h2
 go_wp2
 go_ret3
 exact ⟨m, rfl, HT.out, HF2.out⟩
def gV2 : EvM := ⟨4, 5, bo11, an11, 0, 0⟩
def gV3 : EvM := ⟨3, 9, an11, no11, 1, 0⟩
def sG2 : SaM := ⟨5, 0, [⟨1, an11, 1, 3⟩], [], [⟨bo11, an11, 5, 1099511627776⟩], []⟩
def sG3 : SaM := ⟨9, 0, [], [⟨an11, [⟨3, 9, 1, 1⟩]⟩], [⟨bo11, an11, 5, 1099511627776⟩], []⟩
theorem rvg2 : RightV 4 5 0 0 bo11 an11 := ⟨by decide, by decide, .inr (.inr (.inl ⟨.inl rfl, bo_name, an_name, rfl, rfl⟩))⟩
theorem rvg3 : RightV 3 9 1 0 an11 no11 := ⟨by decide, by decide, .inr (.inl ⟨rfl, by decide, by decide, an_name, rfl, rfl⟩)⟩
theorem gE2 : errE sA1 gV2 = 0 := by
 show errS sA1 4 5 0 0 bo11 an11 = 0
 unfold errS
 rw [if_pos rvg2, if_neg (by decide)]
 rfl
theorem gG2 : goE sA1 gV2 = sG2 := rfl
theorem gE3 : errE sG2 gV3 = 0 := by
 show errS sG2 3 9 1 0 an11 no11 = 0
 unfold errS
 rw [if_pos rvg3, if_neg (by decide)]
 exact aF.1
theorem gS3 : fndS [⟨1, an11, 1, 3⟩] 1 an11 9 = ⟨3, 9, 1, 1⟩ := by unfold fndS; rw [if_pos aF.1, aF.2.1]; rfl
theorem gG3 : goE sG2 gV3 = sG3 := by
 show SaM.mk 9 0 (cloR [⟨1, an11, 1, 3⟩] 1 an11) (addU [] an11 (fndS [⟨1, an11, 1, 3⟩] 1 an11 9)) [⟨bo11, an11, 5, 1099511627776⟩] [] = sG3
 rw [bC3, gS3]
 rfl
def l13 : List EvM := [eV1, gV2, gV3]
theorem l13_fold : foldE saZ l13 = sG3 := by
 show nxE (nxE (nxE saZ eV1) gV2) gV3 = sG3
 rw [nxE_ok bE1, bG1, nxE_ok gE2, gG2, nxE_ok gE3, gG3]
theorem l13_fits : FitsV l13 := fun e he => by
 unfold l13 at he
 simp only [List.mem_cons, List.mem_nil_iff, or_false] at he
 rcases he with rfl | rfl | rfl <;> exact ⟨show _ ≤ _ by decide, show _ ≤ _ by decide⟩
theorem sG3_right : RightS sG3 := by have h := right_fold l13 RightS.zero; rw [l13_fold] at h; exact h
theorem sG3_stays (n : Int) : staysS sG3 an11 n = [⟨3, 9, 1, 1⟩] := by
 have h := ofU_mem (l := [⟨an11, [⟨3, 9, 1, 1⟩]⟩]) sG3_right.ur (x := ⟨an11, [⟨3, 9, 1, 1⟩]⟩) (List.mem_singleton.2 rfl)
 show addsS (staysO [] an11 n) (ofU [⟨an11, [⟨3, 9, 1, 1⟩]⟩] an11) = _
 rw [h]
 rfl
theorem bo_an : bo11 ≠ an11 := fun h => absurd (congrArg (fun b : ByteArray => b.data.toList) h) (by decide)
theorem sG3_per : perS sG3.su bo11 an11 = [⟨5, 1099511627776⟩] := by
 have h : ofE bo11 an11 ⟨bo11, an11, 5, 1099511627776⟩ = true := ofE_iff.2 ⟨rfl, rfl⟩
 show ([(⟨bo11, an11, 5, 1099511627776⟩ : EnM)].filter (ofE bo11 an11)).map EnM.sp = _
 rw [List.filter_cons, if_pos h]
 rfl
theorem sG3_no : perS sG3.su an11 an11 = [] := by
 have h : ¬ ofE an11 an11 ⟨bo11, an11, 5, 1099511627776⟩ = true := fun h => bo_an (ofE_iff.1 h).1
 show ([(⟨bo11, an11, 5, 1099511627776⟩ : EnM)].filter (ofE an11 an11)).map EnM.sp = _
 rw [List.filter_cons, if_neg h]
 rfl
theorem sp_set {P : Int → Prop} {a b : Int} (h : a < b) (k : ∀ x, P x ↔ a ≤ x ∧ x < b) : IsSet P [⟨a, b⟩] :=
 ⟨⟨by simp [RowL]; omega, by simpa using h⟩, fun x => by rw [has_one, k]⟩
theorem why_g (n : Int) (p : ByteArray) (hp : nameB p = true) (hn : 9 ≤ n ∧ n < 1099511627776) : whyV sG3 p an11 n = 0 := by
 unfold whyV
 rw [if_pos ⟨hp, an_name⟩, if_neg]
 show ¬ (n < 9 ∨ 1099511627776 ≤ n)
 omega
theorem g_told1 {m : List StM} (h : GTold sG3 ⟨bo11, an11, 0, 8, 9⟩ m) : m = [⟨5, 8, 1, 1⟩] := by
 have h1 := h.1 (why_g 9 bo11 bo_name (by decide))
 have h2 : IsRange sG3 bo11 an11 0 8 9 [⟨5, 8, 1, 1⟩] := by
  refine ⟨[⟨5, 8⟩], sp_set (by decide) fun x => ?_, List.Perm.of_eq ?_, by simp [SortedS]⟩
  ·unfold gateP
   rw [sG3_per, has_one]
   show (5 ≤ x ∧ x < 1099511627776) ∧ (0 ≤ x ∧ x < 8) ∧ 0 ≤ x ∧ x < 1099511627776 ↔ _
   omega
  ·rw [sG3_stays]; rfl
 exact h1.only h2
theorem g_last1 {m : List StM} (h : GTold sG3 (everM bo11 an11 20) m) : m = [⟨5, 9, 1, 1⟩] := by
 have h1 := h.1 (why_g 20 bo11 bo_name (by decide))
 have h2 : IsRange sG3 bo11 an11 0 1099511627776 20 [⟨5, 9, 1, 1⟩] := by
  refine ⟨[⟨5, 1099511627776⟩], sp_set (by decide) fun x => ?_, List.Perm.of_eq ?_, by simp [SortedS]⟩
  ·unfold gateP
   rw [sG3_per, has_one]
   show (5 ≤ x ∧ x < 1099511627776) ∧ (0 ≤ x ∧ x < 1099511627776) ∧ 0 ≤ x ∧ x < 1099511627776 ↔ _
   omega
  ·rw [sG3_stays]; rfl
 exact h1.only h2
theorem g_last2 {m : List StM} (h : GTold sG3 (everM an11 an11 20) m) : m = [] := by
 have h1 := h.1 (why_g 20 an11 an_name (by decide))
 refine range_none (Or.inr fun x hx => ?_) h1
 rw [show perS sG3.su (everM an11 an11 20).w (everM an11 an11 20).u = [] from sG3_no] at hx
 exact HasL.nil hx
theorem g_why2 : whyV sG3 bo11 an11 8 = 130 := by
 unfold whyV
 rw [if_pos ⟨bo_name, an_name⟩, if_pos]
 exact Or.inl (by decide)
theorem g_why3 : whyV sG3 no11 no11 9 = 1 := by
 unfold whyV
 rw [if_neg (by decide)]
theorem g_sees5 : hasB (perS sG3.su bo11 an11) 5 = true := by rw [sG3_per]; rfl
theorem g_sees4 : hasB (perS sG3.su bo11 an11) 4 = false := by rw [sG3_per]; rfl
def movedU (D : List UsL) (j : Nat) (a : Option Addr) (c : Nat) : List UsL := D.set j { (D.getD j default) with a := a, c := c }
theorem movedU_len (D : List UsL) (j : Nat) (a : Option Addr) (c : Nat) : (movedU D j a c).length = D.length := by simp [movedU]
theorem movedU_m (D : List UsL) {j : Nat} (hj : j < D.length) (a : Option Addr) (c : Nat) : umS (movedU D j a c) = umS D := by
 unfold movedU umS
 rw [List.map_set]
 have e1 : (({ (D.getD j default) with a := a, c := c } : UsL)).m = (D.map UsL.m)[j]'(by rw [List.length_map]; exact hj) := by
  rw [List.getElem_map, List.getD_eq_getElem?_getD, List.getElem?_eq_getElem hj]
  rfl
 rw [e1, List.set_getElem_self]
structure OwK (w : World) (x : SaL) (B : Nat) (xu : Option Addr) (D : List UsL) (q : Nat) (W : World) : Prop where
 s : SB w w.heap.size 39 x W
 z : SB w (w.heap.size + 1) 39 saO W
 us : UsSl W xu D
 own : W.ownsRow B 108 2 (.slice xu D.length q) D.length (usv D)
theorem OwK.below {w W W' : World} {x : SaL} {B : Nat} {xu : Option Addr} {D : List UsL} {q : Nat} (h : OwK w x B xu D q W) (qB : Below W.heap.size W W') : OwK w x B xu D q W' := ⟨h.s.below qB, h.z.below qB, h.us.below qB, own_below h.own qB⟩
theorem OwK.store {w W : World} {x : SaL} {B gu : Nat} {D : List UsL} {q : Nat} (hx : SaAt w x) (hB : w.heap.size + 2 ≤ B) (h : OwK w x B (some ⟨gu, 0, none⟩) D q W) {j : Nat} (hj : j < D.length) {a : Option Addr} {c n : Nat} (hn : n = D[j].l.length) (hs : StSl W a D[j].l) (hc : Cp a D[j].l.length c) :
  OwK w x B (some ⟨gu, 0, none⟩) (movedU D j a c) q (W.setCell ⟨gu, j * 2 + 1, none⟩ (.slice a n c)) := by
 subst hn
 obtain ⟨h0, h1⟩ := usv_get hj
 have hp : W.cell? ⟨gu, j * 2 + 1, none⟩ = some (.slice D[j].a D[j].l.length D[j].c) := by rw [h.own.cellAt _ (by omega)]; exact h1
 have hlt := h.own.lt gu rfl
 have hset : (usv D).set (j * 2 + 1) (.slice a D[j].l.length c) = usv (movedU D j a c) := by
  unfold movedU
  rw [List.getD_eq_getElem?_getD, List.getElem?_eq_getElem hj, Option.getD_some, ← usv_set _ _ hj]
  congr 1
  have hl : j * 2 < (usv D).length := by rw [usv_len]; omega
  have e0 := h0
  rw [List.getElem?_eq_getElem hl] at e0
  rw [← Option.some.inj e0, List.set_getElem_self]
 have hst := (h.own.stored (j * 2 + 1) (.slice a D[j].l.length c)).1
 rw [hset] at hst
 have hown2 : (W.setCell ⟨gu, j * 2 + 1, none⟩ (.slice a D[j].l.length c)).ownsRow B 108 2 (.slice (some ⟨gu, 0, none⟩) (movedU D j a c).length q) (movedU D j a c).length (usv (movedU D j a c)) := by
  rw [movedU_len]
  exact hst
 have hf := h.s.frame.setCell (p := ⟨gu, j * 2 + 1, none⟩) (by show w.heap.size ≤ gu; omega) (.slice a D[j].l.length c)
 have hat : ∀ y ∈ movedU D j a c, UsAt (W.setCell ⟨gu, j * 2 + 1, none⟩ (.slice a D[j].l.length c)) y := fun y hy => by
  unfold movedU at hy
  rcases List.mem_or_eq_of_mem_set hy with h2 | rfl
  ·exact (h.us.at_ y h2).setC hp _
  ·have e : D.getD j default = D[j] := by rw [List.getD_eq_getElem?_getD, List.getElem?_eq_getElem hj, Option.getD_some]
   rw [e]
   exact ⟨hs.setC hp _, hc.le, hc.mx, hc.nil⟩
 refine ⟨⟨(block_far (by omega)).trans h.s.blk, h.s.ge, hf, hx.below hf⟩, ⟨(block_far (by omega)).trans h.z.blk, h.z.ge, hf, SaAt.zero _⟩, ⟨?_, hat⟩, hown2⟩
 obtain ⟨a', c', e1, e2, e3, e4, e5⟩ := own_us hown2
 have : some ⟨gu, 0, none⟩ = a' := by injection e1
 rw [this]
 exact e4
set_option maxHeartbeats 2000000 in
theorem own_any (x : SaL) (w : World) (h : SaAt w x) (hf : Few x.m 10000) :
  Calls Tryz.prog 70 #[saV x] w fun e w' => ∃ y, e = .returned (saV y) ∧ SaAt w' y ∧ y.m = x.m ∧ Below w.heap.size w w' := by
 obtain ⟨S0, Z0⟩ := two_SB h 39 39
 have HX := Lib.hid h
 obtain ⟨now, hor, oa, op, oc, ua, us, uc, sa, su, sc, ta, tb, tc⟩ := x
 have hsz : ((w.alloc (.cells (saC ⟨now, hor, oa, op, oc, ua, us, uc, sa, su, sc, ta, tb, tc⟩) 39)).alloc (.cells (saC saO) 39)).heap.size = w.heap.size + 2 := by rw [size1, size1]
 have HCO := Lib.hid (fun V (h : OpSl V oa op) (k : Cp oa op.length oc) => clone_op oa oc op V h k (Nat.le_trans hf.op (by decide)))
 have HCE := Lib.hid (fun V (h : EnSl V sa su) (k : Cp sa su.length sc) => clone_en sa sc su V h k (Nat.le_trans hf.su (by decide)))
 have HCT : Hid (∀ V, TbSl V ta tb → Cp ta tb.length tc → Calls Tryz.prog 142 #[.slice ta tb.length tc] V fun e w' => ∃ v, e = .returned v ∧ w'.ownsRow V.heap.size 141 2 v tb.length (tbv tb) ∧ Below V.heap.size V w') := fun V h k => by
  have := pclone_tb ta tc (tb.map tbp) (tbp_one tb) V h (by rw [List.length_map]; exact k) (by rw [List.length_map]; exact Nat.le_trans hf.tb (by decide))
  rw [List.length_map] at this
  exact this
 have hun : us.length ≤ 10000 := by have := hf.us; unfold SaL.m at this; simp only at this; rw [umS_len] at this; exact this
 have HCU := Lib.hid (fun V (h : UsSl V ua us) (k : Cp ua us.length uc) => pclone_us ua uc (us.map usp) (usp_one us) V h.row (by rw [List.length_map]; exact k) (by rw [List.length_map]; omega))
 rw [List.length_map] at HCU
 have HST : Hid (∀ y ∈ us, y.l.length ≤ 10000) := Lib.hid fun y hy => by
  have := hf.st y.m (List.mem_map_of_mem hy)
  exact this
 have HS := Lib.hid S0
 have HZ := Lib.hid Z0
 obtain ⟨c0, c1, c2, c3, c4, c5⟩ := S0.cells
 obtain ⟨wa, hwa⟩ : ∃ V, V = ((w.alloc (.cells (saC ⟨now, hor, oa, op, oc, ua, us, uc, sa, su, sc, ta, tb, tc⟩) 39)).alloc (.cells (saC saO) 39)) := ⟨_, rfl⟩
 unfold saV saC at *
 dsimp only at *
 clear S0 Z0 h hf
 go_enter Tryz.func70, Tryz.ntmps70
 go_wp2_with fail
 refine (HCU.out _ HS.out.at_.us HS.out.at_.uc).mono ?_
 rintro e w2 ⟨v, rfl, ho, hB⟩
 clear c0 c1 c2 c3 c4 c5
 obtain ⟨xu, qu, rfl, hlu, hmu, hru, hnu⟩ := own_us (D := us) ho
 have hBB : w.heap.size + 2 ≤ wa.heap.size := by rw [hwa]; exact Nat.le_of_eq hsz.symm
 have KO : OwK w ⟨now, hor, oa, op, oc, ua, us, uc, sa, su, sc, ta, tb, tc⟩ wa.heap.size xu us qu w2 := ⟨HS.out.below hB, HZ.out.below hB, ⟨hru, fun y hy => (HS.out.below hB).at_.us.at_ y hy⟩, by rw [hwa]; exact ho⟩
 have HKO := Lib.hid KO
 have HBB := Lib.hid hBB
 clear ho hB hru KO HS HZ HCU hsz hwa hBB
 generalize wa.heap.size = B at *
 go_wp2
 go_loopw [10] (fun iv wr => ∃ (j : Nat) (D : List UsL), j ≤ us.length ∧ iv = .int .i64 j ∧ Hid (D.length = us.length ∧ umS D = umS us) ∧ Hid (OwK w ⟨now, hor, oa, op, oc, ua, us, uc, sa, su, sc, ta, tb, tc⟩ B xu D qu wr)) (fun iv _ => us.length - (intOf iv).toNat)
 case atStart => exact ⟨0, us, by omega, rfl, Lib.hid ⟨rfl, rfl⟩, HKO⟩
 case round =>
  clear HKO
  obtain ⟨j, D, hj, rfl, HD, HK⟩ := hrel
  by_cases hjl : j < us.length
  ·have hw1 : IntKind.i64.wrap ((j : Int) + 1) = (j : Int) + 1 := IntWalk.i64_in _ (by omega)
   have hjD : j < D.length := by rw [HD.out.1]; exact hjl
   have hyl : D[j].l.length ≤ 10000 := by
    have e2 : (D[j]).m ∈ umS us := by rw [← HD.out.2]; exact List.mem_map_of_mem (List.getElem_mem hjD)
    obtain ⟨z, hz, e3⟩ := List.mem_map.1 e2
    have := HST.out z hz
    have e4 : z.l = D[j].l := congrArg UsM.l e3
    rw [← e4]; exact this
   obtain ⟨gu, hgu⟩ : ∃ gu, xu = some ⟨gu, 0, none⟩ := by
    rcases HK.out.own.2 with ⟨e2, hn0⟩ | ⟨gu, _, _, e2, _⟩
    ·omega
    ·injection e2 with e2; exact ⟨gu, e2⟩
   subst hgu
   obtain ⟨hg1, hg2⟩ := usv_get hjD
   have HFR : Hid (∀ V, OwK w ⟨now, hor, oa, op, oc, ua, us, uc, sa, su, sc, ta, tb, tc⟩ B (some ⟨gu, 0, none⟩) D qu V → V.cell? ⟨gu, j * 2 + 1, none⟩ = some (.slice D[j].a D[j].l.length D[j].c) ∧ V.frozen? ⟨gu, j * 2 + 1, none⟩ = false ∧ gu < V.heap.size) := Lib.hid fun V hu => ⟨by rw [hu.own.cellAt _ (by omega)]; exact hg2, hu.own.frozenAt _, (hu.own.lt gu rfl).2⟩
   have HCL := Lib.hid (fun V (h : StSl V D[j].a D[j].l) (k : Cp D[j].a D[j].l.length D[j].c) => clone_st D[j].a D[j].c D[j].l V h k (by omega))
   have HUA := Lib.hid (HK.out.us.at_ _ (List.getElem_mem hjD))
   have HSR := Lib.hid (fun V (h : OwK w ⟨now, hor, oa, op, oc, ua, us, uc, sa, su, sc, ta, tb, tc⟩ B (some ⟨gu, 0, none⟩) D qu V) (a : Option Addr) (c n : Nat) hn hs hc => h.store HX.out HBB.out hjD (a := a) (c := c) (n := n) hn hs hc)
   have HDN : Hid (∀ a c, (movedU D j a c).length = us.length ∧ umS (movedU D j a c) = umS us) := Lib.hid fun a c => ⟨(movedU_len D j a c).trans HD.out.1, (movedU_m D hjD a c).trans HD.out.2⟩
   have hdl : D.length = us.length := HD.out.1
   obtain ⟨r1, r2, r3⟩ := HFR.out _ HK.out
   clear hg1 hg2 HD HST
   generalize D[j] = z at *
   go_wp2_with fail
   refine (HCL.out _ HUA.out.st ⟨HUA.out.le, HUA.out.mx, HUA.out.nil⟩).mono ?_
   rintro e w3 ⟨v3, rfl, o3, h3⟩
   clear r1 r2 r3
   obtain ⟨x3, q3, rfl, i3, j3, k3, l3⟩ := own_st o3
   have K3 := HK.out.below h3
   obtain ⟨r1, r2, r3⟩ := HFR.out _ K3
   have HN := Lib.hid (HSR.out _ K3 x3 q3 _ rfl k3 ⟨i3, j3, l3⟩)
   clear HFR HCL HUA HSR HK K3 o3 k3 i3 j3 l3 h3
   go_wp2
   go_roundw
   case rel => exact ⟨j + 1, _, by omega, by go_num, HDN.out x3 q3, HN.out⟩
   case measure => simp [intOf]; omega
  ·obtain rfl : j = us.length := by omega
   have hdl := HD.out.1
   have HUM := Lib.hid HD.out.2
   have HCP : Hid (Cp xu D.length qu) := Lib.hid (by rw [hdl]; exact ⟨hlu, hmu, hnu⟩)
   have HSC : Hid (∀ V, OwK w ⟨now, hor, oa, op, oc, ua, us, uc, sa, su, sc, ta, tb, tc⟩ B xu D qu V → V.cell? ⟨w.heap.size, 0, none⟩ = some (.int .i64 now) ∧ V.cell? ⟨w.heap.size, 1, none⟩ = some (.int .i64 hor) ∧ V.cell? ⟨w.heap.size, 2, none⟩ = some (.slice oa op.length oc) ∧ V.cell? ⟨w.heap.size, 3, none⟩ = some (.slice ua us.length uc) ∧ V.cell? ⟨w.heap.size, 4, none⟩ = some (.slice sa su.length sc) ∧ V.cell? ⟨w.heap.size, 5, none⟩ = some (.slice ta tb.length tc)) := Lib.hid fun V h => h.s.cells
   have HS2 : Hid (∀ V, SB w w.heap.size 39 ⟨now, hor, oa, op, oc, ua, us, uc, sa, su, sc, ta, tb, tc⟩ V → V.cell? ⟨w.heap.size, 0, none⟩ = some (.int .i64 now) ∧ V.cell? ⟨w.heap.size, 1, none⟩ = some (.int .i64 hor) ∧ V.cell? ⟨w.heap.size, 2, none⟩ = some (.slice oa op.length oc) ∧ V.cell? ⟨w.heap.size, 3, none⟩ = some (.slice ua us.length uc) ∧ V.cell? ⟨w.heap.size, 4, none⟩ = some (.slice sa su.length sc) ∧ V.cell? ⟨w.heap.size, 5, none⟩ = some (.slice ta tb.length tc)) := Lib.hid fun V h => h.cells
   have HBL : Hid (∀ V V', OwK w ⟨now, hor, oa, op, oc, ua, us, uc, sa, su, sc, ta, tb, tc⟩ B xu D qu V → Below V.heap.size V V' → OwK w ⟨now, hor, oa, op, oc, ua, us, uc, sa, su, sc, ta, tb, tc⟩ B xu D qu V') := Lib.hid fun V V' h q => h.below q
   obtain ⟨k0, k1, k2, k3, k4, k5⟩ := HSC.out _ HK.out
   have K0 := HK.out.below (Below.refl _ _).drew
   clear HST HD HK hj hjl hlu hmu hnu HBB
   go_wp2_with fail
   go_region_held3 (fun V => V.cell? ⟨w.heap.size, 0, none⟩ = some (.int .i64 now) ∧ V.cell? ⟨w.heap.size, 1, none⟩ = some (.int .i64 hor) ∧ V.cell? ⟨w.heap.size, 2, none⟩ = some (.slice oa op.length oc) ∧ V.cell? ⟨w.heap.size, 3, none⟩ = some (.slice ua us.length uc) ∧ V.cell? ⟨w.heap.size, 4, none⟩ = some (.slice sa su.length sc) ∧ V.cell? ⟨w.heap.size, 5, none⟩ = some (.slice ta tb.length tc))
    (first | with_reducible exact HS2.out _ KT | with_reducible exact HSC.out _ K3 | with_reducible exact HSC.out _ K2 | with_reducible exact HSC.out _ K1 | with_reducible exact HSC.out _ K0)
    (first | (have hseen := K2; clear hseen; go_at_call 142; refine (HCT.out _ K2.s.at_.tb K2.s.at_.tc).mono ?_; rintro r v3 ⟨y3, rfl, o3, h3⟩; obtain ⟨x3, q3, rfl, i3, j3, p3, l3⟩ := own_tb o3; have T3 := Cp.mk i3 j3 l3; have p1'' := p1'.below h3; have p2' := p2.below h3; have K3 := HBL.out _ _ K2 h3; have YY : SaAt v3 ⟨now, hor, x1, op, q1, xu, D, qu, x2, su, q2, x3, tb, q3⟩ := ⟨p1'', K3.us, p2', p3, T1, HCP.out, T2, T3⟩; have hF := K3.z.set YY; have KT := (SB.over K3.z YY K3.s (Nat.ne_of_lt (Nat.lt_succ_self _))).2; have hL := loadS6 hF.blk; have hFN := And.intro hF.at_ hF.frame; unfold setS saV saC at hL; unfold setS at KT hFN; dsimp only at hL KT hFN; rw [hdl] at hL KT hFN; have HL := Lib.hid hL; have HFN := Lib.hid hFN; clear hFN; obtain ⟨z0, z1, z2, z3, z4, z5⟩ := K3.z.cells; obtain ⟨f0, f1, f2, f3, f4, f5⟩ := K3.z.free; have hzl := K3.z.lt; unfold saO at z0 z1 z2 z3 z4 z5; dsimp only [List.length_nil] at z0 z1 z2 z3 z4 z5) | (have hseen := K1; clear hseen; go_at_call 141; refine (HCE.out _ K1.s.at_.su K1.s.at_.sc).mono ?_; rintro r v2 ⟨y2, rfl, o2, h2⟩; obtain ⟨x2, q2, rfl, i2, j2, p2, l2⟩ := own_en o2; have T2 := Cp.mk i2 j2 l2; have p1' := p1.below h2; have K2 := HBL.out _ _ K1 h2) | (have hseen := K0; clear hseen; go_at_call 140; refine (HCO.out _ K0.s.at_.op K0.s.at_.oc).mono ?_; rintro r v1 ⟨y1, rfl, o1, h1⟩; obtain ⟨x1, q1, rfl, i1, j1, p1, l1⟩ := own_op o1; have T1 := Cp.mk i1 j1 l1; have K1 := HBL.out _ _ K0 h1))
   all_goals
    clear K0 K1 K2 K3 KT hF hL YY HSC HS2 HBL k0 k1 k2 k3 k4 k5 z0 z1 z2 z3 z4 z5 f0 f1 f2 f3 f4 f5 hzl p1 p1' p1'' p2 p2' p3 T1 T2 T3 o1 o2 o3 h1 h2 h3 i1 i2 i3 j1 j2 j3 l1 l2 l3 HCO HCE HCT HCP
    go_wp2
    refine bodyPost_ret (v := saV ⟨now, hor, x1, op, q1, xu, D, qu, x2, su, q2, x3, tb, q3⟩) ?_ rfl ⟨⟨now, hor, x1, op, q1, xu, D, qu, x2, su, q2, x3, tb, q3⟩, rfl, HFN.out.1, by unfold SaL.m; dsimp only; rw [HUM.out], HFN.out.2⟩
    rw [results_cell1 rfl]
    unfold saV saC
    dsimp only
    rw [hdl]
    simp [asAddr, Result.andThen, HL.out]
end Go.Proofs.YtapacckmgmdnoaaGreat
namespace Go.Proofs.YtapacckmgmdnoaaGreat
open Go.RowKit Go.Proofs
set_option linter.unusedVariables false
set_option maxRecDepth 100000
set_option maxRecDepth 100000
def y3 (oa ua sa ta : Option Addr) (oc uc sc tc : Nat) : SaL := ⟨9, 0, oa, [], oc, ua, [], uc, sa, [], sc, ta, [⟨an11, 9⟩], tc⟩
def y4 (oa ua sa ta a : Option Addr) (oc uc sc tc c : Nat) : SaL := ⟨7, 0, oa, [], oc, ua, [⟨an11, a, [⟨3, 7, 1, 1⟩], c⟩], uc, sa, [], sc, ta, [], tc⟩
end Go.Proofs.YtapacckmgmdnoaaGreat
