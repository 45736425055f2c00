/- Texts of mine, one behind the other, of each what is wanted. -/
import Derived.Test.YtjhdhfokhkcamaaGreatS00
import Derived.Test.YtjhdhfokhkcamaaGreatShelf
import Derived.Test.YtjhdhfokhkcamaaGreatS01
import Derived.Test.YtjhdhfokhkcamaaGreatS02
import Derived.Test.YtjhdhfokhkcamaaGreatS03
import Derived.Test.YtjhdhfokhkcamaaGreatS04
import Derived.Test.YtjhdhfokhkcamaaGreatS05
import Derived.Test.YtjhdhfokhkcamaaGreatS06
import Derived.Test.YtjhdhfokhkcamaaGreatS07
import Derived.Test.YtjhdhfokhkcamaaGreatS08
import Derived.Test.YtjhdhfokhkcamaaGreatS11
import Derived.Test.YtjhdhfokhkcamaaGreatTQ
namespace Go.Proofs.YtjhdhfokhkcamaaGreat
open Go.RowKit Go.Sort Go.Proofs
set_option linter.unusedVariables false
set_option maxRecDepth 100000
set_option maxRecDepth 100000
theorem orL4 (a b c d : Int) : orL [a, b, c, d] = if a = 0 then (if b = 0 then (if c = 0 then (if d = 0 then 0 else d) else c) else b) else a := rfl
theorem orL_cmp (a b : StM) : orL [Lib.compareInt a.f b.f, Lib.compareInt a.t b.t, Lib.compareInt a.n b.n, Lib.compareInt a.s b.s] = cmpSt a b := by
 have key : ∀ x y : Int, (x < y ∧ Lib.compareInt x y = -1) ∨ (x = y ∧ Lib.compareInt x y = 0) ∨ (y < x ∧ Lib.compareInt x y = 1) := fun x y => by
  unfold Lib.compareInt
  rcases Int.lt_trichotomy x y with h | h | h
  ·exact .inl ⟨h, by simp [h]⟩
  ·exact .inr (.inl ⟨h, by simp [h]⟩)
  ·exact .inr (.inr ⟨h, by simp [h]; omega⟩)
 have lo : (ltSt a b) → -1 = cmpSt a b := fun h => by unfold cmpSt; rw [if_pos h]
 have hi : (ltSt b a) → 1 = cmpSt a b := fun h => by unfold cmpSt; rw [if_neg (ltSt_asymm h), if_pos h]
 have eq : (¬ ltSt a b) → (¬ ltSt b a) → 0 = cmpSt a b := fun h k => by unfold cmpSt; rw [if_neg h, if_neg k]
 rw [orL4]
 rcases key a.f b.f with ⟨h, e⟩ | ⟨h, e⟩ | ⟨h, e⟩
 ·rw [e, if_neg (by decide)]; exact lo (by unfold ltSt; omega)
 ·rw [e, if_pos rfl]
  rcases key a.t b.t with ⟨k, e⟩ | ⟨k, e⟩ | ⟨k, e⟩
  ·rw [e, if_neg (by decide)]; exact lo (by unfold ltSt; omega)
  ·rw [e, if_pos rfl]
   rcases key a.n b.n with ⟨i, e⟩ | ⟨i, e⟩ | ⟨i, e⟩
   ·rw [e, if_neg (by decide)]; exact lo (by unfold ltSt; omega)
   ·rw [e, if_pos rfl]
    rcases key a.s b.s with ⟨j, e⟩ | ⟨j, e⟩ | ⟨j, e⟩
    ·rw [e, if_neg (by decide)]; exact lo (by unfold ltSt; omega)
    ·rw [e, if_pos rfl]; exact eq (by unfold ltSt; omega) (by unfold ltSt; omega)
    ·rw [e, if_neg (by decide)]; exact hi (by unfold ltSt; omega)
   ·rw [e, if_neg (by decide)]; exact hi (by unfold ltSt; omega)
  ·rw [e, if_neg (by decide)]; exact hi (by unfold ltSt; omega)
 ·rw [e, if_neg (by decide)]; exact hi (by unfold ltSt; omega)
def CmK (w : World) (p q : Nat) (a b : StM) (W : World) : Prop :=
 W.cell? ⟨p, 0, none⟩ = some (.int .i64 a.f) ∧ W.cell? ⟨p, 1, none⟩ = some (.int .i64 a.t) ∧ W.cell? ⟨p, 2, none⟩ = some (.int .i64 a.n) ∧ W.cell? ⟨p, 3, none⟩ = some (.int .i64 a.s) ∧
 W.cell? ⟨q, 0, none⟩ = some (.int .i64 b.f) ∧ W.cell? ⟨q, 1, none⟩ = some (.int .i64 b.t) ∧ W.cell? ⟨q, 2, none⟩ = some (.int .i64 b.n) ∧ W.cell? ⟨q, 3, none⟩ = some (.int .i64 b.s) ∧ (p < W.heap.size ∧ q < W.heap.size ∧ Grew w W)
theorem CmK.grew {w W W' : World} {p q : Nat} {a b : StM} (h : CmK w p q a b W) (g : Grew W W') : CmK w p q a b W' := by
 obtain ⟨h1, h2, h3, h4, h5, h6, h7, h8, hp, hq, hg⟩ := h
 have hb := g.below (Nat.le_refl _)
 exact ⟨(hb.cell (p := ⟨p, 0, none⟩) hp).trans h1, (hb.cell (p := ⟨p, 1, none⟩) hp).trans h2, (hb.cell (p := ⟨p, 2, none⟩) hp).trans h3, (hb.cell (p := ⟨p, 3, none⟩) hp).trans h4,
  (hb.cell (p := ⟨q, 0, none⟩) hq).trans h5, (hb.cell (p := ⟨q, 1, none⟩) hq).trans h6, (hb.cell (p := ⟨q, 2, none⟩) hq).trans h7, (hb.cell (p := ⟨q, 3, none⟩) hq).trans h8,
  Nat.lt_of_lt_of_le hp hb.size, Nat.lt_of_lt_of_le hq hb.size, hg.trans g⟩
theorem CmK.drew {w W : World} {p q : Nat} {a b : StM} (h : CmK w p q a b W) : CmK w p q a b W.drew := h.grew (Grew.refl _).drew
theorem CmK.alloc {w W : World} {p q : Nat} {a b : StM} (h : CmK w p q a b W) (o : Obj) : CmK w p q a b (W.alloc o) := h.grew ((Grew.refl _).alloc o)
theorem sl_lit_drew (w : World) (xs : Array Value) (t : TypeId) : Sl (w.alloc (.cells xs t)).drew (some ⟨w.heap.size, 0, none⟩) xs.toList := sl_lit w xs t
theorem or_lit (a b c d : Int) (t : TypeId) (W : World) : Calls Tryz.prog 186 #[.slice (some ⟨W.heap.size, 0, none⟩) 4 4] (W.alloc (.cells #[.int .i64 a, .int .i64 b, .int .i64 c, .int .i64 d] t)) fun e w' => e = .returned (.int .i64 (orL [a, b, c, d])) ∧ w' = W.alloc (.cells #[.int .i64 a, .int .i64 b, .int .i64 c, .int .i64 d] t) :=
 or_any (some ⟨W.heap.size, 0, none⟩) 4 [a, b, c, d] _ (sl_lit W #[.int .i64 a, .int .i64 b, .int .i64 c, .int .i64 d] t) (by simp)
theorem or_litd (a b c d : Int) (t : TypeId) (W : World) : Calls Tryz.prog 186 #[.slice (some ⟨W.heap.size, 0, none⟩) 4 4] (W.alloc (.cells #[.int .i64 a, .int .i64 b, .int .i64 c, .int .i64 d] t)).drew fun e w' => e = .returned (.int .i64 (orL [a, b, c, d])) ∧ w' = (W.alloc (.cells #[.int .i64 a, .int .i64 b, .int .i64 c, .int .i64 d] t)).drew :=
 or_any (some ⟨W.heap.size, 0, none⟩) 4 [a, b, c, d] _ (sl_lit_drew W #[.int .i64 a, .int .i64 b, .int .i64 c, .int .i64 d] t) (by simp)
set_option maxHeartbeats 4000000 in
theorem stcmp_any (a b : StM) (w : World) : Calls Tryz.prog 150 #[stV a, stV b] w fun e w' => e = .returned (.int .i64 (cmpSt a b)) ∧ Grew w w' := by
 have hcon := Lib.hid (fun x y W' => AnyG.cmp_Compare_int Tryz.laysCompare x y W')
 change Hid (∀ x y W', Calls Tryz.prog 187 _ _ _) at hcon
 have HE := Lib.hid (orL_cmp a b)
 have hor := Lib.hid or_lit
 have hord := Lib.hid or_litd
 have h0 : CmK w w.heap.size (w.heap.size + 1) a b ((w.alloc (.cells #[.int .i64 a.f, .int .i64 a.t, .int .i64 a.n, .int .i64 a.s] 86)).alloc (.cells #[.int .i64 b.f, .int .i64 b.t, .int .i64 b.n, .int .i64 b.s] 86)) := by
  have hb := heap_alloc_new (w.alloc (.cells #[.int .i64 a.f, .int .i64 a.t, .int .i64 a.n, .int .i64 a.s] 86)) (.cells #[.int .i64 b.f, .int .i64 b.t, .int .i64 b.n, .int .i64 b.s] 86)
  have ha := (Below.heap_alloc (w.alloc (.cells #[.int .i64 a.f, .int .i64 a.t, .int .i64 a.n, .int .i64 a.s] 86)) (.cells #[.int .i64 b.f, .int .i64 b.t, .int .i64 b.n, .int .i64 b.s] 86) w.heap.size (by rw [size1]; omega)).trans (heap_alloc_new w (.cells #[.int .i64 a.f, .int .i64 a.t, .int .i64 a.n, .int .i64 a.s] 86))
  rw [size1] at hb
  obtain ⟨a1, a2, a3, a4⟩ := cells4 ha
  obtain ⟨b1, b2, b3, b4⟩ := cells4 hb
  exact ⟨a1, a2, a3, a4, b1, b2, b3, b4, by rw [size1, size1]; omega, by rw [size1, size1]; omega, ((Grew.refl w).alloc _).alloc _⟩
 generalize Lib.compareInt = cI at hcon HE
 generalize cmpSt a b = r at *
 unfold stV
 obtain ⟨f1, t1, n1, s1⟩ := a
 obtain ⟨f2, t2, n2, s2⟩ := b
 dsimp only at *
 have h0' := Lib.hid h0
 clear h0
 go_enter Tryz.func150, Tryz.ntmps150
 go_wp2_with fail
 have h0 := h0'.out
 clear h0'
 generalize (w.alloc (.cells #[.int .i64 f1, .int .i64 t1, .int .i64 n1, .int .i64 s1] 86)).alloc (.cells #[.int .i64 f2, .int .i64 t2, .int .i64 n2, .int .i64 s2] 86) = W at *
 generalize hqq : w.heap.size + 1 = q at *
 generalize hpp : w.heap.size = p at *
 clear hqq hpp
 go_region_held3 (fun W => W.cell? ⟨p, 0, none⟩ = some (.int .i64 f1) ∧ W.cell? ⟨p, 1, none⟩ = some (.int .i64 t1) ∧ W.cell? ⟨p, 2, none⟩ = some (.int .i64 n1) ∧ W.cell? ⟨p, 3, none⟩ = some (.int .i64 s1) ∧
   W.cell? ⟨q, 0, none⟩ = some (.int .i64 f2) ∧ W.cell? ⟨q, 1, none⟩ = some (.int .i64 t2) ∧ W.cell? ⟨q, 2, none⟩ = some (.int .i64 n2) ∧ W.cell? ⟨q, 3, none⟩ = some (.int .i64 s2) ∧ (p < W.heap.size ∧ q < W.heap.size ∧ Grew w W))
  (first | exact CmK.drew h0 | exact CmK.alloc (a := ⟨f1, t1, n1, s1⟩) (b := ⟨f2, t2, n2, s2⟩) (by assumption) _ | assumption)
  (first | (go_at_call 187; refine (hcon.out _ _ _).mono ?_; rintro e w2 ⟨rfl, rfl⟩)
         | (go_at_call 186; (first | refine (hor.out _ _ _ _ _ _).mono ?_ | refine (hord.out _ _ _ _ _ _).mono ?_); rintro e w2 ⟨rfl, rfl⟩))
 go_wp2
 go_ret
 exact ⟨by rw [HE.out]; rfl, (show CmK w p q ⟨f1, t1, n1, s1⟩ ⟨f2, t2, n2, s2⟩ _ by assumption).2.2.2.2.2.2.2.2.2.2⟩
end Go.Proofs.YtjhdhfokhkcamaaGreat
namespace Go.Proofs.YtjhdhfokhkcamaaGreat
open Go.RowKit
set_option linter.unusedVariables false
set_option maxRecDepth 100000
set_option maxRecDepth 100000
set_option maxHeartbeats 4000000 in
theorem oequal_any (a b : Option Addr) (ca cb : Nat) (l m : List OpM) (w : World) (ha : OpSl w a l) (hb : OpSl w b m) (hla : l.length ≤ maxLen) (hlb : m.length ≤ maxLen) :
  Calls Tryz.prog 143 #[.slice a l.length ca, .slice b m.length cb] w fun e w' => e = .returned (.bool (decide (l = m))) ∧ Below w.heap.size w w' := by
 have HA := Lib.hid ha
 have HB := Lib.hid hb
 clear ha hb
 unfold maxLen at hla hlb
 by_cases hll : l.length = m.length
 ·obtain ⟨n, hn⟩ : ∃ n, n = m.length := ⟨_, rfl⟩
  have HL : Hid (l.length = n) := hll.trans hn.symm
  have HM : Hid (m.length = n) := hn.symm
  rw [HL.out, HM.out]
  rw [HM.out] at hlb
  clear hll hn hla
  go_enter Tryz.func143, Tryz.ntmps143
  go_wp2
  go_loopw [13] (fun i wr => ∃ (j : Nat), j ≤ n ∧ i = .int .i64 j ∧ Hid (l.take j = m.take j) ∧ Hid (Drew w wr)) (fun i _ => n - (intOf i).toNat)
  case atStart => exact ⟨0, by omega, rfl, (by unfold Hid; rfl), Drew.refl _⟩
  case round =>
   obtain ⟨j, hj, rfl, HT, HD⟩ := hrel
   by_cases hjn : j < n
   ·have hjl : j < l.length := by have := HL.out; omega
    have hjm : j < m.length := by have := HM.out; omega
    obtain ⟨b1, o1, rfl, hb1, hc0, hc1, hc2, hc3⟩ := (HA.out.below (HD.out.below _)).at_ hjl
    obtain ⟨b2, o2, rfl, hb2, hd0, hd1, hd2, hd3⟩ := (HB.out.below (HD.out.below _)).at_ hjm
    have HN := Lib.hid (take_same hjl hjm HT.out)
    have HNE : Hid (l[j] ≠ m[j] → l ≠ m) := fun h e => h (by subst e; rfl)
    generalize l[j] = x at *
    generalize m[j] = y at *
    clear hjl hjm
    obtain ⟨f1, t1, n1, s1⟩ := x
    obtain ⟨f2, t2, n2, s2⟩ := y
    dsimp only at *
    by_cases h0 : f1 = f2
    ·subst h0
     have he0 : (f1 == f1) = true := beq_self_eq_true _
     by_cases h1 : t1 = t2
     ·subst h1
      have he1 := txt_eq t1
      by_cases h2 : n1 = n2
      ·subst h2
       have he2 : (n1 == n1) = true := beq_self_eq_true _
       by_cases h3 : s1 = s2
       ·subst h3
        have he3 : (s1 == s1) = true := beq_self_eq_true _
        have HN2 := Lib.hid (HN.out rfl)
        clear HN HNE
        go_wp2
        go_quiet (fail)
        go_wp2
        go_roundw
        case rel => exact ⟨j + 1, by omega, by go_num, HN2, HD.out.trans ⟨_, rfl⟩⟩
        case measure => simp [intOf]; omega
       ·have HF : Hid (decide (l = m) = false) := decide_eq_false (HNE.out (fun e => h3 (congrArg OpM.f e)))
        have heq : (s1 == s2) = false := beq_eq_false_iff_ne.2 h3
        clear HN HNE
        go_wp2
        go_quiet (fail)
        go_wp2
        go_ret
        exact ⟨by rw [HF.out]; rfl, (HD.out.trans ⟨_, rfl⟩).below _⟩
      ·have HF : Hid (decide (l = m) = false) := decide_eq_false (HNE.out (fun e => h2 (congrArg OpM.s e)))
       have heq : (n1 == n2) = false := beq_eq_false_iff_ne.2 h2
       clear HN HNE
       go_wp2
       go_quiet (fail)
       go_wp2
       go_ret
       exact ⟨by rw [HF.out]; rfl, (HD.out.trans ⟨_, rfl⟩).below _⟩
     ·have HF : Hid (decide (l = m) = false) := decide_eq_false (HNE.out (fun e => h1 (congrArg OpM.u e)))
      have heq := txt_ne h1
      clear HN HNE
      go_wp2
      go_quiet (fail)
      go_wp2
      go_ret
      exact ⟨by rw [HF.out]; rfl, (HD.out.trans ⟨_, rfl⟩).below _⟩
    ·have HF : Hid (decide (l = m) = false) := decide_eq_false (HNE.out (fun e => h0 (congrArg OpM.n e)))
     have heq : (f1 == f2) = false := beq_eq_false_iff_ne.2 h0
     clear HN HNE
     go_wp2
     go_quiet (fail)
     go_wp2
     go_ret
     exact ⟨by rw [HF.out]; rfl, (HD.out.trans ⟨_, rfl⟩).below _⟩
   ·obtain rfl : j = n := by omega
    have HE : Hid (decide (l = m) = true) := decide_eq_true (by
     have := HT.out
     rwa [List.take_of_length_le (Nat.le_of_eq HL.out), List.take_of_length_le (Nat.le_of_eq HM.out)] at this)
    go_wp2
    go_ret
    exact ⟨by rw [HE.out]; rfl, HD.out.below _⟩
 ·have HE : Hid (decide (l = m) = false) := decide_eq_false (fun e => hll (by rw [e]))
  have hne : ((l.length : Int) == (m.length : Int)) = false := beq_eq_false_iff_ne.2 (by omega)
  go_enter Tryz.func143, Tryz.ntmps143
  go_wp2
  go_ret
  exact ⟨by rw [HE.out]; rfl, Below.refl _ _⟩
set_option maxHeartbeats 4000000 in
theorem orefSame_any (a b : Option Addr) (ca cb : Nat) (l m : List OpM) (w : World) (ha : OpSl w a l) (hb : OpSl w b m) (hla : l.length ≤ maxLen) (hlb : m.length ≤ maxLen) :
  Calls Tryz.prog 54 #[.slice a l.length ca, .slice b m.length cb] w fun e w' => e = .returned (.bool (decide (l = m))) ∧ Below w.heap.size w w' := by
 have HA := Lib.hid ha
 have HB := Lib.hid hb
 clear ha hb
 unfold maxLen at hla hlb
 by_cases hll : l.length = m.length
 ·obtain ⟨n, hn⟩ : ∃ n, n = m.length := ⟨_, rfl⟩
  have HL : Hid (l.length = n) := hll.trans hn.symm
  have HM : Hid (m.length = n) := hn.symm
  rw [HL.out, HM.out]
  rw [HM.out] at hlb
  clear hll hn hla
  go_enter Tryz.func54, Tryz.ntmps54
  go_wp2
  go_loopw [5] (fun i wr => ∃ (j : Nat), j ≤ n ∧ i = .int .i64 j ∧ Hid (l.take j = m.take j) ∧ Hid (Drew w wr)) (fun i _ => n - (intOf i).toNat)
  case atStart => exact ⟨0, by omega, rfl, (by unfold Hid; rfl), Drew.refl _⟩
  case round =>
   obtain ⟨j, hj, rfl, HT, HD⟩ := hrel
   by_cases hjn : j < n
   ·have hjl : j < l.length := by have := HL.out; omega
    have hjm : j < m.length := by have := HM.out; omega
    obtain ⟨b1, o1, rfl, hb1, hc0, hc1, hc2, hc3⟩ := (HA.out.below (HD.out.below _)).at_ hjl
    obtain ⟨b2, o2, rfl, hb2, hd0, hd1, hd2, hd3⟩ := (HB.out.below (HD.out.below _)).at_ hjm
    have HN := Lib.hid (take_same hjl hjm HT.out)
    have HNE : Hid (l[j] ≠ m[j] → l ≠ m) := fun h e => h (by subst e; rfl)
    generalize l[j] = x at *
    generalize m[j] = y at *
    clear hjl hjm
    obtain ⟨f1, t1, n1, s1⟩ := x
    obtain ⟨f2, t2, n2, s2⟩ := y
    dsimp only at *
    by_cases h0 : f1 = f2
    ·subst h0
     have he0 : (f1 == f1) = true := beq_self_eq_true _
     by_cases h1 : t1 = t2
     ·subst h1
      have he1 := txt_eq t1
      by_cases h2 : n1 = n2
      ·subst h2
       have he2 : (n1 == n1) = true := beq_self_eq_true _
       by_cases h3 : s1 = s2
       ·subst h3
        have he3 : (s1 == s1) = true := beq_self_eq_true _
        have HN2 := Lib.hid (HN.out rfl)
        clear HN HNE
        go_wp2
        go_quiet (fail)
        go_wp2
        go_roundw
        case rel => exact ⟨j + 1, by omega, by go_num, HN2, HD.out.trans ⟨_, rfl⟩⟩
        case measure => simp [intOf]; omega
       ·have HF : Hid (decide (l = m) = false) := decide_eq_false (HNE.out (fun e => h3 (congrArg OpM.f e)))
        have heq : (s1 == s2) = false := beq_eq_false_iff_ne.2 h3
        clear HN HNE
        go_wp2
        go_quiet (fail)
        go_wp2
        go_ret
        exact ⟨by rw [HF.out]; rfl, (HD.out.trans ⟨_, rfl⟩).below _⟩
      ·have HF : Hid (decide (l = m) = false) := decide_eq_false (HNE.out (fun e => h2 (congrArg OpM.s e)))
       have heq : (n1 == n2) = false := beq_eq_false_iff_ne.2 h2
       clear HN HNE
       go_wp2
       go_quiet (fail)
       go_wp2
       go_ret
       exact ⟨by rw [HF.out]; rfl, (HD.out.trans ⟨_, rfl⟩).below _⟩
     ·have HF : Hid (decide (l = m) = false) := decide_eq_false (HNE.out (fun e => h1 (congrArg OpM.u e)))
      have heq := txt_ne h1
      clear HN HNE
      go_wp2
      go_quiet (fail)
      go_wp2
      go_ret
      exact ⟨by rw [HF.out]; rfl, (HD.out.trans ⟨_, rfl⟩).below _⟩
    ·have HF : Hid (decide (l = m) = false) := decide_eq_false (HNE.out (fun e => h0 (congrArg OpM.n e)))
     have heq : (f1 == f2) = false := beq_eq_false_iff_ne.2 h0
     clear HN HNE
     go_wp2
     go_quiet (fail)
     go_wp2
     go_ret
     exact ⟨by rw [HF.out]; rfl, (HD.out.trans ⟨_, rfl⟩).below _⟩
   ·obtain rfl : j = n := by omega
    have HE : Hid (decide (l = m) = true) := decide_eq_true (by
     have := HT.out
     rwa [List.take_of_length_le (Nat.le_of_eq HL.out), List.take_of_length_le (Nat.le_of_eq HM.out)] at this)
    go_wp2
    go_ret
    exact ⟨by rw [HE.out]; rfl, HD.out.below _⟩
 ·have HE : Hid (decide (l = m) = false) := decide_eq_false (fun e => hll (by rw [e]))
  have hne : ((l.length : Int) == (m.length : Int)) = false := beq_eq_false_iff_ne.2 (by omega)
  go_enter Tryz.func54, Tryz.ntmps54
  go_wp2
  go_ret
  exact ⟨by rw [HE.out]; rfl, Below.refl _ _⟩
theorem osame_any (a b : Option Addr) (ca cb : Nat) (l m : List OpM) (w : World) (ha : OpSl w a l) (hb : OpSl w b m) (hla : l.length ≤ maxLen) (hlb : m.length ≤ maxLen) :
  Calls Tryz.prog 81 #[.slice a l.length ca, .slice b m.length cb] w fun e w' => e = .returned (.bool (decide (l = m))) ∧ Below w.heap.size w w' := by
 have HC := Lib.hid (oequal_any a b ca cb l m w ha hb hla hlb)
 unfold maxLen at hla hlb
 clear ha hb
 go_enter Tryz.func81, Tryz.ntmps81
 go_wp2_with fail
 refine HC.out.mono ?_
 rintro e w2 ⟨rfl, h2⟩
 go_wp2
 go_ret
 exact ⟨rfl, h2⟩
end Go.Proofs.YtjhdhfokhkcamaaGreat
namespace Go.Proofs.YtjhdhfokhkcamaaGreat
open Go.RowKit
set_option linter.unusedVariables false
set_option maxRecDepth 100000
def EFits (e : EvM) : Prop := e.user.size ≤ maxLen ∧ e.other.size ≤ maxLen
set_option maxHeartbeats 8000000 in
theorem evright_any (e : EvM) (he : EFits e) (w : World) : Calls Tryz.prog 43 #[evV e] w fun r w' => r = .returned (.bool (rightE e)) ∧ Below w.heap.size w w' := by
 have HSH := Lib.hid (fun W => shapeOf_any e.kind W)
 have HU := Lib.hid (fun b W => rightText_any e.user b W he.1)
 have HO := Lib.hid (fun b W => rightText_any e.other b W he.2)
 have HR : Hid (rightE e = (isK e.kind && (inB 0 1099511627775 e.at_ && (rText e.user (shK e.kind).user && (rText e.other (shK e.kind).other && (inB (shK e.kind).n0 (shK e.kind).n1 e.n && inB (shK e.kind).s0 (shK e.kind).s1 e.status)))))) := rfl
 have HE : Hid (∀ W, Below (w.alloc (.cells #[.int .i64 e.kind, .int .i64 e.at_, .string e.user, .string e.other, .int .i64 e.n, .int .i64 e.status] 43)).heap.size (w.alloc (.cells #[.int .i64 e.kind, .int .i64 e.at_, .string e.user, .string e.other, .int .i64 e.n, .int .i64 e.status] 43)) W → W.heap[w.heap.size]? = some (.cells #[.int .i64 e.kind, .int .i64 e.at_, .string e.user, .string e.other, .int .i64 e.n, .int .i64 e.status] 43 (0, 0)) ∧ Below w.heap.size w W) := fun W hb => ⟨(hb.block _ (by rw [size1]; omega)).trans (heap_alloc_new w _), ((Below.refl _ _).alloc (Nat.le_refl _) _).trans (hb.mono (by rw [size1]; omega))⟩
 unfold evV shV at *
 generalize rightE e = R at *
 generalize shK e.kind = s at *
 generalize isK e.kind = ik at *
 clear he
 go_enter Tryz.func43, Tryz.ntmps43
 go_wp2_with fail
 refine (HSH.out _).mono ?_
 rintro r w1 ⟨rfl, h1⟩
 have HE1 := Lib.hid (HE.out _ h1)
 have hsz : w.heap.size < w1.heap.size := (Array.getElem?_eq_some_iff.1 HE1.out.1).1
 have HXB := Lib.hid (fun o => heap_alloc_new w1 o)
 have HEB := Lib.hid (fun o => (Below.heap_alloc w1 o _ hsz).trans HE1.out.1)
 have HBW := Lib.hid (fun o => HE1.out.2.alloc HE1.out.2.size o)
 clear h1
 go_wp2_with fail
 have hx0 := HXB.out (.cells #[.bool s.user, .bool s.other, .int .i64 s.n0, .int .i64 s.n1, .int .i64 s.s0, .int .i64 s.s1] 159)
 have he0 := HEB.out (.cells #[.bool s.user, .bool s.other, .int .i64 s.n0, .int .i64 s.n1, .int .i64 s.s0, .int .i64 s.s1] 159)
 have hb0 := HBW.out (.cells #[.bool s.user, .bool s.other, .int .i64 s.n0, .int .i64 s.n1, .int .i64 s.s0, .int .i64 s.s1] 159)
 have hX : w1.heap.size < (w1.alloc (.cells #[.bool s.user, .bool s.other, .int .i64 s.n0, .int .i64 s.n1, .int .i64 s.s0, .int .i64 s.s1] 159)).heap.size := by rw [size1]; omega
 clear HXB HEB HBW HE1 HE HSH
 generalize w1.heap.size = X at *
 generalize (w1.alloc (.cells #[.bool s.user, .bool s.other, .int .i64 s.n0, .int .i64 s.n1, .int .i64 s.s0, .int .i64 s.s1] 159)) = W0 at *
 have HSS : Hid (∀ W, Below W0.heap.size W0 W → W.cell? ⟨w.heap.size, 0, none⟩ = some (.int .i64 e.kind) ∧ W.cell? ⟨w.heap.size, 1, none⟩ = some (.int .i64 e.at_) ∧ W.cell? ⟨w.heap.size, 2, none⟩ = some (.string e.user) ∧ W.cell? ⟨w.heap.size, 3, none⟩ = some (.string e.other) ∧ W.cell? ⟨w.heap.size, 4, none⟩ = some (.int .i64 e.n) ∧ W.cell? ⟨w.heap.size, 5, none⟩ = some (.int .i64 e.status) ∧ W.cell? ⟨X, 0, none⟩ = some (.bool s.user) ∧ W.cell? ⟨X, 1, none⟩ = some (.bool s.other) ∧ W.cell? ⟨X, 2, none⟩ = some (.int .i64 s.n0) ∧ W.cell? ⟨X, 3, none⟩ = some (.int .i64 s.n1) ∧ W.cell? ⟨X, 4, none⟩ = some (.int .i64 s.s0) ∧ W.cell? ⟨X, 5, none⟩ = some (.int .i64 s.s1)) := fun W hb => by
  obtain ⟨q0, q1, q2, q3, q4, q5⟩ := (cells6 ((hb.block w.heap.size (by omega)).trans he0)).1
  exact ⟨q0, q1, q2, q3, q4, q5, (cells6 ((hb.block X hX).trans hx0)).1⟩
 have HBB : Hid (∀ W, Below W0.heap.size W0 W → Below w.heap.size w W) := fun W hb => hb0.trans (hb.mono hb0.size)
 have HB0 : Hid (Below W0.heap.size W0 W0.drew) := (Below.refl _ _).drew
 clear hx0 he0 hb0 hX hsz
 by_cases hik : ik = false
 ·rw [hik] at HR
  subst hik
  refine wp_region_held_drew (S := (fun W => W.cell? ⟨w.heap.size, 0, none⟩ = some (.int .i64 e.kind) ∧ W.cell? ⟨w.heap.size, 1, none⟩ = some (.int .i64 e.at_) ∧ W.cell? ⟨w.heap.size, 2, none⟩ = some (.string e.user) ∧ W.cell? ⟨w.heap.size, 3, none⟩ = some (.string e.other) ∧ W.cell? ⟨w.heap.size, 4, none⟩ = some (.int .i64 e.n) ∧ W.cell? ⟨w.heap.size, 5, none⟩ = some (.int .i64 e.status) ∧ W.cell? ⟨X, 0, none⟩ = some (.bool s.user) ∧ W.cell? ⟨X, 1, none⟩ = some (.bool s.other) ∧ W.cell? ⟨X, 2, none⟩ = some (.int .i64 s.n0) ∧ W.cell? ⟨X, 3, none⟩ = some (.int .i64 s.n1) ∧ W.cell? ⟨X, 4, none⟩ = some (.int .i64 s.s0) ∧ W.cell? ⟨X, 5, none⟩ = some (.int .i64 s.s1))) (by kernel_rfl) ?_ (fun hHeld => ?_)
  ·exact HSS.out _ HB0.out
  refine tV 0 11 ?_
  refine tV 1 12 ?_
  refine tU 2 13 ?_
  refine tU 3 14 ?_
  refine tU 4 15 ?_
  refine tU 5 16 ?_
  refine tV 6 17 ?_
  refine tV 7 18 ?_
  refine tU 8 19 ?_
  refine tU 9 20 ?_
  refine tU 10 21 ?_
  refine tU 11 22 ?_
  refine tU 12 23 ?_
  refine tV 13 24 ?_
  refine tV 14 25 ?_
  refine tU 15 26 ?_
  refine tU 16 27 ?_
  refine tU 17 28 ?_
  refine tU 18 29 ?_
  refine tU 19 30 ?_
  refine tV 20 31 ?_
  refine tV 21 32 ?_
  refine tU 22 33 ?_
  refine tU 23 34 ?_
  refine tU 24 35 ?_
  refine tU 25 36 ?_
  refine tU 26 37 ?_
  refine tV 27 38 ?_
  refine tV 28 39 ?_
  refine tU 29 40 ?_
  refine tU 30 41 ?_
  refine tU 31 42 ?_
  refine tU 32 43 ?_
  refine tU 33 44 ?_
  refine tV 34 45 ?_
  refine tV 35 2 ?_
  refine wpAnyH_done (by kernel_rfl) ?_ _
  all_goals
   go_wp2
   go_ret
   exact ⟨retB (by rw [HR.out]; simp), HBB.out _ HB0.out⟩
 have hik' : ik = true := by simpa using hik
 clear hik
 rw [hik'] at HR
 subst hik'
 by_cases hat : inB 0 1099511627775 e.at_ = false
 ·rw [hat] at HR
  refine wp_region_held_drew (S := (fun W => W.cell? ⟨w.heap.size, 0, none⟩ = some (.int .i64 e.kind) ∧ W.cell? ⟨w.heap.size, 1, none⟩ = some (.int .i64 e.at_) ∧ W.cell? ⟨w.heap.size, 2, none⟩ = some (.string e.user) ∧ W.cell? ⟨w.heap.size, 3, none⟩ = some (.string e.other) ∧ W.cell? ⟨w.heap.size, 4, none⟩ = some (.int .i64 e.n) ∧ W.cell? ⟨w.heap.size, 5, none⟩ = some (.int .i64 e.status) ∧ W.cell? ⟨X, 0, none⟩ = some (.bool s.user) ∧ W.cell? ⟨X, 1, none⟩ = some (.bool s.other) ∧ W.cell? ⟨X, 2, none⟩ = some (.int .i64 s.n0) ∧ W.cell? ⟨X, 3, none⟩ = some (.int .i64 s.n1) ∧ W.cell? ⟨X, 4, none⟩ = some (.int .i64 s.s0) ∧ W.cell? ⟨X, 5, none⟩ = some (.int .i64 s.s1))) (by kernel_rfl) ?_ (fun hHeld => ?_)
  ·exact HSS.out _ HB0.out
  refine tV 0 11 ?_
  refine tV 1 12 ?_
  refine tV 3 14 ?_
  refine tV 4 15 ?_
  refine wpAnyH_ready (rs := [2]) (by kernel_rfl) (by simp) ?_
  refine AllReadyH.cons (o := ⟨some 13, _, _, _, _, _⟩) rfl (fun K hK => ?_) AllReadyH.nil
  go_simp
  refine (times_any _).mono ?_
  rintro r v1 ⟨rfl, k1⟩
  have HB1 : Hid (Below W0.heap.size W0 v1) := HB0.out.trans (k1.mono HB0.out.size)
  clear k1
  go_wp2_with fail
  refine hK.out _ _ ?_ (fun hH2 => ?_)
  ·exact HSS.out _ HB1.out
  clear hK K
  (try simp only [Act.put, List.setIfInBounds_toArray, List.set_cons_zero, List.set_cons_succ])
  refine wpAnyH_ready (rs := [5]) (by kernel_rfl) (by simp) ?_
  refine AllReadyH.cons (o := ⟨some 16, _, _, _, _, _⟩) rfl (fun K hK => ?_) AllReadyH.nil
  go_simp
  refine (has_any _ _ _ _).mono ?_
  rintro r v2 ⟨rfl, k2⟩
  have HB2 : Hid (Below W0.heap.size W0 v2) := HB1.out.trans (k2.mono HB1.out.size)
  clear k2
  go_wp2_with fail
  refine hK.out _ _ ?_ (fun hH5 => ?_)
  ·exact HSS.out _ HB2.out
  clear hK K
  (try simp only [Act.put, List.setIfInBounds_toArray, List.set_cons_zero, List.set_cons_succ])
  refine tV 6 17 ?_
  refine tV 7 18 ?_
  refine tU 8 19 ?_
  refine tU 9 20 ?_
  refine tU 10 21 ?_
  refine tU 11 22 ?_
  refine tU 12 23 ?_
  refine tV 13 24 ?_
  refine tV 14 25 ?_
  refine tU 15 26 ?_
  refine tU 16 27 ?_
  refine tU 17 28 ?_
  refine tU 18 29 ?_
  refine tU 19 30 ?_
  refine tV 20 31 ?_
  refine tV 21 32 ?_
  refine tU 22 33 ?_
  refine tU 23 34 ?_
  refine tU 24 35 ?_
  refine tU 25 36 ?_
  refine tU 26 37 ?_
  refine tV 27 38 ?_
  refine tV 28 39 ?_
  refine tU 29 40 ?_
  refine tU 30 41 ?_
  refine tU 31 42 ?_
  refine tU 32 43 ?_
  refine tU 33 44 ?_
  refine tV 34 45 ?_
  refine tV 35 2 ?_
  refine wpAnyH_done (by kernel_rfl) ?_ _
  all_goals
   go_wp2
   go_ret
   exact ⟨retB (by rw [HR.out]; simp), HBB.out _ HB2.out⟩
 have hat' : inB 0 1099511627775 e.at_ = true := by simpa using hat
 clear hat
 rw [hat'] at HR
 by_cases hus : rText e.user s.user = false
 ·rw [hus] at HR
  refine wp_region_held_drew (S := (fun W => W.cell? ⟨w.heap.size, 0, none⟩ = some (.int .i64 e.kind) ∧ W.cell? ⟨w.heap.size, 1, none⟩ = some (.int .i64 e.at_) ∧ W.cell? ⟨w.heap.size, 2, none⟩ = some (.string e.user) ∧ W.cell? ⟨w.heap.size, 3, none⟩ = some (.string e.other) ∧ W.cell? ⟨w.heap.size, 4, none⟩ = some (.int .i64 e.n) ∧ W.cell? ⟨w.heap.size, 5, none⟩ = some (.int .i64 e.status) ∧ W.cell? ⟨X, 0, none⟩ = some (.bool s.user) ∧ W.cell? ⟨X, 1, none⟩ = some (.bool s.other) ∧ W.cell? ⟨X, 2, none⟩ = some (.int .i64 s.n0) ∧ W.cell? ⟨X, 3, none⟩ = some (.int .i64 s.n1) ∧ W.cell? ⟨X, 4, none⟩ = some (.int .i64 s.s0) ∧ W.cell? ⟨X, 5, none⟩ = some (.int .i64 s.s1))) (by kernel_rfl) ?_ (fun hHeld => ?_)
  ·exact HSS.out _ HB0.out
  refine tV 0 11 ?_
  refine tV 1 12 ?_
  refine tV 3 14 ?_
  refine tV 4 15 ?_
  refine wpAnyH_ready (rs := [2]) (by kernel_rfl) (by simp) ?_
  refine AllReadyH.cons (o := ⟨some 13, _, _, _, _, _⟩) rfl (fun K hK => ?_) AllReadyH.nil
  go_simp
  refine (times_any _).mono ?_
  rintro r v1 ⟨rfl, k1⟩
  have HB1 : Hid (Below W0.heap.size W0 v1) := HB0.out.trans (k1.mono HB0.out.size)
  clear k1
  go_wp2_with fail
  refine hK.out _ _ ?_ (fun hH2 => ?_)
  ·exact HSS.out _ HB1.out
  clear hK K
  (try simp only [Act.put, List.setIfInBounds_toArray, List.set_cons_zero, List.set_cons_succ])
  refine wpAnyH_ready (rs := [5]) (by kernel_rfl) (by simp) ?_
  refine AllReadyH.cons (o := ⟨some 16, _, _, _, _, _⟩) rfl (fun K hK => ?_) AllReadyH.nil
  go_simp
  refine (has_any _ _ _ _).mono ?_
  rintro r v2 ⟨rfl, k2⟩
  have HB2 : Hid (Below W0.heap.size W0 v2) := HB1.out.trans (k2.mono HB1.out.size)
  clear k2
  go_wp2_with fail
  refine hK.out _ _ ?_ (fun hH5 => ?_)
  ·exact HSS.out _ HB2.out
  clear hK K
  (try simp only [Act.put, List.setIfInBounds_toArray, List.set_cons_zero, List.set_cons_succ])
  refine tV 6 17 ?_
  refine tV 7 18 ?_
  refine tV 8 19 ?_
  refine tV 9 20 ?_
  refine tV 10 21 ?_
  refine tV 11 22 ?_
  refine wpAnyH_ready (rs := [12]) (by kernel_rfl) (by simp) ?_
  refine AllReadyH.cons (o := ⟨some 23, _, _, _, _, _⟩) rfl (fun K hK => ?_) AllReadyH.nil
  go_simp
  refine (HU.out _ _).mono ?_
  rintro r v3 ⟨rfl, rfl⟩
  go_wp2_with fail
  refine hK.out _ _ ?_ (fun hH12 => ?_)
  ·exact HSS.out _ HB2.out
  clear hK K
  (try simp only [Act.put, List.setIfInBounds_toArray, List.set_cons_zero, List.set_cons_succ])
  refine tV 13 24 ?_
  refine tV 14 25 ?_
  refine tU 15 26 ?_
  refine tU 16 27 ?_
  refine tU 17 28 ?_
  refine tU 18 29 ?_
  refine tU 19 30 ?_
  refine tV 20 31 ?_
  refine tV 21 32 ?_
  refine tU 22 33 ?_
  refine tU 23 34 ?_
  refine tU 24 35 ?_
  refine tU 25 36 ?_
  refine tU 26 37 ?_
  refine tV 27 38 ?_
  refine tV 28 39 ?_
  refine tU 29 40 ?_
  refine tU 30 41 ?_
  refine tU 31 42 ?_
  refine tU 32 43 ?_
  refine tU 33 44 ?_
  refine tV 34 45 ?_
  refine tV 35 2 ?_
  refine wpAnyH_done (by kernel_rfl) ?_ _
  all_goals
   go_wp2
   go_ret
   exact ⟨retB (by rw [HR.out]; simp), HBB.out _ HB2.out⟩
 have hus' : rText e.user s.user = true := by simpa using hus
 clear hus
 rw [hus'] at HR
 by_cases hot : rText e.other s.other = false
 ·rw [hot] at HR
  refine wp_region_held_drew (S := (fun W => W.cell? ⟨w.heap.size, 0, none⟩ = some (.int .i64 e.kind) ∧ W.cell? ⟨w.heap.size, 1, none⟩ = some (.int .i64 e.at_) ∧ W.cell? ⟨w.heap.size, 2, none⟩ = some (.string e.user) ∧ W.cell? ⟨w.heap.size, 3, none⟩ = some (.string e.other) ∧ W.cell? ⟨w.heap.size, 4, none⟩ = some (.int .i64 e.n) ∧ W.cell? ⟨w.heap.size, 5, none⟩ = some (.int .i64 e.status) ∧ W.cell? ⟨X, 0, none⟩ = some (.bool s.user) ∧ W.cell? ⟨X, 1, none⟩ = some (.bool s.other) ∧ W.cell? ⟨X, 2, none⟩ = some (.int .i64 s.n0) ∧ W.cell? ⟨X, 3, none⟩ = some (.int .i64 s.n1) ∧ W.cell? ⟨X, 4, none⟩ = some (.int .i64 s.s0) ∧ W.cell? ⟨X, 5, none⟩ = some (.int .i64 s.s1))) (by kernel_rfl) ?_ (fun hHeld => ?_)
  ·exact HSS.out _ HB0.out
  refine tV 0 11 ?_
  refine tV 1 12 ?_
  refine tV 3 14 ?_
  refine tV 4 15 ?_
  refine wpAnyH_ready (rs := [2]) (by kernel_rfl) (by simp) ?_
  refine AllReadyH.cons (o := ⟨some 13, _, _, _, _, _⟩) rfl (fun K hK => ?_) AllReadyH.nil
  go_simp
  refine (times_any _).mono ?_
  rintro r v1 ⟨rfl, k1⟩
  have HB1 : Hid (Below W0.heap.size W0 v1) := HB0.out.trans (k1.mono HB0.out.size)
  clear k1
  go_wp2_with fail
  refine hK.out _ _ ?_ (fun hH2 => ?_)
  ·exact HSS.out _ HB1.out
  clear hK K
  (try simp only [Act.put, List.setIfInBounds_toArray, List.set_cons_zero, List.set_cons_succ])
  refine wpAnyH_ready (rs := [5]) (by kernel_rfl) (by simp) ?_
  refine AllReadyH.cons (o := ⟨some 16, _, _, _, _, _⟩) rfl (fun K hK => ?_) AllReadyH.nil
  go_simp
  refine (has_any _ _ _ _).mono ?_
  rintro r v2 ⟨rfl, k2⟩
  have HB2 : Hid (Below W0.heap.size W0 v2) := HB1.out.trans (k2.mono HB1.out.size)
  clear k2
  go_wp2_with fail
  refine hK.out _ _ ?_ (fun hH5 => ?_)
  ·exact HSS.out _ HB2.out
  clear hK K
  (try simp only [Act.put, List.setIfInBounds_toArray, List.set_cons_zero, List.set_cons_succ])
  refine tV 6 17 ?_
  refine tV 7 18 ?_
  refine tV 8 19 ?_
  refine tV 9 20 ?_
  refine tV 10 21 ?_
  refine tV 11 22 ?_
  refine wpAnyH_ready (rs := [12]) (by kernel_rfl) (by simp) ?_
  refine AllReadyH.cons (o := ⟨some 23, _, _, _, _, _⟩) rfl (fun K hK => ?_) AllReadyH.nil
  go_simp
  refine (HU.out _ _).mono ?_
  rintro r v3 ⟨rfl, rfl⟩
  go_wp2_with fail
  refine hK.out _ _ ?_ (fun hH12 => ?_)
  ·exact HSS.out _ HB2.out
  clear hK K
  (try simp only [Act.put, List.setIfInBounds_toArray, List.set_cons_zero, List.set_cons_succ])
  refine tV 13 24 ?_
  refine tV 14 25 ?_
  refine tV 15 26 ?_
  refine tV 16 27 ?_
  refine tV 17 28 ?_
  refine tV 18 29 ?_
  refine wpAnyH_ready (rs := [19]) (by kernel_rfl) (by simp) ?_
  refine AllReadyH.cons (o := ⟨some 30, _, _, _, _, _⟩) rfl (fun K hK => ?_) AllReadyH.nil
  go_simp
  refine (HO.out _ _).mono ?_
  rintro r v4 ⟨rfl, rfl⟩
  go_wp2_with fail
  refine hK.out _ _ ?_ (fun hH19 => ?_)
  ·exact HSS.out _ HB2.out
  clear hK K
  (try simp only [Act.put, List.setIfInBounds_toArray, List.set_cons_zero, List.set_cons_succ])
  refine tV 20 31 ?_
  refine tV 21 32 ?_
  refine tU 22 33 ?_
  refine tU 23 34 ?_
  refine tU 24 35 ?_
  refine tU 25 36 ?_
  refine tU 26 37 ?_
  refine tV 27 38 ?_
  refine tV 28 39 ?_
  refine tU 29 40 ?_
  refine tU 30 41 ?_
  refine tU 31 42 ?_
  refine tU 32 43 ?_
  refine tU 33 44 ?_
  refine tV 34 45 ?_
  refine tV 35 2 ?_
  refine wpAnyH_done (by kernel_rfl) ?_ _
  all_goals
   go_wp2
   go_ret
   exact ⟨retB (by rw [HR.out]; simp), HBB.out _ HB2.out⟩
 have hot' : rText e.other s.other = true := by simpa using hot
 clear hot
 rw [hot'] at HR
 by_cases hnn : inB s.n0 s.n1 e.n = false
 ·rw [hnn] at HR
  refine wp_region_held_drew (S := (fun W => W.cell? ⟨w.heap.size, 0, none⟩ = some (.int .i64 e.kind) ∧ W.cell? ⟨w.heap.size, 1, none⟩ = some (.int .i64 e.at_) ∧ W.cell? ⟨w.heap.size, 2, none⟩ = some (.string e.user) ∧ W.cell? ⟨w.heap.size, 3, none⟩ = some (.string e.other) ∧ W.cell? ⟨w.heap.size, 4, none⟩ = some (.int .i64 e.n) ∧ W.cell? ⟨w.heap.size, 5, none⟩ = some (.int .i64 e.status) ∧ W.cell? ⟨X, 0, none⟩ = some (.bool s.user) ∧ W.cell? ⟨X, 1, none⟩ = some (.bool s.other) ∧ W.cell? ⟨X, 2, none⟩ = some (.int .i64 s.n0) ∧ W.cell? ⟨X, 3, none⟩ = some (.int .i64 s.n1) ∧ W.cell? ⟨X, 4, none⟩ = some (.int .i64 s.s0) ∧ W.cell? ⟨X, 5, none⟩ = some (.int .i64 s.s1))) (by kernel_rfl) ?_ (fun hHeld => ?_)
  ·exact HSS.out _ HB0.out
  refine tV 0 11 ?_
  refine tV 1 12 ?_
  refine tV 3 14 ?_
  refine tV 4 15 ?_
  refine wpAnyH_ready (rs := [2]) (by kernel_rfl) (by simp) ?_
  refine AllReadyH.cons (o := ⟨some 13, _, _, _, _, _⟩) rfl (fun K hK => ?_) AllReadyH.nil
  go_simp
  refine (times_any _).mono ?_
  rintro r v1 ⟨rfl, k1⟩
  have HB1 : Hid (Below W0.heap.size W0 v1) := HB0.out.trans (k1.mono HB0.out.size)
  clear k1
  go_wp2_with fail
  refine hK.out _ _ ?_ (fun hH2 => ?_)
  ·exact HSS.out _ HB1.out
  clear hK K
  (try simp only [Act.put, List.setIfInBounds_toArray, List.set_cons_zero, List.set_cons_succ])
  refine wpAnyH_ready (rs := [5]) (by kernel_rfl) (by simp) ?_
  refine AllReadyH.cons (o := ⟨some 16, _, _, _, _, _⟩) rfl (fun K hK => ?_) AllReadyH.nil
  go_simp
  refine (has_any _ _ _ _).mono ?_
  rintro r v2 ⟨rfl, k2⟩
  have HB2 : Hid (Below W0.heap.size W0 v2) := HB1.out.trans (k2.mono HB1.out.size)
  clear k2
  go_wp2_with fail
  refine hK.out _ _ ?_ (fun hH5 => ?_)
  ·exact HSS.out _ HB2.out
  clear hK K
  (try simp only [Act.put, List.setIfInBounds_toArray, List.set_cons_zero, List.set_cons_succ])
  refine tV 6 17 ?_
  refine tV 7 18 ?_
  refine tV 8 19 ?_
  refine tV 9 20 ?_
  refine tV 10 21 ?_
  refine tV 11 22 ?_
  refine wpAnyH_ready (rs := [12]) (by kernel_rfl) (by simp) ?_
  refine AllReadyH.cons (o := ⟨some 23, _, _, _, _, _⟩) rfl (fun K hK => ?_) AllReadyH.nil
  go_simp
  refine (HU.out _ _).mono ?_
  rintro r v3 ⟨rfl, rfl⟩
  go_wp2_with fail
  refine hK.out _ _ ?_ (fun hH12 => ?_)
  ·exact HSS.out _ HB2.out
  clear hK K
  (try simp only [Act.put, List.setIfInBounds_toArray, List.set_cons_zero, List.set_cons_succ])
  refine tV 13 24 ?_
  refine tV 14 25 ?_
  refine tV 15 26 ?_
  refine tV 16 27 ?_
  refine tV 17 28 ?_
  refine tV 18 29 ?_
  refine wpAnyH_ready (rs := [19]) (by kernel_rfl) (by simp) ?_
  refine AllReadyH.cons (o := ⟨some 30, _, _, _, _, _⟩) rfl (fun K hK => ?_) AllReadyH.nil
  go_simp
  refine (HO.out _ _).mono ?_
  rintro r v4 ⟨rfl, rfl⟩
  go_wp2_with fail
  refine hK.out _ _ ?_ (fun hH19 => ?_)
  ·exact HSS.out _ HB2.out
  clear hK K
  (try simp only [Act.put, List.setIfInBounds_toArray, List.set_cons_zero, List.set_cons_succ])
  refine tV 20 31 ?_
  refine tV 21 32 ?_
  refine tV 22 33 ?_
  refine tV 23 34 ?_
  refine tV 24 35 ?_
  refine tV 25 36 ?_
  refine wpAnyH_ready (rs := [26]) (by kernel_rfl) (by simp) ?_
  refine AllReadyH.cons (o := ⟨some 37, _, _, _, _, _⟩) rfl (fun K hK => ?_) AllReadyH.nil
  go_simp
  refine (has_any _ _ _ _).mono ?_
  rintro r v5 ⟨rfl, k5⟩
  have HB5 : Hid (Below W0.heap.size W0 v5) := HB2.out.trans (k5.mono HB2.out.size)
  clear k5
  go_wp2_with fail
  refine hK.out _ _ ?_ (fun hH26 => ?_)
  ·exact HSS.out _ HB5.out
  clear hK K
  (try simp only [Act.put, List.setIfInBounds_toArray, List.set_cons_zero, List.set_cons_succ])
  refine tV 27 38 ?_
  refine tV 28 39 ?_
  refine tU 29 40 ?_
  refine tU 30 41 ?_
  refine tU 31 42 ?_
  refine tU 32 43 ?_
  refine tU 33 44 ?_
  refine tV 34 45 ?_
  refine tV 35 2 ?_
  refine wpAnyH_done (by kernel_rfl) ?_ _
  all_goals
   go_wp2
   go_ret
   exact ⟨retB (by rw [HR.out]; simp), HBB.out _ HB5.out⟩
 have hnn' : inB s.n0 s.n1 e.n = true := by simpa using hnn
 clear hnn
 rw [hnn'] at HR
 refine wp_region_held_drew (S := (fun W => W.cell? ⟨w.heap.size, 0, none⟩ = some (.int .i64 e.kind) ∧ W.cell? ⟨w.heap.size, 1, none⟩ = some (.int .i64 e.at_) ∧ W.cell? ⟨w.heap.size, 2, none⟩ = some (.string e.user) ∧ W.cell? ⟨w.heap.size, 3, none⟩ = some (.string e.other) ∧ W.cell? ⟨w.heap.size, 4, none⟩ = some (.int .i64 e.n) ∧ W.cell? ⟨w.heap.size, 5, none⟩ = some (.int .i64 e.status) ∧ W.cell? ⟨X, 0, none⟩ = some (.bool s.user) ∧ W.cell? ⟨X, 1, none⟩ = some (.bool s.other) ∧ W.cell? ⟨X, 2, none⟩ = some (.int .i64 s.n0) ∧ W.cell? ⟨X, 3, none⟩ = some (.int .i64 s.n1) ∧ W.cell? ⟨X, 4, none⟩ = some (.int .i64 s.s0) ∧ W.cell? ⟨X, 5, none⟩ = some (.int .i64 s.s1))) (by kernel_rfl) ?_ (fun hHeld => ?_)
 ·exact HSS.out _ HB0.out
 refine tV 0 11 ?_
 refine tV 1 12 ?_
 refine tV 3 14 ?_
 refine tV 4 15 ?_
 refine wpAnyH_ready (rs := [2]) (by kernel_rfl) (by simp) ?_
 refine AllReadyH.cons (o := ⟨some 13, _, _, _, _, _⟩) rfl (fun K hK => ?_) AllReadyH.nil
 go_simp
 refine (times_any _).mono ?_
 rintro r v1 ⟨rfl, k1⟩
 have HB1 : Hid (Below W0.heap.size W0 v1) := HB0.out.trans (k1.mono HB0.out.size)
 clear k1
 go_wp2_with fail
 refine hK.out _ _ ?_ (fun hH2 => ?_)
 ·exact HSS.out _ HB1.out
 clear hK K
 (try simp only [Act.put, List.setIfInBounds_toArray, List.set_cons_zero, List.set_cons_succ])
 refine wpAnyH_ready (rs := [5]) (by kernel_rfl) (by simp) ?_
 refine AllReadyH.cons (o := ⟨some 16, _, _, _, _, _⟩) rfl (fun K hK => ?_) AllReadyH.nil
 go_simp
 refine (has_any _ _ _ _).mono ?_
 rintro r v2 ⟨rfl, k2⟩
 have HB2 : Hid (Below W0.heap.size W0 v2) := HB1.out.trans (k2.mono HB1.out.size)
 clear k2
 go_wp2_with fail
 refine hK.out _ _ ?_ (fun hH5 => ?_)
 ·exact HSS.out _ HB2.out
 clear hK K
 (try simp only [Act.put, List.setIfInBounds_toArray, List.set_cons_zero, List.set_cons_succ])
 refine tV 6 17 ?_
 refine tV 7 18 ?_
 refine tV 8 19 ?_
 refine tV 9 20 ?_
 refine tV 10 21 ?_
 refine tV 11 22 ?_
 refine wpAnyH_ready (rs := [12]) (by kernel_rfl) (by simp) ?_
 refine AllReadyH.cons (o := ⟨some 23, _, _, _, _, _⟩) rfl (fun K hK => ?_) AllReadyH.nil
 go_simp
 refine (HU.out _ _).mono ?_
 rintro r v3 ⟨rfl, rfl⟩
 go_wp2_with fail
 refine hK.out _ _ ?_ (fun hH12 => ?_)
 ·exact HSS.out _ HB2.out
 clear hK K
 (try simp only [Act.put, List.setIfInBounds_toArray, List.set_cons_zero, List.set_cons_succ])
 refine tV 13 24 ?_
 refine tV 14 25 ?_
 refine tV 15 26 ?_
 refine tV 16 27 ?_
 refine tV 17 28 ?_
 refine tV 18 29 ?_
 refine wpAnyH_ready (rs := [19]) (by kernel_rfl) (by simp) ?_
 refine AllReadyH.cons (o := ⟨some 30, _, _, _, _, _⟩) rfl (fun K hK => ?_) AllReadyH.nil
 go_simp
 refine (HO.out _ _).mono ?_
 rintro r v4 ⟨rfl, rfl⟩
 go_wp2_with fail
 refine hK.out _ _ ?_ (fun hH19 => ?_)
 ·exact HSS.out _ HB2.out
 clear hK K
 (try simp only [Act.put, List.setIfInBounds_toArray, List.set_cons_zero, List.set_cons_succ])
 refine tV 20 31 ?_
 refine tV 21 32 ?_
 refine tV 22 33 ?_
 refine tV 23 34 ?_
 refine tV 24 35 ?_
 refine tV 25 36 ?_
 refine wpAnyH_ready (rs := [26]) (by kernel_rfl) (by simp) ?_
 refine AllReadyH.cons (o := ⟨some 37, _, _, _, _, _⟩) rfl (fun K hK => ?_) AllReadyH.nil
 go_simp
 refine (has_any _ _ _ _).mono ?_
 rintro r v5 ⟨rfl, k5⟩
 have HB5 : Hid (Below W0.heap.size W0 v5) := HB2.out.trans (k5.mono HB2.out.size)
 clear k5
 go_wp2_with fail
 refine hK.out _ _ ?_ (fun hH26 => ?_)
 ·exact HSS.out _ HB5.out
 clear hK K
 (try simp only [Act.put, List.setIfInBounds_toArray, List.set_cons_zero, List.set_cons_succ])
 refine tV 27 38 ?_
 refine tV 28 39 ?_
 refine tV 29 40 ?_
 refine tV 30 41 ?_
 refine tV 31 42 ?_
 refine tV 32 43 ?_
 refine wpAnyH_ready (rs := [33]) (by kernel_rfl) (by simp) ?_
 refine AllReadyH.cons (o := ⟨some 44, _, _, _, _, _⟩) rfl (fun K hK => ?_) AllReadyH.nil
 go_simp
 refine (has_any _ _ _ _).mono ?_
 rintro r v6 ⟨rfl, k6⟩
 have HB6 : Hid (Below W0.heap.size W0 v6) := HB5.out.trans (k6.mono HB5.out.size)
 clear k6
 go_wp2_with fail
 refine hK.out _ _ ?_ (fun hH33 => ?_)
 ·exact HSS.out _ HB6.out
 clear hK K
 (try simp only [Act.put, List.setIfInBounds_toArray, List.set_cons_zero, List.set_cons_succ])
 refine tV 34 45 ?_
 refine tV 35 2 ?_
 refine wpAnyH_done (by kernel_rfl) ?_ _
 all_goals
  go_wp2
  go_ret
  exact ⟨retB (by rw [HR.out]; simp), HBB.out _ HB6.out⟩
end Go.Proofs.YtjhdhfokhkcamaaGreat
