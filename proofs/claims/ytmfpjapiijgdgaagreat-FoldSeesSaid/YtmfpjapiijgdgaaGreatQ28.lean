/- Texts of mine, one behind the other, of each what is wanted. -/
import Derived.Test.YtmfpjapiijgdgaaGreatQ00
import Derived.Test.YtmfpjapiijgdgaaGreatShelf
import Derived.Test.YtmfpjapiijgdgaaGreatQ01
import Derived.Test.YtmfpjapiijgdgaaGreatQ06
import Derived.Test.YtmfpjapiijgdgaaGreatQ17
import Derived.Test.YtmfpjapiijgdgaaGreatQ20
import Derived.Test.YtmfpjapiijgdgaaGreatQ26
import Derived.Test.YtmfpjapiijgdgaaGreatQ27
namespace Go.Proofs.YtmfpjapiijgdgaaGreat
open Go.RowKit
set_option linter.unusedVariables false
set_option maxRecDepth 100000
set_option maxRecDepth 100000
def hasB (l : List SpM) (x : Int) : Bool := l.any fun s => decide (s.f ≤ x) && decide (x < s.t)
theorem hasB_iff (l : List SpM) (x : Int) : hasB l x = true ↔ HasL l x := by
 unfold hasB HasL
 rw [List.any_eq_true]
 exact ⟨fun ⟨s, hs, h⟩ => ⟨s, hs, by simpa using h⟩, fun ⟨s, hs, h⟩ => ⟨s, hs, by simpa using h⟩⟩
theorem hasB_yes {l : List SpM} {x : Int} {j : Nat} (hj : j < l.length) (h1 : l[j].f ≤ x) (h2 : x < l[j].t) : hasB l x = true := (hasB_iff l x).2 ⟨l[j], List.getElem_mem hj, h1, h2⟩
theorem hasB_next {l : List SpM} {x : Int} {j : Nat} (hj : j < l.length) (h : hasB (l.take j) x = false) (h1 : ¬ (l[j].f ≤ x ∧ x < l[j].t)) : hasB (l.take (j + 1)) x = false := by
 unfold hasB at *
 rw [List.take_succ_eq_append_getElem hj, List.any_append, h]
 simpa using h1
set_option maxHeartbeats 2000000 in
theorem lhas_any (a : Option Addr) (c : Nat) (l : List SpM) (x : Int) (w : World) (hr : SpSl w a l) (hl : l.length ≤ maxLen) :
  Calls Tryz.prog 104 #[.slice a l.length c, .int .i64 x] w fun e w' => e = .returned (.bool (hasB l x)) ∧ Below w.heap.size w w' := by
 have HR := Lib.hid hr
 have HC := Lib.hid shas_any
 unfold maxLen at hl
 clear hr
 go_enter Tryz.func104, Tryz.ntmps104
 go_wp2
 go_loopw [9] (fun i wr => ∃ (j : Nat), j ≤ l.length ∧ i = .int .i64 j ∧ Hid (hasB (l.take j) x = false) ∧ Hid (Below w.heap.size w wr)) (fun i _ => l.length - (intOf i).toNat)
 case atStart => exact ⟨0, by omega, rfl, rfl, Below.refl _ _⟩
 case round =>
  obtain ⟨j, hj, rfl, HF, HB⟩ := hrel
  by_cases hjl : j < l.length
  ·obtain ⟨b, off, rfl, hbl, hc0, hc1⟩ := (HR.out.below HB.out).at_ hjl
   have HY := Lib.hid (fun h1 h2 => hasB_yes (x := x) hjl h1 h2)
   have HN := Lib.hid (fun h => hasB_next hjl HF.out h)
   have HB2 := Lib.hid (HB.out.alloc HB.out.size (.cells #[.int .i64 l[j].f, .int .i64 l[j].t] 90))
   generalize l[j] = s at *
   have HC1 := Lib.hid (fun W => HC.out s.f s.t x W)
   by_cases h : s.f ≤ x ∧ x < s.t
   ·have hd : (decide (s.f ≤ x) && decide (x < s.t)) = true := by simp [h]
    rw [hd] at HC1
    have HE := Lib.hid (HY.out h.1 h.2)
    clear HY HN HC hd h HF HB
    go_wp2_with fail
    refine (HC1.out _).mono ?_
    rintro e w2 ⟨rfl, h2⟩
    go_wp2
    go_ret
    exact ⟨by rw [HE.out]; rfl, HB2.out.trans (h2.mono HB2.out.size)⟩
   ·have hd : (decide (s.f ≤ x) && decide (x < s.t)) = false := by
     rw [Bool.and_eq_false_iff]
     by_cases h1 : s.f ≤ x
     ·exact .inr (decide_eq_false (fun h2 => h ⟨h1, h2⟩))
     ·exact .inl (decide_eq_false h1)
    rw [hd] at HC1
    have HE := Lib.hid (HN.out h)
    clear HY HN hd h HF HB
    go_wp2_with fail
    refine (HC1.out _).mono ?_
    rintro e w2 ⟨rfl, h2⟩
    have HB3 := Lib.hid (HB2.out.trans (h2.mono HB2.out.size))
    clear h2 HB2 HC1
    go_wp2
    go_roundw
    case rel => exact ⟨j + 1, by omega, by go_num, HE, HB3⟩
    case measure => simp [intOf]; omega
  ·obtain rfl : j = l.length := by omega
   rw [List.take_of_length_le (Nat.le_refl _)] at HF
   go_wp2
   go_ret
   exact ⟨by rw [HF.out]; rfl, HB.out⟩
set_option maxHeartbeats 2000000 in
theorem refHas_any (a : Option Addr) (c : Nat) (l : List SpM) (x : Int) (w : World) (hr : SpSl w a l) (hl : l.length ≤ maxLen) :
  Calls Tryz.prog 105 #[.slice a l.length c, .int .i64 x] w fun e w' => e = .returned (.bool (hasB l x)) ∧ w' = w := by
 have HR := Lib.hid hr
 unfold maxLen at hl
 clear hr
 go_enter Tryz.func105, Tryz.ntmps105
 go_wp2
 go_loopw [5] (fun i wr => ∃ (j : Nat), j ≤ l.length ∧ i = .int .i64 j ∧ Hid (hasB (l.take j) x = false) ∧ wr = w) (fun i _ => l.length - (intOf i).toNat)
 case atStart => exact ⟨0, by omega, rfl, rfl, rfl⟩
 case round =>
  obtain ⟨j, hj, rfl, HF, rfl⟩ := hrel
  by_cases hjl : j < l.length
  ·obtain ⟨b, off, rfl, hbl, hc0, hc1⟩ := HR.out.at_ hjl
   have HY := Lib.hid (fun h1 h2 => hasB_yes (x := x) hjl h1 h2)
   have HN := Lib.hid (fun h => hasB_next hjl HF.out h)
   generalize l[j] = s at *
   by_cases h1 : s.f ≤ x
   ·by_cases h2 : x < s.t
    ·have HE := Lib.hid (HY.out h1 h2)
     clear HY HN HF
     go_wp2
     go_ret
     exact ⟨by rw [HE.out]; rfl, rfl⟩
    ·have HE := Lib.hid (HN.out (fun h => h2 h.2))
     clear HY HN HF
     go_wp2
     go_roundw
     case rel => exact ⟨j + 1, by omega, by go_num, HE, trivial⟩
     case measure => simp [intOf]; omega
   ·have HE := Lib.hid (HN.out (fun h => h1 h.1))
    clear HY HN HF
    go_wp2
    go_roundw
    case rel => exact ⟨j + 1, by omega, by go_num, HE, trivial⟩
    case measure => simp [intOf]; omega
  ·obtain rfl : j = l.length := by omega
   rw [List.take_of_length_le (Nat.le_refl _)] at HF
   go_wp2
   go_ret
   exact ⟨by rw [HF.out]; rfl, rfl⟩
set_option maxHeartbeats 2000000 in
theorem olds_any (a : Option Addr) (c : Nat) (l : List SpM) (w : World) (hr : SpSl w a l) (hl : l.length ≤ 1000000) :
  Calls Tryz.prog 42 #[.slice a l.length c] w fun e w' => ∃ (v : Value), e = .returned v ∧ w'.ownsRow w.heap.size 106 2 v l.length (sps l) ∧ Below w.heap.size w w' := by
 obtain ⟨i0, hi, hz0, hz1, hz2⟩ := info_parts infoSpanR
 have HR := Lib.hid hr
 clear hr
 go_enter Tryz.func42, Tryz.ntmps42
 go_wp2
 go_loopw [3, 8] (fun v i wr => ∃ (j : Nat), j ≤ l.length ∧ i = .int .i64 j ∧ Hid (wr.ownsRow w.heap.size 106 2 v j (sps (l.take j))) ∧ Hid (Below w.heap.size w wr)) (fun _ i _ => l.length - (intOf i).toNat)
 case atStart => exact ⟨0, by omega, rfl, ⟨rfl, .inl ⟨rfl, rfl⟩⟩, Below.refl _ _⟩
 case round =>
  obtain ⟨j, hj, rfl, HO, HB⟩ := hrel
  by_cases hjl : j < l.length
  ·obtain ⟨b, off, rfl, hbl, hc0, hc1⟩ := (HR.out.below HB.out).at_ hjl
   have HC := Lib.hid (sps_take l j hjl)
   generalize l[j] = x at *
   have HO2 := Lib.hid (own_below HO.out (below_two wr (.cells #[.int .i64 x.f, .int .i64 x.t] 90) (.cells #[.int .i64 x.f, .int .i64 x.t] 106)))
   have HB2 : Hid (Below w.heap.size w ((wr.alloc (.cells #[.int .i64 x.f, .int .i64 x.t] 90)).alloc (.cells #[.int .i64 x.f, .int .i64 x.t] 106))) := HB.out.trans ((below_two _ _ _).mono HB.out.size)
   have HS2 := Lib.hid HB2.out.size
   go_wp2_with (at_builtin; refine wpList_append_own _ rfl (.tmp 12) (.tmp 14) 74 rfl w.heap.size 106 i0 _ 2 16 Tryz.underlying74 hi hz0 hz1 hz2 rfl (by decide) _ _ _ rfl HO2.out ⟨wr.heap.size + 1, 0, none⟩ 1 1 [.int .i64 x.f, .int .i64 x.t] rfl rfl (news_at _ _ _ _ (size1 _ _).symm) (two_one _ _) (by unfold maxLen; omega) (by omega) HS2.out ?_; intro v' w2 hown' hgrow hiff)
   have HB3 := Lib.hid (app_below HB2.out HS2.out HO2.out hgrow)
   have HO3 := Lib.hid hown'
   clear hown' hgrow hiff HB2 HS2 HO2
   go_wp2
   go_roundw
   case rel => exact ⟨j + 1, by omega, by go_num, (by unfold Hid; rw [HC.out]; exact HO3.out), HB3⟩
   case measure => simp [intOf]; omega
  ·obtain rfl : j = l.length := by omega
   rw [List.take_of_length_le (Nat.le_refl _)] at HO
   go_wp2
   go_ret
   exact ⟨_, rfl, HO.out, HB.out⟩
set_option maxHeartbeats 2000000 in
theorem refSame_any (a b : Option Addr) (ca cb : Nat) (l m : List SpM) (w : World) (ha : SpSl w a l) (hb : SpSl w b m) (hla : l.length ≤ maxLen) (hlb : m.length ≤ maxLen) :
  Calls Tryz.prog 41 #[.slice a l.length ca, .slice b m.length cb] w fun e w' => e = .returned (.bool (decide (l = m))) ∧ Below w.heap.size w w' := by
 have HA := Lib.hid ha
 have HB := Lib.hid hb
 clear ha hb
 unfold maxLen at hla hlb
 by_cases hll : l.length = m.length
 ·obtain ⟨n, hn⟩ : ∃ n, n = m.length := ⟨_, rfl⟩
  have HL : Hid (l.length = n) := hll.trans hn.symm
  have HM : Hid (m.length = n) := hn.symm
  rw [HL.out, HM.out]
  rw [HM.out] at hlb
  clear hll hn hla
  go_enter Tryz.func41, Tryz.ntmps41
  go_wp2
  go_loopw [5] (fun i wr => ∃ (j : Nat), j ≤ n ∧ i = .int .i64 j ∧ Hid (l.take j = m.take j) ∧ Hid (Drew w wr)) (fun i _ => n - (intOf i).toNat)
  case atStart => exact ⟨0, by omega, rfl, (by unfold Hid; rfl), Drew.refl _⟩
  case round =>
   obtain ⟨j, hj, rfl, HT, HD⟩ := hrel
   by_cases hjn : j < n
   ·have hjl : j < l.length := by have := HL.out; omega
    have hjm : j < m.length := by have := HM.out; omega
    obtain ⟨b1, o1, rfl, hb1, hc0, hc1⟩ := (HA.out.below (HD.out.below _)).at_ hjl
    obtain ⟨b2, o2, rfl, hb2, hd0, hd1⟩ := (HB.out.below (HD.out.below _)).at_ hjm
    have HN := Lib.hid (take_same hjl hjm HT.out)
    have HNE : Hid (l[j] ≠ m[j] → l ≠ m) := fun h e => h (by subst e; rfl)
    generalize l[j] = x at *
    generalize m[j] = y at *
    clear hjl hjm
    obtain ⟨f1, t1⟩ := x
    obtain ⟨f2, t2⟩ := y
    dsimp only at *
    by_cases h0 : f1 = f2
    ·subst h0
     have he0 : (f1 == f1) = true := beq_self_eq_true _
     by_cases h1 : t1 = t2
     ·subst h1
      have he1 : (t1 == t1) = true := beq_self_eq_true _
      have HN2 := Lib.hid (HN.out rfl)
      clear HN HNE
      go_wp2
      go_quiet (fail)
      go_wp2
      go_roundw
      case rel => exact ⟨j + 1, by omega, by go_num, HN2, HD.out.trans ⟨_, rfl⟩⟩
      case measure => simp [intOf]; omega
     ·have HF : Hid (decide (l = m) = false) := decide_eq_false (HNE.out (fun e => h1 (congrArg SpM.t e)))
      have heq : (t1 == t2) = false := beq_eq_false_iff_ne.2 h1
      clear HN HNE
      go_wp2
      go_quiet (fail)
      go_wp2
      go_ret
      exact ⟨by rw [HF.out]; rfl, (HD.out.trans ⟨_, rfl⟩).below _⟩
    ·have HF : Hid (decide (l = m) = false) := decide_eq_false (HNE.out (fun e => h0 (congrArg SpM.f e)))
     have heq : (f1 == f2) = false := beq_eq_false_iff_ne.2 h0
     clear HN HNE
     go_wp2
     go_quiet (fail)
     go_wp2
     go_ret
     exact ⟨by rw [HF.out]; rfl, (HD.out.trans ⟨_, rfl⟩).below _⟩
   ·obtain rfl : j = n := by omega
    have HE : Hid (decide (l = m) = true) := decide_eq_true (by
     have := HT.out
     rwa [List.take_of_length_le (Nat.le_of_eq HL.out), List.take_of_length_le (Nat.le_of_eq HM.out)] at this)
    go_wp2
    go_ret
    exact ⟨by rw [HE.out]; rfl, HD.out.below _⟩
 ·have HE : Hid (decide (l = m) = false) := decide_eq_false (fun e => hll (by rw [e]))
  have hne : ((l.length : Int) == (m.length : Int)) = false := beq_eq_false_iff_ne.2 (by omega)
  go_enter Tryz.func41, Tryz.ntmps41
  go_wp2
  go_ret
  exact ⟨by rw [HE.out]; rfl, Below.refl _ _⟩
theorem infoInt : (Tryz.prog.info? 3).map (fun i => (i.zero, i.size, i.bytes)) = some (some (.int .i64 0), 1, 8) := by kernel_rfl
theorem ints_snoc (l : List Int) (n : Int) : ints (l ++ [n]) = ints l ++ [.int .i64 n] := by simp [ints]
theorem one_int (n : Int) : ∀ u ∈ [Value.int .i64 n], u.oneCell' = true := fun u hu => by rw [List.mem_singleton.1 hu]; rfl
set_option maxHeartbeats 4000000 in
theorem put_any (a : Option Addr) (c : Nat) (l : List Int) (n : Int) (w : World) (hr : Sl w a (ints l)) (hrise : Rise l) (hl : l.length ≤ 1000000) :
  Calls Tryz.prog 211 #[.slice a l.length c, .int .i64 n] w fun e w' => ∃ (v : Value) (r : List Int), e = .returned v ∧ Rise r ∧ (∀ x, x ∈ r ↔ x ∈ l ∨ x = n) ∧ r.length ≤ l.length + 1 ∧ w'.ownsRow w.heap.size 3 1 v r.length (ints r) ∧ Below w.heap.size w w' := by
 obtain ⟨i0, hi, hz0, hz1, hz2⟩ := info_parts infoInt
 have HR := Lib.hid hr
 have HRS := Lib.hid hrise
 clear hr hrise
 go_enter Tryz.func211, Tryz.ntmps211
 go_wp2
 go_loopw [5, 6, 7] (fun v d i wr => ∃ (j : Nat) (out : List Int) (dn : Bool), j ≤ l.length ∧ i = .int .i64 j ∧ d = .bool dn ∧ out.length ≤ j + (if dn then 1 else 0) ∧ Hid (PutI l n j out dn) ∧ Hid (wr.ownsRow w.heap.size 3 1 v out.length (ints out)) ∧ Hid (Below w.heap.size w wr)) (fun _ _ i _ => l.length - (intOf i).toNat)
 case atStart => exact ⟨0, [], false, by omega, rfl, rfl, by simp, PutI.start l n, ⟨rfl, .inl ⟨rfl, rfl⟩⟩, Below.refl _ _⟩
 case round =>
  obtain ⟨j, out, dn, hj, rfl, rfl, hol, HI, HO, HB⟩ := hrel
  by_cases hjl : j < l.length
  ·obtain ⟨b, off, rfl, hbl, hc0⟩ := ints_at (HR.out.below HB.out) hjl
   have HPL := Lib.hid (fun hd => HI.out.plain HRS.out hjl hd)
   have HPU : Hid (dn = false → n < l[j] → PutI l n (j + 1) (out ++ [n] ++ [l[j]]) true) := fun h1 h2 => by
    have h := HI.out
    rw [h1] at h
    exact h.put HRS.out hjl h2
   have HCL := Lib.hid (fun W (hW : Below w.heap.size w W) => ints_at (HR.out.below hW) hjl)
   generalize hx : l[j] = x at *
   have hol2 : out.length ≤ j + 1 := by cases dn <;> simp at hol <;> omega
   have HA1 := Lib.hid ((Below.refl wr.heap.size wr).alloc (Nat.le_refl _) (.cells #[.int .i64 x] 3))
   have HO1 := Lib.hid (own_below HO.out HA1.out)
   have HB1 := Lib.hid (HB.out.trans (HA1.out.mono HB.out.size))
   have HS1 := Lib.hid HB1.out.size
   by_cases h1 : x = n
   ·have he : (x == n) = true := beq_iff_eq.2 h1
    have HI2 := Lib.hid (HPL.out (.inr (.inr h1)))
    have hdn : (dn || decide (x = n)) = true := by rw [decide_eq_true h1, Bool.or_true]
    rw [hdn] at HI2
    clear HPL HPU HI hdn HCL
    subst h1
    go_wp2_with (at_builtin; refine wpList_append_own _ rfl (.tmp 34) (.tmp 39) 222 rfl w.heap.size 3 i0 _ 1 8 Tryz.underlying222 hi hz0 hz1 hz2 rfl (by decide) _ _ _ rfl HO1.out ⟨wr.heap.size, 0, none⟩ 1 1 [.int .i64 x] rfl rfl (news_at _ _ _ _ rfl) (one_int _) (by unfold maxLen; omega) (by omega) HS1.out ?_; intro v' w2 hown' hgrow hiff)
    have HB3 := Lib.hid (app_below HB1.out HS1.out HO1.out hgrow)
    have HO3 : Hid (w2.ownsRow w.heap.size 3 1 v' (out ++ [x]).length (ints (out ++ [x]))) := by unfold Hid; rw [ints_snoc, List.length_append]; exact hown'
    clear hown' hgrow hiff
    go_wp2
    go_roundw
    case rel => exact ⟨j + 1, out ++ [x], true, by omega, by go_num, rfl, by rw [List.length_append]; simp; omega, HI2, HO3, HB3⟩
    case measure => simp [intOf]; omega
   ·have he : (x == n) = false := beq_eq_false_iff_ne.2 h1
    by_cases h2 : dn = true ∨ ¬ n < x
    ·have HI2 := Lib.hid (HPL.out (by rcases h2 with h2 | h2; exact .inl h2; exact .inr (.inl (by omega))))
     have hdn : (dn || decide (x = n)) = dn := by rw [decide_eq_false h1, Bool.or_false]
     rw [hdn] at HI2
     clear HPL HPU HI hdn HCL
     cases dn with
     | true =>
      go_wp2_with (at_builtin; refine wpList_append_own _ rfl (.tmp 34) (.tmp 39) 222 rfl w.heap.size 3 i0 _ 1 8 Tryz.underlying222 hi hz0 hz1 hz2 rfl (by decide) _ _ _ rfl HO1.out ⟨wr.heap.size, 0, none⟩ 1 1 [.int .i64 x] rfl rfl (news_at _ _ _ _ rfl) (one_int _) (by unfold maxLen; omega) (by omega) HS1.out ?_; intro v' w2 hown' hgrow hiff)
      have HB3 := Lib.hid (app_below HB1.out HS1.out HO1.out hgrow)
      have HO3 : Hid (w2.ownsRow w.heap.size 3 1 v' (out ++ [x]).length (ints (out ++ [x]))) := by unfold Hid; rw [ints_snoc, List.length_append]; exact hown'
      clear hown' hgrow hiff
      go_wp2
      go_roundw
      case rel => exact ⟨j + 1, out ++ [x], true, by omega, by go_num, rfl, by rw [List.length_append]; simp at hol ⊢; omega, HI2, HO3, HB3⟩
      case measure => simp [intOf]; omega
     | false =>
      have h3 : ¬ n < x := h2.resolve_left (by decide)
      clear h2
      go_wp2_with (at_builtin; refine wpList_append_own _ rfl (.tmp 34) (.tmp 39) 222 rfl w.heap.size 3 i0 _ 1 8 Tryz.underlying222 hi hz0 hz1 hz2 rfl (by decide) _ _ _ rfl HO1.out ⟨wr.heap.size, 0, none⟩ 1 1 [.int .i64 x] rfl rfl (news_at _ _ _ _ rfl) (one_int _) (by unfold maxLen; omega) (by omega) HS1.out ?_; intro v' w2 hown' hgrow hiff)
      have HB3 := Lib.hid (app_below HB1.out HS1.out HO1.out hgrow)
      have HO3 : Hid (w2.ownsRow w.heap.size 3 1 v' (out ++ [x]).length (ints (out ++ [x]))) := by unfold Hid; rw [ints_snoc, List.length_append]; exact hown'
      clear hown' hgrow hiff
      go_wp2
      go_roundw
      case rel => exact ⟨j + 1, out ++ [x], false, by omega, by go_num, rfl, by rw [List.length_append]; simp at hol ⊢; omega, HI2, HO3, HB3⟩
      case measure => simp [intOf]; omega
    ·have h3 : dn = false := by cases dn; rfl; exact absurd (.inl rfl) h2
     have h4 : n < x := by
      rcases Int.lt_or_le n x with h | h
      ·exact h
      ·exact absurd (.inr (by omega)) h2
     have HI2 := Lib.hid (HPU.out h3 h4)
     subst h3
     clear HPL HPU HI h2
     have HA2 := Lib.hid ((Below.refl wr.heap.size wr).alloc (Nat.le_refl _) (.cells #[.int .i64 n] 3))
     have HO2 := Lib.hid (own_below HO.out HA2.out)
     have HB2 := Lib.hid (HB.out.trans (HA2.out.mono HB.out.size))
     have HS2 := Lib.hid HB2.out.size
     have hol3 : out.length ≤ j := by simpa using hol
     go_wp2_with (first | (at_builtin; (refine wpList_append_own _ rfl (.tmp 30) (.tmp 32) 222 rfl w.heap.size 3 i0 _ 1 8 Tryz.underlying222 hi hz0 hz1 hz2 rfl (by decide) _ _ _ rfl HO2.out ⟨wr.heap.size, 0, none⟩ 1 1 [.int .i64 n] rfl rfl (news_at _ _ _ _ rfl) (one_int _) (by unfold maxLen; omega) (by omega) HS2.out ?_; intro v' w2 hown' hgrow hiff; have HB3 := Lib.hid (app_below HB2.out HS2.out HO2.out hgrow); have HO3 := Lib.hid hown'; clear hown' hgrow hiff; obtain ⟨_, _, hee, _, hc0⟩ := HCL.out _ HB3.out; cases hee; have HA4 := Lib.hid ((Below.refl w2.heap.size w2).alloc (Nat.le_refl _) (.cells #[.int .i64 x] 3)); have HO4 := Lib.hid (own_below HO3.out HA4.out); have HB4 := Lib.hid (HB3.out.trans (HA4.out.mono HB3.out.size)); have HS4 := Lib.hid HB4.out.size)) | (at_builtin; (refine wpList_append_own _ rfl (.tmp 34) (.tmp 39) 222 rfl w.heap.size 3 i0 _ 1 8 Tryz.underlying222 hi hz0 hz1 hz2 rfl (by decide) _ _ _ rfl HO4.out ⟨w2.heap.size, 0, none⟩ 1 1 [.int .i64 x] rfl rfl (news_at _ _ _ _ rfl) (one_int _) (by unfold maxLen; omega) (by omega) HS4.out ?_; intro v5 w5 hown' hgrow hiff)))
     have HB5 := Lib.hid (app_below HB4.out HS4.out HO4.out hgrow)
     have HO5 : Hid (w5.ownsRow w.heap.size 3 1 v5 (out ++ [n] ++ [x]).length (ints (out ++ [n] ++ [x]))) := by unfold Hid; rw [ints_snoc, ints_snoc, List.length_append, List.length_append]; exact hown'
     clear hown' hgrow hiff
     go_wp2
     go_roundw
     case rel => exact ⟨j + 1, out ++ [n] ++ [x], true, by omega, by go_num, rfl, by rw [List.length_append, List.length_append]; simp; omega, HI2, HO5, HB5⟩
     case measure => simp [intOf]; omega
  ·obtain rfl : j = l.length := by omega
   obtain ⟨hr1, hr2⟩ := HI.out.done
   have HR1 := Lib.hid hr1
   have HR2 := Lib.hid hr2
   clear hr1 hr2
   cases dn with
   | true =>
    go_wp2
    go_ret
    first | exact ⟨_, out, rfl, HR1.out, HR2.out, by simpa using hol, HO.out, HB.out⟩ | exact ⟨_, rfl, out, HR1.out, HR2.out, by simpa using hol, HO.out, HB.out⟩
   | false =>
    have hol3 : out.length ≤ l.length := by simpa using hol
    have HA2 := Lib.hid ((Below.refl wr.heap.size wr).alloc (Nat.le_refl _) (.cells #[.int .i64 n] 3))
    have HO2 := Lib.hid (own_below HO.out HA2.out)
    have HB2 := Lib.hid (HB.out.trans (HA2.out.mono HB.out.size))
    have HS2 := Lib.hid HB2.out.size
    go_wp2_with (at_builtin; refine wpList_append_own _ rfl (.tmp 43) (.tmp 45) 222 rfl w.heap.size 3 i0 _ 1 8 Tryz.underlying222 hi hz0 hz1 hz2 rfl (by decide) _ _ _ rfl HO2.out ⟨wr.heap.size, 0, none⟩ 1 1 [.int .i64 n] rfl rfl (news_at _ _ _ _ rfl) (one_int _) (by unfold maxLen; omega) (by omega) HS2.out ?_; intro v' w2 hown' hgrow hiff)
    have HB3 := Lib.hid (app_below HB2.out HS2.out HO2.out hgrow)
    have HO3 : Hid (w2.ownsRow w.heap.size 3 1 v' (out ++ [n]).length (ints (out ++ [n]))) := by unfold Hid; rw [ints_snoc, List.length_append]; exact hown'
    clear hown' hgrow hiff
    go_wp2
    go_ret
    exact ⟨_, out ++ [n], rfl, HR1.out, HR2.out, by rw [List.length_append]; simp; omega, HO3.out, HB3.out⟩
end Go.Proofs.YtmfpjapiijgdgaaGreat
namespace Go.Proofs.YtmfpjapiijgdgaaGreat
open Go.RowKit Go.Proofs
set_option linter.unusedVariables false
set_option maxRecDepth 100000
set_option maxRecDepth 100000
theorem per_take (l : List EnM) (p u : ByteArray) (j : Nat) (h : j < l.length) : perS (l.take (j + 1)) p u = perS (l.take j) p u ++ (if ofE p u l[j] = true then [l[j].sp] else []) := by
 unfold perS
 rw [fil_take _ l j h, List.map_append]
 congr 1
 by_cases h1 : ofE p u l[j] = true
 ·rw [if_pos h1, if_pos h1]; rfl
 ·rw [if_neg h1, if_neg h1]; rfl
theorem per_tlen (l : List EnM) (p u : ByteArray) (j : Nat) : (perS (l.take j) p u).length ≤ j := by
 unfold perS
 rw [List.length_map]
 exact fil_len _ l j
set_option maxHeartbeats 4000000 in
theorem periods_any (a : Option Addr) (c : Nat) (l : List EnM) (p u : ByteArray) (w : World) (hr : EnSl w a l) (hl : l.length ≤ 1000) :
  Calls Tryz.prog 43 #[.slice a l.length c, pr p u] w fun e w' => ∃ v r, e = .returned v ∧ IsSet (HasL (perS l p u)) r ∧ r.length ≤ l.length ∧ w'.ownsRow w.heap.size 90 2 v r.length (sps r) ∧ Below w.heap.size w w' := by
 obtain ⟨i0, hi, hz0, hz1, hz2⟩ := info_parts infoSpan
 have HK0 := Lib.hid (PK.new hr p u 79)
 have HNM := Lib.hid (fun x q W (h : SpSl W x (perS l p u)) h1 h2 => norm_any x q (perS l p u) W h (by have := per_len l p u; omega) h1 h2)
 have HPL := Lib.hid (per_len l p u)
 unfold pr
 clear hr
 go_enter Tryz.func43, Tryz.ntmps43
 go_wp2
 generalize w.alloc (.cells #[.string p, .string u] 79) = W0 at *
 generalize w.heap.size = g at *
 go_loopw [5, 10] (fun v i wr => ∃ (j : Nat), j ≤ l.length ∧ i = .int .i64 j ∧ Hid (wr.ownsRow W0.heap.size 90 2 v (perS (l.take j) p u).length (sps (perS (l.take j) p u))) ∧ Hid (Below W0.heap.size W0 wr)) (fun _ i _ => l.length - (intOf i).toNat)
 case atStart => exact ⟨0, by omega, rfl, ⟨rfl, .inl ⟨rfl, rfl⟩⟩, Below.refl _ _⟩
 case round =>
  obtain ⟨j, hj, rfl, HO, HB⟩ := hrel
  have HKW := Lib.hid (HK0.out.below HB.out)
  by_cases hjl : j < l.length
  ·obtain ⟨b, off, rfl, hbl, hc0, hc1, hc2, hc3⟩ := HKW.out.row.at_ hjl
   have HT := Lib.hid (per_take l p u j hjl)
   have HLN := Lib.hid (per_tlen l p u j)
   generalize l[j] = x at *
   generalize perS (l.take j) p u = m at *
   have HTT : Hid (x.w = p ∧ x.u = u → perS (l.take (j + 1)) p u = m ++ [x.sp]) := fun h => by have := HT.out; rwa [if_pos (ofE_iff.2 h)] at this
   have HTF : Hid (¬ (x.w = p ∧ x.u = u) → perS (l.take (j + 1)) p u = m) := fun h => by have := HT.out; rwa [if_neg (fun k => h (ofE_iff.1 k)), List.append_nil] at this
   have hb0 := ebelow_one wr (.cells #[.string x.w, .string x.u, .int .i64 x.f, .int .i64 x.t] 165)
   obtain ⟨c0, c1, -⟩ := (HKW.out.below hb0).pc
   obtain ⟨d0, d1, d2, d3⟩ := ecells4 (heap_alloc_new wr (.cells #[.string x.w, .string x.u, .int .i64 x.f, .int .i64 x.t] 165))
   have HB0 := Lib.hid hb0
   have HO1 := Lib.hid (own_below HO.out hb0)
   have HB1 := Lib.hid (HB.out.trans (hb0.mono HB.out.size))
   clear hb0 HT
   by_cases h1 : x.w = p
   ·have e1 : (x.w.toList == p.toList) = true := by rw [h1]; exact str_eq p
    by_cases h2 : x.u = u
    ·have e2 : (x.u.toList == u.toList) = true := by rw [h2]; exact str_eq u
     have HC2 := Lib.hid (HTT.out ⟨h1, h2⟩)
     clear HTT HTF h1 h2
     generalize hW1 : wr.alloc (.cells #[.string x.w, .string x.u, .int .i64 x.f, .int .i64 x.t] 165) = W1 at *
     have HO2 := Lib.hid (own_below HO1.out (ebelow_one W1 (.cells #[.int .i64 x.f, .int .i64 x.t] 90)))
     have HB2 : Hid (Below W0.heap.size W0 (W1.alloc (.cells #[.int .i64 x.f, .int .i64 x.t] 90))) := HB1.out.trans ((ebelow_one W1 _).mono HB1.out.size)
     have HS2 := Lib.hid HB2.out.size
     have hlm := HLN.out
     rw [← hW1] at c0 c1 d0 d1 d2 d3 HO2 HB2 HS2
     clear hW1
     go_wp2_with (at_builtin; refine wpList_append_own _ rfl (.tmp 18) (.tmp 21) 76 rfl W0.heap.size 90 i0 _ 2 16 Tryz.underlying76 hi hz0 hz1 hz2 rfl (by decide) _ _ _ rfl HO2.out ⟨wr.heap.size + 1, 0, none⟩ 1 1 [.int .i64 x.f, .int .i64 x.t] rfl rfl (news_at _ _ _ _ (size1 _ _).symm) (two_one _ _) (by unfold maxLen; omega) (by omega) HS2.out ?_; intro v' w3 hown' hgrow hiff)
     have HB3 := Lib.hid (app_below HB2.out HS2.out HO2.out hgrow)
     have HO3 := Lib.hid hown'
     clear hown' hgrow hiff HB2 HS2 HO2
     go_wp2
     go_roundw
     case rel => exact ⟨j + 1, by omega, by go_num, (by unfold Hid; rw [HC2.out, List.length_append, sps_snoc]; exact HO3.out), HB3⟩
     case measure => simp [intOf]; omega
    ·have e2 := str_ne h2
     have HC2 := Lib.hid (HTF.out (fun h => h2 h.2))
     clear HTT HTF h1 h2
     go_wp2
     go_roundw
     case rel => exact ⟨j + 1, by omega, by go_num, (by unfold Hid; rw [HC2.out]; exact HO1.out), HB1⟩
     case measure => simp [intOf]; omega
   ·have e1 := str_ne h1
    have HC2 := Lib.hid (HTF.out (fun h => h1 h.1))
    clear HTT HTF h1
    go_wp2
    go_roundw
    case rel => exact ⟨j + 1, by omega, by go_num, (by unfold Hid; rw [HC2.out]; exact HO1.out), HB1⟩
    case measure => simp [intOf]; omega
  ·obtain rfl : j = l.length := by omega
   rw [List.take_of_length_le (Nat.le_refl _)] at HO
   obtain ⟨x, q, rfl, h1, h2, h3, -⟩ := own_spm HO.out
   have HC := Lib.hid (HNM.out x q _ h3 h1 h2)
   have HF := Lib.hid (HKW.out.frame)
   clear h1 h2 h3 HNM HO
   go_wp2_with fail
   refine HC.out.mono ?_
   rintro e w2 ⟨v, r, rfl, hs, hrl, ho, hB⟩
   go_wp2
   go_ret
   exact ⟨v, r, rfl, hs, Nat.le_trans hrl HPL.out, own_low ho HF.out.size, HF.out.trans (hB.mono HF.out.size)⟩
end Go.Proofs.YtmfpjapiijgdgaaGreat
