/- Texts of mine, one behind the other, of each what is wanted: Z8 Z5 Z11 EA5. -/
import Derived.Shelf.Spec.SlicesGrow
import Derived.Deep.Slices
import Derived.ChangeSlices
import Derived.Test.YtjhdhfokhkcamaaGreatP03
import Derived.Test.YtjhdhfokhkcamaaGreatP10
import Derived.Test.YtjhdhfokhkcamaaGreatP16
import Derived.Test.YtjhdhfokhkcamaaGreatP20
namespace Go.Proofs.YtjhdhfokhkcamaaGreat
open Go.RowKit Go.Sort Go.Proofs
set_option linter.unusedVariables false
set_option maxRecDepth 100000
set_option maxRecDepth 100000
theorem sgrow_any (n : Nat) (w : World) (hn : n ≤ 1000000) : Calls Tryz.prog 188 #[.slice none 0 0, .int .i64 n] w fun e w' => ∃ v, e = .returned v ∧ w'.ownsRow w.heap.size 86 4 v 0 [] ∧ Below w.heap.size w w' := by
  obtain ⟨i0, hi, hz0, hz1, hz2⟩ := info_parts infoStay
  rcases Nat.eq_zero_or_pos n with h0 | h0
  · subst h0
    have h := Any8.slices_Grow_room Tryz.laysGrowSt none 0 0 0 w (by omega) (by omega) (by omega) (by omega)
    refine Calls.mono h ?_
    rintro e w' ⟨rfl, rfl⟩
    exact ⟨_, rfl, ⟨rfl, .inl ⟨rfl, rfl⟩⟩, Below.refl _ _⟩
  · have h := Any8.slices_Grow_grow Tryz.laysGrowSt i0 _ hi hz0 (by rw [hz1]; omega) none 0 0 n [] w (by omega) (by omega) (by rw [hz2]; omega) (by omega) (by simp) (fun _ => rfl) (fun a h => by cases h)
    refine Calls.mono h ?_
    rintro e w' ⟨rfl, rfl⟩
    have hge := grownCap_ge w (0 + n) 0 86
    have hle := grownCap_le_maxLen w (0 + n) 0 86 (by unfold maxLen; omega)
    refine ⟨_, rfl, ⟨rfl, .inr ⟨w.heap.size, _, _, rfl, Nat.le_refl _, heap_alloc_new w.drew _, Nat.zero_le _, hle, ?_, by simp⟩⟩, ?_⟩
    · simp only [Array.size_append, size_zeroCells]
      show 0 + (0 + n - 0) * 4 + (grownCap w (0 + n) 0 86 - (0 + n)) * 4 = grownCap w (0 + n) 0 86 * 4
      omega
    · exact (Below.refl w.heap.size w).drew.alloc (Nat.le_refl _) _
structure StR where
  a : Option Addr
  l : List StM
  c : Nat
def strV (r : StR) : Value := .slice r.a r.l.length r.c
def catS (R : List StR) : List StM := R.flatMap (·.l)
theorem catS_take (R : List StR) (j : Nat) (h : j < R.length) : catS (R.take (j + 1)) = catS (R.take j) ++ R[j].l := by
  unfold catS
  rw [List.take_succ_eq_append_getElem h, List.flatMap_append]
  simp
theorem catS_le (R : List StR) (j : Nat) : (catS (R.take j)).length ≤ (catS R).length := by
  have : catS R = catS (R.take j) ++ catS (R.drop j) := by
    unfold catS
    rw [← List.flatMap_append, List.take_append_drop]
  rw [this, List.length_append]
  omega
def StRAt (w : World) (r : StR) : Prop := StSl w r.a r.l ∧ (r.a = none → r.c = 0)
theorem srows_at {w : World} {a : Option Addr} {R : List StR} (h : Sl w a (R.map strV)) {k : Nat} (hk : k < R.length) : ∃ b off, a = some ⟨b, off, none⟩ ∧ b < w.heap.size ∧ w.cell? ⟨b, off + k, none⟩ = some (strV R[k]) := by
  obtain ⟨b, off, e, hlt, hc⟩ := h k (by simpa using hk)
  exact ⟨b, off, e, hlt, by rw [hc]; simp⟩
set_option maxHeartbeats 1000000 in
theorem sconcat_any (a : Option Addr) (c : Nat) (R : List StR) (w : World) (hr : Sl w a (R.map strV)) (hR : ∀ r ∈ R, StRAt w r) (hl : R.length ≤ 100000) (hs : (catS R).length ≤ 100000) :
    Calls Tryz.prog 151 #[.slice a R.length c] w fun e w' => ∃ v, e = .returned v ∧ w'.ownsRow w.heap.size 86 4 v (catS R).length (sts (catS R)) ∧ Below w.heap.size w w' := by
  obtain ⟨i0, hi, hz0, hz1, hz2⟩ := info_parts infoStay
  have HR := Lib.hid hr
  have HRR := Lib.hid hR
  have HG := Lib.hid (sgrow_any (catS R).length w (by omega))
  clear hr hR
  go_enter Tryz.func151, Tryz.ntmps151
  go_wp2
  go_loopw [3, 11] (fun v i wr => ∃ (j s : Nat), j ≤ R.length ∧ i = .int .i64 j ∧ v = .int .i64 s ∧ s ≤ 100000 ∧ Hid (s = (catS (R.take j)).length) ∧ wr = w) (fun _ i _ => R.length - (intOf i).toNat)
  case atStart => exact ⟨0, 0, by omega, rfl, rfl, by omega, rfl, rfl⟩
  case round =>
    obtain ⟨j, s, hj, rfl, rfl, hs1, HS, hw⟩ := hrel
    obtain rfl : w = wr := hw.symm
    clear hw
    by_cases hjl : j < R.length
    · obtain ⟨b, off, rfl, hbl, hc0⟩ := srows_at HR.out hjl
      have HN := Lib.hid (catS_take R j hjl)
      have hle := catS_le R (j + 1)
      rw [HN.out, List.length_append, ← HS.out] at hle
      generalize R[j] = x at *
      unfold strV at hc0
      obtain ⟨xa, xl, xc⟩ := x
      simp only at hc0 hle HN
      have hsum : s + xl.length ≤ 100000 := by omega
      clear hle
      go_wp2
      go_roundw
      case rel => exact ⟨j + 1, s + xl.length, by omega, by go_num, by go_num, hsum, (by unfold Hid; rw [HN.out, List.length_append, ← HS.out]), (by first | rfl | trivial)⟩
      case measure => simp [intOf]; omega
    · obtain rfl : j = R.length := by omega
      rw [List.take_of_length_le (Nat.le_refl _)] at HS
      have HS2 := HS.out
      subst HS2
      go_wp2_with fail
      refine HG.out.mono ?_
      rintro e w1 ⟨v, rfl, ho, hb⟩
      have HO := Lib.hid ho
      have HB := Lib.hid hb
      clear ho hb HG HS
      go_wp2
      go_loopw [6, 27] (fun v i wx => ∃ (j : Nat), j ≤ R.length ∧ i = .int .i64 j ∧ Hid (wx.ownsRow w.heap.size 86 4 v (catS (R.take j)).length (sts (catS (R.take j)))) ∧ Hid (Below w.heap.size w wx)) (fun _ i _ => R.length - (intOf i).toNat)
      case atStart => exact ⟨0, by omega, rfl, HO.out, HB.out⟩
      case round =>
        obtain ⟨j, hj, rfl, HO, HB⟩ := hrel
        by_cases hjl : j < R.length
        · obtain ⟨b, off, rfl, hbl, hc0⟩ := srows_at (HR.out.below HB.out) hjl
          have HN := Lib.hid (catS_take R j hjl)
          have hle := catS_le R (j + 1)
          have hle2 := catS_le R j
          rw [HN.out, List.length_append] at hle
          have HX := Lib.hid (HRR.out _ (List.getElem_mem hjl))
          generalize R[j] = x at *
          unfold strV at hc0
          obtain ⟨xa, xl, xc⟩ := x
          simp only at hc0 hle HN
          obtain ⟨hx1, hx2⟩ := HX.out
          simp only at hx1 hx2
          have HX1 := Lib.hid (hx1.below HB.out)
          have HX2 := Lib.hid hx2
          generalize hct : catS (R.take j) = ct at *
          have hsum : ct.length + xl.length ≤ 1000000 := by omega
          clear hle hle2 hx1 hx2 HX hct
          go_wp2_with (at_builtin; refine wpList_append_st _ rfl (.tmp 31) (.tmp 32) 60 rfl w.heap.size 86 i0 _ Tryz.underlying60 hi hz0 hz1 hz2 rfl _ ct rfl HO.out xa xc xl rfl HX1.out HX2.out hsum HB.out.size ?_; intro v2 w2 hown2 hB2)
          have HO2 := Lib.hid hown2
          have HB2 := Lib.hid (HB.out.trans hB2)
          clear hown2 hB2
          go_wp2
          go_roundw
          case rel => exact ⟨j + 1, by omega, by go_num, (by unfold Hid; rw [HN.out]; exact HO2.out), HB2⟩
          case measure => simp [intOf]; omega
        · obtain rfl : j = R.length := by omega
          rw [List.take_of_length_le (Nat.le_refl _)] at HO
          go_wp2
          go_ret
          exact ⟨_, rfl, HO.out, HB.out⟩
theorem own_empty8 (w : World) (e : TypeId) (k B : Nat) (hB : B ≤ w.heap.size) : (w.alloc (.cells #[] e)).ownsRow B e k (.slice (some ⟨w.heap.size, 0, none⟩) 0 0) 0 [] :=
  ⟨by simp, .inr ⟨w.heap.size, 0, #[], rfl, hB, heap_alloc_new w _, Nat.le_refl _, by unfold maxLen; omega, by simp, by simp⟩⟩
set_option maxHeartbeats 1000000 in
theorem clone8_any (a : Option Addr) (c : Nat) (l : List StM) (w : World) (hr : StSl w a l) (hn : a = none → c = 0) (hl : l.length ≤ 100000) :
    Calls Tryz.prog 88 #[.slice a l.length c] w fun e w' => ∃ v, e = .returned v ∧ w'.ownsRow w.heap.size 86 4 v l.length (sts l) ∧ Below w.heap.size w w' := by
  obtain ⟨i0, hi, hz0, hz1, hz2⟩ := info_parts infoStay
  have HN := Lib.hid hn
  have q22 : ∀ (W : World) (a : Option Addr) (n c n' c' : Nat), (binOp .eql 60 (.slice a n c) (.slice none n' c')).run Tryz.prog W = .ok (.bool a.isNone) W := fun W a n c n' c' => Lib.run_eql_slice_nil W _ _ a n c n' c' Tryz.underlying60
  clear hn
  cases a with
  | none =>
    have hc := HN.out rfl
    subst hc
    have : l = [] := by
      cases l with
      | nil => rfl
      | cons y m => obtain ⟨_, _, e, _⟩ := hr 0 (by simp); cases e
    subst this
    clear hr
    go_enter Tryz.func88, Tryz.ntmps88
    go_wp2
    go_ret
    exact ⟨_, rfl, ⟨rfl, .inl ⟨rfl, rfl⟩⟩, Below.refl _ _⟩
  | some ad =>
    have HO := Lib.hid (own_empty8 w 86 4 w.heap.size (Nat.le_refl _))
    have HB := Lib.hid (below_one w (.cells #[] 86))
    have HX1 := Lib.hid (hr.below HB.out)
    clear hr
    go_enter Tryz.func88, Tryz.ntmps88
    go_wp2_with (at_builtin; refine wpList_append_st _ rfl (.tmp 5) (.tmp 6) 60 rfl w.heap.size 86 i0 _ Tryz.underlying60 hi hz0 hz1 hz2 rfl _ [] rfl HO.out (some ad) c l rfl HX1.out HN.out (by simpa using (show l.length ≤ 1000000 by omega)) HB.out.size ?_; intro v2 w2 hown2 hB2)
    have HO2 := Lib.hid hown2
    have HB2 := Lib.hid (HB.out.trans hB2)
    clear hown2 hB2
    go_wp2
    go_ret
    exact ⟨_, rfl, HO2.out, HB2.out⟩
end Go.Proofs.YtjhdhfokhkcamaaGreat
namespace Go.Proofs.YtjhdhfokhkcamaaGreat
open Go.RowKit
set_option linter.unusedVariables false
set_option maxRecDepth 100000
set_option maxRecDepth 100000
set_option maxHeartbeats 4000000 in
theorem sequal_any (a b : Option Addr) (ca cb : Nat) (l m : List StM) (w : World) (ha : StSl w a l) (hb : StSl w b m) (hla : l.length ≤ maxLen) (hlb : m.length ≤ maxLen) :
    Calls Tryz.prog 144 #[.slice a l.length ca, .slice b m.length cb] w fun e w' => e = .returned (.bool (decide (l = m))) ∧ Below w.heap.size w w' := by
  have HA := Lib.hid ha
  have HB := Lib.hid hb
  clear ha hb
  unfold maxLen at hla hlb
  by_cases hll : l.length = m.length
  · obtain ⟨n, hn⟩ : ∃ n, n = m.length := ⟨_, rfl⟩
    have HL : Hid (l.length = n) := hll.trans hn.symm
    have HM : Hid (m.length = n) := hn.symm
    rw [HL.out, HM.out]
    rw [HM.out] at hlb
    clear hll hn hla
    go_enter Tryz.func144, Tryz.ntmps144
    go_wp2
    go_loopw [13] (fun i wr => ∃ (j : Nat), j ≤ n ∧ i = .int .i64 j ∧ Hid (l.take j = m.take j) ∧ Hid (Drew w wr)) (fun i _ => n - (intOf i).toNat)
    case atStart => exact ⟨0, by omega, rfl, (by unfold Hid; rfl), Drew.refl _⟩
    case round =>
      obtain ⟨j, hj, rfl, HT, HD⟩ := hrel
      by_cases hjn : j < n
      · have hjl : j < l.length := by have := HL.out; omega
        have hjm : j < m.length := by have := HM.out; omega
        obtain ⟨b1, o1, rfl, hb1, hc0, hc1, hc2, hc3⟩ := (HA.out.below (HD.out.below _)).at_ hjl
        obtain ⟨b2, o2, rfl, hb2, hd0, hd1, hd2, hd3⟩ := (HB.out.below (HD.out.below _)).at_ hjm
        have HN := Lib.hid (take_same hjl hjm HT.out)
        have HNE : Hid (l[j] ≠ m[j] → l ≠ m) := fun h e => h (by subst e; rfl)
        generalize l[j] = x at *
        generalize m[j] = y at *
        clear hjl hjm
        obtain ⟨f1, t1, n1, s1⟩ := x
        obtain ⟨f2, t2, n2, s2⟩ := y
        dsimp only at *
        by_cases h0 : f1 = f2
        · subst h0
          have he0 : (f1 == f1) = true := beq_self_eq_true _
          by_cases h1 : t1 = t2
          · subst h1
            have he1 : (t1 == t1) = true := beq_self_eq_true _
            by_cases h2 : n1 = n2
            · subst h2
              have he2 : (n1 == n1) = true := beq_self_eq_true _
              by_cases h3 : s1 = s2
              · subst h3
                have he3 : (s1 == s1) = true := beq_self_eq_true _
                have HN2 := Lib.hid (HN.out rfl)
                clear HN HNE
                go_wp2
                go_quiet (fail)
                go_wp2
                go_roundw
                case rel => exact ⟨j + 1, by omega, by go_num, HN2, HD.out.trans ⟨_, rfl⟩⟩
                case measure => simp [intOf]; omega
              · have HF : Hid (decide (l = m) = false) := decide_eq_false (HNE.out (fun e => h3 (congrArg StM.s e)))
                have heq : (s1 == s2) = false := beq_eq_false_iff_ne.2 h3
                clear HN HNE
                go_wp2
                go_quiet (fail)
                go_wp2
                go_ret
                exact ⟨by rw [HF.out]; rfl, (HD.out.trans ⟨_, rfl⟩).below _⟩
            · have HF : Hid (decide (l = m) = false) := decide_eq_false (HNE.out (fun e => h2 (congrArg StM.n e)))
              have heq : (n1 == n2) = false := beq_eq_false_iff_ne.2 h2
              clear HN HNE
              go_wp2
              go_quiet (fail)
              go_wp2
              go_ret
              exact ⟨by rw [HF.out]; rfl, (HD.out.trans ⟨_, rfl⟩).below _⟩
          · have HF : Hid (decide (l = m) = false) := decide_eq_false (HNE.out (fun e => h1 (congrArg StM.t e)))
            have heq : (t1 == t2) = false := beq_eq_false_iff_ne.2 h1
            clear HN HNE
            go_wp2
            go_quiet (fail)
            go_wp2
            go_ret
            exact ⟨by rw [HF.out]; rfl, (HD.out.trans ⟨_, rfl⟩).below _⟩
        · have HF : Hid (decide (l = m) = false) := decide_eq_false (HNE.out (fun e => h0 (congrArg StM.f e)))
          have heq : (f1 == f2) = false := beq_eq_false_iff_ne.2 h0
          clear HN HNE
          go_wp2
          go_quiet (fail)
          go_wp2
          go_ret
          exact ⟨by rw [HF.out]; rfl, (HD.out.trans ⟨_, rfl⟩).below _⟩
      · obtain rfl : j = n := by omega
        have HE : Hid (decide (l = m) = true) := decide_eq_true (by
          have := HT.out
          rwa [List.take_of_length_le (Nat.le_of_eq HL.out), List.take_of_length_le (Nat.le_of_eq HM.out)] at this)
        go_wp2
        go_ret
        exact ⟨by rw [HE.out]; rfl, HD.out.below _⟩
  · have HE : Hid (decide (l = m) = false) := decide_eq_false (fun e => hll (by rw [e]))
    have hne : ((l.length : Int) == (m.length : Int)) = false := beq_eq_false_iff_ne.2 (by omega)
    go_enter Tryz.func144, Tryz.ntmps144
    go_wp2
    go_ret
    exact ⟨by rw [HE.out]; rfl, Below.refl _ _⟩
set_option maxHeartbeats 4000000 in
theorem srefSame_any (a b : Option Addr) (ca cb : Nat) (l m : List StM) (w : World) (ha : StSl w a l) (hb : StSl w b m) (hla : l.length ≤ maxLen) (hlb : m.length ≤ maxLen) :
    Calls Tryz.prog 27 #[.slice a l.length ca, .slice b m.length cb] w fun e w' => e = .returned (.bool (decide (l = m))) ∧ Below w.heap.size w w' := by
  have HA := Lib.hid ha
  have HB := Lib.hid hb
  clear ha hb
  unfold maxLen at hla hlb
  by_cases hll : l.length = m.length
  · obtain ⟨n, hn⟩ : ∃ n, n = m.length := ⟨_, rfl⟩
    have HL : Hid (l.length = n) := hll.trans hn.symm
    have HM : Hid (m.length = n) := hn.symm
    rw [HL.out, HM.out]
    rw [HM.out] at hlb
    clear hll hn hla
    go_enter Tryz.func27, Tryz.ntmps27
    go_wp2
    go_loopw [5] (fun i wr => ∃ (j : Nat), j ≤ n ∧ i = .int .i64 j ∧ Hid (l.take j = m.take j) ∧ Hid (Drew w wr)) (fun i _ => n - (intOf i).toNat)
    case atStart => exact ⟨0, by omega, rfl, (by unfold Hid; rfl), Drew.refl _⟩
    case round =>
      obtain ⟨j, hj, rfl, HT, HD⟩ := hrel
      by_cases hjn : j < n
      · have hjl : j < l.length := by have := HL.out; omega
        have hjm : j < m.length := by have := HM.out; omega
        obtain ⟨b1, o1, rfl, hb1, hc0, hc1, hc2, hc3⟩ := (HA.out.below (HD.out.below _)).at_ hjl
        obtain ⟨b2, o2, rfl, hb2, hd0, hd1, hd2, hd3⟩ := (HB.out.below (HD.out.below _)).at_ hjm
        have HN := Lib.hid (take_same hjl hjm HT.out)
        have HNE : Hid (l[j] ≠ m[j] → l ≠ m) := fun h e => h (by subst e; rfl)
        generalize l[j] = x at *
        generalize m[j] = y at *
        clear hjl hjm
        obtain ⟨f1, t1, n1, s1⟩ := x
        obtain ⟨f2, t2, n2, s2⟩ := y
        dsimp only at *
        by_cases h0 : f1 = f2
        · subst h0
          have he0 : (f1 == f1) = true := beq_self_eq_true _
          by_cases h1 : t1 = t2
          · subst h1
            have he1 : (t1 == t1) = true := beq_self_eq_true _
            by_cases h2 : n1 = n2
            · subst h2
              have he2 : (n1 == n1) = true := beq_self_eq_true _
              by_cases h3 : s1 = s2
              · subst h3
                have he3 : (s1 == s1) = true := beq_self_eq_true _
                have HN2 := Lib.hid (HN.out rfl)
                clear HN HNE
                go_wp2
                go_quiet (fail)
                go_wp2
                go_roundw
                case rel => exact ⟨j + 1, by omega, by go_num, HN2, HD.out.trans ⟨_, rfl⟩⟩
                case measure => simp [intOf]; omega
              · have HF : Hid (decide (l = m) = false) := decide_eq_false (HNE.out (fun e => h3 (congrArg StM.s e)))
                have heq : (s1 == s2) = false := beq_eq_false_iff_ne.2 h3
                clear HN HNE
                go_wp2
                go_quiet (fail)
                go_wp2
                go_ret
                exact ⟨by rw [HF.out]; rfl, (HD.out.trans ⟨_, rfl⟩).below _⟩
            · have HF : Hid (decide (l = m) = false) := decide_eq_false (HNE.out (fun e => h2 (congrArg StM.n e)))
              have heq : (n1 == n2) = false := beq_eq_false_iff_ne.2 h2
              clear HN HNE
              go_wp2
              go_quiet (fail)
              go_wp2
              go_ret
              exact ⟨by rw [HF.out]; rfl, (HD.out.trans ⟨_, rfl⟩).below _⟩
          · have HF : Hid (decide (l = m) = false) := decide_eq_false (HNE.out (fun e => h1 (congrArg StM.t e)))
            have heq : (t1 == t2) = false := beq_eq_false_iff_ne.2 h1
            clear HN HNE
            go_wp2
            go_quiet (fail)
            go_wp2
            go_ret
            exact ⟨by rw [HF.out]; rfl, (HD.out.trans ⟨_, rfl⟩).below _⟩
        · have HF : Hid (decide (l = m) = false) := decide_eq_false (HNE.out (fun e => h0 (congrArg StM.f e)))
          have heq : (f1 == f2) = false := beq_eq_false_iff_ne.2 h0
          clear HN HNE
          go_wp2
          go_quiet (fail)
          go_wp2
          go_ret
          exact ⟨by rw [HF.out]; rfl, (HD.out.trans ⟨_, rfl⟩).below _⟩
      · obtain rfl : j = n := by omega
        have HE : Hid (decide (l = m) = true) := decide_eq_true (by
          have := HT.out
          rwa [List.take_of_length_le (Nat.le_of_eq HL.out), List.take_of_length_le (Nat.le_of_eq HM.out)] at this)
        go_wp2
        go_ret
        exact ⟨by rw [HE.out]; rfl, HD.out.below _⟩
  · have HE : Hid (decide (l = m) = false) := decide_eq_false (fun e => hll (by rw [e]))
    have hne : ((l.length : Int) == (m.length : Int)) = false := beq_eq_false_iff_ne.2 (by omega)
    go_enter Tryz.func27, Tryz.ntmps27
    go_wp2
    go_ret
    exact ⟨by rw [HE.out]; rfl, Below.refl _ _⟩
theorem ssame_any (a b : Option Addr) (ca cb : Nat) (l m : List StM) (w : World) (ha : StSl w a l) (hb : StSl w b m) (hla : l.length ≤ maxLen) (hlb : m.length ≤ maxLen) :
    Calls Tryz.prog 84 #[.slice a l.length ca, .slice b m.length cb] w fun e w' => e = .returned (.bool (decide (l = m))) ∧ Below w.heap.size w w' := by
  have HC := Lib.hid (sequal_any a b ca cb l m w ha hb hla hlb)
  unfold maxLen at hla hlb
  clear ha hb
  go_enter Tryz.func84, Tryz.ntmps84
  go_wp2_with fail
  refine HC.out.mono ?_
  rintro e w2 ⟨rfl, h2⟩
  go_wp2
  go_ret
  exact ⟨rfl, h2⟩
end Go.Proofs.YtjhdhfokhkcamaaGreat
namespace Go.Proofs.YtjhdhfokhkcamaaGreat
open Go.RowKit
set_option linter.unusedVariables false
set_option maxRecDepth 100000
set_option maxRecDepth 100000
theorem aft_take (l : List StM) (t : Int) (j : Nat) (h : j < l.length) : aftS (l.take (j + 1)) t = aftS (l.take j) t ++ (if t < l[j].t then [l[j]] else []) := by
  unfold aftS
  rw [List.take_succ_eq_append_getElem h, List.filter_append, List.filter_cons, List.filter_nil]
  by_cases h1 : t < l[j].t <;> simp [h1]
theorem aft_len (l : List StM) (t : Int) (j : Nat) : (aftS (l.take j) t).length ≤ j := by
  unfold aftS
  exact Nat.le_trans (List.length_filter_le _ _) (by simp; omega)
set_option maxHeartbeats 2000000 in
theorem after_any (a : Option Addr) (c : Nat) (l : List StM) (t : Int) (w : World) (hr : StSl w a l) (hl : l.length ≤ 1000000) :
    Calls Tryz.prog 76 #[.slice a l.length c, .int .i64 t] w fun e w' => ∃ (v : Value), e = .returned v ∧ w'.ownsRow w.heap.size 86 4 v (aftS l t).length (sts (aftS l t)) ∧ Below w.heap.size w w' := by
  obtain ⟨i0, hi, hz0, hz1, hz2⟩ := info_parts infoStay
  have HR := Lib.hid hr
  clear hr
  go_enter Tryz.func76, Tryz.ntmps76
  go_wp2
  go_loopw [5, 10] (fun v i wr => ∃ (j : Nat), j ≤ l.length ∧ i = .int .i64 j ∧ Hid (wr.ownsRow w.heap.size 86 4 v (aftS (l.take j) t).length (sts (aftS (l.take j) t))) ∧ Hid (Below w.heap.size w wr)) (fun _ i _ => l.length - (intOf i).toNat)
  case atStart => exact ⟨0, by omega, rfl, ⟨rfl, .inl ⟨rfl, rfl⟩⟩, Below.refl _ _⟩
  case round =>
    obtain ⟨j, hj, rfl, HO, HB⟩ := hrel
    by_cases hjl : j < l.length
    · obtain ⟨b, off, rfl, hbl, hc0, hc1, hc2, hc3⟩ := (HR.out.below HB.out).at_ hjl
      have HC := Lib.hid (aft_take l t j hjl)
      have HLN : Hid ((aftS (l.take j) t).length ≤ j) := aft_len l t j
      generalize l[j] = x at *
      generalize aftS (l.take j) t = m at *
      by_cases h : t < x.t
      · have hd := decide_eq_true h
        have HC2 : Hid (aftS (l.take (j + 1)) t = m ++ [x]) := by have := HC.out; rwa [if_pos h] at this
        have HO2 := Lib.hid (own_below HO.out (below_two wr (.cells #[.int .i64 x.f, .int .i64 x.t, .int .i64 x.n, .int .i64 x.s] 86) (.cells #[.int .i64 x.f, .int .i64 x.t, .int .i64 x.n, .int .i64 x.s] 86)))
        have HB2 : Hid (Below w.heap.size w ((wr.alloc (.cells #[.int .i64 x.f, .int .i64 x.t, .int .i64 x.n, .int .i64 x.s] 86)).alloc (.cells #[.int .i64 x.f, .int .i64 x.t, .int .i64 x.n, .int .i64 x.s] 86))) := HB.out.trans ((below_two wr (.cells #[.int .i64 x.f, .int .i64 x.t, .int .i64 x.n, .int .i64 x.s] 86) (.cells #[.int .i64 x.f, .int .i64 x.t, .int .i64 x.n, .int .i64 x.s] 86)).mono HB.out.size)
        have HS2 := Lib.hid HB2.out.size
        have hlm := HLN.out
        go_wp2_with (at_builtin; refine wpList_append_own _ rfl (.tmp 19) (.tmp 21) 60 rfl w.heap.size 86 i0 _ 4 32 Tryz.underlying60 hi hz0 hz1 hz2 rfl (by decide) _ _ _ rfl HO2.out ⟨wr.heap.size + 1, 0, none⟩ 1 1 [.int .i64 x.f, .int .i64 x.t, .int .i64 x.n, .int .i64 x.s] rfl rfl (news_at _ _ _ _ (size1 _ _).symm) (four_one _ _ _ _) (by unfold maxLen; omega) (by omega) HS2.out ?_; intro v' w3 hown' hgrow hiff)
        have HB3 := Lib.hid (app_below HB2.out HS2.out HO2.out hgrow)
        have HO3 := Lib.hid hown'
        clear hown' hgrow hiff HB2 HS2 HO2
        go_wp2
        go_roundw
        case rel => exact ⟨j + 1, by omega, by go_num, (by unfold Hid; rw [HC2.out, List.length_append, sts_snoc]; exact HO3.out), HB3⟩
        case measure => simp [intOf]; omega
      · have hd := decide_eq_false h
        have HC2 : Hid (aftS (l.take (j + 1)) t = m) := by have := HC.out; rwa [if_neg h, List.append_nil] at this
        go_wp2
        go_roundw
        case rel => exact ⟨j + 1, by omega, by go_num, (by unfold Hid; rw [HC2.out]; exact (own_below HO.out (below_one wr (.cells #[.int .i64 x.f, .int .i64 x.t, .int .i64 x.n, .int .i64 x.s] 86)))), (HB.out.trans ((below_one wr (.cells #[.int .i64 x.f, .int .i64 x.t, .int .i64 x.n, .int .i64 x.s] 86)).mono HB.out.size))⟩
        case measure => simp [intOf]; omega
    · obtain rfl : j = l.length := by omega
      rw [List.take_of_length_le (Nat.le_refl _)] at HO
      go_wp2
      go_ret
      exact ⟨_, rfl, HO.out, HB.out⟩
end Go.Proofs.YtjhdhfokhkcamaaGreat
namespace Go.Proofs.YtjhdhfokhkcamaaGreat
open Go.ChangeShapes Go.WideShapes Go.ChangeAt Go.RowKit
set_option linter.unusedVariables false
set_option maxRecDepth 100000
theorem array6 {α : Type} {cs : Array α} (h : cs.size = 6) : ∃ c0 c1 c2 c3 c4 c5, cs = #[c0, c1, c2, c3, c4, c5] := by
  obtain ⟨l⟩ := cs
  match l, h with
  | [c0, c1, c2, c3, c4, c5], _ => exact ⟨c0, c1, c2, c3, c4, c5, rfl⟩
section
variable {H : Type} {enc : TypeId × Value → H} {P : Program} {w : World} {base : Nat} {spare : Nat → Bool} {held : Bool}
theorem trod_six {e : TypeId} {f0 f1 f2 f3 f4 f5 : Field} {fuel : Nat} {v0 v1 v2 v3 v4 v5 : Value} {x : DataW H × List MemPlace} (he : P.underlying e = some (.struct #[f0, f1, f2, f3, f4, f5]))
    (o0 : f0.offset = 0) (o1 : f1.offset = 1) (o2 : f2.offset = 2) (o3 : f3.offset = 3) (o4 : f4.offset = 4) (o5 : f5.offset = 5) (c0 : P.cellsOf f0.type = 1) (c1 : P.cellsOf f1.type = 1) (c2 : P.cellsOf f2.type = 1) (c3 : P.cellsOf f3.type = 1) (c4 : P.cellsOf f4.type = 1) (c5 : P.cellsOf f5.type = 1)
    (h : DataW.trod enc P w base spare held fuel e [v0, v1, v2, v3, v4, v5] = some x) :
    ∃ (y0 y1 y2 y3 y4 y5 : DataW H × List MemPlace) (n : Nat), x.1 = .agg [y0.1, y1.1, y2.1, y3.1, y4.1, y5.1] ∧ DataW.trod enc P w base spare held n f0.type [v0] = some y0 ∧ DataW.trod enc P w base spare held n f1.type [v1] = some y1 ∧ DataW.trod enc P w base spare held n f2.type [v2] = some y2 ∧ DataW.trod enc P w base spare held n f3.type [v3] = some y3 ∧ DataW.trod enc P w base spare held n f4.type [v4] = some y4 ∧ DataW.trod enc P w base spare held n f5.type [v5] = some y5 := by
  obtain ⟨xs, k, _, rfl, _, hxl, hf⟩ := DataW.trod_struct he h
  match xs, hxl with
  | [y0, y1, y2, y3, y4, y5], _ =>
    have g0 := hf 0 f0 rfl
    have g1 := hf 1 f1 rfl
    have g2 := hf 2 f2 rfl
    have g3 := hf 3 f3 rfl
    have g4 := hf 4 f4 rfl
    have g5 := hf 5 f5 rfl
    simp [o0, c0, o1, c1, o2, c2, o3, c3, o4, c4, o5, c5] at g0 g1 g2 g3 g4 g5
    exact ⟨y0, y1, y2, y3, y4, y5, k, rfl, g0, g1, g2, g3, g4, g5⟩
end
theorem evFields : ∃ f0 f1 f2 f3 f4 f5 : Field, Tryz.prog.underlying 29 = some (.struct #[f0, f1, f2, f3, f4, f5]) ∧ f0.offset = 0 ∧ f1.offset = 1 ∧ f2.offset = 2 ∧ f3.offset = 3 ∧ f4.offset = 4 ∧ f5.offset = 5 ∧ f0.type = 3 ∧ f1.type = 3 ∧ f2.type = 9 ∧ f3.type = 9 ∧ f4.type = 3 ∧ f5.type = 3 := ⟨_, _, _, _, _, _, Tryz.underlying29, rfl, rfl, rfl, rfl, rfl, rfl, rfl, rfl, rfl, rfl, rfl, rfl⟩
theorem six_event {H : Type} {enc : TypeId × Value → H} {W : World} {base : Nat} {spare : Nat → Bool} {held : Bool} {fuel : Nat} {v0 v1 v2 v3 v4 v5 : Value} {x : DataW H × List MemPlace}
    (h : DataW.trod enc Tryz.prog W base spare held fuel 29 [v0, v1, v2, v3, v4, v5] = some x) :
    ∃ e : EvM, [v0, v1, v2, v3, v4, v5] = evc e ∧ EFits e := by
  obtain ⟨f0, f1, f2, f3, f4, f5, he, o0, o1, o2, o3, o4, o5, t0, t1, t2, t3, t4, t5⟩ := evFields
  have ci : Tryz.prog.cellsOf 3 = 1 := by kernel_rfl
  have cs : Tryz.prog.cellsOf 9 = 1 := by kernel_rfl
  obtain ⟨y0, y1, y2, y3, y4, y5, n, hx, g0, g1, g2, g3, g4, g5⟩ := trod_six he o0 o1 o2 o3 o4 o5 (by rw [t0]; exact ci) (by rw [t1]; exact ci) (by rw [t2]; exact cs) (by rw [t3]; exact cs) (by rw [t4]; exact ci) (by rw [t5]; exact ci) h
  rw [t0] at g0
  rw [t1] at g1
  rw [t2] at g2
  rw [t3] at g3
  rw [t4] at g4
  rw [t5] at g5
  obtain ⟨z0, e0, _, w0⟩ := DataW.trod_int Tryz.underlying3 g0
  obtain ⟨z1, e1, _, w1⟩ := DataW.trod_int Tryz.underlying3 g1
  obtain ⟨z2, e2, _, w2⟩ := DataW.trod_string Tryz.underlying9 g2
  obtain ⟨z3, e3, _, w3⟩ := DataW.trod_string Tryz.underlying9 g3
  obtain ⟨z4, e4, _, w4⟩ := DataW.trod_int Tryz.underlying3 g4
  obtain ⟨z5, e5, _, w5⟩ := DataW.trod_int Tryz.underlying3 g5
  simp at e0 e1 e2 e3 e4 e5
  subst e0 e1 e2 e3 e4 e5
  exact ⟨⟨z0, z1, z2, z3, z4, z5⟩, rfl, ⟨w2, w3⟩⟩
theorem open_event {H : Type} {enc : TypeId × Value → H} {W : World} {base : Nat} {v : Value} {d : DataW H} {p : List MemPlace}
    (hok : Value.okWide Tryz.prog W .any base 29 v) (h : DataW.Trod enc Tryz.prog W 0 (fun _ => true) true 29 v d p) :
    ∃ e : EvM, v = evV e ∧ EFits e := by
  obtain ⟨f0, f1, f2, f3, f4, f5, he, _⟩ := evFields
  obtain ⟨cs, rfl, hsz⟩ := okWide_struct he hok
  obtain ⟨c0, c1, c2, c3, c4, c5, rfl⟩ := array6 (hsz.trans (by kernel_rfl))
  obtain ⟨fuel, hf⟩ := h
  obtain ⟨e, hc, h1⟩ := six_event (x := (d, p)) (by simpa [Value.cells] using hf)
  refine ⟨e, ?_, h1⟩
  unfold evc at hc
  simp only [List.cons.injEq] at hc
  obtain ⟨rfl, rfl, rfl, rfl, rfl, rfl, _⟩ := hc
  rfl
end Go.Proofs.YtjhdhfokhkcamaaGreat
