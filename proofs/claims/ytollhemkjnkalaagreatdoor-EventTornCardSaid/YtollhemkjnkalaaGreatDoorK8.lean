/- Layer 6: events that are found in their texts; rows of events, as the program has them; whether two rows are the same. -/
import Derived.Test.YtollhemkjnkalaaGreatDoorK4
namespace Go.Proofs.YtollhemkjnkalaaGreatDoor
open Go.RowKit Go.Shelf
set_option linter.unusedVariables false
set_option maxRecDepth 100000

theorem nextL_nil : nextL [] = .err 43 := by
  have hG : G 0 0 6 [] = 43 := rfl
  have hb : bodyE [] = 43 := by unfold bodyE; rw [hG]; rfl
  rw [nextL_head _ (by omega), hb]
theorem mark_next (c : UInt8) (r : List UInt8) (h : c ≠ 254) : nextL (c :: r) = .err 44 := by
  have hk : okAt 0 (0 + ([] : List UInt8).length) c = false := by
    show isMarkB c = false
    unfold isMarkB
    rw [decide_eq_false_iff_not]
    intro e
    exact h (UInt8.toNat_inj.1 e)
  have e := G_bad (l := []) (long := 0) (i := 0) (n := 6) rfl (by decide) c hk r
  have hb : bodyE (c :: r) = 44 := by
    unfold bodyE
    rw [show c :: r = [] ++ c :: r from rfl, e]; rfl
  rw [nextL_head _ (by omega), hb]
def noMark (c : UInt8) : Bool := c != 254
theorem noMark_of (p : UInt8 → Bool) (h : ∀ c, p c = true → c ≠ 254) (l : List UInt8) (hl : l.all p = true) : l.all noMark = true := by
  rw [List.all_eq_true] at hl ⊢
  intro c hc
  unfold noMark
  simpa using h c (hl c hc)
theorem packT_marks {k : UInt8} {b : List UInt8} (h : packE k b = 0) : ((packT k b).drop 1).all noMark = true := by
  obtain ⟨h1, h2, h3⟩ := packE_zero h
  have hd : ∀ c : UInt8, isDigB c = true → c ≠ 254 := by intro c hc e; subst e; revert hc; decide
  have hb : ∀ c : UInt8, inBodyB c = true → c ≠ 254 := by intro c hc e; subst e; revert hc; decide
  have hk : noMark k = true := by
    unfold noMark
    have : k ≠ 254 := by intro e; subst e; revert h1; decide
    simpa using this
  rw [pack_parts, show (254 :: midT k b ++ sumT (midT k b)).drop 1 = midT k b ++ sumT (midT k b) by simp]
  unfold midT
  rw [List.all_append, List.all_cons, List.all_append, hk, noMark_of _ hd _ (hexL_dig _ _), noMark_of _ hb _ h3, noMark_of _ hd _ (sumT_dig _)]
  rfl
theorem findTo_add (s : List UInt8) (n : Nat) : ∀ m, findTo s (n + m) = findTo s n ++ findTo (s.drop n) m
  | 0 => by simp [findTo]
  | m + 1 => by
    rw [← Nat.add_assoc, findTo, findTo_add s n m, findTo, List.drop_drop, List.append_assoc]
theorem findTo_none (s : List UInt8) : ∀ n, n ≤ s.length → (s.take n).all noMark = true → findTo s n = []
  | 0, _, _ => rfl
  | n + 1, hn, h => by
    have hlt : n < s.length := by omega
    rw [List.take_add_one, List.getElem?_eq_getElem hlt, List.all_append, Bool.and_eq_true] at h
    have hm : s[n] ≠ 254 := by simpa [noMark] using h.2
    rw [findTo, findTo_none s n (by omega) h.1, List.drop_eq_getElem_cons hlt, mark_next _ _ hm]; rfl
theorem findTo_one {s : List UInt8} {k : UInt8} {b : List UInt8} (h : nextL s = .ok k b) : findTo s 1 = [(k, b)] := by
  rw [findTo, findTo, List.drop_zero, h]; rfl
theorem findTo_pack {k : UInt8} {b : List UInt8} (h : packE k b = 0) (r : List UInt8) : findTo (packT k b ++ r) (14 + b.length) = [(k, b)] := by
  rw [show 14 + b.length = 1 + (13 + b.length) by omega, findTo_add, findTo_one (nextL_pack h r)]
  have hl : ((packT k b ++ r).drop 1).take (13 + b.length) = (packT k b).drop 1 := by
    rw [List.drop_append_of_le_length (by rw [packT_len]; omega), List.take_left' (by rw [List.length_drop, packT_len]; omega)]
  rw [findTo_none _ _ (by rw [List.length_drop, List.length_append, packT_len]; omega) (by rw [hl]; exact packT_marks h)]
  rfl
/-- the frames of events -/
def frE (l : List EvM) : List Fr := l.map fun e => (letterE e.kind, lineE e)
theorem find_flat : ∀ (l : List EvM), l.all rightE = true → findTo (flatE l) (flatE l).length = frE l
  | [], _ => rfl
  | e :: l, h => by
    rw [List.all_cons, Bool.and_eq_true] at h
    have ih := find_flat l h.2
    have hl : (frP e).length = 14 + (lineE e).length := packT_len _ _
    rw [flatE_cons, List.length_append, hl, findTo_add]
    have h1 : findTo (frP e ++ flatE l) (14 + (lineE e).length) = [(letterE e.kind, lineE e)] := findTo_pack (right_packs h.1) _
    rw [h1, ← hl, List.drop_left, ih]
    rfl
theorem reads_nil : EvReads [] [] 0 := .err nextL_nil
theorem flatE_inj {l m : List EvM} (hl : l.all rightE = true) (hm : m.all rightE = true) (h : flatE l = flatE m) : l = m := by
  have a := reads_flat reads_nil l hl
  have b := reads_flat reads_nil m hm
  rw [List.append_nil] at a b
  rw [h] at a
  exact (a.only b).1
theorem evs_take (l : List EvM) (j : Nat) (h : j < l.length) : evs (l.take (j + 1)) = evs (l.take j) ++ [.int .i64 l[j].kind, .int .i64 l[j].at_, .string l[j].user, .string l[j].other, .int .i64 l[j].n, .int .i64 l[j].status] := by
  rw [List.take_succ_eq_append_getElem h]; exact evs_snoc _ _

set_option maxHeartbeats 2000000 in
theorem news_any (a : Option Addr) (c : Nat) (l : List EvM) (w : World) (hr : EvSl w a l) (hl : l.length ≤ 1000000) :
    Calls Tryz.prog 8 #[.slice a l.length c] w fun e w' => ∃ (v : Value), e = .returned v ∧ w'.ownsRow w.heap.size 40 6 v l.length (evs l) ∧ Below w.heap.size w w' := by
  obtain ⟨i0, hi, hz0, hz1, hz2⟩ := info_parts infoEvent
  have HR := Lib.hid hr
  clear hr
  go_enter Tryz.func8, Tryz.ntmps8
  go_wp2
  go_loopw [3, 8] (fun v i wr => ∃ (j : Nat), j ≤ l.length ∧ i = .int .i64 j ∧ Hid (wr.ownsRow w.heap.size 40 6 v j (evs (l.take j))) ∧ Hid (Below w.heap.size w wr)) (fun _ i _ => l.length - (intOf i).toNat)
  case atStart => exact ⟨0, by omega, rfl, ⟨rfl, .inl ⟨rfl, rfl⟩⟩, Below.refl _ _⟩
  case round =>
    obtain ⟨j, hj, rfl, HO, HB⟩ := hrel
    by_cases hjl : j < l.length
    · obtain ⟨b, off, rfl, hbl, hc0, hc1, hc2, hc3, hc4, hc5⟩ := (HR.out.below HB.out).at_ hjl
      have HC := Lib.hid (evs_take l j hjl)
      generalize l[j] = x at *
      have HO2 := Lib.hid (own_below HO.out (below_two wr (.cells #[.int .i64 x.kind, .int .i64 x.at_, .string x.user, .string x.other, .int .i64 x.n, .int .i64 x.status] 29) (.cells #[.int .i64 x.kind, .int .i64 x.at_, .string x.user, .string x.other, .int .i64 x.n, .int .i64 x.status] 40)))
      have HB2 : Hid (Below w.heap.size w ((wr.alloc (.cells #[.int .i64 x.kind, .int .i64 x.at_, .string x.user, .string x.other, .int .i64 x.n, .int .i64 x.status] 29)).alloc (.cells #[.int .i64 x.kind, .int .i64 x.at_, .string x.user, .string x.other, .int .i64 x.n, .int .i64 x.status] 40))) := HB.out.trans ((below_two _ _ _).mono HB.out.size)
      have HS2 := Lib.hid HB2.out.size
      go_wp2_with (at_builtin; refine wpList_append_own _ rfl (.tmp 12) (.tmp 14) 25 rfl w.heap.size 40 i0 _ 6 64 Tryz.underlying25 hi hz0 hz1 hz2 rfl (by decide) _ _ _ rfl HO2.out ⟨wr.heap.size + 1, 0, none⟩ 1 1 [.int .i64 x.kind, .int .i64 x.at_, .string x.user, .string x.other, .int .i64 x.n, .int .i64 x.status] rfl rfl (news_at _ _ _ _ (size1 _ _).symm) (six_cells x) (by unfold maxLen; omega) (by omega) HS2.out ?_; intro v' w2 hown' hgrow hiff)
      have HB3 := Lib.hid (app_below HB2.out HS2.out HO2.out hgrow)
      have HO3 := Lib.hid hown'
      clear hown' hgrow hiff HB2 HS2 HO2
      go_wp2
      go_roundw
      case rel => exact ⟨j + 1, by omega, by go_num, (by unfold Hid; rw [HC.out]; exact HO3.out), HB3⟩
      case measure => simp [intOf]; omega
    · obtain rfl : j = l.length := by omega
      rw [List.take_of_length_le (Nat.le_refl _)] at HO
      go_wp2
      go_ret
      exact ⟨_, rfl, HO.out, HB.out⟩
instance evDec : DecidableEq EvM := fun a b => decidable_of_iff (a.kind = b.kind ∧ a.at_ = b.at_ ∧ a.user = b.user ∧ a.other = b.other ∧ a.n = b.n ∧ a.status = b.status) (by
  obtain ⟨_, _, _, _, _, _⟩ := a
  obtain ⟨_, _, _, _, _, _⟩ := b
  simp)
theorem take_same {α : Type} {l m : List α} {j : Nat} (hl : j < l.length) (hm : j < m.length) (h : l.take j = m.take j) (e : l[j] = m[j]) : l.take (j + 1) = m.take (j + 1) := by
  rw [List.take_add_one, List.take_add_one, List.getElem?_eq_getElem hl, List.getElem?_eq_getElem hm, h, e]
theorem toList_ne {a b : ByteArray} (h : a ≠ b) : (a.toList == b.toList) = false := by
  rw [toList_data, toList_data]
  exact beq_eq_false_iff_ne.2 (fun e => h (toL_inj e))

set_option maxHeartbeats 4000000 in
theorem esame_any (a b : Option Addr) (ca cb : Nat) (l m : List EvM) (w : World) (ha : EvSl w a l) (hb : EvSl w b m) (hla : l.length ≤ maxLen) (hlb : m.length ≤ maxLen) :
    Calls Tryz.prog 12 #[.slice a l.length ca, .slice b m.length cb] w fun e w' => e = .returned (.bool (decide (l = m))) ∧ Below w.heap.size w w' := by
  have HA := Lib.hid ha
  have HB := Lib.hid hb
  clear ha hb
  unfold maxLen at hla hlb
  by_cases hll : l.length = m.length
  · obtain ⟨n, hn⟩ : ∃ n, n = m.length := ⟨_, rfl⟩
    have HL : Hid (l.length = n) := hll.trans hn.symm
    have HM : Hid (m.length = n) := hn.symm
    rw [HL.out, HM.out]
    rw [HM.out] at hlb
    clear hll hn hla
    go_enter Tryz.func12, Tryz.ntmps12
    go_wp2
    go_loopw [5] (fun i wr => ∃ (j : Nat), j ≤ n ∧ i = .int .i64 j ∧ Hid (l.take j = m.take j) ∧ Hid (Drew w wr)) (fun i _ => n - (intOf i).toNat)
    case atStart => exact ⟨0, by omega, rfl, (by unfold Hid; rfl), Drew.refl _⟩
    case round =>
      obtain ⟨j, hj, rfl, HT, HD⟩ := hrel
      by_cases hjn : j < n
      · have hjl : j < l.length := by have := HL.out; omega
        have hjm : j < m.length := by have := HM.out; omega
        obtain ⟨b1, o1, rfl, hb1, hc0, hc1, hc2, hc3, hc4, hc5⟩ := (HA.out.below (HD.out.below _)).at_ hjl
        obtain ⟨b2, o2, rfl, hb2, hd0, hd1, hd2, hd3, hd4, hd5⟩ := (HB.out.below (HD.out.below _)).at_ hjm
        have HN := Lib.hid (take_same hjl hjm HT.out)
        have HNE : Hid (l[j] ≠ m[j] → l ≠ m) := fun h e => h (by subst e; rfl)
        generalize l[j] = x at *
        generalize m[j] = y at *
        clear hjl hjm
        obtain ⟨k1, a1, u1, v1, n1, s1⟩ := x
        obtain ⟨k2, a2, u2, v2, n2, s2⟩ := y
        dsimp only at *
        by_cases h0 : k1 = k2
        · subst h0
          by_cases h1 : a1 = a2
          · subst h1
            by_cases h2 : u1 = u2
            · subst h2
              by_cases h3 : v1 = v2
              · subst h3
                by_cases h4 : n1 = n2
                · subst h4
                  by_cases h5 : s1 = s2
                  · subst h5
                    have HN2 := Lib.hid (HN.out rfl)
                    have he0 : (k1 == k1) = true := beq_self_eq_true _
                    have he1 : (a1 == a1) = true := beq_self_eq_true _
                    have he2 : (u1.toList == u1.toList) = true := beq_self_eq_true _
                    have he3 : (v1.toList == v1.toList) = true := beq_self_eq_true _
                    have he4 : (n1 == n1) = true := beq_self_eq_true _
                    have he5 : (s1 == s1) = true := beq_self_eq_true _
                    clear HN HNE
                    go_wp2
                    go_quiet (fail)
                    go_wp2
                    go_roundw
                    case rel => exact ⟨j + 1, by omega, by go_num, HN2, HD.out.trans ⟨_, rfl⟩⟩
                    case measure => simp [intOf]; omega
                  · have HF : Hid (decide (l = m) = false) := decide_eq_false (HNE.out (fun e => h5 (congrArg EvM.status e)))
                    have heq5 : (s1 == s2) = false := beq_eq_false_iff_ne.2 h5
                    have he0 : (k1 == k1) = true := beq_self_eq_true _
                    have he1 : (a1 == a1) = true := beq_self_eq_true _
                    have he2 : (u1.toList == u1.toList) = true := beq_self_eq_true _
                    have he3 : (v1.toList == v1.toList) = true := beq_self_eq_true _
                    have he4 : (n1 == n1) = true := beq_self_eq_true _
                    clear HN HNE
                    go_wp2
                    go_quiet (fail)
                    go_wp2
                    go_ret
                    exact ⟨by rw [HF.out]; rfl, (HD.out.trans ⟨_, rfl⟩).below _⟩
                · have HF : Hid (decide (l = m) = false) := decide_eq_false (HNE.out (fun e => h4 (congrArg EvM.n e)))
                  have heq4 : (n1 == n2) = false := beq_eq_false_iff_ne.2 h4
                  have he0 : (k1 == k1) = true := beq_self_eq_true _
                  have he1 : (a1 == a1) = true := beq_self_eq_true _
                  have he2 : (u1.toList == u1.toList) = true := beq_self_eq_true _
                  have he3 : (v1.toList == v1.toList) = true := beq_self_eq_true _
                  clear HN HNE
                  go_wp2
                  go_quiet (fail)
                  go_wp2
                  go_ret
                  exact ⟨by rw [HF.out]; rfl, (HD.out.trans ⟨_, rfl⟩).below _⟩
              · have HF : Hid (decide (l = m) = false) := decide_eq_false (HNE.out (fun e => h3 (congrArg EvM.other e)))
                have heq3 : (v1.toList == v2.toList) = false := toList_ne h3
                have he0 : (k1 == k1) = true := beq_self_eq_true _
                have he1 : (a1 == a1) = true := beq_self_eq_true _
                have he2 : (u1.toList == u1.toList) = true := beq_self_eq_true _
                clear HN HNE
                go_wp2
                go_quiet (fail)
                go_wp2
                go_ret
                exact ⟨by rw [HF.out]; rfl, (HD.out.trans ⟨_, rfl⟩).below _⟩
            · have HF : Hid (decide (l = m) = false) := decide_eq_false (HNE.out (fun e => h2 (congrArg EvM.user e)))
              have heq2 : (u1.toList == u2.toList) = false := toList_ne h2
              have he0 : (k1 == k1) = true := beq_self_eq_true _
              have he1 : (a1 == a1) = true := beq_self_eq_true _
              clear HN HNE
              go_wp2
              go_quiet (fail)
              go_wp2
              go_ret
              exact ⟨by rw [HF.out]; rfl, (HD.out.trans ⟨_, rfl⟩).below _⟩
          · have HF : Hid (decide (l = m) = false) := decide_eq_false (HNE.out (fun e => h1 (congrArg EvM.at_ e)))
            have heq1 : (a1 == a2) = false := beq_eq_false_iff_ne.2 h1
            have he0 : (k1 == k1) = true := beq_self_eq_true _
            clear HN HNE
            go_wp2
            go_quiet (fail)
            go_wp2
            go_ret
            exact ⟨by rw [HF.out]; rfl, (HD.out.trans ⟨_, rfl⟩).below _⟩
        · have HF : Hid (decide (l = m) = false) := decide_eq_false (HNE.out (fun e => h0 (congrArg EvM.kind e)))
          have heq0 : (k1 == k2) = false := beq_eq_false_iff_ne.2 h0
          clear HN HNE
          go_wp2
          go_quiet (fail)
          go_wp2
          go_ret
          exact ⟨by rw [HF.out]; rfl, (HD.out.trans ⟨_, rfl⟩).below _⟩
      · obtain rfl : j = n := by omega
        have HE : Hid (decide (l = m) = true) := decide_eq_true (by
          have := HT.out
          rwa [List.take_of_length_le (Nat.le_of_eq HL.out), List.take_of_length_le (Nat.le_of_eq HM.out)] at this)
        go_wp2
        go_ret
        exact ⟨by rw [HE.out]; rfl, HD.out.below _⟩
  · have HE : Hid (decide (l = m) = false) := decide_eq_false (fun e => hll (by rw [e]))
    have hne : ((l.length : Int) == (m.length : Int)) = false := beq_eq_false_iff_ne.2 (by omega)
    go_enter Tryz.func12, Tryz.ntmps12
    go_wp2
    go_ret
    exact ⟨by rw [HE.out]; rfl, Below.refl _ _⟩
end Go.Proofs.YtollhemkjnkalaaGreatDoor
