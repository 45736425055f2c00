/- Contracts of the laws' own words of layer 4: frames as the document has them; whether two rows are the same; all frames' texts, one behind the other. -/
import Derived.Test.YtkfddmbhokeofaaI5
namespace Go.Proofs.Ytkfddmbhokeofaa
open Go.RowKit
set_option linter.unusedVariables false

theorem FrSl.at {w : World} {a : Option Addr} {l : List Fr} (h : FrSl w a l) {k : Nat} (hk : k < l.length) : ∃ b off, a = some ⟨b, off, none⟩ ∧ b < w.heap.size ∧
    w.cell? ⟨b, off + k * 2, none⟩ = some (.int .u8 (l[k].1.toNat : Int)) ∧ w.cell? ⟨b, off + k * 2 + 1, none⟩ = some (.string (tx l[k].2)) := h k hk
theorem frC_take (l : List Fr) (j : Nat) (h : j < l.length) : frC (l.take (j + 1)) = frC (l.take j) ++ [.int .u8 (l[j].1.toNat : Int), .string (tx l[j].2)] := by
  rw [List.take_add_one, List.getElem?_eq_getElem h]
  exact frC_snoc _ _

set_option maxHeartbeats 2000000 in
theorem olds_any (a : Option Addr) (c : Nat) (l : List Fr) (w : World) (hr : FrSl w a l) (hl : l.length ≤ 1000000) :
    Calls Try.prog 19 #[.slice a l.length c] w fun e w' => ∃ (v : Value), e = .returned v ∧ w'.ownsRow w.heap.size 23 2 v l.length (frC l) ∧ Below w.heap.size w w' := by
  obtain ⟨i0, hi, hz0, hz1, hz2⟩ := info_parts infoFrameR
  have HR := Lib.hid hr
  clear hr
  go_enter Try.func19, Try.ntmps19
  go_wp2
  go_loopw [3, 8] (fun v i wr => ∃ (j : Nat), j ≤ l.length ∧ i = .int .i64 j ∧ Hid (wr.ownsRow w.heap.size 23 2 v j (frC (l.take j))) ∧ Hid (Below w.heap.size w wr)) (fun _ i _ => l.length - (intOf i).toNat)
  case atStart => exact ⟨0, by omega, rfl, ⟨rfl, .inl ⟨rfl, rfl⟩⟩, Below.refl _ _⟩
  case round =>
    obtain ⟨j, hj, rfl, HO, HB⟩ := hrel
    by_cases hjl : j < l.length
    · obtain ⟨b, off, rfl, hbl, hc0, hc1⟩ := (HR.out.below HB.out).at hjl
      have HC := Lib.hid (frC_take l j hjl)
      generalize l[j] = x at *
      obtain ⟨k, d⟩ := x
      have hkb : 0 ≤ (k.toNat : Int) ∧ (k.toNat : Int) ≤ 255 := ⟨by omega, by have := k.toNat_lt; omega⟩
      have HO2 := Lib.hid (own_below HO.out (below_two wr (.cells #[.int .u8 (k.toNat : Int), .string (tx d)] 28) (.cells #[.int .u8 (k.toNat : Int), .string (tx d)] 23)))
      have HB2 : Hid (Below w.heap.size w ((wr.alloc (.cells #[.int .u8 (k.toNat : Int), .string (tx d)] 28)).alloc (.cells #[.int .u8 (k.toNat : Int), .string (tx d)] 23))) := HB.out.trans ((below_two _ _ _).mono HB.out.size)
      have HS2 : Hid (w.heap.size ≤ ((wr.alloc (.cells #[.int .u8 (k.toNat : Int), .string (tx d)] 28)).alloc (.cells #[.int .u8 (k.toNat : Int), .string (tx d)] 23)).heap.size) := HB2.out.size
      go_wp2_with (at_builtin; refine wpList_append_own _ rfl (.tmp 12) (.tmp 14) 39 rfl w.heap.size 23 i0 _ 2 24 Try.underlying39 hi hz0 hz1 hz2 rfl (by decide) _ _ _ rfl HO2.out ⟨wr.heap.size + 1, 0, none⟩ 1 1 [.int .u8 (k.toNat : Int), .string (tx d)] rfl rfl (news_at _ _ _ _ (size1 _ _).symm) (one_cells _ _ rfl rfl) (by unfold maxLen; omega) (by omega) HS2.out ?_; intro v' w2 hown' hgrow hiff)
      have HB3 := Lib.hid (app_below HB2.out HS2.out HO2.out hgrow)
      have HO3 := Lib.hid hown'
      clear hown' hgrow hiff HB2 HS2 HO2
      go_wp2
      go_roundw
      case rel => exact ⟨j + 1, by omega, by go_num, (by unfold Hid; rw [HC.out]; exact HO3.out), HB3⟩
      case measure => simp [intOf]; omega
    · obtain rfl : j = l.length := by omega
      rw [List.take_of_length_le (Nat.le_refl _)] at HO
      go_wp2
      go_ret
      exact ⟨_, rfl, HO.out, HB.out⟩

theorem take_same {l m : List Fr} {j : Nat} (hl : j < l.length) (hm : j < m.length) (h : l.take j = m.take j) (e : l[j] = m[j]) : l.take (j + 1) = m.take (j + 1) := by
  rw [List.take_add_one, List.take_add_one, List.getElem?_eq_getElem hl, List.getElem?_eq_getElem hm, h, e]

set_option maxHeartbeats 2000000 in
theorem same_any (a b : Option Addr) (ca cb : Nat) (l m : List Fr) (w : World) (ha : FrSl w a l) (hb : FrSl w b m) (hla : l.length ≤ maxLen) (hlb : m.length ≤ maxLen) :
    Calls Try.prog 18 #[.slice a l.length ca, .slice b m.length cb] w fun e w' => e = .returned (.bool (decide (l = m))) ∧ Below w.heap.size w w' := by
  have HA := Lib.hid ha
  have HB := Lib.hid hb
  clear ha hb
  unfold maxLen at hla hlb
  by_cases hll : l.length = m.length
  · obtain ⟨n, hn⟩ : ∃ n, n = m.length := ⟨_, rfl⟩
    have HL : Hid (l.length = n) := hll.trans hn.symm
    have HM : Hid (m.length = n) := hn.symm
    rw [HL.out, HM.out]
    rw [HM.out] at hlb
    clear hll hn hla
    go_enter Try.func18, Try.ntmps18
    go_wp2
    go_loopw [5] (fun i wr => ∃ (j : Nat), j ≤ n ∧ i = .int .i64 j ∧ Hid (l.take j = m.take j) ∧ Hid (Drew w wr)) (fun i _ => n - (intOf i).toNat)
    case atStart => exact ⟨0, by omega, rfl, (by unfold Hid; rfl), Drew.refl _⟩
    case round =>
      obtain ⟨j, hj, rfl, HT, HD⟩ := hrel
      by_cases hjn : j < n
      · have hjl : j < l.length := by have := HL.out; omega
        have hjm : j < m.length := by have := HM.out; omega
        obtain ⟨b1, o1, rfl, hb1, hc0, hc1⟩ := (HA.out.below (HD.out.below _)).at hjl
        obtain ⟨b2, o2, rfl, hb2, hd0, hd1⟩ := (HB.out.below (HD.out.below _)).at hjm
        have HN := Lib.hid (take_same hjl hjm HT.out)
        have HNE : Hid (l[j] ≠ m[j] → l ≠ m) := fun h e => h (by subst e; rfl)
        generalize l[j] = x at *
        generalize m[j] = y at *
        clear hjl hjm
        obtain ⟨k1, d1⟩ := x
        obtain ⟨k2, d2⟩ := y
        by_cases hk : k1 = k2
        · subst hk
          by_cases hd : d1 = d2
          · subst hd
            have HN2 := Lib.hid (HN.out rfl)
            have heq : ((tx d1).toList == (tx d1).toList) = true := beq_self_eq_true _
            clear HN HNE
            go_wp2
            go_quiet (fail)
            go_wp2
            go_roundw
            case rel => exact ⟨j + 1, by omega, by go_num, HN2, HD.out.trans ⟨_, rfl⟩⟩
            case measure => simp [intOf]; omega
          · have HF : Hid (decide (l = m) = false) := decide_eq_false (HNE.out (fun e => hd (congrArg Prod.snd e)))
            have heq : ((tx d1).toList == (tx d2).toList) = false := by rw [eqT]; exact decide_eq_false hd
            clear HN HNE hd
            go_wp2
            go_quiet (fail)
            go_wp2
            go_ret
            exact ⟨by rw [HF.out]; rfl, (HD.out.trans ⟨_, rfl⟩).below _⟩
        · have HF : Hid (decide (l = m) = false) := decide_eq_false (HNE.out (fun e => hk (congrArg Prod.fst e)))
          have hkk : ((k1.toNat : Int) == (k2.toNat : Int)) = false := beq_eq_false_iff_ne.2 (fun e => hk (UInt8.toNat_inj.1 (by omega)))
          clear HN HNE hk
          go_wp2
          go_quiet (fail)
          go_wp2
          go_ret
          exact ⟨by rw [HF.out]; rfl, (HD.out.trans ⟨_, rfl⟩).below _⟩
      · obtain rfl : j = n := by omega
        have HE : Hid (decide (l = m) = true) := decide_eq_true (by
          have := HT.out
          rwa [List.take_of_length_le (Nat.le_of_eq HL.out), List.take_of_length_le (Nat.le_of_eq HM.out)] at this)
        go_wp2
        go_ret
        exact ⟨by rw [HE.out]; rfl, HD.out.below _⟩
  · have HE : Hid (decide (l = m) = false) := decide_eq_false (fun e => hll (by rw [e]))
    have hne : ((l.length : Int) == (m.length : Int)) = false := beq_eq_false_iff_ne.2 (by omega)
    go_enter Try.func18, Try.ntmps18
    go_wp2
    go_ret
    exact ⟨by rw [HE.out]; rfl, Below.refl _ _⟩
end Go.Proofs.Ytkfddmbhokeofaa
