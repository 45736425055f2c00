/- Texts of mine, one behind the other, of each what is wanted. -/
import Derived.Test.YtjhdhfokhkcamaaGreatS00
import Derived.Test.YtjhdhfokhkcamaaGreatShelf
import Derived.Test.YtjhdhfokhkcamaaGreatRows
import Derived.Test.YtjhdhfokhkcamaaGreatS01
import Derived.Test.YtjhdhfokhkcamaaGreatS02
import Derived.Test.YtjhdhfokhkcamaaGreatS03
import Derived.Test.YtjhdhfokhkcamaaGreatS04
import Derived.Test.YtjhdhfokhkcamaaGreatS06
import Derived.Test.YtjhdhfokhkcamaaGreatS07
import Derived.Test.YtjhdhfokhkcamaaGreatS08
import Derived.Test.YtjhdhfokhkcamaaGreatS09
import Derived.Test.YtjhdhfokhkcamaaGreatS11
import Derived.Test.YtjhdhfokhkcamaaGreatS13
import Derived.Test.YtjhdhfokhkcamaaGreatS14
import Derived.Test.YtjhdhfokhkcamaaGreatS15
import Derived.Test.YtjhdhfokhkcamaaGreatS17
import Derived.Test.YtjhdhfokhkcamaaGreatTQ
namespace Go.Proofs.YtjhdhfokhkcamaaGreat
open Go.Lib
section order
end order
def ins (s : List UInt8) : List (List UInt8) → List (List UInt8)
 | [] => [s]
 | x :: r => if compareBytes s x = 0 then x :: r else if compareBytes s x < 0 then s :: x :: r else x :: ins s r
end Go.Proofs.YtjhdhfokhkcamaaGreat
namespace Go.Proofs.YtjhdhfokhkcamaaGreat
open Go.RowKit Go.Sort Go.Proofs
set_option linter.unusedVariables false
set_option maxRecDepth 100000
set_option maxRecDepth 100000
theorem ofil_take (q : OpM → Bool) (l : List OpM) (j : Nat) (h : j < l.length) : (l.take (j + 1)).filter q = (l.take j).filter q ++ (if q l[j] = true then [l[j]] else []) := by
 rw [List.take_succ_eq_append_getElem h, List.filter_append, List.filter_cons, List.filter_nil]
theorem ofil_len (q : OpM → Bool) (l : List OpM) (j : Nat) : ((l.take j).filter q).length ≤ j := Nat.le_trans (List.length_filter_le _ _) (by simp; omega)
def SzO (l : List OpM) : Prop := ∀ e ∈ l, e.u.size ≤ maxLen
set_option maxHeartbeats 2000000 in
theorem owithout_any (a : Option Addr) (c : Nat) (l : List OpM) (u : ByteArray) (w : World) (hr : OpSl w a l) (hl : l.length ≤ 100000) :
  Calls Tryz.prog 169 #[.slice a l.length c, .string u] w fun e w' => ∃ v, e = .returned v ∧ w'.ownsRow w.heap.size 112 4 v (l.filter (notU u)).length (oes (l.filter (notU u))) ∧ Below w.heap.size w w' := by
 obtain ⟨i0, hi, hz0, hz1, hz2⟩ := info_parts infoOp
 have HR := Lib.hid hr
 clear hr
 go_enter Tryz.func169, Tryz.ntmps169
 go_wp2
 go_loopw [5, 10] (fun v i wr => ∃ (j : Nat), j ≤ l.length ∧ i = .int .i64 j ∧ Hid (wr.ownsRow w.heap.size 112 4 v ((l.take j).filter (notU u)).length (oes ((l.take j).filter (notU u)))) ∧ Hid (Below w.heap.size w wr)) (fun _ i _ => l.length - (intOf i).toNat)
 case atStart => exact ⟨0, by omega, rfl, ⟨rfl, .inl ⟨rfl, rfl⟩⟩, Below.refl _ _⟩
 case round =>
  obtain ⟨j, hj, rfl, HO, HB⟩ := hrel
  by_cases hjl : j < l.length
  ·obtain ⟨b, off, rfl, hbl, hc0, hc1, hc2, hc3⟩ := (HR.out.below HB.out).at_ hjl
   have HT := Lib.hid (ofil_take (notU u) l j hjl)
   have HLN := Lib.hid (ofil_len (notU u) l j)
   generalize l[j] = x at *
   generalize (l.take j).filter (notU u) = m at *
   have HX := heap_alloc_new wr (.cells #[.int .i64 x.n, .string x.u, .int .i64 x.s, .int .i64 x.f] 112)
   obtain ⟨d0, d1, d2, d3⟩ := cells4 HX
   have hb1 := below_one wr (.cells #[.int .i64 x.n, .string x.u, .int .i64 x.s, .int .i64 x.f] 112)
   by_cases hu : x.u = u
   ·have HC2 : Hid ((l.take (j + 1)).filter (notU u) = m) := by
     have := HT.out
     rwa [if_neg (by unfold notU; rw [decide_eq_false (fun h => h hu)]; exact Bool.false_ne_true), List.append_nil] at this
    have q1 : (x.u.toList != u.toList) = false := by rw [hu]; exact txt_ns u
    have q2 : (x.u.toList == u.toList) = true := by rw [hu]; exact txt_eq u
    have HO2 := Lib.hid (own_below HO.out hb1)
    have HB2 := Lib.hid (HB.out.trans (hb1.mono HB.out.size))
    clear HT HLN hu hb1
    go_wp2
    go_roundw
    case rel => exact ⟨j + 1, by omega, by go_num, (by unfold Hid; rw [HC2.out]; exact HO2.out), HB2.out⟩
    case measure => simp [intOf]; omega
   ·have HC2 : Hid ((l.take (j + 1)).filter (notU u) = m ++ [x]) := by
     have := HT.out
     rwa [if_pos (show notU u x = true from decide_eq_true hu)] at this
    have q1 := txt_nt hu
    have q2 := txt_ne hu
    have hb2 : Below wr.heap.size wr ((wr.alloc (.cells #[.int .i64 x.n, .string x.u, .int .i64 x.s, .int .i64 x.f] 112)).alloc (.cells #[.int .i64 x.n, .string x.u, .int .i64 x.s, .int .i64 x.f] 112)) := hb1.trans ((below_one (wr.alloc (.cells #[.int .i64 x.n, .string x.u, .int .i64 x.s, .int .i64 x.f] 112)) (.cells #[.int .i64 x.n, .string x.u, .int .i64 x.s, .int .i64 x.f] 112)).mono hb1.size)
    have HO2 := Lib.hid (own_below HO.out hb2)
    have HB2 := Lib.hid (HB.out.trans (hb2.mono HB.out.size))
    have HS2 := Lib.hid HB2.out.size
    have hlm := HLN.out
    clear HT hu hb1 hb2
    go_wp2_with (at_builtin; refine wpList_append_own _ rfl (.tmp 18) (.tmp 20) 33 rfl w.heap.size 112 i0 _ 4 40 Tryz.underlying33 hi hz0 hz1 hz2 rfl (by decide) _ _ _ rfl HO2.out ⟨wr.heap.size + 1, 0, none⟩ 1 1 [.int .i64 x.n, .string x.u, .int .i64 x.s, .int .i64 x.f] rfl rfl (news_at _ _ _ _ (size1 _ _).symm) (four_o _ _ _ _) (by unfold maxLen; omega) (by omega) HS2.out ?_; intro v' w3 hown' hgrow hiff)
    have HB3 := Lib.hid (app_below HB2.out HS2.out HO2.out hgrow)
    have HO3 := Lib.hid hown'
    clear hown' hgrow hiff HB2 HS2 HO2
    go_wp2
    go_roundw
    case rel => exact ⟨j + 1, by omega, by go_num, (by unfold Hid; rw [HC2.out, List.length_append, oes_snoc]; exact HO3.out), HB3⟩
    case measure => simp [intOf]; omega
  ·obtain rfl : j = l.length := by omega
   rw [List.take_of_length_le (Nat.le_refl _)] at HO
   go_wp2
   go_ret
   exact ⟨_, rfl, HO.out, HB.out⟩
theorem okO_iff (e : OpM) : decide (OkO e) = (((nameO e.u && (decide (1 ≤ e.n) && decide (e.n ≤ 999))) && (decide (1 ≤ e.s) && decide (e.s ≤ 4))) && (decide (0 ≤ e.f) && decide (e.f ≤ 1099511627775))) := by
 rw [Bool.eq_iff_iff, decide_eq_true_iff]
 simp only [Bool.and_eq_true, decide_eq_true_eq]
 unfold OkO
 constructor
 ·rintro ⟨h1, h2, h3, h4, h5, h6, h7⟩
  exact ⟨⟨⟨h1, h2, h3⟩, h4, h5⟩, h6, h7⟩
 ·rintro ⟨⟨⟨h1, h2, h3⟩, h4, h5⟩, h6, h7⟩
  exact ⟨h1, h2, h3, h4, h5, h6, h7⟩
set_option maxHeartbeats 4000000 in
theorem oright_any (e : OpM) (w : World) (hs : e.u.size ≤ maxLen) : Calls Tryz.prog 125 #[opV e] w fun r w' => r = .returned (.bool (decide (OkO e))) ∧ Below w.heap.size w w' := by
 rw [okO_iff]
 have HR : Hid (∀ W, Calls Tryz.prog 127 #[.string e.u] W fun r w' => r = .returned (.bool (nameO e.u)) ∧ W = w') := fun W => right_any e.u W hs
 have HW := Lib.hid within_any
 have HB := Lib.hid (below_one w (.cells #[.int .i64 e.n, .string e.u, .int .i64 e.s, .int .i64 e.f] 112))
 obtain ⟨d0, d1, d2, d3⟩ := cells4 (heap_alloc_new w (.cells #[.int .i64 e.n, .string e.u, .int .i64 e.s, .int .i64 e.f] 112))
 unfold opV
 clear hs
 generalize nameO e.u = b0 at *
 have HW1 : Hid (∀ W, Calls Tryz.prog 177 #[.int .i64 e.n, .int .i64 1, .int .i64 999] W fun r w' => r = .returned (.bool (decide (1 ≤ e.n) && decide (e.n ≤ 999))) ∧ w' = W) := fun W => HW.out _ _ _ W
 have HW2 : Hid (∀ W, Calls Tryz.prog 177 #[.int .i64 e.s, .int .i64 1, .int .i64 4] W fun r w' => r = .returned (.bool (decide (1 ≤ e.s) && decide (e.s ≤ 4))) ∧ w' = W) := fun W => HW.out _ _ _ W
 have HW3 : Hid (∀ W, Calls Tryz.prog 177 #[.int .i64 e.f, .int .i64 0, .int .i64 1099511627775] W fun r w' => r = .returned (.bool (decide (0 ≤ e.f) && decide (e.f ≤ 1099511627775))) ∧ w' = W) := fun W => HW.out _ _ _ W
 clear HW
 generalize (decide (1 ≤ e.n) && decide (e.n ≤ 999)) = b1 at *
 generalize (decide (1 ≤ e.s) && decide (e.s ≤ 4)) = b2 at *
 generalize (decide (0 ≤ e.f) && decide (e.f ≤ 1099511627775)) = b3 at *
 cases b0 with
 | false =>
  go_enter Tryz.func125, Tryz.ntmps125
  go_wp2_with fail
  refine (HR.out _).mono ?_
  rintro r w1 ⟨rfl, rfl⟩
  go_wp2
  go_ret
  exact ⟨by simp, HB.out⟩
 | true =>
  cases b1 with
  | false =>
   go_enter Tryz.func125, Tryz.ntmps125
   go_wp2_with fail
   refine (HR.out _).mono ?_
   rintro r w1 ⟨rfl, rfl⟩
   go_wp2_with fail
   refine (HW1.out _).mono ?_
   rintro r w1 ⟨rfl, rfl⟩
   go_wp2
   go_ret
   exact ⟨by simp, HB.out⟩
  | true =>
   cases b2 with
   | false =>
    go_enter Tryz.func125, Tryz.ntmps125
    go_wp2_with fail
    refine (HR.out _).mono ?_
    rintro r w1 ⟨rfl, rfl⟩
    go_wp2_with fail
    refine (HW1.out _).mono ?_
    rintro r w1 ⟨rfl, rfl⟩
    go_wp2_with fail
    refine (HW2.out _).mono ?_
    rintro r w1 ⟨rfl, rfl⟩
    go_wp2
    go_ret
    exact ⟨by simp, HB.out⟩
   | true =>
    go_enter Tryz.func125, Tryz.ntmps125
    go_wp2_with fail
    refine (HR.out _).mono ?_
    rintro r w1 ⟨rfl, rfl⟩
    go_wp2_with fail
    refine (HW1.out _).mono ?_
    rintro r w1 ⟨rfl, rfl⟩
    go_wp2_with fail
    refine (HW2.out _).mono ?_
    rintro r w1 ⟨rfl, rfl⟩
    go_wp2_with fail
    refine (HW3.out _).mono ?_
    rintro r w1 ⟨rfl, rfl⟩
    go_wp2
    go_ret
    exact ⟨by simp, HB.out⟩
def RiTo (l : List OpM) (j : Nat) : Prop := ∀ k (h : k < l.length), k < j → OkO l[k] ∧ (0 < k → (l[k - 1]'(by omega)).n < l[k].n)
theorem RiTo.zero (l : List OpM) : RiTo l 0 := fun k _ h => absurd h (by omega)
theorem RiTo.next {l : List OpM} {j : Nat} (h : RiTo l j) (hj : j < l.length) (h1 : OkO l[j]) (h2 : 0 < j → (l[j - 1]'(by omega)).n < l[j].n) : RiTo l (j + 1) := fun k hk hkj => by
 rcases Nat.lt_or_ge k j with h3 | h3
 ·exact h k hk h3
 ·obtain rfl : k = j := by omega
  exact ⟨h1, h2⟩
theorem rise_yes {l : List OpM} (h0 : l.length ≤ 16) (h : RiTo l l.length) : decide (RiseO l) = true := decide_eq_true ⟨h0, fun k hk => h k hk hk⟩
theorem rise_no1 {l : List OpM} {j : Nat} (hj : j < l.length) (h : ¬ OkO l[j]) : decide (RiseO l) = false := decide_eq_false fun hr => h (hr.2 j hj).1
theorem rise_no2 {l : List OpM} {j : Nat} (hj : j < l.length) (h0 : 0 < j) (h : ¬ (l[j - 1]'(by omega)).n < l[j].n) : decide (RiseO l) = false := decide_eq_false fun hr => h ((hr.2 j hj).2 h0)
theorem rise_no3 {l : List OpM} (h : 16 < l.length) : decide (RiseO l) = false := decide_eq_false fun hr => by have := hr.1; omega
set_option maxHeartbeats 8000000 in
theorem orising_any (a : Option Addr) (c : Nat) (l : List OpM) (w : World) (hr : OpSl w a l) (hsz : SzO l) (hl : l.length ≤ 1000000) :
  Calls Tryz.prog 59 #[.slice a l.length c] w fun e w' => e = .returned (.bool (decide (RiseO l))) ∧ Below w.heap.size w w' := by
 have HR := Lib.hid hr
 have HRT := Lib.hid (fun x (h : x ∈ l) W => oright_any x W (hsz x h))
 unfold opV at HRT
 clear hr hsz
 by_cases h16 : 16 < l.length
 ·have d1 : decide ((16 : Int) < (l.length : Int)) = true := decide_eq_true (by omega)
  have d2 : decide ((l.length : Int) > (16 : Int)) = true := decide_eq_true (by omega)
  have HF := Lib.hid (rise_no3 h16)
  clear HRT HR
  go_enter Tryz.func59, Tryz.ntmps59
  go_wp2
  go_ret
  exact ⟨by rw [HF.out]; rfl, Below.refl _ _⟩
 ·have d1 : decide ((16 : Int) < (l.length : Int)) = false := decide_eq_false (by omega)
  have d2 : decide ((l.length : Int) > (16 : Int)) = false := decide_eq_false (by omega)
  have HY := Lib.hid (fun h => rise_yes (l := l) (by omega) h)
  go_enter Tryz.func59, Tryz.ntmps59
  go_wp2
  clear d1 d2
  go_loopw [10] (fun i wr => ∃ (j : Nat), j ≤ l.length ∧ i = .int .i64 j ∧ Hid (RiTo l j) ∧ Hid (Below w.heap.size w wr)) (fun i _ => l.length - (intOf i).toNat)
  case atStart => exact ⟨0, by omega, rfl, RiTo.zero _, Below.refl _ _⟩
  case round =>
   obtain ⟨j, hj, rfl, HO, HB⟩ := hrel
   by_cases hjl : j < l.length
   ·obtain ⟨b, off, rfl, hbl, hc0, hc1, hc2, hc3⟩ := (HR.out.below HB.out).at_ hjl
    have HK := Lib.hid (RsO.new (x := l[j]) (HR.out.below HB.out) HB.out 112)
    have HNX := Lib.hid (HO.out.next hjl)
    have HRX := Lib.hid (HRT.out l[j] (List.getElem_mem hjl))
    clear HRT HY
    by_cases h1 : OkO l[j]
    ·rw [decide_eq_true h1] at HRX
     have HNX2 := Lib.hid (HNX.out h1)
     by_cases h0 : 0 < j
     ·obtain ⟨k, hk⟩ : ∃ k, j = k + 1 := ⟨j - 1, by omega⟩
      have hkl : k < l.length := by omega
      have hpw : IntKind.i64.wrap ((j : Int) - 1) = (k : Int) := by rw [IntWalk.i64_in] <;> omega
      have hgt : decide ((0 : Int) < (j : Int)) = true := decide_eq_true (by omega)
      have HP0 : Hid (∀ W, RsO w wr.heap.size l[j] (some ⟨b, off, none⟩) l W → W.cell? ⟨wr.heap.size, 0, none⟩ = some (.int .i64 l[j].n) ∧ W.cell? ⟨wr.heap.size, 1, none⟩ = some (.string l[j].u) ∧ W.cell? ⟨wr.heap.size, 2, none⟩ = some (.int .i64 l[j].s) ∧ W.cell? ⟨wr.heap.size, 3, none⟩ = some (.int .i64 l[j].f) ∧ W.cell? ⟨b, off + k * 4, none⟩ = some (.int .i64 l[k].n)) := fun W h => by
       obtain ⟨p0, p1, p2, p3, p4, -⟩ := h.at_ hkl
       exact ⟨p0, p1, p2, p3, p4⟩
      have hkp : ∀ h, l[j - 1]'h = l[k] := fun h => by congr 1; omega
      have HNX3 : Hid (l[k].n < l[j].n → RiTo l (j + 1)) := fun h => HNX2.out (fun _ => by rw [hkp]; exact h)
      have HNP3 : Hid (¬ l[k].n < l[j].n → decide (RiseO l) = false) := fun h => rise_no2 hjl h0 (by rw [hkp]; exact h)
      clear HNX HNX2 hkp hk h1
      generalize l[k] = y at *
      generalize l[j] = x at *
      by_cases h3 : y.n < x.n
      ·have HN := Lib.hid (HNX3.out h3)
       have d3 : decide (x.n ≤ y.n) = false := decide_eq_false (by omega)
       clear HNX3 HNP3 h3
       go_wp2_with fail
       generalize wr.alloc (.cells #[.int .i64 x.n, .string x.u, .int .i64 x.s, .int .i64 x.f] 112) = W at *
       generalize wr.heap.size = g at *
       refine wp_region_held_drew (S := (fun W => W.cell? ⟨g, 0, none⟩ = some (.int .i64 x.n) ∧ W.cell? ⟨g, 1, none⟩ = some (.string x.u) ∧ W.cell? ⟨g, 2, none⟩ = some (.int .i64 x.s) ∧ W.cell? ⟨g, 3, none⟩ = some (.int .i64 x.f) ∧ W.cell? ⟨b, off + k * 4, none⟩ = some (.int .i64 y.n))) (by kernel_rfl) ?_ (fun hHeld => ?_)
       ·exact HP0.out _ (HK.out.below (Below.refl _ _).drew)
       refine tV 0 15 ?_
       refine wpAnyH_ready (rs := [1]) (by kernel_rfl) (by simp) ?_
       refine AllReadyH.cons (o := ⟨some 16, _, _, _, _, _⟩) rfl (fun K hK => ?_) AllReadyH.nil
       go_simp
       refine (HRX.out _).mono ?_
       rintro e w3 ⟨rfl, h3⟩
       have K3 := (HK.out.below (Below.refl _ _).drew).below h3
       go_wp2_with fail
       refine hK.out _ _ ?_ (fun hH1 => ?_)
       ·exact HP0.out _ K3
       clear hK K
       (try simp only [Act.put, List.setIfInBounds_toArray, List.set_cons_zero, List.set_cons_succ])
       refine tV 2 17 ?_
       refine tV 3 18 ?_
       refine tV 4 19 ?_
       refine tV 5 20 ?_
       refine tV 6 21 ?_
       refine tV 7 22 ?_
       refine tV 8 23 ?_
       refine tV 9 24 ?_
       refine tV 10 25 ?_
       refine tV 11 26 ?_
       refine tV 12 27 ?_
       refine tV 13 28 ?_
       refine tV 14 29 ?_
       refine tV 15 30 ?_
       refine tV 16 31 ?_
       refine tV 17 32 ?_
       refine wpAnyH_done (by kernel_rfl) ?_ _
       all_goals
        go_wp2
        go_roundw
        case rel => exact ⟨j + 1, by omega, by go_num, HN, K3.frame⟩
        case measure => simp [intOf]; omega
      ·have HF := Lib.hid (HNP3.out h3)
       have d3 : decide (x.n ≤ y.n) = true := decide_eq_true (by omega)
       clear HNX3 HNP3 h3
       go_wp2_with fail
       generalize wr.alloc (.cells #[.int .i64 x.n, .string x.u, .int .i64 x.s, .int .i64 x.f] 112) = W at *
       generalize wr.heap.size = g at *
       refine wp_region_held_drew (S := (fun W => W.cell? ⟨g, 0, none⟩ = some (.int .i64 x.n) ∧ W.cell? ⟨g, 1, none⟩ = some (.string x.u) ∧ W.cell? ⟨g, 2, none⟩ = some (.int .i64 x.s) ∧ W.cell? ⟨g, 3, none⟩ = some (.int .i64 x.f) ∧ W.cell? ⟨b, off + k * 4, none⟩ = some (.int .i64 y.n))) (by kernel_rfl) ?_ (fun hHeld => ?_)
       ·exact HP0.out _ (HK.out.below (Below.refl _ _).drew)
       refine tV 0 15 ?_
       refine wpAnyH_ready (rs := [1]) (by kernel_rfl) (by simp) ?_
       refine AllReadyH.cons (o := ⟨some 16, _, _, _, _, _⟩) rfl (fun K hK => ?_) AllReadyH.nil
       go_simp
       refine (HRX.out _).mono ?_
       rintro e w3 ⟨rfl, h3⟩
       have K3 := (HK.out.below (Below.refl _ _).drew).below h3
       go_wp2_with fail
       refine hK.out _ _ ?_ (fun hH1 => ?_)
       ·exact HP0.out _ K3
       clear hK K
       (try simp only [Act.put, List.setIfInBounds_toArray, List.set_cons_zero, List.set_cons_succ])
       refine tV 2 17 ?_
       refine tV 3 18 ?_
       refine tV 4 19 ?_
       refine tV 5 20 ?_
       refine tV 6 21 ?_
       refine tV 7 22 ?_
       refine tV 8 23 ?_
       refine tV 9 24 ?_
       refine tV 10 25 ?_
       refine tV 11 26 ?_
       refine tV 12 27 ?_
       refine tV 13 28 ?_
       refine tV 14 29 ?_
       refine tV 15 30 ?_
       refine tV 16 31 ?_
       refine tV 17 32 ?_
       refine wpAnyH_done (by kernel_rfl) ?_ _
       all_goals
        go_wp2
        go_ret
        exact ⟨by rw [HF.out]; rfl, K3.frame⟩
     ·have HN := Lib.hid (HNX2.out (fun h => absurd h h0))
      have hgt : decide ((0 : Int) < (j : Int)) = false := decide_eq_false (by omega)
      clear HNX HNX2 h1
      generalize l[j] = x at *
      go_wp2_with fail
      generalize wr.alloc (.cells #[.int .i64 x.n, .string x.u, .int .i64 x.s, .int .i64 x.f] 112) = W at *
      generalize wr.heap.size = g at *
      refine wp_region_held_drew (S := (fun W => W.cell? ⟨g, 0, none⟩ = some (.int .i64 x.n) ∧ W.cell? ⟨g, 1, none⟩ = some (.string x.u) ∧ W.cell? ⟨g, 2, none⟩ = some (.int .i64 x.s) ∧ W.cell? ⟨g, 3, none⟩ = some (.int .i64 x.f))) (by kernel_rfl) ?_ (fun hHeld => ?_)
      ·exact (HK.out.below (Below.refl _ _).drew).box
      refine tV 0 15 ?_
      refine wpAnyH_ready (rs := [1]) (by kernel_rfl) (by simp) ?_
      refine AllReadyH.cons (o := ⟨some 16, _, _, _, _, _⟩) rfl (fun K hK => ?_) AllReadyH.nil
      go_simp
      refine (HRX.out _).mono ?_
      rintro e w3 ⟨rfl, h3⟩
      have K3 := (HK.out.below (Below.refl _ _).drew).below h3
      go_wp2_with fail
      refine hK.out _ _ ?_ (fun hH1 => ?_)
      ·exact K3.box
      clear hK K
      (try simp only [Act.put, List.setIfInBounds_toArray, List.set_cons_zero, List.set_cons_succ])
      refine tV 2 17 ?_
      refine tV 3 18 ?_
      refine tV 4 19 ?_
      refine tV 5 20 ?_
      refine tV 6 21 ?_
      refine tU 7 22 ?_
      refine tU 8 23 ?_
      refine tU 9 24 ?_
      refine tU 10 25 ?_
      refine tU 11 26 ?_
      refine tU 12 27 ?_
      refine tU 13 28 ?_
      refine tU 14 29 ?_
      refine tU 15 30 ?_
      refine tV 16 31 ?_
      refine tV 17 32 ?_
      refine wpAnyH_done (by kernel_rfl) ?_ _
      all_goals
       go_wp2
       go_roundw
       case rel => exact ⟨j + 1, by omega, by go_num, HN, K3.frame⟩
       case measure => simp [intOf]; omega
    ·have HF := Lib.hid (rise_no1 hjl h1)
     rw [decide_eq_false h1] at HRX
     clear HNX h1
     generalize l[j] = x at *
     go_wp2_with fail
     generalize wr.alloc (.cells #[.int .i64 x.n, .string x.u, .int .i64 x.s, .int .i64 x.f] 112) = W at *
     generalize wr.heap.size = g at *
     refine wp_region_held_drew (S := (fun W => W.cell? ⟨g, 0, none⟩ = some (.int .i64 x.n) ∧ W.cell? ⟨g, 1, none⟩ = some (.string x.u) ∧ W.cell? ⟨g, 2, none⟩ = some (.int .i64 x.s) ∧ W.cell? ⟨g, 3, none⟩ = some (.int .i64 x.f))) (by kernel_rfl) ?_ (fun hHeld => ?_)
     ·exact (HK.out.below (Below.refl _ _).drew).box
     refine tV 0 15 ?_
     refine wpAnyH_ready (rs := [1]) (by kernel_rfl) (by simp) ?_
     refine AllReadyH.cons (o := ⟨some 16, _, _, _, _, _⟩) rfl (fun K hK => ?_) AllReadyH.nil
     go_simp
     refine (HRX.out _).mono ?_
     rintro e w3 ⟨rfl, h3⟩
     have K3 := (HK.out.below (Below.refl _ _).drew).below h3
     go_wp2_with fail
     refine hK.out _ _ ?_ (fun hH1 => ?_)
     ·exact K3.box
     clear hK K
     (try simp only [Act.put, List.setIfInBounds_toArray, List.set_cons_zero, List.set_cons_succ])
     refine tV 2 17 ?_
     refine tV 3 18 ?_
     refine tU 4 19 ?_
     refine tU 5 20 ?_
     refine tU 6 21 ?_
     refine tU 7 22 ?_
     refine tU 8 23 ?_
     refine tU 9 24 ?_
     refine tU 10 25 ?_
     refine tU 11 26 ?_
     refine tU 12 27 ?_
     refine tU 13 28 ?_
     refine tU 14 29 ?_
     refine tU 15 30 ?_
     refine tU 16 31 ?_
     refine tV 17 32 ?_
     refine wpAnyH_done (by kernel_rfl) ?_ _
     all_goals
      go_wp2
      go_ret
      exact ⟨by rw [HF.out]; rfl, K3.frame⟩
   ·obtain rfl : j = l.length := by omega
    have HE := Lib.hid (HY.out HO.out)
    go_wp2
    go_ret
    exact ⟨by rw [HE.out]; rfl, HB.out⟩
end Go.Proofs.YtjhdhfokhkcamaaGreat
namespace Go.Proofs.YtjhdhfokhkcamaaGreat
open Go.RowKit
set_option linter.unusedVariables false
set_option maxRecDepth 100000
set_option maxRecDepth 100000
theorem below_2 (w : World) (o p : Obj) : Below w.heap.size w ((w.alloc o).alloc p) := ((Below.refl _ _).alloc (Nat.le_refl _) _).alloc (by rw [size1]; omega) _
structure TwE (w : World) (g h : Nat) (a b : EnM) (W : World) : Prop where
 a : W.cell? ⟨g, 0, none⟩ = some (.string a.w) ∧ W.cell? ⟨g, 1, none⟩ = some (.string a.u) ∧ W.cell? ⟨g, 2, none⟩ = some (.int .i64 a.f) ∧ W.cell? ⟨g, 3, none⟩ = some (.int .i64 a.t)
 b : W.cell? ⟨h, 0, none⟩ = some (.string b.w) ∧ W.cell? ⟨h, 1, none⟩ = some (.string b.u) ∧ W.cell? ⟨h, 2, none⟩ = some (.int .i64 b.f) ∧ W.cell? ⟨h, 3, none⟩ = some (.int .i64 b.t)
 lt : g < W.heap.size ∧ h < W.heap.size
 frame : Below w.heap.size w W
theorem TwE.below {w W W' : World} {g h : Nat} {a b : EnM} (k : TwE w g h a b W) (q : Below W.heap.size W W') : TwE w g h a b W' :=
 ⟨⟨(q.cell (p := ⟨g, 0, none⟩) k.lt.1).trans k.a.1, (q.cell (p := ⟨g, 1, none⟩) k.lt.1).trans k.a.2.1, (q.cell (p := ⟨g, 2, none⟩) k.lt.1).trans k.a.2.2.1, (q.cell (p := ⟨g, 3, none⟩) k.lt.1).trans k.a.2.2.2⟩,
  ⟨(q.cell (p := ⟨h, 0, none⟩) k.lt.2).trans k.b.1, (q.cell (p := ⟨h, 1, none⟩) k.lt.2).trans k.b.2.1, (q.cell (p := ⟨h, 2, none⟩) k.lt.2).trans k.b.2.2.1, (q.cell (p := ⟨h, 3, none⟩) k.lt.2).trans k.b.2.2.2⟩,
  ⟨Nat.lt_of_lt_of_le k.lt.1 q.size, Nat.lt_of_lt_of_le k.lt.2 q.size⟩, k.frame.trans (q.mono k.frame.size)⟩
theorem TwE.new (w : World) (a b : EnM) (t t' : TypeId) : TwE w w.heap.size (w.heap.size + 1) a b ((w.alloc (.cells #[.string a.w, .string a.u, .int .i64 a.f, .int .i64 a.t] t)).alloc (.cells #[.string b.w, .string b.u, .int .i64 b.f, .int .i64 b.t] t')) := by
 have hb := below_2 w (.cells #[.string a.w, .string a.u, .int .i64 a.f, .int .i64 a.t] t) (.cells #[.string b.w, .string b.u, .int .i64 b.f, .int .i64 b.t] t')
 have h1 := heap_alloc_new w (.cells #[.string a.w, .string a.u, .int .i64 a.f, .int .i64 a.t] t)
 have z1 := size1 w (.cells #[.string a.w, .string a.u, .int .i64 a.f, .int .i64 a.t] t)
 generalize w.alloc (.cells #[.string a.w, .string a.u, .int .i64 a.f, .int .i64 a.t] t) = w1 at *
 have h2 := heap_alloc_new w1 (.cells #[.string b.w, .string b.u, .int .i64 b.f, .int .i64 b.t] t')
 have b2 := ebelow_one w1 (.cells #[.string b.w, .string b.u, .int .i64 b.f, .int .i64 b.t] t')
 have z2 := size1 w1 (.cells #[.string b.w, .string b.u, .int .i64 b.f, .int .i64 b.t] t')
 generalize w1.alloc (.cells #[.string b.w, .string b.u, .int .i64 b.f, .int .i64 b.t] t') = w2 at *
 rw [z1] at h2
 exact ⟨ecells4 ((b2.block _ (heap_lt h1)).trans h1), ecells4 h2, ⟨by omega, by omega⟩, hb⟩
theorem above_pc (a b : EnM) : (aheadE b a) ↔ (0 < pc a b ∨ (pc a b = 0 ∧ b.f < a.f)) := by
 have h := pc_neg a b
 unfold aheadE
 omega
set_option maxHeartbeats 2000000 in
theorem above_any (a b : EnM) (w : World) : Calls Tryz.prog 166 #[enV a, enV b] w fun e w' => e = .returned (.bool (decide (aheadE b a))) ∧ Below w.heap.size w w' := by
 have K0 := Lib.hid (TwE.new w a b 123 123)
 have HC := Lib.hid (fun W => pairCmp_any a.w a.u b.w b.u W)
 have HP := above_pc a b
 unfold enV
 unfold pr at HC
 have hpc : cmpP a.w a.u b.w b.u = pc a b := rfl
 rw [hpc] at HC
 generalize pc a b = c at *
 have HF : Hid (∀ x : Bool, (x = true ↔ aheadE b a) → x = decide (aheadE b a)) := fun x h => by
  cases x with
  | true => exact (decide_eq_true (h.1 rfl)).symm
  | false => exact (decide_eq_false (fun k => by cases h.2 k)).symm
 rcases Int.lt_trichotomy c 0 with h1 | h1 | h1
 ·have d1 : decide (0 < c) = false := decide_eq_false (by omega)
  have d2 : (c == 0) = false := beq_eq_false_iff_ne.2 (by omega)
  have HE := Lib.hid (HF.out false ⟨fun h => (by cases h), fun h => (by have := HP.1 h; omega)⟩)
  clear HF HP h1
  go_enter Tryz.func166, Tryz.ntmps166
  go_wp2_with fail
  refine (HC.out _).mono ?_
  rintro e w2 ⟨rfl, hB⟩
  have K1 := K0.out.below hB
  obtain ⟨a0, a1, a2, a3⟩ := K1.a
  obtain ⟨b0, b1, b2, b3⟩ := K1.b
  clear K0 HC hB
  go_wp2
  go_ret
  exact ⟨by rw [← HE.out]; rfl, K1.frame⟩
 ·subst h1
  have d1 : decide ((0 : Int) < 0) = false := rfl
  have HE := Lib.hid (HF.out (decide (b.f < a.f)) (by rw [HP, decide_eq_true_iff]; omega))
  clear HF HP
  go_enter Tryz.func166, Tryz.ntmps166
  go_wp2_with fail
  refine (HC.out _).mono ?_
  rintro e w2 ⟨rfl, hB⟩
  have K1 := K0.out.below hB
  obtain ⟨a0, a1, a2, a3⟩ := K1.a
  obtain ⟨b0, b1, b2, b3⟩ := K1.b
  clear K0 HC hB
  go_wp2
  go_ret
  exact ⟨by rw [← HE.out]; rfl, K1.frame⟩
 ·have d1 : decide (0 < c) = true := decide_eq_true (by omega)
  have HE := Lib.hid (HF.out true ⟨fun _ => HP.2 (Or.inl h1), fun _ => rfl⟩)
  clear HF HP h1
  go_enter Tryz.func166, Tryz.ntmps166
  go_wp2_with fail
  refine (HC.out _).mono ?_
  rintro e w2 ⟨rfl, hB⟩
  have K1 := K0.out.below hB
  obtain ⟨a0, a1, a2, a3⟩ := K1.a
  obtain ⟨b0, b1, b2, b3⟩ := K1.b
  clear K0 HC hB
  go_wp2
  go_ret
  exact ⟨by rw [← HE.out]; rfl, K1.frame⟩
set_option maxHeartbeats 2000000 in
theorem eahead_any (a b : EnM) (w : World) (h1 : a.w.size ≤ maxLen) (h2 : a.u.size ≤ maxLen) (h3 : b.w.size ≤ maxLen) (h4 : b.u.size ≤ maxLen) :
  Calls Tryz.prog 102 #[enV a, enV b] w fun e w' => e = .returned (.bool (decide (aheadE a b))) ∧ Below w.heap.size w w' := by
 have K0 := Lib.hid (TwE.new w a b 82 82)
 have HC1 := Lib.hid (fun W => refCmp_any a.w b.w W h1 h3)
 have HC2 := Lib.hid (fun W => refCmp_any a.u b.u W h2 h4)
 have HP : aheadE a b ↔ (pc a b < 0 ∨ (pc a b = 0 ∧ a.f < b.f)) := Iff.rfl
 have hpc : pc a b = if cmpS a.w b.w = 0 then cmpS a.u b.u else cmpS a.w b.w := rfl
 rw [hpc] at HP
 have e1 : Lib.compareBytes a.w.data.toList b.w.data.toList = cmpS a.w b.w := rfl
 have e2 : Lib.compareBytes a.u.data.toList b.u.data.toList = cmpS a.u b.u := rfl
 rw [e1] at HC1
 rw [e2] at HC2
 clear hpc e1 e2 h1 h2 h3 h4
 unfold enV
 generalize cmpS a.w b.w = c at *
 generalize cmpS a.u b.u = d at *
 have HF : Hid (∀ x : Bool, (x = true ↔ aheadE a b) → x = decide (aheadE a b)) := fun x h => by
  cases x with
  | true => exact (decide_eq_true (h.1 rfl)).symm
  | false => exact (decide_eq_false (fun k => by cases h.2 k)).symm
 by_cases h1 : c = 0
 ·subst h1
  rw [if_pos rfl] at HP
  have k1 : ((0 : Int) != 0) = false := rfl
  by_cases h2 : d = 0
  ·subst h2
   have HE := Lib.hid (HF.out (decide (a.f < b.f)) (by rw [HP, decide_eq_true_iff]; omega))
   clear HF HP
   go_enter Tryz.func102, Tryz.ntmps102
   go_wp2_with fail
   refine (HC1.out _).mono ?_
   rintro e w2 ⟨rfl, hB⟩
   have K1 := Lib.hid (K0.out.below (Drew.below hB _))
   obtain ⟨a0, a1, a2, a3⟩ := K1.out.a
   obtain ⟨b0, b1, b2, b3⟩ := K1.out.b
   clear K0 HC1 hB
   go_wp2_with fail
   refine (HC2.out _).mono ?_
   rintro e w3 ⟨rfl, hB⟩
   have K2 := Lib.hid (K1.out.below (Drew.below hB _))
   clear a0 a1 a2 a3 b0 b1 b2 b3 K1
   obtain ⟨a0, a1, a2, a3⟩ := K2.out.a
   obtain ⟨b0, b1, b2, b3⟩ := K2.out.b
   clear HC2 hB
   go_wp2
   go_ret
   exact ⟨by rw [← HE.out]; rfl, K2.out.frame⟩
  ·have HE := Lib.hid (HF.out (decide (d < 0)) (by rw [HP, decide_eq_true_iff]; omega))
   have k2 : (d != 0) = true := bne_iff_ne.2 h2
   clear HF HP
   go_enter Tryz.func102, Tryz.ntmps102
   go_wp2_with fail
   refine (HC1.out _).mono ?_
   rintro e w2 ⟨rfl, hB⟩
   have K1 := Lib.hid (K0.out.below (Drew.below hB _))
   obtain ⟨a0, a1, a2, a3⟩ := K1.out.a
   obtain ⟨b0, b1, b2, b3⟩ := K1.out.b
   clear K0 HC1 hB
   go_wp2_with fail
   refine (HC2.out _).mono ?_
   rintro e w3 ⟨rfl, hB⟩
   have K2 := Lib.hid (K1.out.below (Drew.below hB _))
   clear a0 a1 a2 a3 b0 b1 b2 b3 K1 HC2 hB
   go_wp2
   go_ret
   exact ⟨by rw [← HE.out]; rfl, K2.out.frame⟩
 ·rw [if_neg h1] at HP
  have HE := Lib.hid (HF.out (decide (c < 0)) (by rw [HP, decide_eq_true_iff]; omega))
  have k1 : (c != 0) = true := bne_iff_ne.2 h1
  clear HF HP
  go_enter Tryz.func102, Tryz.ntmps102
  go_wp2_with fail
  refine (HC1.out _).mono ?_
  rintro e w2 ⟨rfl, hB⟩
  have K1 := Lib.hid (K0.out.below (Drew.below hB _))
  clear K0 HC1 hB
  go_wp2
  go_ret
  exact ⟨by rw [← HE.out]; rfl, K1.out.frame⟩
structure PK (w : World) (g : Nat) (p u : ByteArray) (a : Option Addr) (l : List EnM) (W : World) : Prop where
 pc : PcAt W g p u
 row : EnSl W a l
 frame : Below w.heap.size w W
theorem PK.below {w W W' : World} {g : Nat} {p u : ByteArray} {a : Option Addr} {l : List EnM} (h : PK w g p u a l W) (q : Below W.heap.size W W') : PK w g p u a l W' :=
 ⟨h.pc.below q, h.row.below q, h.frame.trans (q.mono h.frame.size)⟩
theorem PK.new {w : World} {a : Option Addr} {l : List EnM} (h : EnSl w a l) (p u : ByteArray) (t : TypeId) : PK w w.heap.size p u a l (w.alloc (.cells #[.string p, .string u] t)) :=
 ⟨PcAt.new _ _ _ _, h.below (ebelow_one _ _), ebelow_one _ _⟩
set_option maxHeartbeats 1000000 in
theorem enone_any (f t : Int) (w : World) : Calls Tryz.prog 135 #[.agg #[.int .i64 f, .int .i64 t]] w fun e w' => e = .returned (.bool (decide (t ≤ f))) ∧ Below w.heap.size w w' := by
 go_enter Tryz.func135, Tryz.ntmps135
 go_wp2
 go_ret
 exact ⟨rfl, ebelow_one _ _⟩
set_option maxHeartbeats 2000000 in
theorem follows_any (a b : EnM) (w : World) : Calls Tryz.prog 137 #[enV a, enV b] w fun e w' => e = .returned (.bool (decide (FolE b a))) ∧ Below w.heap.size w w' := by
 have K0 := Lib.hid (TwE.new w a b 123 123)
 have HC := Lib.hid (fun W => above_any a b W)
 have HP : FolE b a ↔ (aheadE b a ∧ (b.w = a.w ∧ b.u = a.u → b.t ≤ a.f)) := Iff.rfl
 unfold enV at *
 have HF : Hid (∀ x : Bool, (x = true ↔ FolE b a) → x = decide (FolE b a)) := fun x h => by
  cases x with
  | true => exact (decide_eq_true (h.1 rfl)).symm
  | false => exact (decide_eq_false (fun k => by cases h.2 k)).symm
 by_cases h1 : aheadE b a
 ·rw [decide_eq_true h1] at HC
  by_cases h2 : b.w = a.w
  ·have e1 : (a.w.toList == b.w.toList) = true := by rw [h2]; exact str_eq _
   by_cases h3 : b.u = a.u
   ·have e2 : (a.u.toList == b.u.toList) = true := by rw [h3]; exact str_eq _
    have HE := Lib.hid (HF.out (decide (b.t ≤ a.f)) (by rw [HP, decide_eq_true_iff]; exact ⟨fun h => ⟨h1, fun _ => h⟩, fun h => h.2 ⟨h2, h3⟩⟩))
    clear HF HP h1 h2 h3
    go_enter Tryz.func137, Tryz.ntmps137
    go_wp2_with fail
    refine (HC.out _).mono ?_
    rintro e w2 ⟨rfl, hB⟩
    have K1 := K0.out.below hB
    obtain ⟨a0, a1, a2, a3⟩ := K1.a
    obtain ⟨b0, b1, b2, b3⟩ := K1.b
    clear K0 HC hB
    go_wp2
    go_ret
    exact ⟨by rw [← HE.out]; rfl, K1.frame⟩
   ·have e2 : (a.u.toList == b.u.toList) = false := str_ne (fun h => h3 h.symm)
    have HE := Lib.hid (HF.out true (by rw [HP]; exact ⟨fun _ => ⟨h1, fun h => absurd h.2 h3⟩, fun _ => rfl⟩))
    clear HF HP h1 h2 h3
    go_enter Tryz.func137, Tryz.ntmps137
    go_wp2_with fail
    refine (HC.out _).mono ?_
    rintro e w2 ⟨rfl, hB⟩
    have K1 := K0.out.below hB
    obtain ⟨a0, a1, a2, a3⟩ := K1.a
    obtain ⟨b0, b1, b2, b3⟩ := K1.b
    clear K0 HC hB
    go_wp2
    go_ret
    exact ⟨by rw [← HE.out]; rfl, K1.frame⟩
  ·have e1 : (a.w.toList == b.w.toList) = false := str_ne (fun h => h2 h.symm)
   have HE := Lib.hid (HF.out true (by rw [HP]; exact ⟨fun _ => ⟨h1, fun h => absurd h.1 h2⟩, fun _ => rfl⟩))
   clear HF HP h1 h2
   go_enter Tryz.func137, Tryz.ntmps137
   go_wp2_with fail
   refine (HC.out _).mono ?_
   rintro e w2 ⟨rfl, hB⟩
   have K1 := K0.out.below hB
   obtain ⟨a0, a1, a2, a3⟩ := K1.a
   obtain ⟨b0, b1, b2, b3⟩ := K1.b
   clear K0 HC hB
   go_wp2
   go_ret
   exact ⟨by rw [← HE.out]; rfl, K1.frame⟩
 ·rw [decide_eq_false h1] at HC
  have HE := Lib.hid (HF.out false (by rw [HP]; exact ⟨fun h => (by cases h), fun h => absurd h.1 h1⟩))
  clear HF HP h1
  go_enter Tryz.func137, Tryz.ntmps137
  go_wp2_with fail
  refine (HC.out _).mono ?_
  rintro e w2 ⟨rfl, hB⟩
  have K1 := K0.out.below hB
  clear K0 HC hB
  go_wp2
  go_ret
  exact ⟨by rw [← HE.out]; rfl, K1.frame⟩
structure RsE (w : World) (g : Nat) (x : EnM) (a : Option Addr) (l : List EnM) (W : World) : Prop where
 box : W.cell? ⟨g, 0, none⟩ = some (.string x.w) ∧ W.cell? ⟨g, 1, none⟩ = some (.string x.u) ∧ W.cell? ⟨g, 2, none⟩ = some (.int .i64 x.f) ∧ W.cell? ⟨g, 3, none⟩ = some (.int .i64 x.t)
 lt : g < W.heap.size
 row : EnSl W a l
 frame : Below w.heap.size w W
theorem RsE.below {w W W' : World} {g : Nat} {x : EnM} {a : Option Addr} {l : List EnM} (h : RsE w g x a l W) (q : Below W.heap.size W W') : RsE w g x a l W' :=
 ⟨⟨(q.cell (p := ⟨g, 0, none⟩) h.lt).trans h.box.1, (q.cell (p := ⟨g, 1, none⟩) h.lt).trans h.box.2.1, (q.cell (p := ⟨g, 2, none⟩) h.lt).trans h.box.2.2.1, (q.cell (p := ⟨g, 3, none⟩) h.lt).trans h.box.2.2.2⟩, Nat.lt_of_lt_of_le h.lt q.size, h.row.below q, h.frame.trans (q.mono h.frame.size)⟩
theorem RsE.at_ {w W : World} {g : Nat} {x : EnM} {b off : Nat} {l : List EnM} (h : RsE w g x (some ⟨b, off, none⟩) l W) {k : Nat} (hk : k < l.length) :
  W.cell? ⟨g, 0, none⟩ = some (.string x.w) ∧ W.cell? ⟨g, 1, none⟩ = some (.string x.u) ∧ W.cell? ⟨g, 2, none⟩ = some (.int .i64 x.f) ∧ W.cell? ⟨g, 3, none⟩ = some (.int .i64 x.t) ∧ W.cell? ⟨b, off + k * 4, none⟩ = some (.string l[k].w) ∧ W.cell? ⟨b, off + k * 4 + 1, none⟩ = some (.string l[k].u) ∧ W.cell? ⟨b, off + k * 4 + 2, none⟩ = some (.int .i64 l[k].f) ∧ W.cell? ⟨b, off + k * 4 + 3, none⟩ = some (.int .i64 l[k].t) := by
 obtain ⟨_, _, e, _, h0, h1, h2, h3⟩ := h.row.at_ hk
 cases e
 exact ⟨h.box.1, h.box.2.1, h.box.2.2.1, h.box.2.2.2, h0, h1, h2, h3⟩
theorem RsE.new {w W : World} {x : EnM} {a : Option Addr} {l : List EnM} (h : EnSl W a l) (hb : Below w.heap.size w W) (t : TypeId) : RsE w W.heap.size x a l (W.alloc (.cells #[.string x.w, .string x.u, .int .i64 x.f, .int .i64 x.t] t)) :=
 ⟨ecells4 (heap_alloc_new W _), by rw [size1]; omega, h.below (ebelow_one _ _), hb.alloc hb.size _⟩
def eRiseTo (l : List EnM) (j : Nat) : Prop := ∀ k (h : k < l.length), k < j → OkE l[k] ∧ (0 < k → FolE (l[k - 1]'(by omega)) l[k])
theorem eRiseTo.all {l : List EnM} (h : eRiseTo l l.length) : RiseE l := fun k hk => h k hk hk
theorem eRiseTo.next {l : List EnM} {j : Nat} (h : eRiseTo l j) (hj : j < l.length) (h1 : OkE l[j]) (h2 : 0 < j → FolE (l[j - 1]'(by omega)) l[j]) : eRiseTo l (j + 1) := fun k hk hkj => by
 rcases Nat.lt_or_ge k j with h3 | h3
 ·exact h k hk h3
 ·obtain rfl : k = j := by omega
  exact ⟨h1, h2⟩
def SzE (l : List EnM) : Prop := ∀ e ∈ l, e.w.size ≤ maxLen ∧ e.u.size ≤ maxLen
set_option maxHeartbeats 8000000 in
theorem erising_any (a : Option Addr) (c : Nat) (l : List EnM) (w : World) (hr : EnSl w a l) (hsz : SzE l) (hl : l.length ≤ 1000000) :
  Calls Tryz.prog 67 #[.slice a l.length c] w fun e w' => e = .returned (.bool (decide (RiseE l))) ∧ Below w.heap.size w w' := by
 have HR := Lib.hid hr
 have HNO := Lib.hid enone_any
 have HSZ := Lib.hid hsz
 have HRT := Lib.hid (fun x (h : x ∈ l) W => pairRight_any x.w x.u W (HSZ.out x h).1 (HSZ.out x h).2)
 have HFO := Lib.hid (fun x y W => follows_any x y W)
 unfold enV at HFO
 unfold pr at HRT
 clear hr hsz HSZ
 go_enter Tryz.func67, Tryz.ntmps67
 go_wp2
 go_loopw [7] (fun i wr => ∃ (j : Nat), j ≤ l.length ∧ i = .int .i64 j ∧ Hid (eRiseTo l j) ∧ Hid (Below w.heap.size w wr)) (fun i _ => l.length - (intOf i).toNat)
 case atStart => exact ⟨0, by omega, rfl, fun k _ h => absurd h (by omega), Below.refl _ _⟩
 case round =>
  obtain ⟨j, hj, rfl, HO, HB⟩ := hrel
  by_cases hjl : j < l.length
  ·obtain ⟨b, off, rfl, hbl, hc0, hc1, hc2, hc3⟩ := (HR.out.below HB.out).at_ hjl
   have HK := Lib.hid (RsE.new (x := l[j]) (HR.out.below HB.out) HB.out 123)
   have HNX := Lib.hid (HO.out.next hjl)
   have HNF : Hid (¬ OkE l[j] → decide (RiseE l) = false) := fun h => decide_eq_false fun k => h (k j hjl).1
   have HNP : Hid (∀ (h0 : 0 < j), ¬ FolE (l[j - 1]'(by omega)) l[j] → decide (RiseE l) = false) := fun h0 h => decide_eq_false fun k => h ((k j hjl).2 h0)
   have HRX := Lib.hid (HRT.out l[j] (List.getElem_mem hjl))
   clear HRT
   by_cases h1 : l[j].t ≤ l[j].f
   ·have HF := Lib.hid (HNF.out (fun h => by have := h.1; omega))
    have HN1 : Hid (∀ W, Calls Tryz.prog 135 #[.agg #[.int .i64 l[j].f, .int .i64 l[j].t]] W fun e w' => e = .returned (.bool true) ∧ Below W.heap.size W w') := fun W => by
     have := HNO.out l[j].f l[j].t W
     rwa [decide_eq_true h1] at this
    clear HNX HNF HNP HNO HFO HRX
    generalize l[j] = x at *
    go_wp2_with fail
    generalize wr.alloc (.cells #[.string x.w, .string x.u, .int .i64 x.f, .int .i64 x.t] 123) = W at *
    generalize wr.heap.size = g at *
    refine wp_region_held_drew (S := (fun W => W.cell? ⟨g, 0, none⟩ = some (.string x.w) ∧ W.cell? ⟨g, 1, none⟩ = some (.string x.u) ∧ W.cell? ⟨g, 2, none⟩ = some (.int .i64 x.f) ∧ W.cell? ⟨g, 3, none⟩ = some (.int .i64 x.t))) (by kernel_rfl) ?_ (fun hHeld => ?_)
    ·exact (HK.out.below (Below.refl _ _).drew).box
    refine tV 0 12 ?_
    refine tV 1 13 ?_
    refine wpAnyH_ready (rs := [2]) (by kernel_rfl) (by simp) ?_
    refine AllReadyH.cons (o := ⟨some 14, _, _, _, _, _⟩) rfl (fun K hK => ?_) AllReadyH.nil
    go_simp
    refine (HN1.out _).mono ?_
    rintro e w2 ⟨rfl, h2⟩
    have K2 := (HK.out.below (Below.refl _ _).drew).below h2
    go_wp2_with fail
    refine hK.out _ _ ?_ (fun hH2 => ?_)
    ·exact K2.box
    clear hK K
    (try simp only [Act.put, List.setIfInBounds_toArray, List.set_cons_zero, List.set_cons_succ])
    refine tV 3 15 ?_
    refine tU 4 16 ?_
    refine tU 5 17 ?_
    refine tU 6 18 ?_
    refine tU 7 19 ?_
    refine tV 8 20 ?_
    refine tV 9 21 ?_
    refine tU 10 22 ?_
    refine tU 11 23 ?_
    refine tU 12 24 ?_
    refine tU 13 25 ?_
    refine tU 14 26 ?_
    refine tU 15 27 ?_
    refine tU 16 28 ?_
    refine tU 17 29 ?_
    refine tU 18 30 ?_
    refine tU 19 31 ?_
    refine tU 20 32 ?_
    refine tU 21 33 ?_
    refine tV 22 34 ?_
    refine wpAnyH_done (by kernel_rfl) ?_ _
    all_goals
     go_wp2
     go_ret
     exact ⟨by rw [HF.out]; rfl, K2.frame⟩
   ·have HN1 : Hid (∀ W, Calls Tryz.prog 135 #[.agg #[.int .i64 l[j].f, .int .i64 l[j].t]] W fun e w' => e = .returned (.bool false) ∧ Below W.heap.size W w') := fun W => by
     have := HNO.out l[j].f l[j].t W
     rwa [decide_eq_false h1] at this
    cases hn : (nameB l[j].w && nameB l[j].u) with
    | false =>
     have HF := Lib.hid (HNF.out (fun h => by rw [h.2.1, h.2.2] at hn; cases hn))
     rw [hn] at HRX
     clear HNX HNF HNP HNO HFO hn
     generalize l[j] = x at *
     go_wp2_with fail
     generalize wr.alloc (.cells #[.string x.w, .string x.u, .int .i64 x.f, .int .i64 x.t] 123) = W at *
     generalize wr.heap.size = g at *
     refine wp_region_held_drew (S := (fun W => W.cell? ⟨g, 0, none⟩ = some (.string x.w) ∧ W.cell? ⟨g, 1, none⟩ = some (.string x.u) ∧ W.cell? ⟨g, 2, none⟩ = some (.int .i64 x.f) ∧ W.cell? ⟨g, 3, none⟩ = some (.int .i64 x.t))) (by kernel_rfl) ?_ (fun hHeld => ?_)
     ·exact (HK.out.below (Below.refl _ _).drew).box
     refine tV 0 12 ?_
     refine tV 1 13 ?_
     refine wpAnyH_ready (rs := [2]) (by kernel_rfl) (by simp) ?_
     refine AllReadyH.cons (o := ⟨some 14, _, _, _, _, _⟩) rfl (fun K hK => ?_) AllReadyH.nil
     go_simp
     refine (HN1.out _).mono ?_
     rintro e w2 ⟨rfl, h2⟩
     have K2 := (HK.out.below (Below.refl _ _).drew).below h2
     go_wp2_with fail
     refine hK.out _ _ ?_ (fun hH2 => ?_)
     ·exact K2.box
     clear hK K
     (try simp only [Act.put, List.setIfInBounds_toArray, List.set_cons_zero, List.set_cons_succ])
     refine tV 3 15 ?_
     refine tV 4 16 ?_
     refine tV 5 17 ?_
     refine wpAnyH_ready (rs := [6]) (by kernel_rfl) (by simp) ?_
     refine AllReadyH.cons (o := ⟨some 18, _, _, _, _, _⟩) rfl (fun K hK => ?_) AllReadyH.nil
     go_simp
     refine (HRX.out _).mono ?_
     rintro e w3 ⟨rfl, h3⟩
     have K3 := K2.below h3
     go_wp2_with fail
     refine hK.out _ _ ?_ (fun hH6 => ?_)
     ·exact K3.box
     clear hK K
     (try simp only [Act.put, List.setIfInBounds_toArray, List.set_cons_zero, List.set_cons_succ])
     refine tV 7 19 ?_
     refine tV 8 20 ?_
     refine tV 9 21 ?_
     refine tU 10 22 ?_
     refine tU 11 23 ?_
     refine tU 12 24 ?_
     refine tU 13 25 ?_
     refine tU 14 26 ?_
     refine tU 15 27 ?_
     refine tU 16 28 ?_
     refine tU 17 29 ?_
     refine tU 18 30 ?_
     refine tU 19 31 ?_
     refine tU 20 32 ?_
     refine tU 21 33 ?_
     refine tV 22 34 ?_
     refine wpAnyH_done (by kernel_rfl) ?_ _
     all_goals
      go_wp2
      go_ret
      exact ⟨by rw [HF.out]; rfl, K3.frame⟩
    | true =>
     have HNX := Lib.hid (HNX.out ⟨by omega, ((Bool.and_eq_true _ _).mp hn).1, ((Bool.and_eq_true _ _).mp hn).2⟩)
     rw [hn] at HRX
     by_cases h0 : 0 < j
     ·obtain ⟨k, hk⟩ : ∃ k, j = k + 1 := ⟨j - 1, by omega⟩
      have hkl : k < l.length := by omega
      have hpw : IntKind.i64.wrap ((j : Int) - 1) = (k : Int) := by rw [IntWalk.i64_in] <;> omega
      have hgt : decide ((0 : Int) < (j : Int)) = true := decide_eq_true (by omega)
      have HCX := Lib.hid (HFO.out l[j] l[k])
      have HP0 : Hid (∀ W, RsE w wr.heap.size l[j] (some ⟨b, off, none⟩) l W → W.cell? ⟨wr.heap.size, 0, none⟩ = some (.string l[j].w) ∧ W.cell? ⟨wr.heap.size, 1, none⟩ = some (.string l[j].u) ∧ W.cell? ⟨wr.heap.size, 2, none⟩ = some (.int .i64 l[j].f) ∧ W.cell? ⟨wr.heap.size, 3, none⟩ = some (.int .i64 l[j].t) ∧ W.cell? ⟨b, off + k * 4, none⟩ = some (.string l[k].w) ∧ W.cell? ⟨b, off + k * 4 + 1, none⟩ = some (.string l[k].u) ∧ W.cell? ⟨b, off + k * 4 + 2, none⟩ = some (.int .i64 l[k].f) ∧ W.cell? ⟨b, off + k * 4 + 3, none⟩ = some (.int .i64 l[k].t)) := fun W h => h.at_ hkl
      have hkp : ∀ h, l[j - 1]'h = l[k] := fun h => by congr 1; omega
      have HNX3 : Hid (FolE l[k] l[j] → eRiseTo l (j + 1)) := fun h => HNX.out (fun _ => by rw [hkp]; exact h)
      have HNP3 : Hid (¬ FolE l[k] l[j] → decide (RiseE l) = false) := fun h => HNP.out h0 (by rw [hkp]; exact h)
      clear HNF HNP HNO HFO HNX hkp hk hn
      generalize l[k] = y at *
      generalize l[j] = x at *
      by_cases h3 : FolE y x
      ·have HNX4 := Lib.hid (HNX3.out h3)
       rw [decide_eq_true h3] at HCX
       clear HNX3 HNP3 h3
       go_wp2_with fail
       generalize wr.alloc (.cells #[.string x.w, .string x.u, .int .i64 x.f, .int .i64 x.t] 123) = W at *
       generalize wr.heap.size = g at *
       refine wp_region_held_drew (S := (fun W => W.cell? ⟨g, 0, none⟩ = some (.string x.w) ∧ W.cell? ⟨g, 1, none⟩ = some (.string x.u) ∧ W.cell? ⟨g, 2, none⟩ = some (.int .i64 x.f) ∧ W.cell? ⟨g, 3, none⟩ = some (.int .i64 x.t) ∧ W.cell? ⟨b, off + k * 4, none⟩ = some (.string y.w) ∧ W.cell? ⟨b, off + k * 4 + 1, none⟩ = some (.string y.u) ∧ W.cell? ⟨b, off + k * 4 + 2, none⟩ = some (.int .i64 y.f) ∧ W.cell? ⟨b, off + k * 4 + 3, none⟩ = some (.int .i64 y.t))) (by kernel_rfl) ?_ (fun hHeld => ?_)
       ·exact HP0.out _ (HK.out.below (Below.refl _ _).drew)
       refine tV 0 12 ?_
       refine tV 1 13 ?_
       refine wpAnyH_ready (rs := [2]) (by kernel_rfl) (by simp) ?_
       refine AllReadyH.cons (o := ⟨some 14, _, _, _, _, _⟩) rfl (fun K hK => ?_) AllReadyH.nil
       go_simp
       refine (HN1.out _).mono ?_
       rintro e w2 ⟨rfl, h2⟩
       have K2 := (HK.out.below (Below.refl _ _).drew).below h2
       go_wp2_with fail
       refine hK.out _ _ ?_ (fun hH2 => ?_)
       ·exact HP0.out _ K2
       clear hK K
       (try simp only [Act.put, List.setIfInBounds_toArray, List.set_cons_zero, List.set_cons_succ])
       refine tV 3 15 ?_
       refine tV 4 16 ?_
       refine tV 5 17 ?_
       refine wpAnyH_ready (rs := [6]) (by kernel_rfl) (by simp) ?_
       refine AllReadyH.cons (o := ⟨some 18, _, _, _, _, _⟩) rfl (fun K hK => ?_) AllReadyH.nil
       go_simp
       refine (HRX.out _).mono ?_
       rintro e w3 ⟨rfl, h3⟩
       have K3 := K2.below h3
       go_wp2_with fail
       refine hK.out _ _ ?_ (fun hH6 => ?_)
       ·exact HP0.out _ K3
       clear hK K
       (try simp only [Act.put, List.setIfInBounds_toArray, List.set_cons_zero, List.set_cons_succ])
       refine tV 7 19 ?_
       refine tV 8 20 ?_
       refine tV 9 21 ?_
       refine tV 10 22 ?_
       refine tV 11 23 ?_
       refine tV 12 24 ?_
       refine tV 13 25 ?_
       refine tV 14 26 ?_
       refine tV 15 27 ?_
       refine tV 16 28 ?_
       refine tV 17 29 ?_
       refine tV 18 30 ?_
       refine wpAnyH_ready (rs := [19]) (by kernel_rfl) (by simp) ?_
       refine AllReadyH.cons (o := ⟨some 31, _, _, _, _, _⟩) rfl (fun K hK => ?_) AllReadyH.nil
       go_simp
       refine (HCX.out _).mono ?_
       rintro e w4 ⟨rfl, h4⟩
       have K4 := K3.below h4
       go_wp2_with fail
       refine hK.out _ _ ?_ (fun hH19 => ?_)
       ·exact HP0.out _ K4
       clear hK K
       (try simp only [Act.put, List.setIfInBounds_toArray, List.set_cons_zero, List.set_cons_succ])
       refine tV 20 32 ?_
       refine tV 21 33 ?_
       refine tV 22 34 ?_
       refine wpAnyH_done (by kernel_rfl) ?_ _
       all_goals
        go_wp2
        go_roundw
        case rel => exact ⟨j + 1, by omega, by go_num, HNX4, K4.frame⟩
        case measure => simp [intOf]; omega
      ·have HNF4 := Lib.hid (HNP3.out h3)
       rw [decide_eq_false h3] at HCX
       clear HNX3 HNP3 h3
       go_wp2_with fail
       generalize wr.alloc (.cells #[.string x.w, .string x.u, .int .i64 x.f, .int .i64 x.t] 123) = W at *
       generalize wr.heap.size = g at *
       refine wp_region_held_drew (S := (fun W => W.cell? ⟨g, 0, none⟩ = some (.string x.w) ∧ W.cell? ⟨g, 1, none⟩ = some (.string x.u) ∧ W.cell? ⟨g, 2, none⟩ = some (.int .i64 x.f) ∧ W.cell? ⟨g, 3, none⟩ = some (.int .i64 x.t) ∧ W.cell? ⟨b, off + k * 4, none⟩ = some (.string y.w) ∧ W.cell? ⟨b, off + k * 4 + 1, none⟩ = some (.string y.u) ∧ W.cell? ⟨b, off + k * 4 + 2, none⟩ = some (.int .i64 y.f) ∧ W.cell? ⟨b, off + k * 4 + 3, none⟩ = some (.int .i64 y.t))) (by kernel_rfl) ?_ (fun hHeld => ?_)
       ·exact HP0.out _ (HK.out.below (Below.refl _ _).drew)
       refine tV 0 12 ?_
       refine tV 1 13 ?_
       refine wpAnyH_ready (rs := [2]) (by kernel_rfl) (by simp) ?_
       refine AllReadyH.cons (o := ⟨some 14, _, _, _, _, _⟩) rfl (fun K hK => ?_) AllReadyH.nil
       go_simp
       refine (HN1.out _).mono ?_
       rintro e w2 ⟨rfl, h2⟩
       have K2 := (HK.out.below (Below.refl _ _).drew).below h2
       go_wp2_with fail
       refine hK.out _ _ ?_ (fun hH2 => ?_)
       ·exact HP0.out _ K2
       clear hK K
       (try simp only [Act.put, List.setIfInBounds_toArray, List.set_cons_zero, List.set_cons_succ])
       refine tV 3 15 ?_
       refine tV 4 16 ?_
       refine tV 5 17 ?_
       refine wpAnyH_ready (rs := [6]) (by kernel_rfl) (by simp) ?_
       refine AllReadyH.cons (o := ⟨some 18, _, _, _, _, _⟩) rfl (fun K hK => ?_) AllReadyH.nil
       go_simp
       refine (HRX.out _).mono ?_
       rintro e w3 ⟨rfl, h3⟩
       have K3 := K2.below h3
       go_wp2_with fail
       refine hK.out _ _ ?_ (fun hH6 => ?_)
       ·exact HP0.out _ K3
       clear hK K
       (try simp only [Act.put, List.setIfInBounds_toArray, List.set_cons_zero, List.set_cons_succ])
       refine tV 7 19 ?_
       refine tV 8 20 ?_
       refine tV 9 21 ?_
       refine tV 10 22 ?_
       refine tV 11 23 ?_
       refine tV 12 24 ?_
       refine tV 13 25 ?_
       refine tV 14 26 ?_
       refine tV 15 27 ?_
       refine tV 16 28 ?_
       refine tV 17 29 ?_
       refine tV 18 30 ?_
       refine wpAnyH_ready (rs := [19]) (by kernel_rfl) (by simp) ?_
       refine AllReadyH.cons (o := ⟨some 31, _, _, _, _, _⟩) rfl (fun K hK => ?_) AllReadyH.nil
       go_simp
       refine (HCX.out _).mono ?_
       rintro e w4 ⟨rfl, h4⟩
       have K4 := K3.below h4
       go_wp2_with fail
       refine hK.out _ _ ?_ (fun hH19 => ?_)
       ·exact HP0.out _ K4
       clear hK K
       (try simp only [Act.put, List.setIfInBounds_toArray, List.set_cons_zero, List.set_cons_succ])
       refine tV 20 32 ?_
       refine tV 21 33 ?_
       refine tV 22 34 ?_
       refine wpAnyH_done (by kernel_rfl) ?_ _
       all_goals
        go_wp2
        go_ret
        exact ⟨by rw [HNF4.out]; rfl, K4.frame⟩
     ·have HNX2 := Lib.hid (HNX.out (fun h => absurd h h0))
      have hgt : decide ((0 : Int) < (j : Int)) = false := decide_eq_false (by omega)
      clear HNF HNP HNO HFO HNX hn
      generalize l[j] = x at *
      go_wp2_with fail
      generalize wr.alloc (.cells #[.string x.w, .string x.u, .int .i64 x.f, .int .i64 x.t] 123) = W at *
      generalize wr.heap.size = g at *
      refine wp_region_held_drew (S := (fun W => W.cell? ⟨g, 0, none⟩ = some (.string x.w) ∧ W.cell? ⟨g, 1, none⟩ = some (.string x.u) ∧ W.cell? ⟨g, 2, none⟩ = some (.int .i64 x.f) ∧ W.cell? ⟨g, 3, none⟩ = some (.int .i64 x.t))) (by kernel_rfl) ?_ (fun hHeld => ?_)
      ·exact (HK.out.below (Below.refl _ _).drew).box
      refine tV 0 12 ?_
      refine tV 1 13 ?_
      refine wpAnyH_ready (rs := [2]) (by kernel_rfl) (by simp) ?_
      refine AllReadyH.cons (o := ⟨some 14, _, _, _, _, _⟩) rfl (fun K hK => ?_) AllReadyH.nil
      go_simp
      refine (HN1.out _).mono ?_
      rintro e w2 ⟨rfl, h2⟩
      have K2 := (HK.out.below (Below.refl _ _).drew).below h2
      go_wp2_with fail
      refine hK.out _ _ ?_ (fun hH2 => ?_)
      ·exact K2.box
      clear hK K
      (try simp only [Act.put, List.setIfInBounds_toArray, List.set_cons_zero, List.set_cons_succ])
      refine tV 3 15 ?_
      refine tV 4 16 ?_
      refine tV 5 17 ?_
      refine wpAnyH_ready (rs := [6]) (by kernel_rfl) (by simp) ?_
      refine AllReadyH.cons (o := ⟨some 18, _, _, _, _, _⟩) rfl (fun K hK => ?_) AllReadyH.nil
      go_simp
      refine (HRX.out _).mono ?_
      rintro e w3 ⟨rfl, h3⟩
      have K3 := K2.below h3
      go_wp2_with fail
      refine hK.out _ _ ?_ (fun hH6 => ?_)
      ·exact K3.box
      clear hK K
      (try simp only [Act.put, List.setIfInBounds_toArray, List.set_cons_zero, List.set_cons_succ])
      refine tV 7 19 ?_
      refine tV 8 20 ?_
      refine tV 9 21 ?_
      refine tV 10 22 ?_
      refine tV 11 23 ?_
      refine tV 12 24 ?_
      refine tU 13 25 ?_
      refine tU 14 26 ?_
      refine tU 15 27 ?_
      refine tU 16 28 ?_
      refine tU 17 29 ?_
      refine tU 18 30 ?_
      refine tU 19 31 ?_
      refine tU 20 32 ?_
      refine tV 21 33 ?_
      refine tV 22 34 ?_
      refine wpAnyH_done (by kernel_rfl) ?_ _
      all_goals
       go_wp2
       go_roundw
       case rel => exact ⟨j + 1, by omega, by go_num, HNX2, K3.frame⟩
       case measure => simp [intOf]; omega
  ·obtain rfl : j = l.length := by omega
   have HE := Lib.hid (decide_eq_true HO.out.all)
   go_wp2
   go_ret
   exact ⟨by rw [HE.out]; rfl, HB.out⟩
end Go.Proofs.YtjhdhfokhkcamaaGreat
namespace Go.Proofs.YtjhdhfokhkcamaaGreat
open Go.RowKit Go.Proofs
set_option linter.unusedVariables false
set_option maxRecDepth 100000
set_option maxRecDepth 100000
theorem EnSl.snil {w : World} {l : List EnM} (h : EnSl w none l) : l = [] := by
 cases l with
 | nil => rfl
 | cons y m => obtain ⟨_, _, e, _⟩ := h 0 (by simp); cases e
theorem sl_drew3 (W : World) (xs : Array Value) (t : TypeId) : Sl (W.alloc (.cells xs t)).drew (some ⟨W.heap.size, 0, none⟩) xs.toList := (sl_lit W xs t).drewN 1
theorem econcat3 (x y : Option Addr) (A B : List EnM) (c1 c2 n1 n2 : Nat) (s : EnM) (W : World) (g1 g2 : Nat) (T : TypeId) (h1 : n1 = A.length) (h2 : n2 = B.length) (hA : EnSl W x A) (hB : EnSl W y B) (k1 : x = none → c1 = 0) (k2 : y = none → c2 = 0) (hg1 : g1 = W.heap.size) (hg2 : g2 = W.heap.size + 1) (hl : A.length + B.length ≤ 1000) :
  Calls Tryz.prog 167 #[.slice (some ⟨g2, 0, none⟩) 3 3] ((W.alloc (.cells #[.string s.w, .string s.u, .int .i64 s.f, .int .i64 s.t] 123)).alloc (.cells #[.slice x n1 c1, .slice (some ⟨g1, 0, none⟩) 1 1, .slice y n2 c2] T)).drew fun e w' => ∃ v, e = .returned v ∧ w'.ownsRow W.heap.size 123 4 v (A ++ s :: B).length (ens (A ++ s :: B)) ∧ Below W.heap.size W w' := by
 subst hg1 h1 h2
 have hcat : catE [⟨x, A, c1⟩, ⟨some ⟨W.heap.size, 0, none⟩, [s], 1⟩, ⟨y, B, c2⟩] = A ++ s :: B := by simp [catE]
 have hb1 := ebelow_one W (.cells #[.string s.w, .string s.u, .int .i64 s.f, .int .i64 s.t] 123)
 have hS := cells_en W [s] #[.string s.w, .string s.u, .int .i64 s.f, .int .i64 s.t] 123 _ rfl rfl
 generalize hW1 : W.alloc (.cells #[.string s.w, .string s.u, .int .i64 s.f, .int .i64 s.t] 123) = W1 at *
 have hz : W1.heap.size = W.heap.size + 1 := by rw [← hW1, size1]
 have hb2 := ebelow_one W1 (.cells #[.slice x A.length c1, .slice (some ⟨W.heap.size, 0, none⟩) 1 1, .slice y B.length c2] T)
 have hb2 := hb2.drew
 have hb := hb1.trans (hb2.mono hb1.size)
 have hlen : (catE [⟨x, A, c1⟩, ⟨some ⟨W.heap.size, 0, none⟩, [s], 1⟩, ⟨y, B, c2⟩]).length ≤ 100000 := by rw [hcat, List.length_append, List.length_cons]; omega
 rw [hg2, ← hz]
 refine (econcat_any (some ⟨W1.heap.size, 0, none⟩) 3 [⟨x, A, c1⟩, ⟨some ⟨W.heap.size, 0, none⟩, [s], 1⟩, ⟨y, B, c2⟩] _ (sl_drew3 W1 #[.slice x A.length c1, .slice (some ⟨W.heap.size, 0, none⟩) 1 1, .slice y B.length c2] T) ?_ (by show 3 ≤ _; decide) hlen).mono ?_
 ·intro r hr
  simp only [List.mem_cons, List.mem_nil_iff, or_false] at hr
  rcases hr with rfl | rfl | rfl
  ·exact ⟨hA.below hb, k1⟩
  ·exact ⟨hS.below hb2, fun h => by cases h⟩
  ·exact ⟨hB.below hb, k2⟩
 ·rintro e w' ⟨v, rfl, ho, hbb⟩
  rw [hcat] at ho
  exact ⟨v, rfl, own_low ho hb.size, hb.trans (hbb.mono hb.size)⟩
set_option maxHeartbeats 8000000 in
theorem grant_any (a : Option Addr) (c : Nat) (l : List EnM) (p u : ByteArray) (n : Int) (w : World) (hr : EnSl w a l) (hn : a = none → c = 0) (hl : l.length ≤ 500) (hc : l.length ≤ c) (hcm : c ≤ maxLen) :
  Calls Tryz.prog 113 #[.slice a l.length c, pr p u, .int .i64 n] w fun e w' => (l.any (infE p u) = true ∧ e = .returned (.tuple #[.slice none 0 0, .int .i64 90]) ∧ Below w.heap.size w w') ∨
   (l.any (infE p u) = false ∧ ∃ v, e = .returned (.tuple #[v, .int .i64 0]) ∧ w'.ownsRow w.heap.size 123 4 v (grantS l (mkE p u n)).length (ens (grantS l (mkE p u n))) ∧ Below w.heap.size w w') := by
 have HPC := Lib.hid (PK.new hr p u 121)
 have HIF := Lib.hid (fun W (h : EnSl W a l) => inForce_any a c l p u W h (by omega))
 have HAB : Hid (∀ (x : EnM) W, Calls Tryz.prog 166 #[.agg #[.string x.w, .string x.u, .int .i64 x.f, .int .i64 x.t], .agg #[.string p, .string u, .int .i64 n, .int .i64 1099511627776]] W fun e w' => e = .returned (.bool (decide (aheadE (mkE p u n) x))) ∧ Below W.heap.size W w') := fun x W => above_any x (mkE p u n) W
 have HNil := Lib.hid hn
 have HGA := Lib.hid (fun k (h : IsFirst (fun x => decide (aheadE (mkE p u n) x)) l k) => grant_at h)
 unfold maxLen at hcm
 unfold pr at *
 generalize hG : grantS l (mkE p u n) = G at *
 clear hr hn hG
 cases hi : l.any (infE p u) with
 | true =>
  rw [hi] at HIF
  go_enter Tryz.func113, Tryz.ntmps113
  go_wp2_with fail
  refine (HIF.out _ HPC.out.row).mono ?_
  rintro e w1 ⟨rfl, hB⟩
  have K1 := Lib.hid (HPC.out.below hB)
  go_wp2
  go_ret2
  exact Or.inl ⟨by trivial, rfl, K1.out.frame⟩
 | false =>
  rw [hi] at HIF
  go_enter Tryz.func113, Tryz.ntmps113
  go_wp2_with fail
  refine (HIF.out _ HPC.out.row).mono ?_
  rintro e w1 ⟨rfl, hB⟩
  have K1 := Lib.hid (HPC.out.below hB)
  obtain ⟨c0, c1, -⟩ := K1.out.pc
  have HK0 : Hid (RsE w w1.heap.size (mkE p u n) a l (w1.alloc (.cells #[.string p, .string u, .int .i64 n, .int .i64 1099511627776] 123))) := RsE.new (x := mkE p u n) K1.out.row K1.out.frame 123
  have HSB : Hid (∀ W, RsE w w1.heap.size (mkE p u n) a l W → W.cell? ⟨w1.heap.size, 0, none⟩ = some (.string p) ∧ W.cell? ⟨w1.heap.size, 1, none⟩ = some (.string u) ∧ W.cell? ⟨w1.heap.size, 2, none⟩ = some (.int .i64 n) ∧ W.cell? ⟨w1.heap.size, 3, none⟩ = some (.int .i64 1099511627776)) := fun W h => h.box
  have HSC : Hid (∀ b off j (hj : j < l.length) W, a = some ⟨b, off, none⟩ → RsE w w1.heap.size (mkE p u n) a l W → W.cell? ⟨w1.heap.size, 0, none⟩ = some (.string p) ∧ W.cell? ⟨w1.heap.size, 1, none⟩ = some (.string u) ∧ W.cell? ⟨w1.heap.size, 2, none⟩ = some (.int .i64 n) ∧ W.cell? ⟨w1.heap.size, 3, none⟩ = some (.int .i64 1099511627776) ∧ W.cell? ⟨b, off + j * 4, none⟩ = some (.string l[j].w) ∧ W.cell? ⟨b, off + j * 4 + 1, none⟩ = some (.string l[j].u) ∧ W.cell? ⟨b, off + j * 4 + 2, none⟩ = some (.int .i64 l[j].f) ∧ W.cell? ⟨b, off + j * 4 + 3, none⟩ = some (.int .i64 l[j].t)) := fun b off j hj W e h => by subst e; exact h.at_ hj
  clear hB HPC HIF
  go_wp2
  generalize w1.heap.size = g at *
  go_loopw [9] (fun i wr => ∃ (j : Nat), j ≤ l.length ∧ i = .int .i64 j ∧ Hid (LowTo (fun x => decide (aheadE (mkE p u n) x)) l j) ∧ Hid (RsE w g (mkE p u n) a l wr)) (fun i _ => l.length - (intOf i).toNat)
  case atStart => exact ⟨0, by omega, rfl, fun k _ h => absurd h (by omega), HK0.out⟩
  case round =>
   obtain ⟨j, hj, rfl, HO, HK⟩ := hrel
   by_cases hjl : j < l.length
   ·obtain ⟨b, off, rfl, -, -, -, -, -⟩ := HK.out.row.at_ hjl
    have HNX := Lib.hid (HO.out.next hjl)
    have HHT := Lib.hid (HO.out.hit hjl)
    have HP0 : Hid (∀ W, RsE w g (mkE p u n) (some ⟨b, off, none⟩) l W → W.cell? ⟨g, 0, none⟩ = some (.string p) ∧ W.cell? ⟨g, 1, none⟩ = some (.string u) ∧ W.cell? ⟨g, 2, none⟩ = some (.int .i64 n) ∧ W.cell? ⟨g, 3, none⟩ = some (.int .i64 1099511627776) ∧ W.cell? ⟨b, off + j * 4, none⟩ = some (.string l[j].w) ∧ W.cell? ⟨b, off + j * 4 + 1, none⟩ = some (.string l[j].u) ∧ W.cell? ⟨b, off + j * 4 + 2, none⟩ = some (.int .i64 l[j].f) ∧ W.cell? ⟨b, off + j * 4 + 3, none⟩ = some (.int .i64 l[j].t)) := fun W h => HSC.out b off j hjl W rfl h
    have HCX := Lib.hid (HAB.out l[j])
    have K1 := HK.out.below (Below.refl _ _).drew
    generalize l[j] = x at *
    by_cases h3 : aheadE (mkE p u n) x
    ·have HP := Lib.hid (HHT.out (decide_eq_true h3))
     rw [decide_eq_true h3] at HCX
     clear HNX HHT HO h3 HAB HSC HNil
     go_wp2_with fail
     go_region_held3 (fun W => W.cell? ⟨g, 0, none⟩ = some (.string p) ∧ W.cell? ⟨g, 1, none⟩ = some (.string u) ∧ W.cell? ⟨g, 2, none⟩ = some (.int .i64 n) ∧ W.cell? ⟨g, 3, none⟩ = some (.int .i64 1099511627776) ∧ W.cell? ⟨b, off + j * 4, none⟩ = some (.string x.w) ∧ W.cell? ⟨b, off + j * 4 + 1, none⟩ = some (.string x.u) ∧ W.cell? ⟨b, off + j * 4 + 2, none⟩ = some (.int .i64 x.f) ∧ W.cell? ⟨b, off + j * 4 + 3, none⟩ = some (.int .i64 x.t))
      (first | exact HP0.out _ K1 | exact HP0.out _ K3)
      (first | (go_at_call 166; refine (HCX.out _).mono ?_; rintro e w3 ⟨rfl, h3⟩; have K3 := K1.below h3))
     have KD := K3.below (Below.refl _ _).drew
     have hcj : ¬ c = j := by omega
     have hcj2 : j < c := by omega
     have hpc : j ≤ c := by omega
     have hz1 : (0 : Int) ≤ (j : Int) := by omega
     have hz2 : (j : Int) ≤ (l.length : Int) := by omega
     have hz3 : (j : Int) ≤ (c : Int) := by omega
     have hz4 : (l.length : Int) ≤ (c : Int) := by omega
     have HAC : Hid (∀ W g1 g2 T, EnSl W (some ⟨b, off, none⟩) l → g1 = W.heap.size → g2 = W.heap.size + 1 → Calls Tryz.prog 167 #[.slice (some ⟨g2, 0, none⟩) 3 3] ((W.alloc (.cells #[.string p, .string u, .int .i64 n, .int .i64 1099511627776] 123)).alloc (.cells #[.slice (some ⟨b, off, none⟩) j c, .slice (some ⟨g1, 0, none⟩) 1 1, .slice (some ⟨b, off + j * 4, none⟩) (l.length - j) (c - j)] T)).drew fun e w' => ∃ v, e = .returned v ∧ w'.ownsRow W.heap.size 123 4 v G.length (ens G) ∧ Below W.heap.size W w') := fun W g1 g2 T hs e1 e2 => by
      have h := econcat3 (some ⟨b, off, none⟩) (some ⟨b, off + j * 4, none⟩) (l.take j) (l.drop j) c (c - j) j (l.length - j) (mkE p u n) W g1 g2 T (by rw [List.length_take]; omega) (by rw [List.length_drop]) (hs.take j) (hs.drop j) (fun h => by cases h) (fun h => by cases h) e1 e2 (by rw [List.length_take, List.length_drop]; omega)
      rw [← HGA.out j HP.out] at h
      exact h
     clear HGA HP HP0
     go_wp2_with fail
     go_region_held3 (fun W => W.cell? ⟨g, 0, none⟩ = some (.string p) ∧ W.cell? ⟨g, 1, none⟩ = some (.string u) ∧ W.cell? ⟨g, 2, none⟩ = some (.int .i64 n) ∧ W.cell? ⟨g, 3, none⟩ = some (.int .i64 1099511627776))
      (first | with_reducible exact HSB.out _ (KD.below (ebelow_one _ _)) | with_reducible exact HSB.out _ ((KD.below (ebelow_one _ _)).below (ebelow_one _ _)) | with_reducible exact HSB.out _ KD | with_reducible exact HSB.out _ KE)
      (first | (go_at_call 167; refine (HAC.out _ _ _ _ K3.row rfl rfl).mono ?_; rintro e w5 ⟨v, rfl, ho5, hb5⟩; have KE := K3.below hb5; have HO5 := Lib.hid ho5; have HB5 := Lib.hid hb5; clear ho5 hb5))
     go_wp2
     go_ret2
     exact Or.inr ⟨by trivial, v, rfl, own_low HO5.out K3.frame.size, KE.frame⟩
    ·have HN := Lib.hid (HNX.out (decide_eq_false h3))
     rw [decide_eq_false h3] at HCX
     clear HNX HHT HO h3 HAB HSC HNil HGA
     go_wp2_with fail
     go_region_held3 (fun W => W.cell? ⟨g, 0, none⟩ = some (.string p) ∧ W.cell? ⟨g, 1, none⟩ = some (.string u) ∧ W.cell? ⟨g, 2, none⟩ = some (.int .i64 n) ∧ W.cell? ⟨g, 3, none⟩ = some (.int .i64 1099511627776) ∧ W.cell? ⟨b, off + j * 4, none⟩ = some (.string x.w) ∧ W.cell? ⟨b, off + j * 4 + 1, none⟩ = some (.string x.u) ∧ W.cell? ⟨b, off + j * 4 + 2, none⟩ = some (.int .i64 x.f) ∧ W.cell? ⟨b, off + j * 4 + 3, none⟩ = some (.int .i64 x.t))
      (first | exact HP0.out _ K1 | exact HP0.out _ K3)
      (first | (go_at_call 166; refine (HCX.out _).mono ?_; rintro e w3 ⟨rfl, h3⟩; have K3 := K1.below h3))
     go_wp2
     go_roundw
     case rel => exact ⟨j + 1, by omega, by go_num, HN, K3⟩
     case measure => simp [intOf]; omega
   ·have hje : j = l.length := by omega
    have HP : Hid (IsFirst (fun x => decide (aheadE (mkE p u n) x)) l j) := by rw [hje] at HO ⊢; exact HO.out.miss
    have hlt : decide ((j : Int) < (l.length : Int)) = false := decide_eq_false (by omega)
    clear HAB HSC HO
    go_wp2_with fail
    refine wp_region_held_drew (S := (fun W => W.cell? ⟨g, 0, none⟩ = some (.string p) ∧ W.cell? ⟨g, 1, none⟩ = some (.string u) ∧ W.cell? ⟨g, 2, none⟩ = some (.int .i64 n) ∧ W.cell? ⟨g, 3, none⟩ = some (.int .i64 1099511627776))) (by kernel_rfl) ?_ (fun hHeld => ?_)
    ·exact HSB.out _ (HK.out.below (Below.refl _ _).drew)
    refine tV 0 17 ?_
    refine tV 1 18 ?_
    refine tV 2 19 ?_
    refine tV 3 20 ?_
    refine tV 4 21 ?_
    refine tU 5 22 ?_
    refine tU 6 23 ?_
    refine tU 7 24 ?_
    refine tU 8 25 ?_
    refine tU 9 26 ?_
    refine tU 10 27 ?_
    refine tU 11 28 ?_
    refine tV 12 29 ?_
    refine wpAnyH_done (by kernel_rfl) ?_ _
    have K3 := HK.out.below (Below.refl _ _).drew
    generalize wr.drew = w3 at *
    clear hlt
    cases a with
    | none =>
     have hc0 := HNil.out rfl
     have hl0 := K3.row.snil
     subst hc0 hl0
     obtain rfl : j = 0 := by simpa using hje
     have KD := K3.below (Below.refl _ _).drew
     have HAC : Hid (∀ W g1 g2 T, EnSl W none [] → g1 = W.heap.size → g2 = W.heap.size + 1 → Calls Tryz.prog 167 #[.slice (some ⟨g2, 0, none⟩) 3 3] ((W.alloc (.cells #[.string p, .string u, .int .i64 n, .int .i64 1099511627776] 123)).alloc (.cells #[.slice none 0 0, .slice (some ⟨g1, 0, none⟩) 1 1, .slice none 0 0] T)).drew fun e w' => ∃ v, e = .returned v ∧ w'.ownsRow W.heap.size 123 4 v G.length (ens G) ∧ Below W.heap.size W w') := fun W g1 g2 T hs e1 e2 => by
      have h := econcat3 none none [] [] 0 0 0 0 (mkE p u n) W g1 g2 T rfl rfl (EnSl.nil _ _) (EnSl.nil _ _) (fun _ => rfl) (fun _ => rfl) e1 e2 (by simp)
      have e0 := HGA.out 0 HP.out
      rw [List.take_nil, List.drop_nil] at e0
      rw [← e0] at h
      exact h
     clear HGA HP HNil hje
     go_wp2_with fail
     go_region_held3 (fun W => W.cell? ⟨g, 0, none⟩ = some (.string p) ∧ W.cell? ⟨g, 1, none⟩ = some (.string u) ∧ W.cell? ⟨g, 2, none⟩ = some (.int .i64 n) ∧ W.cell? ⟨g, 3, none⟩ = some (.int .i64 1099511627776))
      (first | with_reducible exact HSB.out _ (KD.below (ebelow_one _ _)) | with_reducible exact HSB.out _ ((KD.below (ebelow_one _ _)).below (ebelow_one _ _)) | with_reducible exact HSB.out _ KD | with_reducible exact HSB.out _ KE)
      (first | (go_at_call 167; refine (HAC.out _ _ _ _ K3.row rfl rfl).mono ?_; rintro e w5 ⟨v, rfl, ho5, hb5⟩; have KE := K3.below hb5; have HO5 := Lib.hid ho5; have HB5 := Lib.hid hb5; clear ho5 hb5))
     go_wp2
     go_ret2
     exact Or.inr ⟨by trivial, v, rfl, own_low HO5.out K3.frame.size, KE.frame⟩
    | some ad =>
     by_cases hlz : 0 < l.length
     ·obtain ⟨b, off, e, -, -, -, -, -⟩ := K3.row.at_ hlz
      cases e
      have KD := K3.below (Below.refl _ _).drew
      by_cases hcj : c = j
      ·subst hje
       subst hcj
       have HAC : Hid (∀ W g1 g2 T, EnSl W (some ⟨b, off, none⟩) l → g1 = W.heap.size → g2 = W.heap.size + 1 → Calls Tryz.prog 167 #[.slice (some ⟨g2, 0, none⟩) 3 3] ((W.alloc (.cells #[.string p, .string u, .int .i64 n, .int .i64 1099511627776] 123)).alloc (.cells #[.slice (some ⟨b, off, none⟩) l.length l.length, .slice (some ⟨g1, 0, none⟩) 1 1, .slice (some ⟨b, off, none⟩) 0 0] T)).drew fun e w' => ∃ v, e = .returned v ∧ w'.ownsRow W.heap.size 123 4 v G.length (ens G) ∧ Below W.heap.size W w') := fun W g1 g2 T hs e1 e2 => by
        have h := econcat3 (some ⟨b, off, none⟩) (some ⟨b, off, none⟩) l [] l.length 0 l.length 0 (mkE p u n) W g1 g2 T rfl rfl hs (EnSl.nil _ _) (fun h => by cases h) (fun h => by cases h) e1 e2 (by simp; omega)
        have e0 := HGA.out l.length HP.out
        rw [List.take_of_length_le (Nat.le_refl _), List.drop_of_length_le (Nat.le_refl _)] at e0
        rw [← e0] at h
        exact h
       have hz2 : (l.length : Int) ≤ (l.length : Int) := Int.le_refl _
       have hz1 : (0 : Int) ≤ (l.length : Int) := by omega
       clear HGA HP HNil
       go_wp2_with fail
       go_region_held3 (fun W => W.cell? ⟨g, 0, none⟩ = some (.string p) ∧ W.cell? ⟨g, 1, none⟩ = some (.string u) ∧ W.cell? ⟨g, 2, none⟩ = some (.int .i64 n) ∧ W.cell? ⟨g, 3, none⟩ = some (.int .i64 1099511627776))
        (first | with_reducible exact HSB.out _ (KD.below (ebelow_one _ _)) | with_reducible exact HSB.out _ ((KD.below (ebelow_one _ _)).below (ebelow_one _ _)) | with_reducible exact HSB.out _ KD | with_reducible exact HSB.out _ KE)
        (first | (go_at_call 167; refine (HAC.out _ _ _ _ K3.row rfl rfl).mono ?_; rintro e w5 ⟨v, rfl, ho5, hb5⟩; have KE := K3.below hb5; have HO5 := Lib.hid ho5; have HB5 := Lib.hid hb5; clear ho5 hb5))
       go_wp2
       go_ret2
       exact Or.inr ⟨by trivial, v, rfl, own_low HO5.out K3.frame.size, KE.frame⟩
      ·have hcj2 : j < c := by omega
       have hpc : j ≤ c := by omega
       have hz1 : (0 : Int) ≤ (j : Int) := by omega
       have hz2 : (j : Int) ≤ (l.length : Int) := by omega
       have hz3 : (j : Int) ≤ (c : Int) := by omega
       have hz4 : (l.length : Int) ≤ (c : Int) := by omega
       have HAC : Hid (∀ W g1 g2 T, EnSl W (some ⟨b, off, none⟩) l → g1 = W.heap.size → g2 = W.heap.size + 1 → Calls Tryz.prog 167 #[.slice (some ⟨g2, 0, none⟩) 3 3] ((W.alloc (.cells #[.string p, .string u, .int .i64 n, .int .i64 1099511627776] 123)).alloc (.cells #[.slice (some ⟨b, off, none⟩) j c, .slice (some ⟨g1, 0, none⟩) 1 1, .slice (some ⟨b, off + j * 4, none⟩) (l.length - j) (c - j)] T)).drew fun e w' => ∃ v, e = .returned v ∧ w'.ownsRow W.heap.size 123 4 v G.length (ens G) ∧ Below W.heap.size W w') := fun W g1 g2 T hs e1 e2 => by
        have h := econcat3 (some ⟨b, off, none⟩) (some ⟨b, off + j * 4, none⟩) (l.take j) (l.drop j) c (c - j) j (l.length - j) (mkE p u n) W g1 g2 T (by rw [List.length_take]; omega) (by rw [List.length_drop]) (hs.take j) (hs.drop j) (fun h => by cases h) (fun h => by cases h) e1 e2 (by rw [List.length_take, List.length_drop]; omega)
        rw [← HGA.out j HP.out] at h
        exact h
       clear HGA HP HNil hje
       go_wp2_with fail
       go_region_held3 (fun W => W.cell? ⟨g, 0, none⟩ = some (.string p) ∧ W.cell? ⟨g, 1, none⟩ = some (.string u) ∧ W.cell? ⟨g, 2, none⟩ = some (.int .i64 n) ∧ W.cell? ⟨g, 3, none⟩ = some (.int .i64 1099511627776))
        (first | with_reducible exact HSB.out _ (KD.below (ebelow_one _ _)) | with_reducible exact HSB.out _ ((KD.below (ebelow_one _ _)).below (ebelow_one _ _)) | with_reducible exact HSB.out _ KD | with_reducible exact HSB.out _ KE)
        (first | (go_at_call 167; refine (HAC.out _ _ _ _ K3.row rfl rfl).mono ?_; rintro e w5 ⟨v, rfl, ho5, hb5⟩; have KE := K3.below hb5; have HO5 := Lib.hid ho5; have HB5 := Lib.hid hb5; clear ho5 hb5))
       go_wp2
       go_ret2
       exact Or.inr ⟨by trivial, v, rfl, own_low HO5.out K3.frame.size, KE.frame⟩
     ·have hl0 : l = [] := List.eq_nil_of_length_eq_zero (by omega)
      subst hl0
      obtain rfl : j = 0 := by simpa using hje
      have KD := K3.below (Below.refl _ _).drew
      have hz : (0 : Int) ≤ (c : Int) := by omega
      obtain ⟨b, off, sp⟩ := ad
      have HAC : Hid (∀ W g1 g2 T (x y : Addr) (c1 c2 : Nat), EnSl W (some ⟨b, off, sp⟩) [] → g1 = W.heap.size → g2 = W.heap.size + 1 → Calls Tryz.prog 167 #[.slice (some ⟨g2, 0, none⟩) 3 3] ((W.alloc (.cells #[.string p, .string u, .int .i64 n, .int .i64 1099511627776] 123)).alloc (.cells #[.slice (some x) 0 c1, .slice (some ⟨g1, 0, none⟩) 1 1, .slice (some y) 0 c2] T)).drew fun e w' => ∃ v, e = .returned v ∧ w'.ownsRow W.heap.size 123 4 v G.length (ens G) ∧ Below W.heap.size W w') := fun W g1 g2 T x y c1 c2 hs e1 e2 => by
       have h := econcat3 (some x) (some y) [] [] c1 c2 0 0 (mkE p u n) W g1 g2 T rfl rfl (EnSl.nil _ _) (EnSl.nil _ _) (fun h => by cases h) (fun h => by cases h) e1 e2 (by simp)
       have e0 := HGA.out 0 HP.out
       rw [List.take_nil, List.drop_nil] at e0
       rw [← e0] at h
       exact h
      clear HGA HP HNil hje
      by_cases hcp : c = 0
      ·subst hcp
       go_wp2_with fail
       go_region_held3 (fun W => W.cell? ⟨g, 0, none⟩ = some (.string p) ∧ W.cell? ⟨g, 1, none⟩ = some (.string u) ∧ W.cell? ⟨g, 2, none⟩ = some (.int .i64 n) ∧ W.cell? ⟨g, 3, none⟩ = some (.int .i64 1099511627776))
        (first | with_reducible exact HSB.out _ (KD.below (ebelow_one _ _)) | with_reducible exact HSB.out _ ((KD.below (ebelow_one _ _)).below (ebelow_one _ _)) | with_reducible exact HSB.out _ KD | with_reducible exact HSB.out _ KE)
        (first | (go_at_call 167; refine (HAC.out _ _ _ _ _ _ _ _ K3.row rfl rfl).mono ?_; rintro e w5 ⟨v, rfl, ho5, hb5⟩; have KE := K3.below hb5; have HO5 := Lib.hid ho5; have HB5 := Lib.hid hb5; clear ho5 hb5))
       go_wp2
       go_ret2
       exact Or.inr ⟨by trivial, v, rfl, own_low HO5.out K3.frame.size, KE.frame⟩
      ·have hcp2 : 0 < c := by omega
       go_wp2_with fail
       go_region_held3 (fun W => W.cell? ⟨g, 0, none⟩ = some (.string p) ∧ W.cell? ⟨g, 1, none⟩ = some (.string u) ∧ W.cell? ⟨g, 2, none⟩ = some (.int .i64 n) ∧ W.cell? ⟨g, 3, none⟩ = some (.int .i64 1099511627776))
        (first | with_reducible exact HSB.out _ (KD.below (ebelow_one _ _)) | with_reducible exact HSB.out _ ((KD.below (ebelow_one _ _)).below (ebelow_one _ _)) | with_reducible exact HSB.out _ KD | with_reducible exact HSB.out _ KE)
        (first | (go_at_call 167; refine (HAC.out _ _ _ _ _ _ _ _ K3.row rfl rfl).mono ?_; rintro e w5 ⟨v, rfl, ho5, hb5⟩; have KE := K3.below hb5; have HO5 := Lib.hid ho5; have HB5 := Lib.hid hb5; clear ho5 hb5))
       go_wp2
       go_ret2
       exact Or.inr ⟨by trivial, v, rfl, own_low HO5.out K3.frame.size, KE.frame⟩
end Go.Proofs.YtjhdhfokhkcamaaGreat
namespace Go.Proofs.YtjhdhfokhkcamaaGreat
open Go.RowKit Go.Proofs
set_option linter.unusedVariables false
set_option maxRecDepth 100000
theorem tbv_snoc (D : List TbM) (y : TbM) : tbv (D ++ [y]) = tbv D ++ [.string y.u, .int .i64 y.a] := by
 unfold tbv
 rw [List.map_append]
 exact pps_snoc _ _
end Go.Proofs.YtjhdhfokhkcamaaGreat
