/- Texts of mine, one behind the other, of each what is wanted. -/
import Derived.Test.YtapacckmgmdnoaaGreatR00
import Derived.Test.YtapacckmgmdnoaaGreatShelf
import Derived.Test.YtapacckmgmdnoaaGreatRows
import Derived.Test.YtapacckmgmdnoaaGreatR01
import Derived.Test.YtapacckmgmdnoaaGreatR03
import Derived.Test.YtapacckmgmdnoaaGreatR04
import Derived.Test.YtapacckmgmdnoaaGreatR08
import Derived.Test.YtapacckmgmdnoaaGreatR09
import Derived.Test.YtapacckmgmdnoaaGreatR14
import Derived.Test.YtapacckmgmdnoaaGreatR18
import Derived.Test.YtapacckmgmdnoaaGreatR20
import Derived.Test.YtapacckmgmdnoaaGreatR22
import Derived.Test.YtapacckmgmdnoaaGreatR23
import Derived.Test.YtapacckmgmdnoaaGreatR24
import Derived.Test.YtapacckmgmdnoaaGreatR31
import Derived.Test.YtapacckmgmdnoaaGreatTQ
namespace Go.Proofs.YtapacckmgmdnoaaGreat
open Go.RowKit
set_option linter.unusedVariables false
set_option maxRecDepth 100000
set_option maxRecDepth 100000
set_option maxHeartbeats 2000000 in
theorem snews_any (a : Option Addr) (c : Nat) (l : List StM) (w : World) (hr : StSl w a l) (hl : l.length ≤ 1000000) :
  Calls Tryz.prog 73 #[.slice a l.length c] w fun e w' => ∃ (v : Value), e = .returned v ∧ w'.ownsRow w.heap.size 111 4 v l.length (sts l) ∧ Below w.heap.size w w' := by
 obtain ⟨i0, hi, hz0, hz1, hz2⟩ := info_parts infoStay
 have HR := Lib.hid hr
 have HN := Lib.hid new_any
 unfold stV at HN
 clear hr
 go_enter Tryz.func73, Tryz.ntmps73
 go_wp2
 go_loopw [3, 8] (fun v i wr => ∃ (j : Nat), j ≤ l.length ∧ i = .int .i64 j ∧ Hid (wr.ownsRow w.heap.size 111 4 v j (sts (l.take j))) ∧ Hid (Below w.heap.size w wr)) (fun _ i _ => l.length - (intOf i).toNat)
 case atStart => exact ⟨0, by omega, rfl, ⟨rfl, .inl ⟨rfl, rfl⟩⟩, Below.refl _ _⟩
 case round =>
  obtain ⟨j, hj, rfl, HO, HB⟩ := hrel
  by_cases hjl : j < l.length
  ·obtain ⟨b, off, rfl, hbl, hc0, hc1, hc2, hc3⟩ := (HR.out.below HB.out).at_ hjl
   have HC := Lib.hid (sts_take l j hjl)
   generalize l[j] = x at *
   go_wp2_with fail
   refine (HN.out x _).mono ?_
   rintro e w2 ⟨rfl, hg⟩
   have hb1 := hg.below (Nat.le_refl _)
   have hb2 := (below_one wr (.cells #[.int .i64 x.f, .int .i64 x.t, .int .i64 x.n, .int .i64 x.s] 104)).trans (hb1.mono (by rw [size1]; omega))
   have HO2 := Lib.hid (own_below HO.out (hb2.trans ((below_one w2 (.cells #[.int .i64 x.f, .int .i64 x.t, .int .i64 x.n, .int .i64 x.s] 111)).mono hb2.size)))
   have HB2 : Hid (Below w.heap.size w (w2.alloc (.cells #[.int .i64 x.f, .int .i64 x.t, .int .i64 x.n, .int .i64 x.s] 111))) := HB.out.trans ((hb2.trans ((below_one w2 _).mono hb2.size)).mono HB.out.size)
   have HS2 := Lib.hid HB2.out.size
   clear hg hb1 hb2 hc0 hc1 hc2 hc3
   go_wp2_with (at_builtin; refine wpList_append_own _ rfl (.tmp 12) (.tmp 15) 69 rfl w.heap.size 111 i0 _ 4 32 Tryz.underlying69 hi hz0 hz1 hz2 rfl (by decide) _ _ _ rfl HO2.out ⟨w2.heap.size, 0, none⟩ 1 1 [.int .i64 x.f, .int .i64 x.t, .int .i64 x.n, .int .i64 x.s] rfl rfl (news_at _ _ _ _ rfl) (four_one _ _ _ _) (by unfold maxLen; omega) (by omega) HS2.out ?_; intro v' w3 hown' hgrow hiff)
   have HB3 := Lib.hid (app_below HB2.out HS2.out HO2.out hgrow)
   have HO3 := Lib.hid hown'
   clear hown' hgrow hiff HB2 HS2 HO2
   go_wp2
   go_roundw
   case rel => exact ⟨j + 1, by omega, by go_num, (by unfold Hid; rw [HC.out]; exact HO3.out), HB3⟩
   case measure => simp [intOf]; omega
  ·obtain rfl : j = l.length := by omega
   rw [List.take_of_length_le (Nat.le_refl _)] at HO
   go_wp2
   go_ret
   exact ⟨_, rfl, HO.out, HB.out⟩
theorem within_any (n a b : Int) (w : World) : Calls Tryz.prog 214 #[.int .i64 n, .int .i64 a, .int .i64 b] w fun e w' => e = .returned (.bool (decide (a ≤ n) && decide (n ≤ b))) ∧ w' = w := by
 by_cases h1 : a ≤ n
 ·have d1 := decide_eq_true h1
  rw [d1]
  clear h1
  go_enter Tryz.func214, Tryz.ntmps214
  go_wp2
  go_ret
  exact ⟨by simp, rfl⟩
 ·have d1 := decide_eq_false h1
  rw [d1]
  clear h1
  go_enter Tryz.func214, Tryz.ntmps214
  go_wp2
  go_ret
  exact ⟨by simp, rfl⟩
end Go.Proofs.YtapacckmgmdnoaaGreat
namespace Go.Proofs.YtapacckmgmdnoaaGreat
open Go.RowKit Go.Proofs
set_option linter.unusedVariables false
set_option maxRecDepth 100000
set_option maxRecDepth 100000
theorem RsO.at_ {w W : World} {g : Nat} {x : OpM} {b off : Nat} {l : List OpM} (h : RsO w g x (some ⟨b, off, none⟩) l W) {k : Nat} (hk : k < l.length) :
  W.cell? ⟨g, 0, none⟩ = some (.int .i64 x.n) ∧ W.cell? ⟨g, 1, none⟩ = some (.string x.u) ∧ W.cell? ⟨g, 2, none⟩ = some (.int .i64 x.s) ∧ W.cell? ⟨g, 3, none⟩ = some (.int .i64 x.f) ∧ W.cell? ⟨b, off + k * 4, none⟩ = some (.int .i64 l[k].n) ∧ W.cell? ⟨b, off + k * 4 + 1, none⟩ = some (.string l[k].u) ∧ W.cell? ⟨b, off + k * 4 + 2, none⟩ = some (.int .i64 l[k].s) ∧ W.cell? ⟨b, off + k * 4 + 3, none⟩ = some (.int .i64 l[k].f) := by
 obtain ⟨_, _, e, _, h0, h1, h2, h3⟩ := h.row.at_ hk
 cases e
 exact ⟨h.box.1, h.box.2.1, h.box.2.2.1, h.box.2.2.2, h0, h1, h2, h3⟩
end Go.Proofs.YtapacckmgmdnoaaGreat
namespace Go.Proofs.YtapacckmgmdnoaaGreat
open Go.RowKit
set_option linter.unusedVariables false
set_option maxRecDepth 100000
set_option maxRecDepth 100000
set_option maxHeartbeats 2000000 in
theorem onews_any (a : Option Addr) (c : Nat) (l : List OpM) (w : World) (hr : OpSl w a l) (hl : l.length ≤ 1000000) :
  Calls Tryz.prog 71 #[.slice a l.length c] w fun e w' => ∃ (v : Value), e = .returned v ∧ w'.ownsRow w.heap.size 184 4 v l.length (oes l) ∧ Below w.heap.size w w' := by
 obtain ⟨i0, hi, hz0, hz1, hz2⟩ := info_parts infoOp
 have HR := Lib.hid hr
 clear hr
 go_enter Tryz.func71, Tryz.ntmps71
 go_wp2
 go_loopw [3, 8] (fun v i wr => ∃ (j : Nat), j ≤ l.length ∧ i = .int .i64 j ∧ Hid (wr.ownsRow w.heap.size 184 4 v j (oes (l.take j))) ∧ Hid (Below w.heap.size w wr)) (fun _ i _ => l.length - (intOf i).toNat)
 case atStart => exact ⟨0, by omega, rfl, ⟨rfl, .inl ⟨rfl, rfl⟩⟩, Below.refl _ _⟩
 case round =>
  obtain ⟨j, hj, rfl, HO, HB⟩ := hrel
  by_cases hjl : j < l.length
  ·obtain ⟨b, off, rfl, hbl, hc0, hc1, hc2, hc3⟩ := (HR.out.below HB.out).at_ hjl
   have HC := Lib.hid (oes_take l j hjl)
   generalize l[j] = x at *
   have hbt := below_two wr (.cells #[.int .i64 x.n, .string x.u, .int .i64 x.s, .int .i64 x.f] 129) (.cells #[.int .i64 x.n, .string x.u, .int .i64 x.s, .int .i64 x.f] 184)
   have HO2 := Lib.hid (own_below HO.out hbt)
   have HB2 : Hid (Below w.heap.size w ((wr.alloc (.cells #[.int .i64 x.n, .string x.u, .int .i64 x.s, .int .i64 x.f] 129)).alloc (.cells #[.int .i64 x.n, .string x.u, .int .i64 x.s, .int .i64 x.f] 184))) := HB.out.trans (hbt.mono HB.out.size)
   have HS2 := Lib.hid HB2.out.size
   clear hbt
   go_wp2_with (at_builtin; refine wpList_append_own _ rfl (.tmp 12) (.tmp 14) 34 rfl w.heap.size 184 i0 _ 4 40 Tryz.underlying34 hi hz0 hz1 hz2 rfl (by decide) _ _ _ rfl HO2.out ⟨wr.heap.size + 1, 0, none⟩ 1 1 [.int .i64 x.n, .string x.u, .int .i64 x.s, .int .i64 x.f] rfl rfl (news_at _ _ _ _ (size1 _ _).symm) (four_o _ _ _ _) (by unfold maxLen; omega) (by omega) HS2.out ?_; intro v' w3 hown' hgrow hiff)
   have HB3 := Lib.hid (app_below HB2.out HS2.out HO2.out hgrow)
   have HO3 := Lib.hid hown'
   clear hown' hgrow hiff HB2 HS2 HO2
   go_wp2
   go_roundw
   case rel => exact ⟨j + 1, by omega, by go_num, (by unfold Hid; rw [HC.out]; exact HO3.out), HB3⟩
   case measure => simp [intOf]; omega
  ·obtain rfl : j = l.length := by omega
   rw [List.take_of_length_le (Nat.le_refl _)] at HO
   go_wp2
   go_ret
   exact ⟨_, rfl, HO.out, HB.out⟩
end Go.Proofs.YtapacckmgmdnoaaGreat
namespace Go.Proofs.YtapacckmgmdnoaaGreat
open Go.RowKit Go.Sort Go.Proofs
set_option linter.unusedVariables false
set_option maxRecDepth 100000
set_option maxRecDepth 100000
def SzO (l : List OpM) : Prop := ∀ e ∈ l, e.u.size ≤ maxLen
theorem okO_iff (e : OpM) : decide (OkO e) = (((nameO e.u && (decide (1 ≤ e.n) && decide (e.n ≤ 999))) && (decide (1 ≤ e.s) && decide (e.s ≤ 4))) && (decide (0 ≤ e.f) && decide (e.f ≤ 1099511627775))) := by
 rw [Bool.eq_iff_iff, decide_eq_true_iff]
 simp only [Bool.and_eq_true, decide_eq_true_eq]
 unfold OkO
 constructor
 ·rintro ⟨h1, h2, h3, h4, h5, h6, h7⟩
  exact ⟨⟨⟨h1, h2, h3⟩, h4, h5⟩, h6, h7⟩
 ·rintro ⟨⟨⟨h1, h2, h3⟩, h4, h5⟩, h6, h7⟩
  exact ⟨h1, h2, h3, h4, h5, h6, h7⟩
set_option maxHeartbeats 4000000 in
theorem oright_any (e : OpM) (w : World) (hs : e.u.size ≤ maxLen) : Calls Tryz.prog 170 #[opV e] w fun r w' => r = .returned (.bool (decide (OkO e))) ∧ Below w.heap.size w w' := by
 rw [okO_iff]
 have HR : Hid (∀ W, Calls Tryz.prog 173 #[.string e.u] W fun r w' => r = .returned (.bool (nameO e.u)) ∧ W = w') := fun W => right_any e.u W hs
 have HW := Lib.hid within_any
 have HB := Lib.hid (below_one w (.cells #[.int .i64 e.n, .string e.u, .int .i64 e.s, .int .i64 e.f] 184))
 obtain ⟨d0, d1, d2, d3⟩ := cells4 (heap_alloc_new w (.cells #[.int .i64 e.n, .string e.u, .int .i64 e.s, .int .i64 e.f] 184))
 unfold opV
 clear hs
 generalize nameO e.u = b0 at *
 have HW1 : Hid (∀ W, Calls Tryz.prog 214 #[.int .i64 e.n, .int .i64 1, .int .i64 999] W fun r w' => r = .returned (.bool (decide (1 ≤ e.n) && decide (e.n ≤ 999))) ∧ w' = W) := fun W => HW.out _ _ _ W
 have HW2 : Hid (∀ W, Calls Tryz.prog 214 #[.int .i64 e.s, .int .i64 1, .int .i64 4] W fun r w' => r = .returned (.bool (decide (1 ≤ e.s) && decide (e.s ≤ 4))) ∧ w' = W) := fun W => HW.out _ _ _ W
 have HW3 : Hid (∀ W, Calls Tryz.prog 214 #[.int .i64 e.f, .int .i64 0, .int .i64 1099511627775] W fun r w' => r = .returned (.bool (decide (0 ≤ e.f) && decide (e.f ≤ 1099511627775))) ∧ w' = W) := fun W => HW.out _ _ _ W
 clear HW
 generalize (decide (1 ≤ e.n) && decide (e.n ≤ 999)) = b1 at *
 generalize (decide (1 ≤ e.s) && decide (e.s ≤ 4)) = b2 at *
 generalize (decide (0 ≤ e.f) && decide (e.f ≤ 1099511627775)) = b3 at *
 cases b0 with
 | false =>
  go_enter Tryz.func170, Tryz.ntmps170
  go_wp2_with fail
  refine (HR.out _).mono ?_
  rintro r w1 ⟨rfl, rfl⟩
  go_wp2
  go_ret
  exact ⟨by simp, HB.out⟩
 | true =>
  cases b1 with
  | false =>
   go_enter Tryz.func170, Tryz.ntmps170
   go_wp2_with fail
   refine (HR.out _).mono ?_
   rintro r w1 ⟨rfl, rfl⟩
   go_wp2_with fail
   refine (HW1.out _).mono ?_
   rintro r w1 ⟨rfl, rfl⟩
   go_wp2
   go_ret
   exact ⟨by simp, HB.out⟩
  | true =>
   cases b2 with
   | false =>
    go_enter Tryz.func170, Tryz.ntmps170
    go_wp2_with fail
    refine (HR.out _).mono ?_
    rintro r w1 ⟨rfl, rfl⟩
    go_wp2_with fail
    refine (HW1.out _).mono ?_
    rintro r w1 ⟨rfl, rfl⟩
    go_wp2_with fail
    refine (HW2.out _).mono ?_
    rintro r w1 ⟨rfl, rfl⟩
    go_wp2
    go_ret
    exact ⟨by simp, HB.out⟩
   | true =>
    go_enter Tryz.func170, Tryz.ntmps170
    go_wp2_with fail
    refine (HR.out _).mono ?_
    rintro r w1 ⟨rfl, rfl⟩
    go_wp2_with fail
    refine (HW1.out _).mono ?_
    rintro r w1 ⟨rfl, rfl⟩
    go_wp2_with fail
    refine (HW2.out _).mono ?_
    rintro r w1 ⟨rfl, rfl⟩
    go_wp2_with fail
    refine (HW3.out _).mono ?_
    rintro r w1 ⟨rfl, rfl⟩
    go_wp2
    go_ret
    exact ⟨by simp, HB.out⟩
def RiTo (l : List OpM) (j : Nat) : Prop := ∀ k (h : k < l.length), k < j → OkO l[k] ∧ (0 < k → (l[k - 1]'(by omega)).n < l[k].n)
theorem RiTo.zero (l : List OpM) : RiTo l 0 := fun k _ h => absurd h (by omega)
theorem RiTo.next {l : List OpM} {j : Nat} (h : RiTo l j) (hj : j < l.length) (h1 : OkO l[j]) (h2 : 0 < j → (l[j - 1]'(by omega)).n < l[j].n) : RiTo l (j + 1) := fun k hk hkj => by
 rcases Nat.lt_or_ge k j with h3 | h3
 ·exact h k hk h3
 ·obtain rfl : k = j := by omega
  exact ⟨h1, h2⟩
theorem rise_yes {l : List OpM} (h0 : l.length ≤ 16) (h : RiTo l l.length) : decide (RiseO l) = true := decide_eq_true ⟨h0, fun k hk => h k hk hk⟩
theorem rise_no1 {l : List OpM} {j : Nat} (hj : j < l.length) (h : ¬ OkO l[j]) : decide (RiseO l) = false := decide_eq_false fun hr => h (hr.2 j hj).1
theorem rise_no2 {l : List OpM} {j : Nat} (hj : j < l.length) (h0 : 0 < j) (h : ¬ (l[j - 1]'(by omega)).n < l[j].n) : decide (RiseO l) = false := decide_eq_false fun hr => h ((hr.2 j hj).2 h0)
theorem rise_no3 {l : List OpM} (h : 16 < l.length) : decide (RiseO l) = false := decide_eq_false fun hr => by have := hr.1; omega
set_option maxHeartbeats 8000000 in
theorem orising_any (a : Option Addr) (c : Nat) (l : List OpM) (w : World) (hr : OpSl w a l) (hsz : SzO l) (hl : l.length ≤ 1000000) :
  Calls Tryz.prog 113 #[.slice a l.length c] w fun e w' => e = .returned (.bool (decide (RiseO l))) ∧ Below w.heap.size w w' := by
 have HR := Lib.hid hr
 have HRT := Lib.hid (fun x (h : x ∈ l) W => oright_any x W (hsz x h))
 unfold opV at HRT
 clear hr hsz
 by_cases h16 : 16 < l.length
 ·have d1 : decide ((16 : Int) < (l.length : Int)) = true := decide_eq_true (by omega)
  have d2 : decide ((l.length : Int) > (16 : Int)) = true := decide_eq_true (by omega)
  have HF := Lib.hid (rise_no3 h16)
  clear HRT HR
  go_enter Tryz.func113, Tryz.ntmps113
  go_wp2
  go_ret
  exact ⟨by rw [HF.out]; rfl, Below.refl _ _⟩
 ·have d1 : decide ((16 : Int) < (l.length : Int)) = false := decide_eq_false (by omega)
  have d2 : decide ((l.length : Int) > (16 : Int)) = false := decide_eq_false (by omega)
  have HY := Lib.hid (fun h => rise_yes (l := l) (by omega) h)
  go_enter Tryz.func113, Tryz.ntmps113
  go_wp2
  clear d1 d2
  go_loopw [10] (fun i wr => ∃ (j : Nat), j ≤ l.length ∧ i = .int .i64 j ∧ Hid (RiTo l j) ∧ Hid (Below w.heap.size w wr)) (fun i _ => l.length - (intOf i).toNat)
  case atStart => exact ⟨0, by omega, rfl, RiTo.zero _, Below.refl _ _⟩
  case round =>
   obtain ⟨j, hj, rfl, HO, HB⟩ := hrel
   by_cases hjl : j < l.length
   ·obtain ⟨b, off, rfl, hbl, hc0, hc1, hc2, hc3⟩ := (HR.out.below HB.out).at_ hjl
    have HK := Lib.hid (RsO.new (x := l[j]) (HR.out.below HB.out) HB.out 184)
    have HNX := Lib.hid (HO.out.next hjl)
    have HRX := Lib.hid (HRT.out l[j] (List.getElem_mem hjl))
    clear HRT HY
    by_cases h1 : OkO l[j]
    ·rw [decide_eq_true h1] at HRX
     have HNX2 := Lib.hid (HNX.out h1)
     by_cases h0 : 0 < j
     ·obtain ⟨k, hk⟩ : ∃ k, j = k + 1 := ⟨j - 1, by omega⟩
      have hkl : k < l.length := by omega
      have hpw : IntKind.i64.wrap ((j : Int) - 1) = (k : Int) := by rw [IntWalk.i64_in] <;> omega
      have hgt : decide ((0 : Int) < (j : Int)) = true := decide_eq_true (by omega)
      have HP0 : Hid (∀ W, RsO w wr.heap.size l[j] (some ⟨b, off, none⟩) l W → W.cell? ⟨wr.heap.size, 0, none⟩ = some (.int .i64 l[j].n) ∧ W.cell? ⟨wr.heap.size, 1, none⟩ = some (.string l[j].u) ∧ W.cell? ⟨wr.heap.size, 2, none⟩ = some (.int .i64 l[j].s) ∧ W.cell? ⟨wr.heap.size, 3, none⟩ = some (.int .i64 l[j].f) ∧ W.cell? ⟨b, off + k * 4, none⟩ = some (.int .i64 l[k].n)) := fun W h => by
       obtain ⟨p0, p1, p2, p3, p4, -⟩ := h.at_ hkl
       exact ⟨p0, p1, p2, p3, p4⟩
      have hkp : ∀ h, l[j - 1]'h = l[k] := fun h => by congr 1; omega
      have HNX3 : Hid (l[k].n < l[j].n → RiTo l (j + 1)) := fun h => HNX2.out (fun _ => by rw [hkp]; exact h)
      have HNP3 : Hid (¬ l[k].n < l[j].n → decide (RiseO l) = false) := fun h => rise_no2 hjl h0 (by rw [hkp]; exact h)
      clear HNX HNX2 hkp hk h1
      generalize l[k] = y at *
      generalize l[j] = x at *
      by_cases h3 : y.n < x.n
      ·have HN := Lib.hid (HNX3.out h3)
       have d3 : decide (x.n ≤ y.n) = false := decide_eq_false (by omega)
       clear HNX3 HNP3 h3
       go_wp2_with fail
       generalize wr.alloc (.cells #[.int .i64 x.n, .string x.u, .int .i64 x.s, .int .i64 x.f] 184) = W at *
       generalize wr.heap.size = g at *
       refine wp_region_held_drew (S := (fun W => W.cell? ⟨g, 0, none⟩ = some (.int .i64 x.n) ∧ W.cell? ⟨g, 1, none⟩ = some (.string x.u) ∧ W.cell? ⟨g, 2, none⟩ = some (.int .i64 x.s) ∧ W.cell? ⟨g, 3, none⟩ = some (.int .i64 x.f) ∧ W.cell? ⟨b, off + k * 4, none⟩ = some (.int .i64 y.n))) (by kernel_rfl) ?_ (fun hHeld => ?_)
       ·exact HP0.out _ (HK.out.below (Below.refl _ _).drew)
       refine tV 0 15 ?_
       refine wpAnyH_ready (rs := [1]) (by kernel_rfl) (by simp) ?_
       refine AllReadyH.cons (o := ⟨some 16, _, _, _, _, _⟩) rfl (fun K hK => ?_) AllReadyH.nil
       go_simp
       refine (HRX.out _).mono ?_
       rintro e w3 ⟨rfl, h3⟩
       have K3 := (HK.out.below (Below.refl _ _).drew).below h3
       go_wp2_with fail
       refine hK.out _ _ ?_ (fun hH1 => ?_)
       ·exact HP0.out _ K3
       clear hK K
       (try simp only [Act.put, List.setIfInBounds_toArray, List.set_cons_zero, List.set_cons_succ])
       refine tV 2 17 ?_
       refine tV 3 18 ?_
       refine tV 4 19 ?_
       refine tV 5 20 ?_
       refine tV 6 21 ?_
       refine tV 7 22 ?_
       refine tV 8 23 ?_
       refine tV 9 24 ?_
       refine tV 10 25 ?_
       refine tV 11 26 ?_
       refine tV 12 27 ?_
       refine tV 13 28 ?_
       refine tV 14 29 ?_
       refine tV 15 30 ?_
       refine tV 16 31 ?_
       refine tV 17 32 ?_
       refine wpAnyH_done (by kernel_rfl) ?_ _
       all_goals
        go_wp2
        go_roundw
        case rel => exact ⟨j + 1, by omega, by go_num, HN, K3.frame⟩
        case measure => simp [intOf]; omega
      ·have HF := Lib.hid (HNP3.out h3)
       have d3 : decide (x.n ≤ y.n) = true := decide_eq_true (by omega)
       clear HNX3 HNP3 h3
       go_wp2_with fail
       generalize wr.alloc (.cells #[.int .i64 x.n, .string x.u, .int .i64 x.s, .int .i64 x.f] 184) = W at *
       generalize wr.heap.size = g at *
       refine wp_region_held_drew (S := (fun W => W.cell? ⟨g, 0, none⟩ = some (.int .i64 x.n) ∧ W.cell? ⟨g, 1, none⟩ = some (.string x.u) ∧ W.cell? ⟨g, 2, none⟩ = some (.int .i64 x.s) ∧ W.cell? ⟨g, 3, none⟩ = some (.int .i64 x.f) ∧ W.cell? ⟨b, off + k * 4, none⟩ = some (.int .i64 y.n))) (by kernel_rfl) ?_ (fun hHeld => ?_)
       ·exact HP0.out _ (HK.out.below (Below.refl _ _).drew)
       refine tV 0 15 ?_
       refine wpAnyH_ready (rs := [1]) (by kernel_rfl) (by simp) ?_
       refine AllReadyH.cons (o := ⟨some 16, _, _, _, _, _⟩) rfl (fun K hK => ?_) AllReadyH.nil
       go_simp
       refine (HRX.out _).mono ?_
       rintro e w3 ⟨rfl, h3⟩
       have K3 := (HK.out.below (Below.refl _ _).drew).below h3
       go_wp2_with fail
       refine hK.out _ _ ?_ (fun hH1 => ?_)
       ·exact HP0.out _ K3
       clear hK K
       (try simp only [Act.put, List.setIfInBounds_toArray, List.set_cons_zero, List.set_cons_succ])
       refine tV 2 17 ?_
       refine tV 3 18 ?_
       refine tV 4 19 ?_
       refine tV 5 20 ?_
       refine tV 6 21 ?_
       refine tV 7 22 ?_
       refine tV 8 23 ?_
       refine tV 9 24 ?_
       refine tV 10 25 ?_
       refine tV 11 26 ?_
       refine tV 12 27 ?_
       refine tV 13 28 ?_
       refine tV 14 29 ?_
       refine tV 15 30 ?_
       refine tV 16 31 ?_
       refine tV 17 32 ?_
       refine wpAnyH_done (by kernel_rfl) ?_ _
       all_goals
        go_wp2
        go_ret
        exact ⟨by rw [HF.out]; rfl, K3.frame⟩
     ·have HN := Lib.hid (HNX2.out (fun h => absurd h h0))
      have hgt : decide ((0 : Int) < (j : Int)) = false := decide_eq_false (by omega)
      clear HNX HNX2 h1
      generalize l[j] = x at *
      go_wp2_with fail
      generalize wr.alloc (.cells #[.int .i64 x.n, .string x.u, .int .i64 x.s, .int .i64 x.f] 184) = W at *
      generalize wr.heap.size = g at *
      refine wp_region_held_drew (S := (fun W => W.cell? ⟨g, 0, none⟩ = some (.int .i64 x.n) ∧ W.cell? ⟨g, 1, none⟩ = some (.string x.u) ∧ W.cell? ⟨g, 2, none⟩ = some (.int .i64 x.s) ∧ W.cell? ⟨g, 3, none⟩ = some (.int .i64 x.f))) (by kernel_rfl) ?_ (fun hHeld => ?_)
      ·exact (HK.out.below (Below.refl _ _).drew).box
      refine tV 0 15 ?_
      refine wpAnyH_ready (rs := [1]) (by kernel_rfl) (by simp) ?_
      refine AllReadyH.cons (o := ⟨some 16, _, _, _, _, _⟩) rfl (fun K hK => ?_) AllReadyH.nil
      go_simp
      refine (HRX.out _).mono ?_
      rintro e w3 ⟨rfl, h3⟩
      have K3 := (HK.out.below (Below.refl _ _).drew).below h3
      go_wp2_with fail
      refine hK.out _ _ ?_ (fun hH1 => ?_)
      ·exact K3.box
      clear hK K
      (try simp only [Act.put, List.setIfInBounds_toArray, List.set_cons_zero, List.set_cons_succ])
      refine tV 2 17 ?_
      refine tV 3 18 ?_
      refine tV 4 19 ?_
      refine tV 5 20 ?_
      refine tV 6 21 ?_
      refine tU 7 22 ?_
      refine tU 8 23 ?_
      refine tU 9 24 ?_
      refine tU 10 25 ?_
      refine tU 11 26 ?_
      refine tU 12 27 ?_
      refine tU 13 28 ?_
      refine tU 14 29 ?_
      refine tU 15 30 ?_
      refine tV 16 31 ?_
      refine tV 17 32 ?_
      refine wpAnyH_done (by kernel_rfl) ?_ _
      all_goals
       go_wp2
       go_roundw
       case rel => exact ⟨j + 1, by omega, by go_num, HN, K3.frame⟩
       case measure => simp [intOf]; omega
    ·have HF := Lib.hid (rise_no1 hjl h1)
     rw [decide_eq_false h1] at HRX
     clear HNX h1
     generalize l[j] = x at *
     go_wp2_with fail
     generalize wr.alloc (.cells #[.int .i64 x.n, .string x.u, .int .i64 x.s, .int .i64 x.f] 184) = W at *
     generalize wr.heap.size = g at *
     refine wp_region_held_drew (S := (fun W => W.cell? ⟨g, 0, none⟩ = some (.int .i64 x.n) ∧ W.cell? ⟨g, 1, none⟩ = some (.string x.u) ∧ W.cell? ⟨g, 2, none⟩ = some (.int .i64 x.s) ∧ W.cell? ⟨g, 3, none⟩ = some (.int .i64 x.f))) (by kernel_rfl) ?_ (fun hHeld => ?_)
     ·exact (HK.out.below (Below.refl _ _).drew).box
     refine tV 0 15 ?_
     refine wpAnyH_ready (rs := [1]) (by kernel_rfl) (by simp) ?_
     refine AllReadyH.cons (o := ⟨some 16, _, _, _, _, _⟩) rfl (fun K hK => ?_) AllReadyH.nil
     go_simp
     refine (HRX.out _).mono ?_
     rintro e w3 ⟨rfl, h3⟩
     have K3 := (HK.out.below (Below.refl _ _).drew).below h3
     go_wp2_with fail
     refine hK.out _ _ ?_ (fun hH1 => ?_)
     ·exact K3.box
     clear hK K
     (try simp only [Act.put, List.setIfInBounds_toArray, List.set_cons_zero, List.set_cons_succ])
     refine tV 2 17 ?_
     refine tV 3 18 ?_
     refine tU 4 19 ?_
     refine tU 5 20 ?_
     refine tU 6 21 ?_
     refine tU 7 22 ?_
     refine tU 8 23 ?_
     refine tU 9 24 ?_
     refine tU 10 25 ?_
     refine tU 11 26 ?_
     refine tU 12 27 ?_
     refine tU 13 28 ?_
     refine tU 14 29 ?_
     refine tU 15 30 ?_
     refine tU 16 31 ?_
     refine tV 17 32 ?_
     refine wpAnyH_done (by kernel_rfl) ?_ _
     all_goals
      go_wp2
      go_ret
      exact ⟨by rw [HF.out]; rfl, K3.frame⟩
   ·obtain rfl : j = l.length := by omega
    have HE := Lib.hid (HY.out HO.out)
    go_wp2
    go_ret
    exact ⟨by rw [HE.out]; rfl, HB.out⟩
set_option maxHeartbeats 8000000 in
theorem rrising_any (a : Option Addr) (c : Nat) (l : List OpM) (w : World) (hr : OpSl w a l) (hsz : SzO l) (hl : l.length ≤ 1000000) :
  Calls Tryz.prog 66 #[.slice a l.length c] w fun e w' => e = .returned (.bool (decide (RiseO l))) ∧ Below w.heap.size w w' := by
 have HR := Lib.hid hr
 have HRT : Hid (∀ x (h : x ∈ l) W, Calls Tryz.prog 36 #[.string x.u] W fun e w' => e = .returned (.bool (nameO x.u)) ∧ W = w') := fun x h W => refRight_any x.u W (hsz x h)
 clear hr hsz
 by_cases h16 : 16 < l.length
 ·have d1 : decide ((16 : Int) < (l.length : Int)) = true := decide_eq_true (by omega)
  have d2 : decide ((l.length : Int) > (16 : Int)) = true := decide_eq_true (by omega)
  have HF := Lib.hid (rise_no3 h16)
  clear HRT HR
  go_enter Tryz.func66, Tryz.ntmps66
  go_wp2
  go_ret
  exact ⟨by rw [HF.out]; rfl, Below.refl _ _⟩
 ·have d1 : decide ((16 : Int) < (l.length : Int)) = false := decide_eq_false (by omega)
  have d2 : decide ((l.length : Int) > (16 : Int)) = false := decide_eq_false (by omega)
  have HY := Lib.hid (fun h => rise_yes (l := l) (by omega) h)
  go_enter Tryz.func66, Tryz.ntmps66
  go_wp2
  clear d1 d2
  go_loopw [3] (fun i wr => ∃ (j : Nat), j ≤ l.length ∧ i = .int .i64 j ∧ Hid (RiTo l j) ∧ Hid (Below w.heap.size w wr)) (fun i _ => l.length - (intOf i).toNat)
  case atStart => exact ⟨0, by omega, rfl, RiTo.zero _, Below.refl _ _⟩
  case round =>
   obtain ⟨j, hj, rfl, HO, HB⟩ := hrel
   by_cases hjl : j < l.length
   ·obtain ⟨b, off, rfl, hbl, hc0, hc1, hc2, hc3⟩ := (HR.out.below HB.out).at_ hjl
    have HK := Lib.hid (RsO.new (x := l[j]) (HR.out.below HB.out) HB.out 129)
    have HNX := Lib.hid (HO.out.next hjl)
    have HRX := Lib.hid (HRT.out l[j] (List.getElem_mem hjl))
    obtain ⟨e0, e1, e2, e3⟩ := HK.out.box
    clear HRT HY
    cases hn : nameO l[j].u with
    | false =>
     have HF := Lib.hid (rise_no1 hjl (fun h => by rw [h.1] at hn; cases hn))
     rw [hn] at HRX
     clear HNX hn
     generalize l[j] = x at *
     go_wp2_with fail
     refine (HRX.out _).mono ?_
     rintro e w3 ⟨rfl, rfl⟩
     go_wp2
     go_ret
     exact ⟨by rw [HF.out]; rfl, HK.out.frame⟩
    | true =>
     rw [hn] at HRX
     have HNO := Lib.hid (fun h => rise_no1 hjl h)
     have HYE : Hid (1 ≤ l[j].n → l[j].n ≤ 999 → 1 ≤ l[j].s → l[j].s ≤ 4 → 0 ≤ l[j].f → l[j].f ≤ 1099511627775 → OkO l[j]) := fun h1 h2 h3 h4 h5 h6 => ⟨hn, h1, h2, h3, h4, h5, h6⟩
     have HN2 := Lib.hid (fun h0 h => rise_no2 hjl h0 h)
     clear hn
     by_cases c0 : l[j].n < 1
     ·have HF := Lib.hid (HNO.out (fun h => by have := h.2.1; omega))
      have g0 := decide_eq_true c0
      clear HNX HNO HYE HN2 c0
      generalize l[j] = x at *
      go_wp2_with fail
      refine (HRX.out _).mono ?_
      rintro e w3 ⟨rfl, rfl⟩
      go_wp2
      go_ret
      exact ⟨by rw [HF.out]; rfl, HK.out.frame⟩
     ·have g0 := decide_eq_false c0
      by_cases c1 : 999 < l[j].n
      ·have HF := Lib.hid (HNO.out (fun h => by have := h.2.2.1; omega))
       have g1 := decide_eq_true c1
       clear HNX HNO HYE HN2 c1
       generalize l[j] = x at *
       go_wp2_with fail
       refine (HRX.out _).mono ?_
       rintro e w3 ⟨rfl, rfl⟩
       go_wp2
       go_ret
       exact ⟨by rw [HF.out]; rfl, HK.out.frame⟩
      ·have g1 := decide_eq_false c1
       by_cases c2 : l[j].s < 1
       ·have HF := Lib.hid (HNO.out (fun h => by have := h.2.2.2.1; omega))
        have g2 := decide_eq_true c2
        clear HNX HNO HYE HN2 c2
        generalize l[j] = x at *
        go_wp2_with fail
        refine (HRX.out _).mono ?_
        rintro e w3 ⟨rfl, rfl⟩
        go_wp2
        go_ret
        exact ⟨by rw [HF.out]; rfl, HK.out.frame⟩
       ·have g2 := decide_eq_false c2
        by_cases c3 : 4 < l[j].s
        ·have HF := Lib.hid (HNO.out (fun h => by have := h.2.2.2.2.1; omega))
         have g3 := decide_eq_true c3
         clear HNX HNO HYE HN2 c3
         generalize l[j] = x at *
         go_wp2_with fail
         refine (HRX.out _).mono ?_
         rintro e w3 ⟨rfl, rfl⟩
         go_wp2
         go_ret
         exact ⟨by rw [HF.out]; rfl, HK.out.frame⟩
        ·have g3 := decide_eq_false c3
         by_cases c4 : l[j].f < 0
         ·have HF := Lib.hid (HNO.out (fun h => by have := h.2.2.2.2.2.1; omega))
          have g4 := decide_eq_true c4
          clear HNX HNO HYE HN2 c4
          generalize l[j] = x at *
          go_wp2_with fail
          refine (HRX.out _).mono ?_
          rintro e w3 ⟨rfl, rfl⟩
          go_wp2
          go_ret
          exact ⟨by rw [HF.out]; rfl, HK.out.frame⟩
         ·have g4 := decide_eq_false c4
          by_cases c5 : 1099511627776 ≤ l[j].f
          ·have HF := Lib.hid (HNO.out (fun h => by have := h.2.2.2.2.2.2; omega))
           have g5 := decide_eq_true c5
           clear HNX HNO HYE HN2 c5
           generalize l[j] = x at *
           go_wp2_with fail
           refine (HRX.out _).mono ?_
           rintro e w3 ⟨rfl, rfl⟩
           go_wp2
           go_ret
           exact ⟨by rw [HF.out]; rfl, HK.out.frame⟩
          ·have g5 := decide_eq_false c5
           have HNX2 := Lib.hid (HNX.out (HYE.out (by omega) (by omega) (by omega) (by omega) (by omega) (by omega)))
           clear HNX HNO HYE c0 c1 c2 c3 c4 c5
           by_cases h0 : 0 < j
           ·obtain ⟨k, hk⟩ : ∃ k, j = k + 1 := ⟨j - 1, by omega⟩
            have hkl : k < l.length := by omega
            have hpw : IntKind.i64.wrap ((j : Int) - 1) = (k : Int) := by rw [IntWalk.i64_in] <;> omega
            have hgt : decide ((0 : Int) < (j : Int)) = true := decide_eq_true (by omega)
            obtain ⟨-, -, -, -, p4, -, -, -⟩ := HK.out.at_ hkl
            have hkp : ∀ h, l[j - 1]'h = l[k] := fun h => by congr 1; omega
            have HNX3 : Hid (l[k].n < l[j].n → RiTo l (j + 1)) := fun h => HNX2.out (fun _ => by rw [hkp]; exact h)
            have HNP3 : Hid (¬ l[k].n < l[j].n → decide (RiseO l) = false) := fun h => HN2.out h0 (by rw [hkp]; exact h)
            clear HNX2 HN2 hkp hk
            generalize l[k] = y at *
            generalize l[j] = x at *
            by_cases h3 : y.n < x.n
            ·have HN := Lib.hid (HNX3.out h3)
             have d3 : decide (x.n ≤ y.n) = false := decide_eq_false (by omega)
             clear HNX3 HNP3 h3
             go_wp2_with fail
             refine (HRX.out _).mono ?_
             rintro e w3 ⟨rfl, rfl⟩
             go_wp2
             go_quiet (fail)
             go_wp2
             go_roundw
             case rel => exact ⟨j + 1, by omega, by go_num, HN, HK.out.frame.trans (Drew.below ⟨_, rfl⟩ _)⟩
             case measure => simp [intOf]; omega
            ·have HF := Lib.hid (HNP3.out h3)
             have d3 : decide (x.n ≤ y.n) = true := decide_eq_true (by omega)
             clear HNX3 HNP3 h3
             go_wp2_with fail
             refine (HRX.out _).mono ?_
             rintro e w3 ⟨rfl, rfl⟩
             go_wp2
             go_quiet (fail)
             go_wp2
             go_ret
             exact ⟨by rw [HF.out]; rfl, HK.out.frame.trans (Drew.below ⟨_, rfl⟩ _)⟩
           ·have HN := Lib.hid (HNX2.out (fun h => absurd h h0))
            have hgt : decide ((0 : Int) < (j : Int)) = false := decide_eq_false (by omega)
            clear HNX2 HN2
            generalize l[j] = x at *
            go_wp2_with fail
            refine (HRX.out _).mono ?_
            rintro e w3 ⟨rfl, rfl⟩
            go_wp2
            go_quiet (fail)
            go_wp2
            go_roundw
            case rel => exact ⟨j + 1, by omega, by go_num, HN, HK.out.frame.trans (Drew.below ⟨_, rfl⟩ _)⟩
            case measure => simp [intOf]; omega
   ·obtain rfl : j = l.length := by omega
    have HE := Lib.hid (HY.out HO.out)
    go_wp2
    go_ret
    exact ⟨by rw [HE.out]; rfl, HB.out⟩
end Go.Proofs.YtapacckmgmdnoaaGreat
namespace Go.Proofs.YtapacckmgmdnoaaGreat
open Go.RowKit
set_option linter.unusedVariables false
set_option maxRecDepth 100000
set_option maxRecDepth 100000
theorem o_news (a : Option Addr) (c : Nat) (l : List OpM) (W : World) (h : OpSl W a l) (hl : l.length ≤ 1000) : Calls Tryz.prog 71 #[.slice a l.length c] W fun e w' => ∃ x q, e = .returned (.slice x l.length q) ∧ l.length ≤ q ∧ q ≤ maxLen ∧ (x = none → q = 0) ∧ OpSl w' x l ∧ Below W.heap.size W w' := by
 refine (onews_any a c l W h (by omega)).mono ?_
 rintro e w' ⟨v, rfl, ho, hb⟩
 obtain ⟨x, q, rfl, h1, h2, h3, h4⟩ := own_op ho
 exact ⟨x, q, rfl, h1, h2, h4, h3, hb⟩
theorem o_rrising (a : Option Addr) (c : Nat) (l : List OpM) (W : World) (h : OpSl W a l) (hs : SzO l) (hl : l.length ≤ 1000) : Calls Tryz.prog 66 #[.slice a l.length c] W fun e w' => e = .returned (.bool (decide (RiseO l))) ∧ Below W.heap.size W w' := rrising_any a c l W h hs (by omega)
end Go.Proofs.YtapacckmgmdnoaaGreat
namespace Go.Proofs.YtapacckmgmdnoaaGreat
open Go.ChangeShapes Go.WideShapes Go.ChangeAt Go.RowKit
set_option linter.unusedVariables false
set_option maxRecDepth 100000
set_option maxRecDepth 100000
theorem wf64 {n : Int} (h : (Lit.int .i64 n).wf = true) : I64 n := by
 have e1 : IntKind.i64.min = -9223372036854775808 := by decide
 have e2 : IntKind.i64.max = 9223372036854775807 := by decide
 have h' : (decide (IntKind.i64.min ≤ n) && decide (n ≤ IntKind.i64.max)) = true := h
 rw [e1, e2, Bool.and_eq_true, decide_eq_true_eq, decide_eq_true_eq] at h'
 exact h'
end Go.Proofs.YtapacckmgmdnoaaGreat
namespace Go.Proofs.YtapacckmgmdnoaaGreat
open Go.RowKit
set_option linter.unusedVariables false
set_option maxRecDepth 100000
set_option maxRecDepth 100000
theorem e_news (a : Option Addr) (c : Nat) (l : List EnM) (W : World) (h : EnSl W a l) (hl : l.length ≤ 1000) : Calls Tryz.prog 72 #[.slice a l.length c] W fun e w' => ∃ x q, e = .returned (.slice x l.length q) ∧ l.length ≤ q ∧ q ≤ maxLen ∧ (x = none → q = 0) ∧ EnSl w' x l ∧ Below W.heap.size W w' := by
 refine (enews_any a c l W h (by omega)).mono ?_
 rintro e w' ⟨v, rfl, ho, hb⟩
 obtain ⟨x, q, rfl, h1, h2, h3, h4⟩ := own_en ho
 exact ⟨x, q, rfl, h1, h2, h4, h3, hb⟩
theorem e_rrising (a : Option Addr) (c : Nat) (l : List EnM) (W : World) (h : EnSl W a l) (hs : SzE l) (hl : l.length ≤ 1000) : Calls Tryz.prog 67 #[.slice a l.length c] W fun e w' => e = .returned (.bool (decide (RiseE l))) ∧ Below W.heap.size W w' := refERising_any a c l W h hs (by omega)
theorem EvSl.take {w : World} {a : Option Addr} {l : List EvM} (h : EvSl w a l) (n : Nat) : EvSl w a (l.take n) := fun k hk => by
 have hk' : k < l.length := by rw [List.length_take] at hk; omega
 obtain ⟨b, off, e, hlt, h0⟩ := h k hk'
 exact ⟨b, off, e, hlt, fun i hi => by rw [List.getElem_take]; exact h0 i hi⟩
end Go.Proofs.YtapacckmgmdnoaaGreat
