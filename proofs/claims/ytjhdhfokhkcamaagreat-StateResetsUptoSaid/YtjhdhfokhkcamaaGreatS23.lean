/- Texts of mine, one behind the other, of each what is wanted. -/
import Derived.Test.YtjhdhfokhkcamaaGreatS00
import Derived.Test.YtjhdhfokhkcamaaGreatShelf
import Derived.Test.YtjhdhfokhkcamaaGreatRows
import Derived.Test.YtjhdhfokhkcamaaGreatS01
import Derived.Test.YtjhdhfokhkcamaaGreatS02
import Derived.Test.YtjhdhfokhkcamaaGreatS03
import Derived.Test.YtjhdhfokhkcamaaGreatS04
import Derived.Test.YtjhdhfokhkcamaaGreatS05
import Derived.Test.YtjhdhfokhkcamaaGreatS06
import Derived.Test.YtjhdhfokhkcamaaGreatS07
import Derived.Test.YtjhdhfokhkcamaaGreatS08
import Derived.Test.YtjhdhfokhkcamaaGreatS09
import Derived.Test.YtjhdhfokhkcamaaGreatS13
import Derived.Test.YtjhdhfokhkcamaaGreatS14
import Derived.Test.YtjhdhfokhkcamaaGreatS17
import Derived.Test.YtjhdhfokhkcamaaGreatS21
import Derived.Test.YtjhdhfokhkcamaaGreatTQ
namespace Go.Proofs.YtjhdhfokhkcamaaGreat
open Go.RowKit Go.Sort Go.Proofs
set_option linter.unusedVariables false
set_option maxRecDepth 100000
set_option maxRecDepth 100000
theorem cmpSt_le (a b : StM) : cmpSt a b ≤ 0 ↔ ¬ ltSt b a := by
 unfold cmpSt
 by_cases h : ltSt a b
 ·rw [if_pos h]; exact ⟨fun _ => ltSt_asymm h, fun _ => by omega⟩
 ·rw [if_neg h]
  by_cases k : ltSt b a
  ·rw [if_pos k]; exact ⟨fun h => by omega, fun h => absurd k h⟩
  ·rw [if_neg k]; exact ⟨fun _ => k, fun _ => by omega⟩
theorem cmpSt_gt (a b : StM) : 0 < cmpSt a b ↔ ltSt b a := by
 have := cmpSt_le a b
 constructor
 ·intro h
  by_cases k : ltSt b a
  ·exact k
  ·have := this.2 k; omega
 ·intro h
  by_cases k : cmpSt a b ≤ 0
  ·exact absurd h (this.1 k)
  ·omega
structure RsK (w : World) (g : Nat) (x : StM) (a : Option Addr) (l : List StM) (W : World) : Prop where
 box : W.heap[g]? = some (.cells #[.int .i64 x.f, .int .i64 x.t, .int .i64 x.n, .int .i64 x.s] 86 (0, 0))
 row : StSl W a l
 frame : Below w.heap.size w W
theorem RsK.below {w W W' : World} {g : Nat} {x : StM} {a : Option Addr} {l : List StM} (h : RsK w g x a l W) (q : Below W.heap.size W W') : RsK w g x a l W' :=
 ⟨(q.block _ (heap_lt h.box)).trans h.box, h.row.below q, h.frame.trans (q.mono h.frame.size)⟩
theorem RsK.four {w W : World} {g : Nat} {x : StM} {a : Option Addr} {l : List StM} (h : RsK w g x a l W) :
  W.cell? ⟨g, 0, none⟩ = some (.int .i64 x.f) ∧ W.cell? ⟨g, 1, none⟩ = some (.int .i64 x.t) ∧ W.cell? ⟨g, 2, none⟩ = some (.int .i64 x.n) ∧ W.cell? ⟨g, 3, none⟩ = some (.int .i64 x.s) := cells4 h.box
theorem RsK.at_ {w W : World} {g : Nat} {x : StM} {b off : Nat} {l : List StM} (h : RsK w g x (some ⟨b, off, none⟩) l W) {k : Nat} (hk : k < l.length) :
  W.cell? ⟨b, off + k * 4, none⟩ = some (.int .i64 l[k].f) ∧ W.cell? ⟨b, off + k * 4 + 1, none⟩ = some (.int .i64 l[k].t) ∧ W.cell? ⟨b, off + k * 4 + 2, none⟩ = some (.int .i64 l[k].n) ∧ W.cell? ⟨b, off + k * 4 + 3, none⟩ = some (.int .i64 l[k].s) := by
 obtain ⟨_, _, e, _, h0, h1, h2, h3⟩ := h.row.at_ hk
 cases e
 exact ⟨h0, h1, h2, h3⟩
theorem RsK.new {w W : World} {x : StM} {a : Option Addr} {l : List StM} (h : StSl W a l) (hb : Below w.heap.size w W) : RsK w W.heap.size x a l (W.alloc (.cells #[.int .i64 x.f, .int .i64 x.t, .int .i64 x.n, .int .i64 x.s] 86)) :=
 ⟨heap_alloc_new W _, h.below (below_one _ _), hb.alloc hb.size _⟩
def RiseTo (l : List StM) (j : Nat) : Prop := ∀ k (h : k < l.length), k < j → l[k].f < l[k].t ∧ (0 < k → ltSt (l[k - 1]'(by omega)) l[k])
theorem RiseTo.all {l : List StM} (h : RiseTo l l.length) : RiseS l := fun k hk => h k hk hk
theorem RiseTo.next {l : List StM} {j : Nat} (h : RiseTo l j) (hj : j < l.length) (h1 : l[j].f < l[j].t) (h2 : 0 < j → ltSt (l[j - 1]'(by omega)) l[j]) : RiseTo l (j + 1) := fun k hk hkj => by
 rcases Nat.lt_or_ge k j with h3 | h3
 ·exact h k hk h3
 ·obtain rfl : k = j := by omega
  exact ⟨h1, h2⟩
set_option maxHeartbeats 4000000 in
theorem rising8_any (a : Option Addr) (c : Nat) (l : List StM) (w : World) (hr : StSl w a l) (hl : l.length ≤ 1000000) :
  Calls Tryz.prog 131 #[.slice a l.length c] w fun e w' => e = .returned (.bool (decide (RiseS l))) ∧ Below w.heap.size w w' := by
 have HR := Lib.hid hr
 have HNO := Lib.hid none_any
 have HCM := Lib.hid (fun x y W => (stcmp_any x y W).mono fun e w' (h : _ ∧ Grew W w') => And.intro h.1 (h.2.below (Nat.le_refl _)))
 unfold stV at HCM
 clear hr
 go_enter Tryz.func131, Tryz.ntmps131
 go_wp2
 go_loopw [7] (fun i wr => ∃ (j : Nat), j ≤ l.length ∧ i = .int .i64 j ∧ Hid (RiseTo l j) ∧ Hid (Below w.heap.size w wr)) (fun i _ => l.length - (intOf i).toNat)
 case atStart => exact ⟨0, by omega, rfl, fun k _ h => absurd h (by omega), Below.refl _ _⟩
 case round =>
  obtain ⟨j, hj, rfl, HO, HB⟩ := hrel
  by_cases hjl : j < l.length
  ·obtain ⟨b, off, rfl, hbl, hc0, hc1, hc2, hc3⟩ := (HR.out.below HB.out).at_ hjl
   have HK := Lib.hid (RsK.new (x := l[j]) (HR.out.below HB.out) HB.out)
   have HNX := Lib.hid (HO.out.next hjl)
   have HNF : Hid (¬ l[j].f < l[j].t → decide (RiseS l) = false) := fun h => decide_eq_false fun k => h (k j hjl).1
   have HNP : Hid (∀ (h0 : 0 < j), ¬ ltSt (l[j - 1]'(by omega)) l[j] → decide (RiseS l) = false) := fun h0 h => decide_eq_false fun k => h ((k j hjl).2 h0)
   by_cases h1 : l[j].t ≤ l[j].f
   ·have HF := Lib.hid (HNF.out (by omega))
    have HN1 : Hid (∀ W, Calls Tryz.prog 135 #[.agg #[.int .i64 l[j].f, .int .i64 l[j].t]] W fun e w' => e = .returned (.bool true) ∧ Below W.heap.size W w') := fun W => by
     have := HNO.out l[j].f l[j].t W
     rwa [decide_eq_true h1] at this
    clear HNX HNF HNP HNO HCM
    generalize l[j] = x at *
    go_wp2_with fail
    generalize wr.alloc (.cells #[.int .i64 x.f, .int .i64 x.t, .int .i64 x.n, .int .i64 x.s] 86) = W at *
    generalize wr.heap.size = g at *
    refine wp_region_held_drew (S := (fun W => W.cell? ⟨g, 0, none⟩ = some (.int .i64 x.f) ∧ W.cell? ⟨g, 1, none⟩ = some (.int .i64 x.t) ∧ W.cell? ⟨g, 2, none⟩ = some (.int .i64 x.n) ∧ W.cell? ⟨g, 3, none⟩ = some (.int .i64 x.s))) (by kernel_rfl) ?_ (fun hHeld => ?_)
    ·exact (HK.out.below (Below.refl _ _).drew).four
    refine tV 0 12 ?_
    refine tV 1 13 ?_
    refine wpAnyH_ready (rs := [2]) (by kernel_rfl) (by simp) ?_
    refine AllReadyH.cons (o := ⟨some 14, _, _, _, _, _⟩) rfl (fun K hK => ?_) AllReadyH.nil
    go_simp
    refine (HN1.out _).mono ?_
    rintro e w2 ⟨rfl, h2⟩
    have K2 := (HK.out.below (Below.refl _ _).drew).below h2
    go_wp2_with fail
    refine hK.out _ _ ?_ (fun hH2 => ?_)
    ·exact K2.four
    clear hK K
    (try simp only [Act.put, List.setIfInBounds_toArray, List.set_cons_zero, List.set_cons_succ])
    refine tV 3 15 ?_
    refine tU 4 16 ?_
    refine tU 5 17 ?_
    refine tU 6 18 ?_
    refine tU 7 19 ?_
    refine tU 8 20 ?_
    refine tU 9 21 ?_
    refine tU 10 22 ?_
    refine tU 11 23 ?_
    refine tU 12 24 ?_
    refine tU 13 25 ?_
    refine tU 14 26 ?_
    refine tU 15 27 ?_
    refine tV 16 28 ?_
    refine wpAnyH_done (by kernel_rfl) ?_ _
    all_goals
     go_wp2
     go_ret
     exact ⟨by rw [HF.out]; rfl, K2.frame⟩
   ·have HN1 : Hid (∀ W, Calls Tryz.prog 135 #[.agg #[.int .i64 l[j].f, .int .i64 l[j].t]] W fun e w' => e = .returned (.bool false) ∧ Below W.heap.size W w') := fun W => by
     have := HNO.out l[j].f l[j].t W
     rwa [decide_eq_false h1] at this
    have HNX := Lib.hid (HNX.out (by omega))
    by_cases h0 : 0 < j
    ·obtain ⟨k, hk⟩ : ∃ k, j = k + 1 := ⟨j - 1, by omega⟩
     have hkl : k < l.length := by omega
     have hpw : IntKind.i64.wrap ((j : Int) - 1) = (k : Int) := by rw [IntWalk.i64_in] <;> omega
     have hgt : decide ((0 : Int) < (j : Int)) = true := decide_eq_true (by omega)
     have HCX := Lib.hid (HCM.out l[j] l[k])
     have HP0 : Hid (∀ W, RsK w wr.heap.size l[j] (some ⟨b, off, none⟩) l W → W.cell? ⟨b, off + k * 4, none⟩ = some (.int .i64 l[k].f) ∧ W.cell? ⟨b, off + k * 4 + 1, none⟩ = some (.int .i64 l[k].t) ∧ W.cell? ⟨b, off + k * 4 + 2, none⟩ = some (.int .i64 l[k].n) ∧ W.cell? ⟨b, off + k * 4 + 3, none⟩ = some (.int .i64 l[k].s)) := fun W h => h.at_ hkl
     have hkp : ∀ h, l[j - 1]'h = l[k] := fun h => by congr 1; omega
     have HNX3 : Hid (ltSt l[k] l[j] → RiseTo l (j + 1)) := fun h => HNX.out (fun _ => by rw [hkp]; exact h)
     have HNP3 : Hid (¬ ltSt l[k] l[j] → decide (RiseS l) = false) := fun h => HNP.out h0 (by rw [hkp]; exact h)
     have hcl := cmpSt_le l[j] l[k]
     clear HNF HNP HNO HCM HNX hkp hk
     generalize l[k] = y at *
     generalize l[j] = x at *
     generalize cmpSt x y = r at *
     by_cases h3 : ltSt y x
     ·have HNX4 := Lib.hid (HNX3.out h3)
      have hd : decide (r ≤ 0) = false := decide_eq_false (fun h => hcl.1 h h3)
      clear HNX3 HNP3 hcl h3
      go_wp2_with fail
      generalize wr.alloc (.cells #[.int .i64 x.f, .int .i64 x.t, .int .i64 x.n, .int .i64 x.s] 86) = W at *
      generalize wr.heap.size = g at *
      refine wp_region_held_drew (S := (fun W => W.cell? ⟨g, 0, none⟩ = some (.int .i64 x.f) ∧ W.cell? ⟨g, 1, none⟩ = some (.int .i64 x.t) ∧ W.cell? ⟨g, 2, none⟩ = some (.int .i64 x.n) ∧ W.cell? ⟨g, 3, none⟩ = some (.int .i64 x.s) ∧ W.cell? ⟨b, off + k * 4, none⟩ = some (.int .i64 y.f) ∧ W.cell? ⟨b, off + k * 4 + 1, none⟩ = some (.int .i64 y.t) ∧ W.cell? ⟨b, off + k * 4 + 2, none⟩ = some (.int .i64 y.n) ∧ W.cell? ⟨b, off + k * 4 + 3, none⟩ = some (.int .i64 y.s))) (by kernel_rfl) ?_ (fun hHeld => ?_)
      ·have K1 := HK.out.below (Below.refl _ _).drew; obtain ⟨k1, k2, k3, k4⟩ := K1.four; exact ⟨k1, k2, k3, k4, HP0.out _ K1⟩
      refine tV 0 12 ?_
      refine tV 1 13 ?_
      refine wpAnyH_ready (rs := [2]) (by kernel_rfl) (by simp) ?_
      refine AllReadyH.cons (o := ⟨some 14, _, _, _, _, _⟩) rfl (fun K hK => ?_) AllReadyH.nil
      go_simp
      refine (HN1.out _).mono ?_
      rintro e w2 ⟨rfl, h2⟩
      have K2 := (HK.out.below (Below.refl _ _).drew).below h2
      go_wp2_with fail
      refine hK.out _ _ ?_ (fun hH2 => ?_)
      ·obtain ⟨k1, k2, k3, k4⟩ := K2.four; exact ⟨k1, k2, k3, k4, HP0.out _ K2⟩
      clear hK K
      (try simp only [Act.put, List.setIfInBounds_toArray, List.set_cons_zero, List.set_cons_succ])
      refine tV 3 15 ?_
      refine tV 4 16 ?_
      refine tV 5 17 ?_
      refine tV 6 18 ?_
      refine tV 7 19 ?_
      refine tV 8 20 ?_
      refine tV 9 21 ?_
      refine tV 10 22 ?_
      refine tV 11 23 ?_
      refine tV 12 24 ?_
      refine wpAnyH_ready (rs := [13]) (by kernel_rfl) (by simp) ?_
      refine AllReadyH.cons (o := ⟨some 25, _, _, _, _, _⟩) rfl (fun K hK => ?_) AllReadyH.nil
      go_simp
      refine (HCX.out _).mono ?_
      rintro e w3 ⟨rfl, h3⟩
      have K3 := K2.below h3
      go_wp2_with fail
      refine hK.out _ _ ?_ (fun hH13 => ?_)
      ·obtain ⟨k1, k2, k3, k4⟩ := K3.four; exact ⟨k1, k2, k3, k4, HP0.out _ K3⟩
      clear hK K
      (try simp only [Act.put, List.setIfInBounds_toArray, List.set_cons_zero, List.set_cons_succ])
      refine tV 14 26 ?_
      refine tV 15 27 ?_
      refine tV 16 28 ?_
      refine wpAnyH_done (by kernel_rfl) ?_ _
      all_goals
       go_wp2
       go_roundw
       case rel => exact ⟨j + 1, by omega, by go_num, HNX4, K3.frame⟩
       case measure => simp [intOf]; omega
     ·have HNF4 := Lib.hid (HNP3.out h3)
      have hd : decide (r ≤ 0) = true := decide_eq_true (hcl.2 h3)
      clear HNX3 HNP3 hcl h3
      go_wp2_with fail
      generalize wr.alloc (.cells #[.int .i64 x.f, .int .i64 x.t, .int .i64 x.n, .int .i64 x.s] 86) = W at *
      generalize wr.heap.size = g at *
      refine wp_region_held_drew (S := (fun W => W.cell? ⟨g, 0, none⟩ = some (.int .i64 x.f) ∧ W.cell? ⟨g, 1, none⟩ = some (.int .i64 x.t) ∧ W.cell? ⟨g, 2, none⟩ = some (.int .i64 x.n) ∧ W.cell? ⟨g, 3, none⟩ = some (.int .i64 x.s) ∧ W.cell? ⟨b, off + k * 4, none⟩ = some (.int .i64 y.f) ∧ W.cell? ⟨b, off + k * 4 + 1, none⟩ = some (.int .i64 y.t) ∧ W.cell? ⟨b, off + k * 4 + 2, none⟩ = some (.int .i64 y.n) ∧ W.cell? ⟨b, off + k * 4 + 3, none⟩ = some (.int .i64 y.s))) (by kernel_rfl) ?_ (fun hHeld => ?_)
      ·have K1 := HK.out.below (Below.refl _ _).drew; obtain ⟨k1, k2, k3, k4⟩ := K1.four; exact ⟨k1, k2, k3, k4, HP0.out _ K1⟩
      refine tV 0 12 ?_
      refine tV 1 13 ?_
      refine wpAnyH_ready (rs := [2]) (by kernel_rfl) (by simp) ?_
      refine AllReadyH.cons (o := ⟨some 14, _, _, _, _, _⟩) rfl (fun K hK => ?_) AllReadyH.nil
      go_simp
      refine (HN1.out _).mono ?_
      rintro e w2 ⟨rfl, h2⟩
      have K2 := (HK.out.below (Below.refl _ _).drew).below h2
      go_wp2_with fail
      refine hK.out _ _ ?_ (fun hH2 => ?_)
      ·obtain ⟨k1, k2, k3, k4⟩ := K2.four; exact ⟨k1, k2, k3, k4, HP0.out _ K2⟩
      clear hK K
      (try simp only [Act.put, List.setIfInBounds_toArray, List.set_cons_zero, List.set_cons_succ])
      refine tV 3 15 ?_
      refine tV 4 16 ?_
      refine tV 5 17 ?_
      refine tV 6 18 ?_
      refine tV 7 19 ?_
      refine tV 8 20 ?_
      refine tV 9 21 ?_
      refine tV 10 22 ?_
      refine tV 11 23 ?_
      refine tV 12 24 ?_
      refine wpAnyH_ready (rs := [13]) (by kernel_rfl) (by simp) ?_
      refine AllReadyH.cons (o := ⟨some 25, _, _, _, _, _⟩) rfl (fun K hK => ?_) AllReadyH.nil
      go_simp
      refine (HCX.out _).mono ?_
      rintro e w3 ⟨rfl, h3⟩
      have K3 := K2.below h3
      go_wp2_with fail
      refine hK.out _ _ ?_ (fun hH13 => ?_)
      ·obtain ⟨k1, k2, k3, k4⟩ := K3.four; exact ⟨k1, k2, k3, k4, HP0.out _ K3⟩
      clear hK K
      (try simp only [Act.put, List.setIfInBounds_toArray, List.set_cons_zero, List.set_cons_succ])
      refine tV 14 26 ?_
      refine tV 15 27 ?_
      refine tV 16 28 ?_
      refine wpAnyH_done (by kernel_rfl) ?_ _
      all_goals
       go_wp2
       go_ret
       exact ⟨by rw [HNF4.out]; rfl, K3.frame⟩
    ·have HNX2 := Lib.hid (HNX.out (fun h => absurd h h0))
     have hgt : decide ((0 : Int) < (j : Int)) = false := decide_eq_false (by omega)
     clear HNF HNP HNO HCM HNX
     generalize l[j] = x at *
     go_wp2_with fail
     generalize wr.alloc (.cells #[.int .i64 x.f, .int .i64 x.t, .int .i64 x.n, .int .i64 x.s] 86) = W at *
     generalize wr.heap.size = g at *
     refine wp_region_held_drew (S := (fun W => W.cell? ⟨g, 0, none⟩ = some (.int .i64 x.f) ∧ W.cell? ⟨g, 1, none⟩ = some (.int .i64 x.t) ∧ W.cell? ⟨g, 2, none⟩ = some (.int .i64 x.n) ∧ W.cell? ⟨g, 3, none⟩ = some (.int .i64 x.s))) (by kernel_rfl) ?_ (fun hHeld => ?_)
     ·exact (HK.out.below (Below.refl _ _).drew).four
     refine tV 0 12 ?_
     refine tV 1 13 ?_
     refine wpAnyH_ready (rs := [2]) (by kernel_rfl) (by simp) ?_
     refine AllReadyH.cons (o := ⟨some 14, _, _, _, _, _⟩) rfl (fun K hK => ?_) AllReadyH.nil
     go_simp
     refine (HN1.out _).mono ?_
     rintro e w2 ⟨rfl, h2⟩
     have K2 := (HK.out.below (Below.refl _ _).drew).below h2
     go_wp2_with fail
     refine hK.out _ _ ?_ (fun hH2 => ?_)
     ·exact K2.four
     clear hK K
     (try simp only [Act.put, List.setIfInBounds_toArray, List.set_cons_zero, List.set_cons_succ])
     refine tV 3 15 ?_
     refine tV 4 16 ?_
     refine tV 5 17 ?_
     refine tV 6 18 ?_
     refine tU 7 19 ?_
     refine tU 8 20 ?_
     refine tU 9 21 ?_
     refine tU 10 22 ?_
     refine tU 11 23 ?_
     refine tU 12 24 ?_
     refine tU 13 25 ?_
     refine tU 14 26 ?_
     refine tV 15 27 ?_
     refine tV 16 28 ?_
     refine wpAnyH_done (by kernel_rfl) ?_ _
     all_goals
      go_wp2
      go_roundw
      case rel => exact ⟨j + 1, by omega, by go_num, HNX2, K2.frame⟩
      case measure => simp [intOf]; omega
  ·obtain rfl : j = l.length := by omega
   have HE := Lib.hid (decide_eq_true HO.out.all)
   go_wp2
   go_ret
   exact ⟨by rw [HE.out]; rfl, HB.out⟩
end Go.Proofs.YtjhdhfokhkcamaaGreat
namespace Go.Proofs.YtjhdhfokhkcamaaGreat
open Go.RowKit
set_option linter.unusedVariables false
set_option maxRecDepth 100000
set_option maxRecDepth 100000
set_option maxHeartbeats 4000000 in
theorem eequal_any (a b : Option Addr) (ca cb : Nat) (l m : List EnM) (w : World) (ha : EnSl w a l) (hb : EnSl w b m) (hla : l.length ≤ maxLen) (hlb : m.length ≤ maxLen) :
  Calls Tryz.prog 145 #[.slice a l.length ca, .slice b m.length cb] w fun e w' => e = .returned (.bool (decide (l = m))) ∧ Below w.heap.size w w' := by
 have HA := Lib.hid ha
 have HB := Lib.hid hb
 clear ha hb
 unfold maxLen at hla hlb
 by_cases hll : l.length = m.length
 ·obtain ⟨n, hn⟩ : ∃ n, n = m.length := ⟨_, rfl⟩
  have HL : Hid (l.length = n) := hll.trans hn.symm
  have HM : Hid (m.length = n) := hn.symm
  rw [HL.out, HM.out]
  rw [HM.out] at hlb
  clear hll hn hla
  go_enter Tryz.func145, Tryz.ntmps145
  go_wp2
  go_loopw [13] (fun i wr => ∃ (j : Nat), j ≤ n ∧ i = .int .i64 j ∧ Hid (l.take j = m.take j) ∧ Hid (Drew w wr)) (fun i _ => n - (intOf i).toNat)
  case atStart => exact ⟨0, by omega, rfl, (by unfold Hid; rfl), Drew.refl _⟩
  case round =>
   obtain ⟨j, hj, rfl, HT, HD⟩ := hrel
   by_cases hjn : j < n
   ·have hjl : j < l.length := by have := HL.out; omega
    have hjm : j < m.length := by have := HM.out; omega
    obtain ⟨b1, o1, rfl, hb1, hc0, hc1, hc2, hc3⟩ := (HA.out.below (HD.out.below _)).at_ hjl
    obtain ⟨b2, o2, rfl, hb2, hd0, hd1, hd2, hd3⟩ := (HB.out.below (HD.out.below _)).at_ hjm
    have HN := Lib.hid (take_same hjl hjm HT.out)
    have HNE : Hid (l[j] ≠ m[j] → l ≠ m) := fun h e => h (by subst e; rfl)
    generalize l[j] = x at *
    generalize m[j] = y at *
    clear hjl hjm
    obtain ⟨f1, t1, n1, s1⟩ := x
    obtain ⟨f2, t2, n2, s2⟩ := y
    dsimp only at *
    by_cases h0 : f1 = f2
    ·subst h0
     have he0 := str_eq f1
     by_cases h1 : t1 = t2
     ·subst h1
      have he1 := str_eq t1
      by_cases h2 : n1 = n2
      ·subst h2
       have he2 : (n1 == n1) = true := beq_self_eq_true _
       by_cases h3 : s1 = s2
       ·subst h3
        have he3 : (s1 == s1) = true := beq_self_eq_true _
        have HN2 := Lib.hid (HN.out rfl)
        clear HN HNE
        go_wp2
        go_quiet (fail)
        go_wp2
        go_roundw
        case rel => exact ⟨j + 1, by omega, by go_num, HN2, HD.out.trans ⟨_, rfl⟩⟩
        case measure => simp [intOf]; omega
       ·have HF : Hid (decide (l = m) = false) := decide_eq_false (HNE.out (fun e => h3 (congrArg EnM.t e)))
        have heq : (s1 == s2) = false := beq_eq_false_iff_ne.2 h3
        clear HN HNE
        go_wp2
        go_quiet (fail)
        go_wp2
        go_ret
        exact ⟨by rw [HF.out]; rfl, (HD.out.trans ⟨_, rfl⟩).below _⟩
      ·have HF : Hid (decide (l = m) = false) := decide_eq_false (HNE.out (fun e => h2 (congrArg EnM.f e)))
       have heq : (n1 == n2) = false := beq_eq_false_iff_ne.2 h2
       clear HN HNE
       go_wp2
       go_quiet (fail)
       go_wp2
       go_ret
       exact ⟨by rw [HF.out]; rfl, (HD.out.trans ⟨_, rfl⟩).below _⟩
     ·have HF : Hid (decide (l = m) = false) := decide_eq_false (HNE.out (fun e => h1 (congrArg EnM.u e)))
      have heq := str_ne h1
      clear HN HNE
      go_wp2
      go_quiet (fail)
      go_wp2
      go_ret
      exact ⟨by rw [HF.out]; rfl, (HD.out.trans ⟨_, rfl⟩).below _⟩
    ·have HF : Hid (decide (l = m) = false) := decide_eq_false (HNE.out (fun e => h0 (congrArg EnM.w e)))
     have heq := str_ne h0
     clear HN HNE
     go_wp2
     go_quiet (fail)
     go_wp2
     go_ret
     exact ⟨by rw [HF.out]; rfl, (HD.out.trans ⟨_, rfl⟩).below _⟩
   ·obtain rfl : j = n := by omega
    have HE : Hid (decide (l = m) = true) := decide_eq_true (by
     have := HT.out
     rwa [List.take_of_length_le (Nat.le_of_eq HL.out), List.take_of_length_le (Nat.le_of_eq HM.out)] at this)
    go_wp2
    go_ret
    exact ⟨by rw [HE.out]; rfl, HD.out.below _⟩
 ·have HE : Hid (decide (l = m) = false) := decide_eq_false (fun e => hll (by rw [e]))
  have hne : ((l.length : Int) == (m.length : Int)) = false := beq_eq_false_iff_ne.2 (by omega)
  go_enter Tryz.func145, Tryz.ntmps145
  go_wp2
  go_ret
  exact ⟨by rw [HE.out]; rfl, Below.refl _ _⟩
set_option maxHeartbeats 4000000 in
theorem erefSame_any (a b : Option Addr) (ca cb : Nat) (l m : List EnM) (w : World) (ha : EnSl w a l) (hb : EnSl w b m) (hla : l.length ≤ maxLen) (hlb : m.length ≤ maxLen) :
  Calls Tryz.prog 55 #[.slice a l.length ca, .slice b m.length cb] w fun e w' => e = .returned (.bool (decide (l = m))) ∧ Below w.heap.size w w' := by
 have HA := Lib.hid ha
 have HB := Lib.hid hb
 clear ha hb
 unfold maxLen at hla hlb
 by_cases hll : l.length = m.length
 ·obtain ⟨n, hn⟩ : ∃ n, n = m.length := ⟨_, rfl⟩
  have HL : Hid (l.length = n) := hll.trans hn.symm
  have HM : Hid (m.length = n) := hn.symm
  rw [HL.out, HM.out]
  rw [HM.out] at hlb
  clear hll hn hla
  go_enter Tryz.func55, Tryz.ntmps55
  go_wp2
  go_loopw [5] (fun i wr => ∃ (j : Nat), j ≤ n ∧ i = .int .i64 j ∧ Hid (l.take j = m.take j) ∧ Hid (Drew w wr)) (fun i _ => n - (intOf i).toNat)
  case atStart => exact ⟨0, by omega, rfl, (by unfold Hid; rfl), Drew.refl _⟩
  case round =>
   obtain ⟨j, hj, rfl, HT, HD⟩ := hrel
   by_cases hjn : j < n
   ·have hjl : j < l.length := by have := HL.out; omega
    have hjm : j < m.length := by have := HM.out; omega
    obtain ⟨b1, o1, rfl, hb1, hc0, hc1, hc2, hc3⟩ := (HA.out.below (HD.out.below _)).at_ hjl
    obtain ⟨b2, o2, rfl, hb2, hd0, hd1, hd2, hd3⟩ := (HB.out.below (HD.out.below _)).at_ hjm
    have HN := Lib.hid (take_same hjl hjm HT.out)
    have HNE : Hid (l[j] ≠ m[j] → l ≠ m) := fun h e => h (by subst e; rfl)
    generalize l[j] = x at *
    generalize m[j] = y at *
    clear hjl hjm
    obtain ⟨f1, t1, n1, s1⟩ := x
    obtain ⟨f2, t2, n2, s2⟩ := y
    dsimp only at *
    by_cases h0 : f1 = f2
    ·subst h0
     have he0 := str_eq f1
     by_cases h1 : t1 = t2
     ·subst h1
      have he1 := str_eq t1
      by_cases h2 : n1 = n2
      ·subst h2
       have he2 : (n1 == n1) = true := beq_self_eq_true _
       by_cases h3 : s1 = s2
       ·subst h3
        have he3 : (s1 == s1) = true := beq_self_eq_true _
        have HN2 := Lib.hid (HN.out rfl)
        clear HN HNE
        go_wp2
        go_quiet (fail)
        go_wp2
        go_roundw
        case rel => exact ⟨j + 1, by omega, by go_num, HN2, HD.out.trans ⟨_, rfl⟩⟩
        case measure => simp [intOf]; omega
       ·have HF : Hid (decide (l = m) = false) := decide_eq_false (HNE.out (fun e => h3 (congrArg EnM.t e)))
        have heq : (s1 == s2) = false := beq_eq_false_iff_ne.2 h3
        clear HN HNE
        go_wp2
        go_quiet (fail)
        go_wp2
        go_ret
        exact ⟨by rw [HF.out]; rfl, (HD.out.trans ⟨_, rfl⟩).below _⟩
      ·have HF : Hid (decide (l = m) = false) := decide_eq_false (HNE.out (fun e => h2 (congrArg EnM.f e)))
       have heq : (n1 == n2) = false := beq_eq_false_iff_ne.2 h2
       clear HN HNE
       go_wp2
       go_quiet (fail)
       go_wp2
       go_ret
       exact ⟨by rw [HF.out]; rfl, (HD.out.trans ⟨_, rfl⟩).below _⟩
     ·have HF : Hid (decide (l = m) = false) := decide_eq_false (HNE.out (fun e => h1 (congrArg EnM.u e)))
      have heq := str_ne h1
      clear HN HNE
      go_wp2
      go_quiet (fail)
      go_wp2
      go_ret
      exact ⟨by rw [HF.out]; rfl, (HD.out.trans ⟨_, rfl⟩).below _⟩
    ·have HF : Hid (decide (l = m) = false) := decide_eq_false (HNE.out (fun e => h0 (congrArg EnM.w e)))
     have heq := str_ne h0
     clear HN HNE
     go_wp2
     go_quiet (fail)
     go_wp2
     go_ret
     exact ⟨by rw [HF.out]; rfl, (HD.out.trans ⟨_, rfl⟩).below _⟩
   ·obtain rfl : j = n := by omega
    have HE : Hid (decide (l = m) = true) := decide_eq_true (by
     have := HT.out
     rwa [List.take_of_length_le (Nat.le_of_eq HL.out), List.take_of_length_le (Nat.le_of_eq HM.out)] at this)
    go_wp2
    go_ret
    exact ⟨by rw [HE.out]; rfl, HD.out.below _⟩
 ·have HE : Hid (decide (l = m) = false) := decide_eq_false (fun e => hll (by rw [e]))
  have hne : ((l.length : Int) == (m.length : Int)) = false := beq_eq_false_iff_ne.2 (by omega)
  go_enter Tryz.func55, Tryz.ntmps55
  go_wp2
  go_ret
  exact ⟨by rw [HE.out]; rfl, Below.refl _ _⟩
theorem esame_any (a b : Option Addr) (ca cb : Nat) (l m : List EnM) (w : World) (ha : EnSl w a l) (hb : EnSl w b m) (hla : l.length ≤ maxLen) (hlb : m.length ≤ maxLen) :
  Calls Tryz.prog 85 #[.slice a l.length ca, .slice b m.length cb] w fun e w' => e = .returned (.bool (decide (l = m))) ∧ Below w.heap.size w w' := by
 have HC := Lib.hid (eequal_any a b ca cb l m w ha hb hla hlb)
 unfold maxLen at hla hlb
 clear ha hb
 go_enter Tryz.func85, Tryz.ntmps85
 go_wp2_with fail
 refine HC.out.mono ?_
 rintro e w2 ⟨rfl, h2⟩
 go_wp2
 go_ret
 exact ⟨rfl, h2⟩
def CapAt (W : World) (g : Nat) (v : Value) : Prop := W.cell? ⟨g, 0, none⟩ = some v ∧ g < W.heap.size
theorem CapAt.below {W W' : World} {g : Nat} {v : Value} (h : CapAt W g v) (q : Below W.heap.size W W') : CapAt W' g v :=
 ⟨(q.cell (p := ⟨g, 0, none⟩) h.2).trans h.1, Nat.lt_of_lt_of_le h.2 q.size⟩
theorem CapAt.new (W : World) (v : Value) (t : TypeId) : CapAt (W.alloc (.cells #[v] t)) W.heap.size v :=
 ⟨cell_of_row _ _ _ _ _ _ (heap_alloc_new W _), by rw [size1]; omega⟩
def wiE (s : ByteArray) (e : EnM) : Bool := decide (e.w ≠ s) && decide (e.u ≠ s)
def afE (t : Int) (e : EnM) : Bool := decide (t < e.t)
theorem wi_eq (s : ByteArray) (e : EnM) : wiE s e = !(eqS s e.w || eqS s e.u) := by
 have h1 := eqS_iff s e.w
 have h2 := eqS_iff s e.u
 unfold wiE
 rw [Bool.eq_iff_iff]
 simp only [Bool.and_eq_true, decide_eq_true_eq, Bool.not_eq_true', Bool.or_eq_false_iff]
 rw [← Bool.not_eq_true, ← Bool.not_eq_true, h1, h2]
 exact ⟨fun h => ⟨fun e => h.1 e.symm, fun e => h.2 e.symm⟩, fun h => ⟨fun e => h.1 e.symm, fun e => h.2 e.symm⟩⟩
theorem fil_take (q : EnM → Bool) (l : List EnM) (j : Nat) (h : j < l.length) : (l.take (j + 1)).filter q = (l.take j).filter q ++ (if q l[j] = true then [l[j]] else []) := by
 rw [List.take_succ_eq_append_getElem h, List.filter_append, List.filter_cons, List.filter_nil]
theorem fil_len (q : EnM → Bool) (l : List EnM) (j : Nat) : ((l.take j).filter q).length ≤ j := Nat.le_trans (List.length_filter_le _ _) (by simp; omega)
set_option maxHeartbeats 1000000 in
theorem wic_any (e : EnM) (s : ByteArray) (g : Nat) (W : World) (h : CapAt W g (.string s)) :
  Calls Tryz.prog 198 #[enV e, .pointer (some ⟨g, 0, none⟩)] W fun r w' => r = .returned (.bool (wiE s e)) ∧ Below W.heap.size W w' := by
 have hb := ebelow_one W (.cells #[.string e.w, .string e.u, .int .i64 e.f, .int .i64 e.t] 123)
 obtain ⟨c0, hg⟩ := h.below hb
 have HB := Lib.hid hb
 have HE := Lib.hid (wi_eq s e)
 have HC := Lib.hid (fun W => pairHas_any e.w e.u s W)
 unfold pr at HC
 unfold enV
 generalize (eqS s e.w || eqS s e.u) = r at *
 clear hb hg h
 go_enter Tryz.func198, Tryz.ntmps198
 go_wp2_with fail
 refine (HC.out _).mono ?_
 rintro r w2 ⟨rfl, hB⟩
 go_wp2
 go_ret
 exact ⟨by rw [HE.out]; rfl, HB.out.trans (hB.mono HB.out.size)⟩
set_option maxHeartbeats 1000000 in
theorem afc_any (e : EnM) (t : Int) (g : Nat) (W : World) (h : CapAt W g (.int .i64 t)) :
  Calls Tryz.prog 142 #[enV e, .pointer (some ⟨g, 0, none⟩)] W fun r w' => r = .returned (.bool (afE t e)) ∧ Below W.heap.size W w' := by
 have hb := ebelow_one W (.cells #[.string e.w, .string e.u, .int .i64 e.f, .int .i64 e.t] 123)
 obtain ⟨c0, hg⟩ := h.below hb
 have HB := Lib.hid hb
 unfold enV
 clear hb hg h
 go_enter Tryz.func142, Tryz.ntmps142
 go_wp2
 go_ret
 exact ⟨rfl, HB.out⟩
set_option maxHeartbeats 2000000 in
theorem thosew_any (a : Option Addr) (c : Nat) (l : List EnM) (s : ByteArray) (g : Nat) (w : World) (hr : EnSl w a l) (h : CapAt w g (.string s)) (hl : l.length ≤ 100000) :
  Calls Tryz.prog 141 #[.slice a l.length c, .func (.func 198) #[] #[.pointer (some ⟨g, 0, none⟩)]] w fun e w' => ∃ v, e = .returned v ∧ w'.ownsRow w.heap.size 123 4 v (l.filter (wiE s)).length (ens (l.filter (wiE s))) ∧ Below w.heap.size w w' := by
 obtain ⟨i0, hi, hz0, hz1, hz2⟩ := info_parts infoEn
 have HR := Lib.hid hr
 have HP := Lib.hid h
 have HC := Lib.hid (fun e V k => wic_any e s g V k)
 unfold enV at HC
 clear hr h
 go_enter Tryz.func141, Tryz.ntmps141
 go_wp2
 go_loopw [5, 10] (fun v i wr => ∃ (j : Nat), j ≤ l.length ∧ i = .int .i64 j ∧ Hid (wr.ownsRow w.heap.size 123 4 v ((l.take j).filter (wiE s)).length (ens ((l.take j).filter (wiE s)))) ∧ Hid (Below w.heap.size w wr)) (fun _ i _ => l.length - (intOf i).toNat)
 case atStart => exact ⟨0, by omega, rfl, ⟨rfl, .inl ⟨rfl, rfl⟩⟩, Below.refl _ _⟩
 case round =>
  obtain ⟨j, hj, rfl, HO, HB⟩ := hrel
  by_cases hjl : j < l.length
  ·obtain ⟨b, off, rfl, hbl, hc0, hc1, hc2, hc3⟩ := (HR.out.below HB.out).at_ hjl
   have HT := Lib.hid (fil_take (wiE s) l j hjl)
   have HLN := Lib.hid (fil_len (wiE s) l j)
   generalize l[j] = x at *
   generalize (l.take j).filter (wiE s) = m at *
   have hb0 := ebelow_one wr (.cells #[.string x.w, .string x.u, .int .i64 x.f, .int .i64 x.t] 123)
   have HX := Lib.hid (heap_alloc_new wr (.cells #[.string x.w, .string x.u, .int .i64 x.f, .int .i64 x.t] 123))
   have HPW := Lib.hid ((HP.out.below HB.out).below hb0)
   have HB0 := Lib.hid hb0
   have HCC := Lib.hid (HC.out x _ HPW.out)
   have HZ := Lib.hid (size1 wr (.cells #[.string x.w, .string x.u, .int .i64 x.f, .int .i64 x.t] 123))
   clear hb0 HC HPW
   cases hq : (wiE s) x with
   | true =>
    have HC2 : Hid ((l.take (j + 1)).filter (wiE s) = m ++ [x]) := by have := HT.out; rwa [if_pos hq] at this
    rw [hq] at HCC
    clear HT hq
    go_wp2_with fail
    refine HCC.out.mono ?_
    rintro r w2 ⟨rfl, hB⟩
    have hb2 : Below wr.heap.size wr w2 := HB0.out.trans (hB.mono (by rw [HZ.out]; omega))
    obtain ⟨d0, d1, d2, d3⟩ := ecells4 ((hB.block _ (heap_lt HX.out)).trans HX.out)
    have HO2 := Lib.hid (own_below HO.out (hb2.trans ((ebelow_one w2 (.cells #[.string x.w, .string x.u, .int .i64 x.f, .int .i64 x.t] 123)).mono hb2.size)))
    have HB2 : Hid (Below w.heap.size w (w2.alloc (.cells #[.string x.w, .string x.u, .int .i64 x.f, .int .i64 x.t] 123))) := HB.out.trans ((hb2.trans ((ebelow_one w2 _).mono hb2.size)).mono HB.out.size)
    have HS2 := Lib.hid HB2.out.size
    have hlm := HLN.out
    clear hB hb2 hc0 hc1 hc2 hc3 HX HZ HB0 HCC
    go_wp2_with (at_builtin; refine wpList_append_own _ rfl (.tmp 17) (.tmp 19) 35 rfl w.heap.size 123 i0 _ 4 48 Tryz.underlying35 hi hz0 hz1 hz2 rfl (by decide) _ _ _ rfl HO2.out ⟨w2.heap.size, 0, none⟩ 1 1 [.string x.w, .string x.u, .int .i64 x.f, .int .i64 x.t] rfl rfl (news_at _ _ _ _ rfl) (four_e _ _ _ _) (by unfold maxLen; omega) (by omega) HS2.out ?_; intro v' w3 hown' hgrow hiff)
    have HB3 := Lib.hid (app_below HB2.out HS2.out HO2.out hgrow)
    have HO3 := Lib.hid hown'
    clear hown' hgrow hiff HB2 HS2 HO2
    go_wp2
    go_roundw
    case rel => exact ⟨j + 1, by omega, by go_num, (by unfold Hid; rw [HC2.out, List.length_append, ens_snoc]; exact HO3.out), HB3⟩
    case measure => simp [intOf]; omega
   | false =>
    have HC2 : Hid ((l.take (j + 1)).filter (wiE s) = m) := by have := HT.out; rwa [if_neg (by rw [hq]; exact Bool.false_ne_true), List.append_nil] at this
    rw [hq] at HCC
    clear HT hq
    go_wp2_with fail
    refine HCC.out.mono ?_
    rintro r w2 ⟨rfl, hB⟩
    have hb2 : Below wr.heap.size wr w2 := HB0.out.trans (hB.mono (by rw [HZ.out]; omega))
    have HO2 := Lib.hid (own_below HO.out hb2)
    have HB2 : Hid (Below w.heap.size w w2) := HB.out.trans (hb2.mono HB.out.size)
    clear hB hb2 hc0 hc1 hc2 hc3 HX HZ HB0 HCC
    go_wp2
    go_roundw
    case rel => exact ⟨j + 1, by omega, by go_num, (by unfold Hid; rw [HC2.out]; exact HO2.out), HB2⟩
    case measure => simp [intOf]; omega
  ·obtain rfl : j = l.length := by omega
   rw [List.take_of_length_le (Nat.le_refl _)] at HO
   go_wp2
   go_ret
   exact ⟨_, rfl, HO.out, HB.out⟩
set_option maxHeartbeats 2000000 in
theorem thosea_any (a : Option Addr) (c : Nat) (l : List EnM) (s : Int) (g : Nat) (w : World) (hr : EnSl w a l) (h : CapAt w g (.int .i64 s)) (hl : l.length ≤ 100000) :
  Calls Tryz.prog 141 #[.slice a l.length c, .func (.func 142) #[] #[.pointer (some ⟨g, 0, none⟩)]] w fun e w' => ∃ v, e = .returned v ∧ w'.ownsRow w.heap.size 123 4 v (l.filter (afE s)).length (ens (l.filter (afE s))) ∧ Below w.heap.size w w' := by
 obtain ⟨i0, hi, hz0, hz1, hz2⟩ := info_parts infoEn
 have HR := Lib.hid hr
 have HP := Lib.hid h
 have HC := Lib.hid (fun e V k => afc_any e s g V k)
 unfold enV at HC
 clear hr h
 go_enter Tryz.func141, Tryz.ntmps141
 go_wp2
 go_loopw [5, 10] (fun v i wr => ∃ (j : Nat), j ≤ l.length ∧ i = .int .i64 j ∧ Hid (wr.ownsRow w.heap.size 123 4 v ((l.take j).filter (afE s)).length (ens ((l.take j).filter (afE s)))) ∧ Hid (Below w.heap.size w wr)) (fun _ i _ => l.length - (intOf i).toNat)
 case atStart => exact ⟨0, by omega, rfl, ⟨rfl, .inl ⟨rfl, rfl⟩⟩, Below.refl _ _⟩
 case round =>
  obtain ⟨j, hj, rfl, HO, HB⟩ := hrel
  by_cases hjl : j < l.length
  ·obtain ⟨b, off, rfl, hbl, hc0, hc1, hc2, hc3⟩ := (HR.out.below HB.out).at_ hjl
   have HT := Lib.hid (fil_take (afE s) l j hjl)
   have HLN := Lib.hid (fil_len (afE s) l j)
   generalize l[j] = x at *
   generalize (l.take j).filter (afE s) = m at *
   have hb0 := ebelow_one wr (.cells #[.string x.w, .string x.u, .int .i64 x.f, .int .i64 x.t] 123)
   have HX := Lib.hid (heap_alloc_new wr (.cells #[.string x.w, .string x.u, .int .i64 x.f, .int .i64 x.t] 123))
   have HPW := Lib.hid ((HP.out.below HB.out).below hb0)
   have HB0 := Lib.hid hb0
   have HCC := Lib.hid (HC.out x _ HPW.out)
   have HZ := Lib.hid (size1 wr (.cells #[.string x.w, .string x.u, .int .i64 x.f, .int .i64 x.t] 123))
   clear hb0 HC HPW
   cases hq : (afE s) x with
   | true =>
    have HC2 : Hid ((l.take (j + 1)).filter (afE s) = m ++ [x]) := by have := HT.out; rwa [if_pos hq] at this
    rw [hq] at HCC
    clear HT hq
    go_wp2_with fail
    refine HCC.out.mono ?_
    rintro r w2 ⟨rfl, hB⟩
    have hb2 : Below wr.heap.size wr w2 := HB0.out.trans (hB.mono (by rw [HZ.out]; omega))
    obtain ⟨d0, d1, d2, d3⟩ := ecells4 ((hB.block _ (heap_lt HX.out)).trans HX.out)
    have HO2 := Lib.hid (own_below HO.out (hb2.trans ((ebelow_one w2 (.cells #[.string x.w, .string x.u, .int .i64 x.f, .int .i64 x.t] 123)).mono hb2.size)))
    have HB2 : Hid (Below w.heap.size w (w2.alloc (.cells #[.string x.w, .string x.u, .int .i64 x.f, .int .i64 x.t] 123))) := HB.out.trans ((hb2.trans ((ebelow_one w2 _).mono hb2.size)).mono HB.out.size)
    have HS2 := Lib.hid HB2.out.size
    have hlm := HLN.out
    clear hB hb2 hc0 hc1 hc2 hc3 HX HZ HB0 HCC
    go_wp2_with (at_builtin; refine wpList_append_own _ rfl (.tmp 17) (.tmp 19) 35 rfl w.heap.size 123 i0 _ 4 48 Tryz.underlying35 hi hz0 hz1 hz2 rfl (by decide) _ _ _ rfl HO2.out ⟨w2.heap.size, 0, none⟩ 1 1 [.string x.w, .string x.u, .int .i64 x.f, .int .i64 x.t] rfl rfl (news_at _ _ _ _ rfl) (four_e _ _ _ _) (by unfold maxLen; omega) (by omega) HS2.out ?_; intro v' w3 hown' hgrow hiff)
    have HB3 := Lib.hid (app_below HB2.out HS2.out HO2.out hgrow)
    have HO3 := Lib.hid hown'
    clear hown' hgrow hiff HB2 HS2 HO2
    go_wp2
    go_roundw
    case rel => exact ⟨j + 1, by omega, by go_num, (by unfold Hid; rw [HC2.out, List.length_append, ens_snoc]; exact HO3.out), HB3⟩
    case measure => simp [intOf]; omega
   | false =>
    have HC2 : Hid ((l.take (j + 1)).filter (afE s) = m) := by have := HT.out; rwa [if_neg (by rw [hq]; exact Bool.false_ne_true), List.append_nil] at this
    rw [hq] at HCC
    clear HT hq
    go_wp2_with fail
    refine HCC.out.mono ?_
    rintro r w2 ⟨rfl, hB⟩
    have hb2 : Below wr.heap.size wr w2 := HB0.out.trans (hB.mono (by rw [HZ.out]; omega))
    have HO2 := Lib.hid (own_below HO.out hb2)
    have HB2 : Hid (Below w.heap.size w w2) := HB.out.trans (hb2.mono HB.out.size)
    clear hB hb2 hc0 hc1 hc2 hc3 HX HZ HB0 HCC
    go_wp2
    go_roundw
    case rel => exact ⟨j + 1, by omega, by go_num, (by unfold Hid; rw [HC2.out]; exact HO2.out), HB2⟩
    case measure => simp [intOf]; omega
  ·obtain rfl : j = l.length := by omega
   rw [List.take_of_length_le (Nat.le_refl _)] at HO
   go_wp2
   go_ret
   exact ⟨_, rfl, HO.out, HB.out⟩
set_option maxHeartbeats 1000000 in
theorem without_any (a : Option Addr) (c : Nat) (l : List EnM) (s : ByteArray) (w : World) (hr : EnSl w a l) (hl : l.length ≤ 100000) :
  Calls Tryz.prog 172 #[.slice a l.length c, (.string s)] w fun e w' => ∃ v, e = .returned v ∧ w'.ownsRow w.heap.size 123 4 v (l.filter (wiE s)).length (ens (l.filter (wiE s))) ∧ Below w.heap.size w w' := by
 have hb := ebelow_one w (.cells #[.string s] 9)
 have HC := Lib.hid (thosew_any a c l s w.heap.size (w.alloc (.cells #[.string s] 9)) (hr.below hb) (CapAt.new _ _ _) hl)
 have HB := Lib.hid hb
 clear hr hb
 go_enter Tryz.func172, Tryz.ntmps172
 go_wp2_with fail
 refine HC.out.mono ?_
 rintro r w2 ⟨v, rfl, ho, hB⟩
 go_wp2
 go_ret
 exact ⟨v, rfl, own_low ho HB.out.size, HB.out.trans (hB.mono HB.out.size)⟩
set_option maxHeartbeats 1000000 in
theorem eafter_any (a : Option Addr) (c : Nat) (l : List EnM) (s : Int) (w : World) (hr : EnSl w a l) (hl : l.length ≤ 100000) :
  Calls Tryz.prog 77 #[.slice a l.length c, (.int .i64 s)] w fun e w' => ∃ v, e = .returned v ∧ w'.ownsRow w.heap.size 123 4 v (l.filter (afE s)).length (ens (l.filter (afE s))) ∧ Below w.heap.size w w' := by
 have hb := ebelow_one w (.cells #[.int .i64 s] 3)
 have HC := Lib.hid (thosea_any a c l s w.heap.size (w.alloc (.cells #[.int .i64 s] 3)) (hr.below hb) (CapAt.new _ _ _) hl)
 have HB := Lib.hid hb
 clear hr hb
 go_enter Tryz.func77, Tryz.ntmps77
 go_wp2_with fail
 refine HC.out.mono ?_
 rintro r w2 ⟨v, rfl, ho, hB⟩
 go_wp2
 go_ret
 exact ⟨v, rfl, own_low ho HB.out.size, HB.out.trans (hB.mono HB.out.size)⟩
end Go.Proofs.YtjhdhfokhkcamaaGreat
namespace Go.Proofs.YtjhdhfokhkcamaaGreat
open Go.RowKit Go.Proofs
set_option linter.unusedVariables false
set_option maxRecDepth 100000
theorem ofU_hit {D : List UsL} {u : ByteArray} {j : Nat} (hj : j < D.length) (hlow : ∀ i (h : i < D.length), i < j → (D[i]).u ≠ u) (he : (D[j]).u = u) : ofU (umS D) u = (D[j]).l := by
 unfold ofU
 have hj2 : j < (umS D).length := by rw [umS_len]; exact hj
 have h1 : (umS D).find? (isKy UsM.u u) = some ((umS D)[j]) := by
  rw [List.find?_eq_some_iff_getElem]
  refine ⟨by unfold isKy; rw [decide_eq_true_iff]; simpa [umS, UsL.m] using he, j, hj2, rfl, fun i hi => ?_⟩
  have := hlow i (by omega) hi
  have h2 : i < (umS D).length := by omega
  unfold isKy
  simp [umS, UsL.m, this]
 rw [h1]
 simp [umS, UsL.m]
theorem ofU_miss {D : List UsL} {u : ByteArray} (hlow : ∀ i (h : i < D.length), (D[i]).u ≠ u) : ofU (umS D) u = [] := by
 unfold ofU
 have h1 : (umS D).find? (isKy UsM.u u) = none := by
  rw [List.find?_eq_none]
  intro x hx
  obtain ⟨y, hy, rfl⟩ := List.mem_map.1 hx
  obtain ⟨i, hi, rfl⟩ := List.getElem_of_mem hy
  have := hlow i hi
  unfold isKy
  simp [UsL.m, this]
 rw [h1]
set_option maxHeartbeats 4000000 in
theorem rof_any (x : SaL) (u : ByteArray) (w : World) (h : SaAt w x) (hl : x.us.length ≤ 100000) :
  Calls Tryz.prog 92 #[saV x, .string u] w fun e w' => ∃ a c, e = .returned (.slice a (ofU x.m.us u).length c) ∧ StSl w' a (ofU x.m.us u) ∧ Cp a (ofU x.m.us u).length c ∧ Below w.heap.size w w' := by
 have S0 := SB.new (Below.refl w.heap.size w) h 27
 obtain ⟨c0, c1, c2, c3, c4, c5⟩ := S0.cells
 have HU := Lib.hid S0.at_.us
 have HFR := Lib.hid S0.frame
 have HM : Hid (x.m.us = umS x.us) := rfl
 rw [show x.m.us = umS x.us from rfl]
 unfold saV saC at *
 clear h S0
 obtain ⟨now, hor, oa, op, oc, ua, us, uc, sa, su, sc, ta, tb, tc⟩ := x
 dsimp only at *
 go_enter Tryz.func92, Tryz.ntmps92
 go_wp2
 go_loopw [5] (fun i wr => ∃ (j : Nat), j ≤ us.length ∧ i = .int .i64 j ∧ Hid (∀ i (h : i < us.length), i < j → (us[i]).u ≠ u) ∧ wr = w.alloc (.cells #[.int .i64 now, .int .i64 hor, .slice oa op.length oc, .slice ua us.length uc, .slice sa su.length sc, .slice ta tb.length tc] 27)) (fun i _ => us.length - (intOf i).toNat)
 case atStart => exact ⟨0, by omega, rfl, (fun i h hi => by omega), rfl⟩
 case round =>
  obtain ⟨j, hj, rfl, HLO, rfl⟩ := hrel
  by_cases hjl : j < us.length
  ·obtain ⟨b, off, rfl, hbl, r0, r1, hat⟩ := HU.out.get hjl
   by_cases he : (us[j]).u = u
   ·have HX := Lib.hid (ofU_hit hjl HLO.out he)
    have HA := Lib.hid hat
    clear HLO HM hat
    generalize us[j] = y at *
    have he1 := txt_eq y.u
    subst he
    go_wp2
    go_ret
    exact ⟨y.a, y.c, by rw [HX.out]; rfl, by rw [HX.out]; exact HA.out.st, by rw [HX.out]; exact ⟨HA.out.le, HA.out.mx, HA.out.nil⟩, HFR.out⟩
   ·have heq := txt_ne he
    have HN : Hid (∀ i (h : i < us.length), i < j + 1 → (us[i]).u ≠ u) := fun i h hi => by
     by_cases hij : i = j
     ·subst hij; exact he
     ·exact HLO.out i h (by omega)
    clear HLO HM hat he
    generalize us[j] = y at *
    go_wp2
    go_roundw
    case rel => exact ⟨j + 1, by omega, by go_num, HN, by first | rfl | trivial⟩
    case measure => simp [intOf]; omega
  ·obtain rfl : j = us.length := by omega
   have HX := Lib.hid (ofU_miss (D := us) (u := u) (fun i h => HLO.out i h h))
   go_wp2
   go_ret
   exact ⟨none, 0, by rw [HX.out]; rfl, by rw [HX.out]; exact StSl.nil _ _, by rw [HX.out]; exact Cp.none, HFR.out⟩
end Go.Proofs.YtjhdhfokhkcamaaGreat
