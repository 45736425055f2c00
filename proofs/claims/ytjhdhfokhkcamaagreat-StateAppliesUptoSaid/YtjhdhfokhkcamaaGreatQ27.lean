/- Texts of mine, one behind the other, of each what is wanted. -/
import Derived.Test.YtjhdhfokhkcamaaGreatQ00
import Derived.Test.YtjhdhfokhkcamaaGreatShelf
import Derived.Test.YtjhdhfokhkcamaaGreatRows
import Derived.Test.YtjhdhfokhkcamaaGreatQ01
import Derived.Test.YtjhdhfokhkcamaaGreatQ02
import Derived.Test.YtjhdhfokhkcamaaGreatQ03
import Derived.Test.YtjhdhfokhkcamaaGreatQ04
import Derived.Test.YtjhdhfokhkcamaaGreatQ05
import Derived.Test.YtjhdhfokhkcamaaGreatQ09
import Derived.Test.YtjhdhfokhkcamaaGreatQ11
import Derived.Test.YtjhdhfokhkcamaaGreatQ14
import Derived.Test.YtjhdhfokhkcamaaGreatQ15
import Derived.Test.YtjhdhfokhkcamaaGreatQ17
import Derived.Test.YtjhdhfokhkcamaaGreatQ18
import Derived.Test.YtjhdhfokhkcamaaGreatQ20
import Derived.Test.YtjhdhfokhkcamaaGreatQ21
namespace Go.Proofs.YtjhdhfokhkcamaaGreat
open Go.RowKit Go.Sort Go.Proofs
set_option linter.unusedVariables false
set_option maxRecDepth 100000
set_option maxRecDepth 100000
structure PosTo (l : List StM) (s : StM) (j p : Nat) : Prop where
 le : p ≤ j
 up : ∀ i (h : i < l.length), p ≤ i → i < j → ltSt s l[i]
 low : ∀ (h : 0 < p) (h1 : p - 1 < l.length), ¬ ltSt s l[p - 1]
theorem PosTo.up' {l : List StM} {s : StM} {j p : Nat} (h : PosTo l s j p) (hj : j < l.length) (k : ltSt s l[j]) : PosTo l s (j + 1) p :=
 ⟨by have := h.le; omega, fun i hi h1 h2 => by
  rcases Nat.lt_or_ge i j with h3 | h3
  ·exact h.up i hi h1 h3
  ·obtain rfl : i = j := by omega
   exact k, h.low⟩
theorem PosTo.here {l : List StM} {s : StM} {j p : Nat} (h : PosTo l s j p) (hj : j < l.length) (k : ¬ ltSt s l[j]) : PosTo l s (j + 1) (j + 1) :=
 ⟨Nat.le_refl _, fun i hi h1 h2 => absurd h1 (by omega), fun _ h1 => k⟩
theorem PosTo.is {l : List StM} {s : StM} {p : Nat} (h : PosTo l s l.length p) : IsPos l s p := ⟨h.le, fun i hi h1 => h.up i hi h1 hi, h.low⟩
structure RtK (w : World) (g : Nat) (x : StM) (a : Option Addr) (l : List StM) (W : World) : Prop where
 box : W.heap[g]? = some (.cells #[.int .i64 x.f, .int .i64 x.t, .int .i64 x.n, .int .i64 x.s] 135 (0, 0))
 row : StSl W a l
 frame : Below w.heap.size w W
theorem RtK.below {w W W' : World} {g : Nat} {x : StM} {a : Option Addr} {l : List StM} (h : RtK w g x a l W) (q : Below W.heap.size W W') : RtK w g x a l W' :=
 ⟨(q.block _ (heap_lt h.box)).trans h.box, h.row.below q, h.frame.trans (q.mono h.frame.size)⟩
theorem RtK.four {w W : World} {g : Nat} {x : StM} {a : Option Addr} {l : List StM} (h : RtK w g x a l W) :
  W.cell? ⟨g, 0, none⟩ = some (.int .i64 x.f) ∧ W.cell? ⟨g, 1, none⟩ = some (.int .i64 x.t) ∧ W.cell? ⟨g, 2, none⟩ = some (.int .i64 x.n) ∧ W.cell? ⟨g, 3, none⟩ = some (.int .i64 x.s) := cells4 h.box
theorem RtK.at_ {w W : World} {g : Nat} {x : StM} {b off : Nat} {l : List StM} (h : RtK w g x (some ⟨b, off, none⟩) l W) {k : Nat} (hk : k < l.length) :
  W.cell? ⟨g, 0, none⟩ = some (.int .i64 x.f) ∧ W.cell? ⟨g, 1, none⟩ = some (.int .i64 x.t) ∧ W.cell? ⟨g, 2, none⟩ = some (.int .i64 x.n) ∧ W.cell? ⟨g, 3, none⟩ = some (.int .i64 x.s) ∧
  W.cell? ⟨b, off + k * 4, none⟩ = some (.int .i64 l[k].f) ∧ W.cell? ⟨b, off + k * 4 + 1, none⟩ = some (.int .i64 l[k].t) ∧ W.cell? ⟨b, off + k * 4 + 2, none⟩ = some (.int .i64 l[k].n) ∧ W.cell? ⟨b, off + k * 4 + 3, none⟩ = some (.int .i64 l[k].s) := by
 obtain ⟨_, _, e, _, h0, h1, h2, h3⟩ := h.row.at_ hk
 cases e
 exact ⟨h.four.1, h.four.2.1, h.four.2.2.1, h.four.2.2.2, h0, h1, h2, h3⟩
theorem RtK.new {w W : World} {x : StM} {a : Option Addr} {l : List StM} (h : StSl W a l) (hb : Below w.heap.size w W) : RtK w W.heap.size x a l (W.alloc (.cells #[.int .i64 x.f, .int .i64 x.t, .int .i64 x.n, .int .i64 x.s] 135)) :=
 ⟨heap_alloc_new W _, h.below (below_one _ _), hb.alloc hb.size _⟩
structure Wd (x : Option Addr) (q n : Nat) : Prop where
 le : n ≤ q
 max : q ≤ maxLen
 nil : x = none → q = 0
theorem add_end {w w' : World} {B : Nat} {v : Value} {l : List StM} {s : StM} {p : Nat} (h : addS l s = l.take p ++ s :: l.drop p) (ho : w'.ownsRow B 135 4 v ((([] ++ l.take p) ++ [s]) ++ l.drop p).length (sts ((([] ++ l.take p) ++ [s]) ++ l.drop p))) (hb : Below w.heap.size w w') :
  ∃ x q, Ending.returned v = .returned (.slice x (addS l s).length q) ∧ StSl w' x (addS l s) ∧ Below w.heap.size w w' ∧ Wd x q (addS l s).length := by
 rw [List.nil_append, List.append_assoc, List.singleton_append, ← h] at ho
 obtain ⟨x, q, rfl, h1, h2, hs, h3⟩ := own_st ho
 exact ⟨x, q, rfl, hs, hb, ⟨h1, h2, h3⟩⟩
set_option maxHeartbeats 4000000 in
theorem refAdd_more (a : Option Addr) (c : Nat) (l : List StM) (s : StM) (w : World) (hr : StSl w a l) (hn : a = none → c = 0) (hl : l.length ≤ 1000) (hc : l.length ≤ c) (hcm : c ≤ maxLen) :
  Calls Tryz.prog 94 #[.slice a l.length c, stV s] w fun e w' => ∃ x q, e = .returned (.slice x (addS l s).length q) ∧ StSl w' x (addS l s) ∧ Below w.heap.size w w' ∧ Wd x q (addS l s).length := by
 have HWD : Hid (Wd a c l.length) := ⟨hc, hcm, hn⟩
 obtain ⟨i0, hi, hz0, hz1, hz2⟩ := info_parts infoStayR
 have HCM := Lib.hid (fun x y W => (ahead_any x y W).mono fun e w' (h : _ ∧ Grew W w') => And.intro h.1 (h.2.below (Nat.le_refl _)))
 have HK0 := Lib.hid (RtK.new (w := w) (x := s) hr (Below.refl _ _))
 have HNil := Lib.hid hn
 clear hr hn
 unfold maxLen at hcm
 unfold stV at *
 by_cases h0 : s.t ≤ s.f
 ·have hd0 := decide_eq_true h0
  have HA : Hid (addS l s = l) := by unfold Hid addS; rw [if_pos h0]
  rw [HA.out]
  go_enter Tryz.func94, Tryz.ntmps94
  go_wp2
  go_ret
  exact ⟨_, _, rfl, HK0.out.row, HK0.out.frame, HWD.out⟩
 ·have hd0 := decide_eq_false h0
  have HA : Hid (∀ p, IsPos l s p → addS l s = l.take p ++ s :: l.drop p) := fun p hp => by unfold addS; rw [if_neg h0, putS_at hp]
  go_enter Tryz.func94, Tryz.ntmps94
  go_wp2
  generalize w.alloc (.cells #[.int .i64 s.f, .int .i64 s.t, .int .i64 s.n, .int .i64 s.s] 135) = w1 at *
  generalize w.heap.size = g at *
  clear h0 hd0
  go_loopw [5, 6] (fun p i wr => ∃ (j q : Nat), j ≤ l.length ∧ q ≤ j ∧ i = .int .i64 j ∧ p = .int .i64 q ∧ Hid (PosTo l s j q) ∧ Hid (RtK w g s a l wr)) (fun _ i _ => l.length - (intOf i).toNat)
  case atStart => exact ⟨0, 0, by omega, by omega, rfl, rfl, ⟨Nat.le_refl _, fun i _ _ h => absurd h (by omega), fun h => absurd h (by omega)⟩, HK0.out⟩
  case round =>
   obtain ⟨j, q, hj, hq, rfl, rfl, HP, HK⟩ := hrel
   by_cases hjl : j < l.length
   ·obtain ⟨b, off, rfl, -, -, -, -, -⟩ := HK.out.row.at_ hjl
    have HP0 : Hid (∀ W, RtK w g s (some ⟨b, off, none⟩) l W → W.cell? ⟨g, 0, none⟩ = some (.int .i64 s.f) ∧ W.cell? ⟨g, 1, none⟩ = some (.int .i64 s.t) ∧ W.cell? ⟨g, 2, none⟩ = some (.int .i64 s.n) ∧ W.cell? ⟨g, 3, none⟩ = some (.int .i64 s.s) ∧
      W.cell? ⟨b, off + j * 4, none⟩ = some (.int .i64 l[j].f) ∧ W.cell? ⟨b, off + j * 4 + 1, none⟩ = some (.int .i64 l[j].t) ∧ W.cell? ⟨b, off + j * 4 + 2, none⟩ = some (.int .i64 l[j].n) ∧ W.cell? ⟨b, off + j * 4 + 3, none⟩ = some (.int .i64 l[j].s)) := fun W h => h.at_ hjl
    have HCX0 := Lib.hid (HCM.out s l[j])
    have HU1 := Lib.hid (HP.out.up' hjl)
    have HU2 := Lib.hid (HP.out.here hjl)
    have K1 := HK.out.below (Below.refl _ _).drew
    clear HCM
    generalize l[j] = y at *
    by_cases h3 : ltSt s y
    ·have HQ := Lib.hid (HU1.out h3)
     have HCX : Hid (∀ W, Calls Tryz.prog 153 #[.agg #[.int .i64 s.f, .int .i64 s.t, .int .i64 s.n, .int .i64 s.s], .agg #[.int .i64 y.f, .int .i64 y.t, .int .i64 y.n, .int .i64 y.s]] W fun e w' => e = .returned (.bool true) ∧ Below W.heap.size W w') := fun W => by
      have := HCX0.out W
      rwa [decide_eq_true h3] at this
     clear HU1 HU2 HCX0 h3
     go_wp2_with fail
     go_region_held3 (fun W => W.cell? ⟨g, 0, none⟩ = some (.int .i64 s.f) ∧ W.cell? ⟨g, 1, none⟩ = some (.int .i64 s.t) ∧ W.cell? ⟨g, 2, none⟩ = some (.int .i64 s.n) ∧ W.cell? ⟨g, 3, none⟩ = some (.int .i64 s.s) ∧ W.cell? ⟨b, off + j * 4, none⟩ = some (.int .i64 y.f) ∧ W.cell? ⟨b, off + j * 4 + 1, none⟩ = some (.int .i64 y.t) ∧ W.cell? ⟨b, off + j * 4 + 2, none⟩ = some (.int .i64 y.n) ∧ W.cell? ⟨b, off + j * 4 + 3, none⟩ = some (.int .i64 y.s))
      (first | exact HP0.out _ K1 | exact HP0.out _ K3)
      (first | (go_at_call 153; refine (HCX.out _).mono ?_; rintro e w3 ⟨rfl, h3⟩; have K3 := K1.below h3))
     go_wp2
     go_roundw
     case rel => exact ⟨j + 1, q, by omega, by omega, by go_num, rfl, HQ, K3⟩
     case measure => simp [intOf]; omega
    ·have HQ := Lib.hid (HU2.out h3)
     have HCX : Hid (∀ W, Calls Tryz.prog 153 #[.agg #[.int .i64 s.f, .int .i64 s.t, .int .i64 s.n, .int .i64 s.s], .agg #[.int .i64 y.f, .int .i64 y.t, .int .i64 y.n, .int .i64 y.s]] W fun e w' => e = .returned (.bool false) ∧ Below W.heap.size W w') := fun W => by
      have := HCX0.out W
      rwa [decide_eq_false h3] at this
     clear HU1 HU2 HCX0 h3
     go_wp2_with fail
     go_region_held3 (fun W => W.cell? ⟨g, 0, none⟩ = some (.int .i64 s.f) ∧ W.cell? ⟨g, 1, none⟩ = some (.int .i64 s.t) ∧ W.cell? ⟨g, 2, none⟩ = some (.int .i64 s.n) ∧ W.cell? ⟨g, 3, none⟩ = some (.int .i64 s.s) ∧ W.cell? ⟨b, off + j * 4, none⟩ = some (.int .i64 y.f) ∧ W.cell? ⟨b, off + j * 4 + 1, none⟩ = some (.int .i64 y.t) ∧ W.cell? ⟨b, off + j * 4 + 2, none⟩ = some (.int .i64 y.n) ∧ W.cell? ⟨b, off + j * 4 + 3, none⟩ = some (.int .i64 y.s))
      (first | exact HP0.out _ K1 | exact HP0.out _ K3)
      (first | (go_at_call 153; refine (HCX.out _).mono ?_; rintro e w3 ⟨rfl, h3⟩; have K3 := K1.below h3))
     go_wp2
     go_roundw
     case rel => exact ⟨j + 1, j + 1, by omega, by omega, by go_num, by go_num, HQ, K3⟩
     case measure => simp [intOf]; omega
   ·obtain rfl : j = l.length := by omega
    have HQ := Lib.hid HP.out.is
    clear HP HCM
    have hpc : q ≤ c := by omega
    have hz1' : (0 : Int) ≤ (q : Int) := by omega
    have hz2' : (q : Int) ≤ (l.length : Int) := by omega
    have hz3' : (q : Int) ≤ (c : Int) := by omega
    have hz4' : (l.length : Int) ≤ (c : Int) := by omega
    by_cases hlz : 0 < l.length
    ·obtain ⟨b, off, rfl, -, -, -, -, -⟩ := HK.out.row.at_ hlz
     by_cases hcp : c = q
     ·obtain rfl : q = l.length := by omega
      subst hcp
      have O1 := Lib.hid (own_empty8 wr 135 4 wr.heap.size (Nat.le_refl _))
      have B1 := Lib.hid (below_one wr (.cells #[] 135))
      have S1 := Lib.hid ((HK.out.row.take l.length).below B1.out)
      go_wp2_with (at_builtin; first
       | (refine wpList_append_st _ rfl (.tmp 29) (.tmp 32) 58 rfl wr.heap.size 135 i0 _ Tryz.underlying58 hi hz0 hz1 hz2 rfl _ [] rfl O1.out (some ⟨b, off, none⟩) l.length ((l).take l.length) (by rw [List.length_take, Nat.min_self]; rfl) S1.out (fun h => by cases h) (by simp; omega) B1.out.size ?_; intro v2 w2 hown2 hB2; obtain ⟨g0, g1, g2, g3⟩ := (HK.out.below (B1.out.trans hB2)).four; have BB := Lib.hid (B1.out.trans hB2); have OO := Lib.hid hown2; clear hown2 hB2)
       | (refine wpList_append_st _ rfl (.tmp 34) (.tmp 36) 58 rfl wr.heap.size 135 i0 _ Tryz.underlying58 hi hz0 hz1 hz2 rfl _ _ rfl (own_below OO.out (below_one w2 (.cells #[.int .i64 s.f, .int .i64 s.t, .int .i64 s.n, .int .i64 s.s] 135))) (some ⟨w2.heap.size, 0, none⟩) 1 [s] rfl (cells_st w2 [s] #[.int .i64 s.f, .int .i64 s.t, .int .i64 s.n, .int .i64 s.s] 135 _ rfl rfl) (fun h => by cases h) (by simp; omega) (BB.out.trans ((below_one w2 (.cells #[.int .i64 s.f, .int .i64 s.t, .int .i64 s.n, .int .i64 s.s] 135)).mono BB.out.size)).size ?_; intro v3 w3 hown3 hB3; have B3 := Lib.hid ((BB.out.trans ((below_one w2 (.cells #[.int .i64 s.f, .int .i64 s.t, .int .i64 s.n, .int .i64 s.s] 135)).mono BB.out.size)).trans hB3); have O3 := Lib.hid hown3; clear hown3 hB3 g0 g1 g2 g3)
       | (refine wpList_append_st _ rfl (.tmp 38) (.tmp 41) 58 rfl wr.heap.size 135 i0 _ Tryz.underlying58 hi hz0 hz1 hz2 rfl _ _ rfl O3.out (some ⟨b, off, none⟩) 0 ((l).drop l.length) (by rw [List.drop_eq_nil_of_le (Nat.le_refl _)]; rfl) (((show StSl wr (some ⟨b, off, none⟩) (l.drop l.length) by rw [List.drop_eq_nil_of_le (Nat.le_refl _)]; exact StSl.nil _ _)).below B3.out) (fun h => by cases h) (by simp; omega) B3.out.size ?_; intro v4 w4 hown4 hB4; have B4 := Lib.hid (B3.out.trans hB4); have O4 := Lib.hid hown4; clear hown4 hB4))
      go_ret
      refine add_end (HA.out _ HQ.out) O4.out (HK.out.frame.trans (B4.out.mono HK.out.frame.size))
     ·have O1 := Lib.hid (own_empty8 wr 135 4 wr.heap.size (Nat.le_refl _))
      have B1 := Lib.hid (below_one wr (.cells #[] 135))
      have S1 := Lib.hid ((HK.out.row.take q).below B1.out)
      go_wp2_with (at_builtin; first
       | (refine wpList_append_st _ rfl (.tmp 29) (.tmp 32) 58 rfl wr.heap.size 135 i0 _ Tryz.underlying58 hi hz0 hz1 hz2 rfl _ [] rfl O1.out (some ⟨b, off, none⟩) c ((l).take q) (by rw [List.length_take, Nat.min_eq_left hq]; rfl) S1.out (fun h => by cases h) (by simp; omega) B1.out.size ?_; intro v2 w2 hown2 hB2; obtain ⟨g0, g1, g2, g3⟩ := (HK.out.below (B1.out.trans hB2)).four; have BB := Lib.hid (B1.out.trans hB2); have OO := Lib.hid hown2; clear hown2 hB2)
       | (refine wpList_append_st _ rfl (.tmp 34) (.tmp 36) 58 rfl wr.heap.size 135 i0 _ Tryz.underlying58 hi hz0 hz1 hz2 rfl _ _ rfl (own_below OO.out (below_one w2 (.cells #[.int .i64 s.f, .int .i64 s.t, .int .i64 s.n, .int .i64 s.s] 135))) (some ⟨w2.heap.size, 0, none⟩) 1 [s] rfl (cells_st w2 [s] #[.int .i64 s.f, .int .i64 s.t, .int .i64 s.n, .int .i64 s.s] 135 _ rfl rfl) (fun h => by cases h) (by simp; omega) (BB.out.trans ((below_one w2 (.cells #[.int .i64 s.f, .int .i64 s.t, .int .i64 s.n, .int .i64 s.s] 135)).mono BB.out.size)).size ?_; intro v3 w3 hown3 hB3; have B3 := Lib.hid ((BB.out.trans ((below_one w2 (.cells #[.int .i64 s.f, .int .i64 s.t, .int .i64 s.n, .int .i64 s.s] 135)).mono BB.out.size)).trans hB3); have O3 := Lib.hid hown3; clear hown3 hB3 g0 g1 g2 g3)
       | (refine wpList_append_st _ rfl (.tmp 38) (.tmp 41) 58 rfl wr.heap.size 135 i0 _ Tryz.underlying58 hi hz0 hz1 hz2 rfl _ _ rfl O3.out (some ⟨b, off + q * 4, none⟩) (c - q) ((l).drop q) (by rw [List.length_drop]; rfl) ((HK.out.row.drop q).below B3.out) (fun h => by cases h) (by simp; omega) B3.out.size ?_; intro v4 w4 hown4 hB4; have B4 := Lib.hid (B3.out.trans hB4); have O4 := Lib.hid hown4; clear hown4 hB4))
      go_ret
      refine add_end (HA.out _ HQ.out) O4.out (HK.out.frame.trans (B4.out.mono HK.out.frame.size))
    ·have hl0 : l = [] := List.eq_nil_of_length_eq_zero (by omega)
     subst hl0
     obtain rfl : q = 0 := by simpa using hq
     cases a with
     | none =>
      have hc0 := HNil.out rfl
      subst hc0
      have O1 := Lib.hid (own_empty8 wr 135 4 wr.heap.size (Nat.le_refl _))
      have B1 := Lib.hid (below_one wr (.cells #[] 135))
      have O2 := Lib.hid (own_below O1.out (below_one _ (.cells #[.int .i64 s.f, .int .i64 s.t, .int .i64 s.n, .int .i64 s.s] 135)))
      have B2 := Lib.hid (B1.out.trans ((below_one _ (.cells #[.int .i64 s.f, .int .i64 s.t, .int .i64 s.n, .int .i64 s.s] 135)).mono B1.out.size))
      have S2 := Lib.hid (cells_st (wr.alloc (.cells #[] 135)) [s] #[.int .i64 s.f, .int .i64 s.t, .int .i64 s.n, .int .i64 s.s] 135 (wr.heap.size + 1) (size1 _ _).symm rfl)
      obtain ⟨g0, g1, g2, g3⟩ := HK.out.four
      have hgl := heap_lt HK.out.box
      clear O1
      go_wp2_with (at_builtin; first
       | (refine wpList_append_st _ rfl (.tmp 34) (.tmp 36) 58 rfl wr.heap.size 135 i0 _ Tryz.underlying58 hi hz0 hz1 hz2 rfl _ [] rfl O2.out (some ⟨wr.heap.size + 1, 0, none⟩) 1 [s] rfl S2.out (fun h => by cases h) (by simp) B2.out.size ?_; intro v3 w3 hown3 hB3; have B3 := Lib.hid (B2.out.trans hB3); have O3 := Lib.hid hown3; clear hown3 hB3 g0 g1 g2 g3 hgl)
       | (refine wpList_append_st _ rfl (.tmp 38) (.tmp 41) 58 rfl wr.heap.size 135 i0 _ Tryz.underlying58 hi hz0 hz1 hz2 rfl _ _ rfl O3.out none 0 [] rfl (StSl.nil _ _) (fun _ => rfl) (by simp) B3.out.size ?_; intro v4 w4 hown4 hB4; have B4 := Lib.hid (B3.out.trans hB4); have O4 := Lib.hid hown4; clear hown4 hB4))
      go_ret
      obtain ⟨x, q, h1, h2, h3⟩ := add_end (l := []) (p := 0) (HA.out _ HQ.out) O4.out (HK.out.frame.trans (B4.out.mono HK.out.frame.size))
      first | exact ⟨x, q, h1, h2, h3⟩ | exact ⟨x, ⟨q, h1⟩, h2, h3⟩
     | some ad =>
      obtain ⟨b, off, sp⟩ := ad
      by_cases hcp : c = 0
      ·subst hcp
       have O1 := Lib.hid (own_empty8 wr 135 4 wr.heap.size (Nat.le_refl _))
       have B1 := Lib.hid (below_one wr (.cells #[] 135))
       have O2 := Lib.hid (own_below O1.out (below_one _ (.cells #[.int .i64 s.f, .int .i64 s.t, .int .i64 s.n, .int .i64 s.s] 135)))
       have B2 := Lib.hid (B1.out.trans ((below_one _ (.cells #[.int .i64 s.f, .int .i64 s.t, .int .i64 s.n, .int .i64 s.s] 135)).mono B1.out.size))
       have S2 := Lib.hid (cells_st (wr.alloc (.cells #[] 135)) [s] #[.int .i64 s.f, .int .i64 s.t, .int .i64 s.n, .int .i64 s.s] 135 (wr.heap.size + 1) (size1 _ _).symm rfl)
       obtain ⟨g0, g1, g2, g3⟩ := HK.out.four
       have hgl := heap_lt HK.out.box
       clear O1
       go_wp2_with (at_builtin; first
        | (refine wpList_append_st _ rfl (.tmp 34) (.tmp 36) 58 rfl wr.heap.size 135 i0 _ Tryz.underlying58 hi hz0 hz1 hz2 rfl _ [] rfl O2.out (some ⟨wr.heap.size + 1, 0, none⟩) 1 [s] rfl S2.out (fun h => by cases h) (by simp) B2.out.size ?_; intro v3 w3 hown3 hB3; have B3 := Lib.hid (B2.out.trans hB3); have O3 := Lib.hid hown3; clear hown3 hB3 g0 g1 g2 g3 hgl)
        | (refine wpList_append_st _ rfl (.tmp 38) (.tmp 41) 58 rfl wr.heap.size 135 i0 _ Tryz.underlying58 hi hz0 hz1 hz2 rfl _ _ rfl O3.out (some ⟨b, off, sp⟩) 0 [] rfl (StSl.nil _ _) (fun h => by cases h) (by simp) B3.out.size ?_; intro v4 w4 hown4 hB4; have B4 := Lib.hid (B3.out.trans hB4); have O4 := Lib.hid hown4; clear hown4 hB4))
       go_ret
       obtain ⟨x, q, h1, h2, h3⟩ := add_end (l := []) (p := 0) (HA.out _ HQ.out) O4.out (HK.out.frame.trans (B4.out.mono HK.out.frame.size))
       first | exact ⟨x, q, h1, h2, h3⟩ | exact ⟨x, ⟨q, h1⟩, h2, h3⟩
      ·have O1 := Lib.hid (own_empty8 wr 135 4 wr.heap.size (Nat.le_refl _))
       have B1 := Lib.hid (below_one wr (.cells #[] 135))
       have O2 := Lib.hid (own_below O1.out (below_one _ (.cells #[.int .i64 s.f, .int .i64 s.t, .int .i64 s.n, .int .i64 s.s] 135)))
       have B2 := Lib.hid (B1.out.trans ((below_one _ (.cells #[.int .i64 s.f, .int .i64 s.t, .int .i64 s.n, .int .i64 s.s] 135)).mono B1.out.size))
       have S2 := Lib.hid (cells_st (wr.alloc (.cells #[] 135)) [s] #[.int .i64 s.f, .int .i64 s.t, .int .i64 s.n, .int .i64 s.s] 135 (wr.heap.size + 1) (size1 _ _).symm rfl)
       obtain ⟨g0, g1, g2, g3⟩ := HK.out.four
       have hgl := heap_lt HK.out.box
       clear O1
       go_wp2_with (at_builtin; first
        | (refine wpList_append_st _ rfl (.tmp 34) (.tmp 36) 58 rfl wr.heap.size 135 i0 _ Tryz.underlying58 hi hz0 hz1 hz2 rfl _ [] rfl O2.out (some ⟨wr.heap.size + 1, 0, none⟩) 1 [s] rfl S2.out (fun h => by cases h) (by simp) B2.out.size ?_; intro v3 w3 hown3 hB3; have B3 := Lib.hid (B2.out.trans hB3); have O3 := Lib.hid hown3; clear hown3 hB3 g0 g1 g2 g3 hgl)
        | (refine wpList_append_st _ rfl (.tmp 38) (.tmp 41) 58 rfl wr.heap.size 135 i0 _ Tryz.underlying58 hi hz0 hz1 hz2 rfl _ _ rfl O3.out (some _) _ [] rfl (StSl.nil _ _) (fun h => by cases h) (by simp) B3.out.size ?_; intro v4 w4 hown4 hB4; have B4 := Lib.hid (B3.out.trans hB4); have O4 := Lib.hid hown4; clear hown4 hB4))
       go_ret
       obtain ⟨x, q, h1, h2, h3⟩ := add_end (l := []) (p := 0) (HA.out _ HQ.out) O4.out (HK.out.frame.trans (B4.out.mono HK.out.frame.size))
       first | exact ⟨x, q, h1, h2, h3⟩ | exact ⟨x, ⟨q, h1⟩, h2, h3⟩
end Go.Proofs.YtjhdhfokhkcamaaGreat
namespace Go.Proofs.YtjhdhfokhkcamaaGreat
open Go.RowKit Go.Proofs
set_option linter.unusedVariables false
set_option maxRecDepth 100000
set_option maxRecDepth 100000
theorem oes_split (l : List OpM) (k : Nat) (h : k < l.length) : oes l = oes (l.take k) ++ (encO l[k] ++ oes (l.drop (k + 1))) := by
 rw [← oes_cons, ← oes_append, ← List.drop_eq_getElem_cons h, List.take_append_drop]
theorem oes_set2 (l : List OpM) (k : Nat) (h : k < l.length) (s f : Int) : ((oes l).set (k * 4 + 2) (.int .i64 s)).set (k * 4 + 3) (.int .i64 f) = oes (chgAt l k s f) := by
 have hk : (oes (l.take k)).length = k * 4 := by rw [oes_len, List.length_take]; omega
 rw [chgAt_at h, oes_split l k h, oes_append, oes_cons]
 rw [List.set_append_right _ _ (by omega), List.set_append_right _ _ (by omega), hk]
 have e1 : k * 4 + 2 - k * 4 = 2 := by omega
 have e2 : k * 4 + 3 - k * 4 = 3 := by omega
 rw [e1, e2]
 rfl
theorem oes_set4 (l : List OpM) (k : Nat) (h : k < l.length) (n : Int) (u : ByteArray) (s f : Int) (hn : l[k].n = n) (hu : l[k].u = u) : ((((oes l).set (k * 4) (.int .i64 n)).set (k * 4 + 1) (.string u)).set (k * 4 + 2) (.int .i64 s)).set (k * 4 + 3) (.int .i64 f) = oes (chgAt l k s f) := by
 have hk : (oes (l.take k)).length = k * 4 := by rw [oes_len, List.length_take]; omega
 subst hn hu
 rw [chgAt_at h, oes_split l k h, oes_append, oes_cons]
 rw [List.set_append_right _ _ (by omega), List.set_append_right _ _ (by omega), List.set_append_right _ _ (by omega), List.set_append_right _ _ (by omega), hk]
 have e0 : k * 4 - k * 4 = 0 := by omega
 have e3 : k * 4 + 1 - k * 4 = 1 := by omega
 have e1 : k * 4 + 2 - k * 4 = 2 := by omega
 have e2 : k * 4 + 3 - k * 4 = 3 := by omega
 rw [e0, e1, e2, e3]
 rfl
theorem own_opat {w : World} {B e n g cap : Nat} {m : List OpM} (h : w.ownsRow B e 4 (.slice (some ⟨g, 0, none⟩) n cap) m.length (oes m)) : n = m.length ∧ m.length ≤ cap ∧ cap ≤ maxLen ∧ OpSl w (some ⟨g, 0, none⟩) m := by
 obtain ⟨a, c, h1, h2, h3, h4, _⟩ := own_op h
 injection h1 with h1 h5 h6
 subst h1 h5 h6
 exact ⟨rfl, h2, h3, h4⟩
theorem GotO.at_ {w w' : World} {m : List OpM} {n cap gr : Nat} (hn : n = m.length) (h2 : m.length ≤ cap) (h3 : cap ≤ maxLen) (h4 : OpSl w' (some ⟨gr, 0, none⟩) m) (hb : Below w.heap.size w w') : GotO w w' m (.slice (some ⟨gr, 0, none⟩) n cap) := by
 subst hn
 exact ⟨_, _, rfl, h2, h3, (fun h => by cases h), h4, hb⟩
theorem own_opcell {w : World} {B e n g cap : Nat} {m : List OpM} (h : w.ownsRow B e 4 (.slice (some ⟨g, 0, none⟩) n cap) m.length (oes m)) {k : Nat} (hk : k < m.length) :
  (w.cell? ⟨g, k * 4, none⟩ = some (.int .i64 m[k].n) ∧ w.cell? ⟨g, k * 4 + 1, none⟩ = some (.string m[k].u) ∧ w.cell? ⟨g, k * 4 + 2, none⟩ = some (.int .i64 m[k].s) ∧ w.cell? ⟨g, k * 4 + 3, none⟩ = some (.int .i64 m[k].f)) ∧ (∀ j, w.frozen? ⟨g, j, none⟩ = false) := by
 obtain ⟨rfl, -, -, h4⟩ := own_opat h
 obtain ⟨b, off, e1, _, h0, h1, h2, h3⟩ := h4.at_ hk
 cases e1
 rw [Nat.zero_add] at h0 h1 h2 h3
 exact ⟨⟨h0, h1, h2, h3⟩, fun j => h.frozenAt j⟩
theorem cell_next {w : World} {g i j : Nat} {v x : Value} (h : w.cell? ⟨g, j, none⟩ = some x) (hij : ¬ i = j) : (w.setCell ⟨g, i, none⟩ v).cell? ⟨g, j, none⟩ = some x :=
 (World.cell?_setCell_other w _ _ _ (fun e => hij (by injection e))).trans h
set_option maxHeartbeats 1000000 in
theorem oclone_any (a : Option Addr) (c : Nat) (l : List OpM) (w : World) (hr : OpSl w a l) (h0 : 0 < l.length) (hl : l.length ≤ 100000) :
  Calls Tryz.prog 116 #[.slice a l.length c] w fun e w' => ∃ g cap, e = .returned (.slice (some ⟨g, 0, none⟩) l.length cap) ∧ w.heap.size ≤ g ∧ w'.ownsRow w.heap.size 112 4 (.slice (some ⟨g, 0, none⟩) l.length cap) l.length (oes l) ∧ Below w.heap.size w w' := by
 obtain ⟨i0, hi, hz0, hz1, hz2⟩ := info_parts infoOp
 have q22 : ∀ (W : World) (a : Option Addr) (n c n' c' : Nat), (binOp .eql 33 (.slice a n c) (.slice none n' c')).run Tryz.prog W = .ok (.bool a.isNone) W := fun W a n c n' c' => Lib.run_eql_slice_nil W _ _ a n c n' c' Tryz.underlying33
 obtain ⟨b, off, rfl, -, -, -, -, -⟩ := hr.at_ h0
 have HO := Lib.hid (own_emptyO w 112 4 w.heap.size (Nat.le_refl _))
 have HB := Lib.hid (below_one w (.cells #[] 112))
 have HX1 := Lib.hid (hr.below HB.out)
 clear hr
 go_enter Tryz.func116, Tryz.ntmps116
 go_wp2_with (at_builtin; refine wpList_append_op _ rfl (.tmp 5) (.tmp 6) 33 rfl w.heap.size 112 i0 _ Tryz.underlying33 hi hz0 hz1 hz2 rfl _ [] rfl HO.out (some ⟨b, off, none⟩) c l rfl HX1.out (fun h => by cases h) (by simpa using (show l.length ≤ 1000000 by omega)) HB.out.size ?_; intro v2 w2 hown2 hB2)
 have HO2 := Lib.hid hown2
 have HB2 := Lib.hid (HB.out.trans hB2)
 clear hown2 hB2
 go_wp2
 go_ret
 have ho := HO2.out
 rw [List.nil_append] at ho
 rcases ho.2 with ⟨rfl, hn⟩ | ⟨g, cap, cur, rfl, hg, _⟩
 ·omega
 ·exact ⟨g, cap, rfl, hg, ho, HB2.out⟩
set_option maxHeartbeats 4000000 in
theorem change_more (a : Option Addr) (c : Nat) (l : List OpM) (n : Int) (u : ByteArray) (s t : Int) (w : World) (hr : OpSl w a l) (hl : l.length ≤ 500) (hc : l.length ≤ c) (hcm : c ≤ maxLen) :
  Calls Tryz.prog 111 #[.slice a l.length c, .int .i64 n, .string u, .int .i64 s, .int .i64 t] w fun e w' => ∃ v, e = .returned (.tuple #[v, stV (fndS l n u t), .int .i64 (findC l n u)]) ∧ GotN w w' (chgR l n u s t) v := by
 have HF := Lib.hid (fun W (h : OpSl W a l) => find_any a c l n u W h (by omega))
 have HZ := Lib.hid (Zb.new w (.int .i64 0) (.int .i64 0) (.int .i64 0) (.int .i64 0) 86)
 have HR := Lib.hid hr
 have hCR : chgR l n u s t = if findC l n u = 0 then chgAt l (findP l n u) s t else [] := rfl
 have hFS : fndS l n u t = if findC l n u = 0 then stayO (findE l n u) t else stZ := rfl
 unfold maxLen at hcm
 clear hr
 rcases fc_three l n u with ⟨hc0, k, hk, -, -, -, he, hp⟩ | ⟨hc0, he, hp⟩
 ·rw [hc0, hp] at HF
  rw [hc0, if_pos rfl, hp] at hCR
  rw [hc0, if_pos rfl, he] at hFS
  rw [hc0, hCR, hFS]
  have HCL := Lib.hid (fun W (h : OpSl W a l) => oclone_any a c l W h (by omega) (by omega))
  have HST := Lib.hid (fun W => stay_any l[k] t W)
  unfold opV stV stayO at HST
  unfold stV stayO
  dsimp only at *
  have d1 : ((0 : Int) != 0) = false := rfl
  clear hCR hFS hc0 he hp
  go_enter Tryz.func111, Tryz.ntmps111
  go_wp2_with fail
  refine (HF.out _ (HR.out.below HZ.out.frame)).mono ?_
  rintro e w1 ⟨rfl, hB⟩
  have K1 := Lib.hid (HZ.out.below hB)
  clear hB HF HZ
  go_wp2_with fail
  refine (HCL.out _ (HR.out.below K1.out.frame)).mono ?_
  rintro e w2 ⟨gr, cap, rfl, hge, ho, hB⟩
  obtain ⟨⟨-, -, o2, o3⟩, of⟩ := own_opcell ho hk
  have f2 := of (k * 4 + 2)
  have f3 := of (k * 4 + 3)
  have q3 : (w2.setCell ⟨gr, k * 4 + 2, none⟩ (.int .i64 s)).cell? ⟨gr, k * 4 + 3, none⟩ = some (.int .i64 l[k].f) := cell_next o3 (by omega)
  have HB3 := Lib.hid ((hB.setCell (p := ⟨gr, k * 4 + 2, none⟩) hge (.int .i64 s)).setCell (p := ⟨gr, k * 4 + 3, none⟩) hge (.int .i64 t))
  have HO3 := Lib.hid ((ho.stored (k * 4 + 2) (.int .i64 s)).1.stored (k * 4 + 3) (.int .i64 t)).1
  rw [oes_set2 l k hk] at HO3
  have K3 := Lib.hid (K1.out.below HB3.out)
  obtain ⟨b, off, rfl, hbl, hc0, hc1, hc2, hc3⟩ := (HR.out.below K3.out.frame).at_ hk
  have hgrl : gr < w2.heap.size := (ho.lt gr rfl).2
  have HGE := Lib.hid hge
  have HLT := Lib.hid K1.out.lt
  have hcap : l.length ≤ cap := (own_opat ho).2.1
  have hcap2 : cap ≤ maxLen := (own_opat ho).2.2.1
  have HCAP := Lib.hid hcap2
  clear of ho hB HCL hge hcap2
  go_wp2_with fail
  refine (HST.out _).mono ?_
  rintro e w4 ⟨rfl, hB4⟩
  have K4 := K3.out.below hB4
  obtain ⟨z0, z1, z2, z3⟩ := K4.cells
  obtain ⟨y0, y1, y2, y3⟩ := K4.free
  have HL := Lib.hid (K4.loadS (.int .i64 l[k].f) (.int .i64 t) (.int .i64 l[k].n) (.int .i64 l[k].s))
  have HS := Lib.hid (K4.set (.int .i64 l[k].f) (.int .i64 t) (.int .i64 l[k].n) (.int .i64 l[k].s))
  have hlen := chgAt_len l k s t
  have HO3' : Hid (((w2.setCell ⟨gr, k * 4 + 2, none⟩ (.int .i64 s)).setCell ⟨gr, k * 4 + 3, none⟩ (.int .i64 t)).ownsRow w1.heap.size 112 4 (.slice (some ⟨gr, 0, none⟩) l.length cap) (chgAt l k s t).length (oes (chgAt l k s t))) := by
   unfold Hid
   rw [hlen]
   exact HO3.out
  have HSL := Lib.hid ((own_opat (own_below HO3'.out hB4)).2.2.2.setO w.heap.size (.int .i64 l[k].f) (.int .i64 t) (.int .i64 l[k].n) (.int .i64 l[k].s) (fun b o e => by cases e; have h1 := HGE.out; have h2 := HLT.out; omega))
  have HLEN := Lib.hid hlen
  unfold setO at HL HS HSL
  clear HO3 HO3' hB4 K4 HST hlen HB3 K3 HR hc0 hc1 hc2 hc3 q3 o2 o3 f2 f3
  go_wp2
  refine bodyPost_ret (v := .tuple #[.slice (some ⟨gr, 0, none⟩) l.length cap, .agg #[.int .i64 l[k].f, .int .i64 t, .int .i64 l[k].n, .int .i64 l[k].s], .int .i64 0]) ?_ rfl ⟨_, rfl, GotO.at_ HLEN.out.symm (by rw [HLEN.out]; exact hcap) HCAP.out HSL.out HS.out, fun b o q n e => by cases e; have h1 := HGE.out; have h2 := HLT.out; omega⟩
  rw [results_tmp_cell_tmp rfl]
  simp [asAddr, Result.andThen, HL.out]
 ·rw [hp] at HF
  have hne : ¬ findC l n u = 0 := by rcases hc0 with h | h <;> rw [h] <;> decide
  rw [if_neg hne] at hCR hFS
  rw [hCR, hFS]
  have d1 : (findC l n u != 0) = true := by rcases hc0 with h | h <;> rw [h] <;> rfl
  generalize findC l n u = C at *
  unfold stV stZ
  dsimp only
  clear hCR hFS hc0 he hp hne
  go_enter Tryz.func111, Tryz.ntmps111
  go_wp2_with fail
  refine (HF.out _ (HR.out.below HZ.out.frame)).mono ?_
  rintro e w1 ⟨rfl, hB⟩
  have K1 := HZ.out.below hB
  have HL := Lib.hid (K1.loadS (.int .i64 0) (.int .i64 0) (.int .i64 0) (.int .i64 0))
  have HS := Lib.hid (K1.set (.int .i64 0) (.int .i64 0) (.int .i64 0) (.int .i64 0))
  obtain ⟨z0, z1, z2, z3⟩ := K1.cells
  obtain ⟨f0, f1, f2, f3⟩ := K1.free
  have hgl := K1.lt
  unfold setO at HL HS
  clear HF hB K1
  go_wp2
  refine bodyPost_ret (v := .tuple #[.slice none 0 0, .agg #[.int .i64 0, .int .i64 0, .int .i64 0, .int .i64 0], .int .i64 C]) ?_ rfl ⟨_, rfl, GotO.nil HS.out, fun b o q n e => by cases e⟩
  rw [results_tmp_cell_tmp rfl]
  simp [asAddr, Result.andThen, HL.out]
theorem change_any (a : Option Addr) (c : Nat) (l : List OpM) (n : Int) (u : ByteArray) (s t : Int) (w : World) (hr : OpSl w a l) (hl : l.length ≤ 500) (hc : l.length ≤ c) (hcm : c ≤ maxLen) :
  Calls Tryz.prog 111 #[.slice a l.length c, .int .i64 n, .string u, .int .i64 s, .int .i64 t] w fun e w' => ∃ v, e = .returned (.tuple #[v, stV (fndS l n u t), .int .i64 (findC l n u)]) ∧ GotO w w' (chgR l n u s t) v :=
 (change_more a c l n u s t w hr hl hc hcm).mono fun e w' ⟨v, h1, h2⟩ => ⟨v, h1, h2.1⟩
theorem idx_three {l : List OpM} {n : Int} {u : ByteArray} {k : Nat} (hk : k < l.length) (h : IsFst (hasN n) l k) : idxO (hasN n) l = k := idxO_hit h hk
theorem own_store4 {w : World} {B e n g cap : Nat} {l : List OpM} {k : Nat} (h : w.ownsRow B e 4 (.slice (some ⟨g, 0, none⟩) n cap) l.length (oes l)) (hk : k < l.length) (x : Int) (u : ByteArray) (s f : Int) (hn : l[k].n = x) (hu : l[k].u = u) :
  ((((w.setCell ⟨g, k * 4, none⟩ (.int .i64 x)).setCell ⟨g, k * 4 + 1, none⟩ (.string u)).setCell ⟨g, k * 4 + 2, none⟩ (.int .i64 s)).setCell ⟨g, k * 4 + 3, none⟩ (.int .i64 f)).ownsRow B e 4 (.slice (some ⟨g, 0, none⟩) n cap) (chgAt l k s f).length (oes (chgAt l k s f)) := by
 obtain ⟨rfl, -, -, -⟩ := own_opat h
 rw [← oes_set4 l k hk x u s f hn hu, chgAt_len]
 exact ((((h.stored _ _).1.stored _ _).1.stored _ _).1.stored _ _).1
set_option maxHeartbeats 4000000 in
theorem rchange_any (a : Option Addr) (c : Nat) (l : List OpM) (n : Int) (u : ByteArray) (s t : Int) (w : World) (hr : OpSl w a l) (hl : l.length ≤ 500) (hc : l.length ≤ c) (hcm : c ≤ maxLen) :
  Calls Tryz.prog 123 #[.slice a l.length c, .int .i64 n, .string u, .int .i64 s, .int .i64 t] w fun e w' => ∃ v, e = .returned (.tuple #[v, stV (fndS l n u t), .int .i64 (findC l n u)]) ∧ GotO w w' (chgR l n u s t) v := by
 obtain ⟨i0, hi, hz0, hz1, hz2⟩ := info_parts infoOpR
 have HF := Lib.hid (fun W (h : OpSl W a l) => rFind_any a c l n u W h (by omega))
 have HZ := Lib.hid (Zb.new w (.int .i64 0) (.int .i64 0) (.int .i64 0) (.int .i64 0) 135)
 have HR := Lib.hid hr
 have hCR : chgR l n u s t = if findC l n u = 0 then chgAt l (findP l n u) s t else [] := rfl
 have hFS : fndS l n u t = if findC l n u = 0 then stayO (findE l n u) t else stZ := rfl
 unfold maxLen at hcm
 clear hr
 rcases fc_three l n u with ⟨hc0, k, hk, hfst, hkn, hku, he, hp⟩ | ⟨hc0, he, hp⟩
 ·rw [hc0, he] at HF
  rw [hc0, if_pos rfl, hp] at hCR
  rw [hc0, if_pos rfl, he] at hFS
  rw [hc0, hCR, hFS]
  have HAT := Lib.hid (fun W (h : OpSl W a l) => rat_any a c l n W h (by omega))
  rw [idx_three (u := u) hk hfst] at HAT
  have HST := Lib.hid (fun W => rstay_any l[k] t W)
  unfold opV stV stayO at HST
  unfold opV at HF
  unfold stV stayO
  dsimp only at *
  have d1 : ((0 : Int) != 0) = false := rfl
  have HKN := Lib.hid hkn
  have HKU := Lib.hid hku
  obtain ⟨x, hx⟩ : ∃ x, x = l[k] := ⟨_, rfl⟩
  have HX := Lib.hid hx
  rw [← hx] at HF HST ⊢
  clear hCR hFS hc0 he hp hfst hkn hku hx
  go_enter Tryz.func123, Tryz.ntmps123
  go_wp2_with fail
  refine (HF.out _ (HR.out.below HZ.out.frame)).mono ?_
  rintro e w1 ⟨rfl, hB⟩
  have K1 := Lib.hid (HZ.out.below hB)
  have KX := Lib.hid (Zb.new w1 (.int .i64 x.n) (.string x.u) (.int .i64 x.s) (.int .i64 x.f) 75)
  clear hB HF HZ
  have hlt0 : 0 < l.length := by omega
  obtain ⟨b, off, rfl, -, -, -, -, -⟩ := (HR.out.below K1.out.frame).at_ hlt0
  have HO : Hid (((w1.alloc (.cells #[.int .i64 x.n, .string x.u, .int .i64 x.s, .int .i64 x.f] 75)).alloc (.cells #[] 75)).ownsRow (w1.heap.size + 1) 75 4 (.slice (some ⟨w1.heap.size + 1, 0, none⟩) 0 0) 0 []) := by
   have := own_emptyO (w1.alloc (.cells #[.int .i64 x.n, .string x.u, .int .i64 x.s, .int .i64 x.f] 75)) 75 4 (w1.alloc (.cells #[.int .i64 x.n, .string x.u, .int .i64 x.s, .int .i64 x.f] 75)).heap.size (Nat.le_refl _)
   rw [size1] at this
   exact this
  have HBE : Hid (Below (w1.heap.size + 1) (w1.alloc (.cells #[.int .i64 x.n, .string x.u, .int .i64 x.s, .int .i64 x.f] 75)) ((w1.alloc (.cells #[.int .i64 x.n, .string x.u, .int .i64 x.s, .int .i64 x.f] 75)).alloc (.cells #[] 75))) := by
   have := below_one (w1.alloc (.cells #[.int .i64 x.n, .string x.u, .int .i64 x.s, .int .i64 x.f] 75)) (.cells #[] 75)
   rw [size1] at this
   exact this
  have HX1 := Lib.hid ((HR.out.below K1.out.frame).below (below_two w1 (.cells #[.int .i64 x.n, .string x.u, .int .i64 x.s, .int .i64 x.f] 75) (.cells #[] 75)))
  have HSZ : Hid (w1.heap.size + 1 ≤ ((w1.alloc (.cells #[.int .i64 x.n, .string x.u, .int .i64 x.s, .int .i64 x.f] 75)).alloc (.cells #[] 75)).heap.size) := by unfold Hid; rw [size1, size1]; omega
  have HLT := Lib.hid K1.out.lt
  go_wp2_with (at_builtin; refine wpList_append_op _ rfl (.tmp 27) (.tmp 28) 22 rfl (w1.heap.size + 1) 75 i0 _ Tryz.underlying22 hi hz0 hz1 hz2 rfl _ [] rfl HO.out (some ⟨b, off, none⟩) c l rfl HX1.out (fun h => by cases h) (by simpa using (show l.length ≤ 1000000 by omega)) HSZ.out ?_; intro v2 w3 hown2 hB2)
  have hB3 : Below (w1.alloc (.cells #[.int .i64 x.n, .string x.u, .int .i64 x.s, .int .i64 x.f] 75)).heap.size (w1.alloc (.cells #[.int .i64 x.n, .string x.u, .int .i64 x.s, .int .i64 x.f] 75)) w3 := by
   rw [size1]
   exact HBE.out.trans hB2
  have K3 := Lib.hid ((K1.out.alloc (.cells #[.int .i64 x.n, .string x.u, .int .i64 x.s, .int .i64 x.f] 75)).below hB3)
  have KX3 := Lib.hid (KX.out.below hB3)
  rw [List.nil_append] at hown2
  obtain ⟨gr, cap, rfl, hge⟩ : ∃ gr cap, v2 = .slice (some ⟨gr, 0, none⟩) l.length cap ∧ w1.heap.size + 1 ≤ gr := by
   rcases hown2.2 with ⟨_, hn⟩ | ⟨g, cap, cur, h1, hg, _⟩
   ·omega
   ·exact ⟨g, cap, h1, hg⟩
  have HO3 := Lib.hid hown2
  have HGE := Lib.hid hge
  clear hown2 hB2 hB3 hge HO HBE HX1 HSZ KX K1
  refine (HAT.out _ (HR.out.below K3.out.frame)).mono ?_
  rintro e w4 ⟨rfl, hB⟩
  have ho4 := own_below HO3.out hB
  have K4 := Lib.hid (K3.out.below hB)
  have KX4 := Lib.hid (KX3.out.below hB)
  obtain ⟨⟨o0, o1, o2, o3⟩, of⟩ := own_opcell ho4 hk
  have f0 := of (k * 4)
  have f1 := of (k * 4 + 1)
  have f2 := of (k * 4 + 2)
  have f3 := of (k * 4 + 3)
  have hgrl : gr < w4.heap.size := (ho4.lt gr rfl).2
  have hb4 := Below.refl w4.heap.size w4
  have HS5 : Hid (w1.heap.size + 1 ≤ w4.heap.size) := by have h1 := HGE.out; unfold Hid; omega
  have HW5 : Hid (Below (w1.heap.size + 1) w4 ((((w4.setCell ⟨gr, k * 4, none⟩ (.int .i64 n)).setCell ⟨gr, k * 4 + 1, none⟩ (.string u)).setCell ⟨gr, k * 4 + 2, none⟩ (.int .i64 s)).setCell ⟨gr, k * 4 + 3, none⟩ (.int .i64 t))) :=
   ((((Below.refl (w1.heap.size + 1) w4).setCell (p := ⟨gr, k * 4, none⟩) HGE.out _).setCell (p := ⟨gr, k * 4 + 1, none⟩) HGE.out _).setCell (p := ⟨gr, k * 4 + 2, none⟩) HGE.out _).setCell (p := ⟨gr, k * 4 + 3, none⟩) HGE.out _
  have HO5 := Lib.hid (own_store4 ho4 hk n u s t HKN.out HKU.out)
  have HCAP := Lib.hid (own_opat ho4).2
  have q0 : ((((w4.setCell ⟨gr, k * 4, none⟩ (.int .i64 n)).setCell ⟨gr, k * 4 + 1, none⟩ (.string u)).setCell ⟨gr, k * 4 + 2, none⟩ (.int .i64 s)).setCell ⟨gr, k * 4 + 3, none⟩ (.int .i64 t)).cell? ⟨w1.heap.size, 0, none⟩ = some (.int .i64 x.n) := (HW5.out.cell (p := ⟨w1.heap.size, 0, none⟩) (by show w1.heap.size < w1.heap.size + 1; omega)).trans KX4.out.cells.1
  have q1 : ((((w4.setCell ⟨gr, k * 4, none⟩ (.int .i64 n)).setCell ⟨gr, k * 4 + 1, none⟩ (.string u)).setCell ⟨gr, k * 4 + 2, none⟩ (.int .i64 s)).setCell ⟨gr, k * 4 + 3, none⟩ (.int .i64 t)).cell? ⟨w1.heap.size, 1, none⟩ = some (.string x.u) := (HW5.out.cell (p := ⟨w1.heap.size, 1, none⟩) (by show w1.heap.size < w1.heap.size + 1; omega)).trans KX4.out.cells.2.1
  have q2 : ((((w4.setCell ⟨gr, k * 4, none⟩ (.int .i64 n)).setCell ⟨gr, k * 4 + 1, none⟩ (.string u)).setCell ⟨gr, k * 4 + 2, none⟩ (.int .i64 s)).setCell ⟨gr, k * 4 + 3, none⟩ (.int .i64 t)).cell? ⟨w1.heap.size, 2, none⟩ = some (.int .i64 x.s) := (HW5.out.cell (p := ⟨w1.heap.size, 2, none⟩) (by show w1.heap.size < w1.heap.size + 1; omega)).trans KX4.out.cells.2.2.1
  have q3 : ((((w4.setCell ⟨gr, k * 4, none⟩ (.int .i64 n)).setCell ⟨gr, k * 4 + 1, none⟩ (.string u)).setCell ⟨gr, k * 4 + 2, none⟩ (.int .i64 s)).setCell ⟨gr, k * 4 + 3, none⟩ (.int .i64 t)).cell? ⟨w1.heap.size, 3, none⟩ = some (.int .i64 x.f) := (HW5.out.cell (p := ⟨w1.heap.size, 3, none⟩) (by show w1.heap.size < w1.heap.size + 1; omega)).trans KX4.out.cells.2.2.2
  have K5 : Hid (Zb w w.heap.size (.int .i64 0) (.int .i64 0) (.int .i64 0) (.int .i64 0) 135 ((((w4.setCell ⟨gr, k * 4, none⟩ (.int .i64 n)).setCell ⟨gr, k * 4 + 1, none⟩ (.string u)).setCell ⟨gr, k * 4 + 2, none⟩ (.int .i64 s)).setCell ⟨gr, k * 4 + 3, none⟩ (.int .i64 t))) :=
   ⟨(HW5.out.block w.heap.size (by have := HLT.out; omega)).trans K4.out.blk, Nat.le_refl _, K4.out.frame.trans (HW5.out.mono (by have := HLT.out; omega))⟩
  clear of ho4 hB HO3 K3 KX3 HAT K4 KX4
  go_wp2_with fail
  refine (HST.out _).mono ?_
  rintro e w6 ⟨rfl, hB6⟩
  have K6 := K5.out.below hB6
  obtain ⟨z0, z1, z2, z3⟩ := K6.cells
  obtain ⟨y0, y1, y2, y3⟩ := K6.free
  have hgl := K6.lt
  have HL := Lib.hid (K6.loadT (.int .i64 x.f) (.int .i64 t) (.int .i64 x.n) (.int .i64 x.s))
  have HSB := Lib.hid (K6.set (.int .i64 x.f) (.int .i64 t) (.int .i64 x.n) (.int .i64 x.s))
  have HLEN := Lib.hid (chgAt_len l k s t)
  have HSL := Lib.hid ((own_opat (own_below HO5.out hB6)).2.2.2.setO w.heap.size (.int .i64 x.f) (.int .i64 t) (.int .i64 x.n) (.int .i64 x.s) (fun b o e => by cases e; have h1 := HGE.out; have h2 := HLT.out; omega))
  unfold setO at HL HSB HSL
  clear HO5 hB6 K6 HST K5 q0 q1 q2 q3 HW5 HR o0 o1 o2 o3 f0 f1 f2 f3
  go_wp2
  refine bodyPost_ret (v := .tuple #[.slice (some ⟨gr, 0, none⟩) l.length cap, .agg #[.int .i64 x.f, .int .i64 t, .int .i64 x.n, .int .i64 x.s], .int .i64 0]) ?_ rfl ⟨_, rfl, GotO.at_ HLEN.out.symm (by rw [HLEN.out]; exact HCAP.out.1) HCAP.out.2.1 HSL.out HSB.out⟩
  rw [results_tmp_cell_tmp rfl]
  simp [asAddr, Result.andThen, HL.out]
 ·rw [he] at HF
  have hne : ¬ findC l n u = 0 := by rcases hc0 with h | h <;> rw [h] <;> decide
  rw [if_neg hne] at hCR hFS
  rw [hCR, hFS]
  have d1 : (findC l n u != 0) = true := by rcases hc0 with h | h <;> rw [h] <;> rfl
  generalize findC l n u = C at *
  unfold stV stZ
  unfold opV opZ at HF
  dsimp only at *
  clear hCR hFS hc0 he hp hne
  go_enter Tryz.func123, Tryz.ntmps123
  go_wp2_with fail
  refine (HF.out _ (HR.out.below HZ.out.frame)).mono ?_
  rintro e w1 ⟨rfl, hB⟩
  have K1 := HZ.out.below hB
  have K2 := K1.alloc (.cells #[.int .i64 0, .string ⟨#[]⟩, .int .i64 0, .int .i64 0] 75)
  have HL := Lib.hid (K2.loadT (.int .i64 0) (.int .i64 0) (.int .i64 0) (.int .i64 0))
  have HS := Lib.hid (K2.set (.int .i64 0) (.int .i64 0) (.int .i64 0) (.int .i64 0))
  obtain ⟨z0, z1, z2, z3⟩ := K2.cells
  obtain ⟨f0, f1, f2, f3⟩ := K2.free
  have hgl := K2.lt
  unfold setO at HL HS
  clear HF hB K1 K2
  go_wp2
  refine bodyPost_ret (v := .tuple #[.slice none 0 0, .agg #[.int .i64 0, .int .i64 0, .int .i64 0, .int .i64 0], .int .i64 C]) ?_ rfl ⟨_, rfl, GotO.nil HS.out⟩
  rw [results_tmp_cell_tmp rfl]
  simp [asAddr, Result.andThen, HL.out]
end Go.Proofs.YtjhdhfokhkcamaaGreat
namespace Go.Proofs.YtjhdhfokhkcamaaGreat
open Go.RowKit
set_option linter.unusedVariables false
set_option maxRecDepth 100000
set_option maxRecDepth 100000
set_option maxHeartbeats 4000000 in
theorem eequal_any (a b : Option Addr) (ca cb : Nat) (l m : List EnM) (w : World) (ha : EnSl w a l) (hb : EnSl w b m) (hla : l.length ≤ maxLen) (hlb : m.length ≤ maxLen) :
  Calls Tryz.prog 145 #[.slice a l.length ca, .slice b m.length cb] w fun e w' => e = .returned (.bool (decide (l = m))) ∧ Below w.heap.size w w' := by
 have HA := Lib.hid ha
 have HB := Lib.hid hb
 clear ha hb
 unfold maxLen at hla hlb
 by_cases hll : l.length = m.length
 ·obtain ⟨n, hn⟩ : ∃ n, n = m.length := ⟨_, rfl⟩
  have HL : Hid (l.length = n) := hll.trans hn.symm
  have HM : Hid (m.length = n) := hn.symm
  rw [HL.out, HM.out]
  rw [HM.out] at hlb
  clear hll hn hla
  go_enter Tryz.func145, Tryz.ntmps145
  go_wp2
  go_loopw [13] (fun i wr => ∃ (j : Nat), j ≤ n ∧ i = .int .i64 j ∧ Hid (l.take j = m.take j) ∧ Hid (Drew w wr)) (fun i _ => n - (intOf i).toNat)
  case atStart => exact ⟨0, by omega, rfl, (by unfold Hid; rfl), Drew.refl _⟩
  case round =>
   obtain ⟨j, hj, rfl, HT, HD⟩ := hrel
   by_cases hjn : j < n
   ·have hjl : j < l.length := by have := HL.out; omega
    have hjm : j < m.length := by have := HM.out; omega
    obtain ⟨b1, o1, rfl, hb1, hc0, hc1, hc2, hc3⟩ := (HA.out.below (HD.out.below _)).at_ hjl
    obtain ⟨b2, o2, rfl, hb2, hd0, hd1, hd2, hd3⟩ := (HB.out.below (HD.out.below _)).at_ hjm
    have HN := Lib.hid (take_same hjl hjm HT.out)
    have HNE : Hid (l[j] ≠ m[j] → l ≠ m) := fun h e => h (by subst e; rfl)
    generalize l[j] = x at *
    generalize m[j] = y at *
    clear hjl hjm
    obtain ⟨f1, t1, n1, s1⟩ := x
    obtain ⟨f2, t2, n2, s2⟩ := y
    dsimp only at *
    by_cases h0 : f1 = f2
    ·subst h0
     have he0 := str_eq f1
     by_cases h1 : t1 = t2
     ·subst h1
      have he1 := str_eq t1
      by_cases h2 : n1 = n2
      ·subst h2
       have he2 : (n1 == n1) = true := beq_self_eq_true _
       by_cases h3 : s1 = s2
       ·subst h3
        have he3 : (s1 == s1) = true := beq_self_eq_true _
        have HN2 := Lib.hid (HN.out rfl)
        clear HN HNE
        go_wp2
        go_quiet (fail)
        go_wp2
        go_roundw
        case rel => exact ⟨j + 1, by omega, by go_num, HN2, HD.out.trans ⟨_, rfl⟩⟩
        case measure => simp [intOf]; omega
       ·have HF : Hid (decide (l = m) = false) := decide_eq_false (HNE.out (fun e => h3 (congrArg EnM.t e)))
        have heq : (s1 == s2) = false := beq_eq_false_iff_ne.2 h3
        clear HN HNE
        go_wp2
        go_quiet (fail)
        go_wp2
        go_ret
        exact ⟨by rw [HF.out]; rfl, (HD.out.trans ⟨_, rfl⟩).below _⟩
      ·have HF : Hid (decide (l = m) = false) := decide_eq_false (HNE.out (fun e => h2 (congrArg EnM.f e)))
       have heq : (n1 == n2) = false := beq_eq_false_iff_ne.2 h2
       clear HN HNE
       go_wp2
       go_quiet (fail)
       go_wp2
       go_ret
       exact ⟨by rw [HF.out]; rfl, (HD.out.trans ⟨_, rfl⟩).below _⟩
     ·have HF : Hid (decide (l = m) = false) := decide_eq_false (HNE.out (fun e => h1 (congrArg EnM.u e)))
      have heq := str_ne h1
      clear HN HNE
      go_wp2
      go_quiet (fail)
      go_wp2
      go_ret
      exact ⟨by rw [HF.out]; rfl, (HD.out.trans ⟨_, rfl⟩).below _⟩
    ·have HF : Hid (decide (l = m) = false) := decide_eq_false (HNE.out (fun e => h0 (congrArg EnM.w e)))
     have heq := str_ne h0
     clear HN HNE
     go_wp2
     go_quiet (fail)
     go_wp2
     go_ret
     exact ⟨by rw [HF.out]; rfl, (HD.out.trans ⟨_, rfl⟩).below _⟩
   ·obtain rfl : j = n := by omega
    have HE : Hid (decide (l = m) = true) := decide_eq_true (by
     have := HT.out
     rwa [List.take_of_length_le (Nat.le_of_eq HL.out), List.take_of_length_le (Nat.le_of_eq HM.out)] at this)
    go_wp2
    go_ret
    exact ⟨by rw [HE.out]; rfl, HD.out.below _⟩
 ·have HE : Hid (decide (l = m) = false) := decide_eq_false (fun e => hll (by rw [e]))
  have hne : ((l.length : Int) == (m.length : Int)) = false := beq_eq_false_iff_ne.2 (by omega)
  go_enter Tryz.func145, Tryz.ntmps145
  go_wp2
  go_ret
  exact ⟨by rw [HE.out]; rfl, Below.refl _ _⟩
set_option maxHeartbeats 4000000 in
theorem erefSame_any (a b : Option Addr) (ca cb : Nat) (l m : List EnM) (w : World) (ha : EnSl w a l) (hb : EnSl w b m) (hla : l.length ≤ maxLen) (hlb : m.length ≤ maxLen) :
  Calls Tryz.prog 55 #[.slice a l.length ca, .slice b m.length cb] w fun e w' => e = .returned (.bool (decide (l = m))) ∧ Below w.heap.size w w' := by
 have HA := Lib.hid ha
 have HB := Lib.hid hb
 clear ha hb
 unfold maxLen at hla hlb
 by_cases hll : l.length = m.length
 ·obtain ⟨n, hn⟩ : ∃ n, n = m.length := ⟨_, rfl⟩
  have HL : Hid (l.length = n) := hll.trans hn.symm
  have HM : Hid (m.length = n) := hn.symm
  rw [HL.out, HM.out]
  rw [HM.out] at hlb
  clear hll hn hla
  go_enter Tryz.func55, Tryz.ntmps55
  go_wp2
  go_loopw [5] (fun i wr => ∃ (j : Nat), j ≤ n ∧ i = .int .i64 j ∧ Hid (l.take j = m.take j) ∧ Hid (Drew w wr)) (fun i _ => n - (intOf i).toNat)
  case atStart => exact ⟨0, by omega, rfl, (by unfold Hid; rfl), Drew.refl _⟩
  case round =>
   obtain ⟨j, hj, rfl, HT, HD⟩ := hrel
   by_cases hjn : j < n
   ·have hjl : j < l.length := by have := HL.out; omega
    have hjm : j < m.length := by have := HM.out; omega
    obtain ⟨b1, o1, rfl, hb1, hc0, hc1, hc2, hc3⟩ := (HA.out.below (HD.out.below _)).at_ hjl
    obtain ⟨b2, o2, rfl, hb2, hd0, hd1, hd2, hd3⟩ := (HB.out.below (HD.out.below _)).at_ hjm
    have HN := Lib.hid (take_same hjl hjm HT.out)
    have HNE : Hid (l[j] ≠ m[j] → l ≠ m) := fun h e => h (by subst e; rfl)
    generalize l[j] = x at *
    generalize m[j] = y at *
    clear hjl hjm
    obtain ⟨f1, t1, n1, s1⟩ := x
    obtain ⟨f2, t2, n2, s2⟩ := y
    dsimp only at *
    by_cases h0 : f1 = f2
    ·subst h0
     have he0 := str_eq f1
     by_cases h1 : t1 = t2
     ·subst h1
      have he1 := str_eq t1
      by_cases h2 : n1 = n2
      ·subst h2
       have he2 : (n1 == n1) = true := beq_self_eq_true _
       by_cases h3 : s1 = s2
       ·subst h3
        have he3 : (s1 == s1) = true := beq_self_eq_true _
        have HN2 := Lib.hid (HN.out rfl)
        clear HN HNE
        go_wp2
        go_quiet (fail)
        go_wp2
        go_roundw
        case rel => exact ⟨j + 1, by omega, by go_num, HN2, HD.out.trans ⟨_, rfl⟩⟩
        case measure => simp [intOf]; omega
       ·have HF : Hid (decide (l = m) = false) := decide_eq_false (HNE.out (fun e => h3 (congrArg EnM.t e)))
        have heq : (s1 == s2) = false := beq_eq_false_iff_ne.2 h3
        clear HN HNE
        go_wp2
        go_quiet (fail)
        go_wp2
        go_ret
        exact ⟨by rw [HF.out]; rfl, (HD.out.trans ⟨_, rfl⟩).below _⟩
      ·have HF : Hid (decide (l = m) = false) := decide_eq_false (HNE.out (fun e => h2 (congrArg EnM.f e)))
       have heq : (n1 == n2) = false := beq_eq_false_iff_ne.2 h2
       clear HN HNE
       go_wp2
       go_quiet (fail)
       go_wp2
       go_ret
       exact ⟨by rw [HF.out]; rfl, (HD.out.trans ⟨_, rfl⟩).below _⟩
     ·have HF : Hid (decide (l = m) = false) := decide_eq_false (HNE.out (fun e => h1 (congrArg EnM.u e)))
      have heq := str_ne h1
      clear HN HNE
      go_wp2
      go_quiet (fail)
      go_wp2
      go_ret
      exact ⟨by rw [HF.out]; rfl, (HD.out.trans ⟨_, rfl⟩).below _⟩
    ·have HF : Hid (decide (l = m) = false) := decide_eq_false (HNE.out (fun e => h0 (congrArg EnM.w e)))
     have heq := str_ne h0
     clear HN HNE
     go_wp2
     go_quiet (fail)
     go_wp2
     go_ret
     exact ⟨by rw [HF.out]; rfl, (HD.out.trans ⟨_, rfl⟩).below _⟩
   ·obtain rfl : j = n := by omega
    have HE : Hid (decide (l = m) = true) := decide_eq_true (by
     have := HT.out
     rwa [List.take_of_length_le (Nat.le_of_eq HL.out), List.take_of_length_le (Nat.le_of_eq HM.out)] at this)
    go_wp2
    go_ret
    exact ⟨by rw [HE.out]; rfl, HD.out.below _⟩
 ·have HE : Hid (decide (l = m) = false) := decide_eq_false (fun e => hll (by rw [e]))
  have hne : ((l.length : Int) == (m.length : Int)) = false := beq_eq_false_iff_ne.2 (by omega)
  go_enter Tryz.func55, Tryz.ntmps55
  go_wp2
  go_ret
  exact ⟨by rw [HE.out]; rfl, Below.refl _ _⟩
theorem esame_any (a b : Option Addr) (ca cb : Nat) (l m : List EnM) (w : World) (ha : EnSl w a l) (hb : EnSl w b m) (hla : l.length ≤ maxLen) (hlb : m.length ≤ maxLen) :
  Calls Tryz.prog 85 #[.slice a l.length ca, .slice b m.length cb] w fun e w' => e = .returned (.bool (decide (l = m))) ∧ Below w.heap.size w w' := by
 have HC := Lib.hid (eequal_any a b ca cb l m w ha hb hla hlb)
 unfold maxLen at hla hlb
 clear ha hb
 go_enter Tryz.func85, Tryz.ntmps85
 go_wp2_with fail
 refine HC.out.mono ?_
 rintro e w2 ⟨rfl, h2⟩
 go_wp2
 go_ret
 exact ⟨rfl, h2⟩
theorem infoEn4 : (Tryz.prog.info? 123).map (·.size) = some 4 := by kernel_rfl
theorem loadEn {W : World} {g : Nat} {a b c d : Value} {t : TypeId} (h : W.heap[g]? = some (.cells #[a, b, c, d] t (0, 0))) :
  (loadVar 123 ⟨g, 0, none⟩).run Tryz.prog W = .ok (.agg #[a, b, c, d]) W :=
 run_loadVar_mid (P := Tryz.prog) W g 0 123 [a, b, c, d] _ (fun j v hv => by
  rw [Nat.zero_add, cell_of_row _ _ _ _ _ (0, 0) h]
  simpa using hv) Tryz.underlying123 rfl infoEn4
set_option maxHeartbeats 1000000 in
theorem eone_any (p u : ByteArray) (f t : Int) (w : World) : Calls Tryz.prog 104 #[.string p, .string u, .int .i64 f, .int .i64 t] w fun e w' => e = .returned (.agg #[.string p, .string u, .int .i64 f, .int .i64 t]) ∧ w' = w.alloc (.cells #[.string p, .string u, .int .i64 f, .int .i64 t] 123) := by
 have HL := Lib.hid (loadEn (heap_alloc_new w (.cells #[.string p, .string u, .int .i64 f, .int .i64 t] 123)))
 go_enter Tryz.func104, Tryz.ntmps104
 go_wp2
 refine bodyPost_ret (v := .agg #[.string p, .string u, .int .i64 f, .int .i64 t]) ?_ rfl ?_
 ·rw [results_cell1 rfl]
  simp [asAddr, Result.andThen, HL.out]
 ·exact ⟨rfl, rfl⟩
set_option maxHeartbeats 2000000 in
theorem enews_any (a : Option Addr) (c : Nat) (l : List EnM) (w : World) (hr : EnSl w a l) (hl : l.length ≤ 1000000) :
  Calls Tryz.prog 41 #[.slice a l.length c] w fun e w' => ∃ (v : Value), e = .returned v ∧ w'.ownsRow w.heap.size 123 4 v l.length (ens l) ∧ Below w.heap.size w w' := by
 obtain ⟨i0, hi, hz0, hz1, hz2⟩ := info_parts infoEn
 have HR := Lib.hid hr
 have HN := Lib.hid eone_any
 clear hr
 go_enter Tryz.func41, Tryz.ntmps41
 go_wp2
 go_loopw [3, 8] (fun v i wr => ∃ (j : Nat), j ≤ l.length ∧ i = .int .i64 j ∧ Hid (wr.ownsRow w.heap.size 123 4 v j (ens (l.take j))) ∧ Hid (Below w.heap.size w wr)) (fun _ i _ => l.length - (intOf i).toNat)
 case atStart => exact ⟨0, by omega, rfl, ⟨rfl, .inl ⟨rfl, rfl⟩⟩, Below.refl _ _⟩
 case round =>
  obtain ⟨j, hj, rfl, HO, HB⟩ := hrel
  by_cases hjl : j < l.length
  ·obtain ⟨b, off, rfl, hbl, hc0, hc1, hc2, hc3⟩ := (HR.out.below HB.out).at_ hjl
   have HC := Lib.hid (ens_take l j hjl)
   generalize l[j] = x at *
   go_wp2_with fail
   refine (HN.out _ _ _ _ _).mono ?_
   rintro e w2 ⟨rfl, hw⟩
   have hb2 : Below wr.heap.size wr w2 := by rw [hw]; exact below_2 wr (.cells #[.string x.w, .string x.u, .int .i64 x.f, .int .i64 x.t] 82) (.cells #[.string x.w, .string x.u, .int .i64 x.f, .int .i64 x.t] 123)
   have HO2 := Lib.hid (own_below HO.out (hb2.trans ((ebelow_one w2 (.cells #[.string x.w, .string x.u, .int .i64 x.f, .int .i64 x.t] 123)).mono hb2.size)))
   have HB2 : Hid (Below w.heap.size w (w2.alloc (.cells #[.string x.w, .string x.u, .int .i64 x.f, .int .i64 x.t] 123))) := HB.out.trans ((hb2.trans ((ebelow_one w2 _).mono hb2.size)).mono HB.out.size)
   have HS2 := Lib.hid HB2.out.size
   clear hw hb2 hc0 hc1 hc2 hc3
   go_wp2_with (at_builtin; refine wpList_append_own _ rfl (.tmp 12) (.tmp 22) 35 rfl w.heap.size 123 i0 _ 4 48 Tryz.underlying35 hi hz0 hz1 hz2 rfl (by decide) _ _ _ rfl HO2.out ⟨w2.heap.size, 0, none⟩ 1 1 [.string x.w, .string x.u, .int .i64 x.f, .int .i64 x.t] rfl rfl (news_at _ _ _ _ rfl) (four_e _ _ _ _) (by unfold maxLen; omega) (by omega) HS2.out ?_; intro v' w3 hown' hgrow hiff)
   have HB3 := Lib.hid (app_below HB2.out HS2.out HO2.out hgrow)
   have HO3 := Lib.hid hown'
   clear hown' hgrow hiff HB2 HS2 HO2
   go_wp2
   go_roundw
   case rel => exact ⟨j + 1, by omega, by go_num, (by unfold Hid; rw [HC.out]; exact HO3.out), HB3⟩
   case measure => simp [intOf]; omega
  ·obtain rfl : j = l.length := by omega
   rw [List.take_of_length_le (Nat.le_refl _)] at HO
   go_wp2
   go_ret
   exact ⟨_, rfl, HO.out, HB.out⟩
set_option maxHeartbeats 2000000 in
theorem eolds_any (a : Option Addr) (c : Nat) (l : List EnM) (w : World) (hr : EnSl w a l) (hl : l.length ≤ 1000000) :
  Calls Tryz.prog 57 #[.slice a l.length c] w fun e w' => ∃ (v : Value), e = .returned v ∧ w'.ownsRow w.heap.size 82 4 v l.length (ens l) ∧ Below w.heap.size w w' := by
 obtain ⟨i0, hi, hz0, hz1, hz2⟩ := info_parts infoEnR
 have HR := Lib.hid hr
 clear hr
 go_enter Tryz.func57, Tryz.ntmps57
 go_wp2
 go_loopw [3, 8] (fun v i wr => ∃ (j : Nat), j ≤ l.length ∧ i = .int .i64 j ∧ Hid (wr.ownsRow w.heap.size 82 4 v j (ens (l.take j))) ∧ Hid (Below w.heap.size w wr)) (fun _ i _ => l.length - (intOf i).toNat)
 case atStart => exact ⟨0, by omega, rfl, ⟨rfl, .inl ⟨rfl, rfl⟩⟩, Below.refl _ _⟩
 case round =>
  obtain ⟨j, hj, rfl, HO, HB⟩ := hrel
  by_cases hjl : j < l.length
  ·obtain ⟨b, off, rfl, hbl, hc0, hc1, hc2, hc3⟩ := (HR.out.below HB.out).at_ hjl
   have HC := Lib.hid (ens_take l j hjl)
   generalize l[j] = x at *
   have HO2 := Lib.hid (own_below HO.out (below_two wr (.cells #[.string x.w, .string x.u, .int .i64 x.f, .int .i64 x.t] 123) (.cells #[.string x.w, .string x.u, .int .i64 x.f, .int .i64 x.t] 82)))
   have HB2 : Hid (Below w.heap.size w ((wr.alloc (.cells #[.string x.w, .string x.u, .int .i64 x.f, .int .i64 x.t] 123)).alloc (.cells #[.string x.w, .string x.u, .int .i64 x.f, .int .i64 x.t] 82))) := HB.out.trans ((below_two wr (.cells #[.string x.w, .string x.u, .int .i64 x.f, .int .i64 x.t] 123) (.cells #[.string x.w, .string x.u, .int .i64 x.f, .int .i64 x.t] 82)).mono HB.out.size)
   have HS2 := Lib.hid HB2.out.size
   go_wp2_with (at_builtin; refine wpList_append_own _ rfl (.tmp 12) (.tmp 26) 24 rfl w.heap.size 82 i0 _ 4 48 Tryz.underlying24 hi hz0 hz1 hz2 rfl (by decide) _ _ _ rfl HO2.out ⟨wr.heap.size + 1, 0, none⟩ 1 1 [.string x.w, .string x.u, .int .i64 x.f, .int .i64 x.t] rfl rfl (news_at _ _ _ _ (size1 _ _).symm) (four_e _ _ _ _) (by unfold maxLen; omega) (by omega) HS2.out ?_; intro v' w3 hown' hgrow hiff)
   have HB3 := Lib.hid (app_below HB2.out HS2.out HO2.out hgrow)
   have HO3 := Lib.hid hown'
   clear hown' hgrow hiff HB2 HS2 HO2
   go_wp2
   go_roundw
   case rel => exact ⟨j + 1, by omega, by go_num, (by unfold Hid; rw [HC.out]; exact HO3.out), HB3⟩
   case measure => simp [intOf]; omega
  ·obtain rfl : j = l.length := by omega
   rw [List.take_of_length_le (Nat.le_refl _)] at HO
   go_wp2
   go_ret
   exact ⟨_, rfl, HO.out, HB.out⟩
end Go.Proofs.YtjhdhfokhkcamaaGreat
namespace Go.Proofs.YtjhdhfokhkcamaaGreat
open Go.RowKit Go.Proofs
set_option linter.unusedVariables false
set_option maxRecDepth 100000
set_option maxHeartbeats 2000000 in
theorem many_any (x : SaL) (w : World) (h : SaAt w x) (hs : stCnt x.m + x.us.length ≤ 1048576) :
  Calls Tryz.prog 12 #[saV x] w fun e w' => e = .returned (.int .i64 ((stCnt x.m : Int) + (x.us.length : Int))) ∧ Below w.heap.size w w' := by
 have S0 := SB.new (Below.refl w.heap.size w) h 27
 have HC := Lib.hid (fun V (h : SaAt V x) => rcount_any x V h (by omega) (by omega))
 have HSC : Hid (∀ V, SB w w.heap.size 27 x V → V.cell? ⟨w.heap.size, 0, none⟩ = some (.int .i64 x.now) ∧ V.cell? ⟨w.heap.size, 1, none⟩ = some (.int .i64 x.hor) ∧ V.cell? ⟨w.heap.size, 2, none⟩ = some (.slice x.oa x.op.length x.oc) ∧ V.cell? ⟨w.heap.size, 3, none⟩ = some (.slice x.ua x.us.length x.uc) ∧ V.cell? ⟨w.heap.size, 4, none⟩ = some (.slice x.sa x.su.length x.sc) ∧ V.cell? ⟨w.heap.size, 5, none⟩ = some (.slice x.ta x.tb.length x.tc)) := fun V h => h.cells
 have S1 := S0.drew
 have hN : stCnt x.m ≤ 1048576 := by omega
 have hU : x.us.length ≤ 1048576 := by omega
 generalize stCnt x.m = N at *
 obtain ⟨now, hor, oa, op, oc, ua, us, uc, sa, su, sc, ta, tb, tc⟩ := x
 unfold saV saC at *
 dsimp only at *
 clear h S0
 have hw : IntKind.i64.wrap ((N : Int) + (us.length : Int)) = (N : Int) + (us.length : Int) := IntWalk.i64_in _ (by omega)
 go_enter Tryz.func12, Tryz.ntmps12
 go_wp2_with fail
 go_region_held3 (fun V => V.cell? ⟨w.heap.size, 0, none⟩ = some (.int .i64 now) ∧ V.cell? ⟨w.heap.size, 1, none⟩ = some (.int .i64 hor) ∧ V.cell? ⟨w.heap.size, 2, none⟩ = some (.slice oa op.length oc) ∧ V.cell? ⟨w.heap.size, 3, none⟩ = some (.slice ua us.length uc) ∧ V.cell? ⟨w.heap.size, 4, none⟩ = some (.slice sa su.length sc) ∧ V.cell? ⟨w.heap.size, 5, none⟩ = some (.slice ta tb.length tc))
  (first | with_reducible exact HSC.out _ S2 | with_reducible exact HSC.out _ S1)
  (first | (go_at_call 34; refine (HC.out _ S1.at_).mono ?_; rintro e w2 ⟨rfl, h2⟩; have S2 := S1.below h2))
 all_goals
  have HF := Lib.hid S2.frame
  clear S1 S2 HC HSC h2
  go_wp2
  go_ret
  exact ⟨by rw [← hw]; rfl, HF.out⟩
end Go.Proofs.YtjhdhfokhkcamaaGreat
