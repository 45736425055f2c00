/- Texts of mine, one behind the other, of each what is wanted. -/
import Derived.Test.YtjhdhfokhkcamaaGreatS00
import Derived.Test.YtjhdhfokhkcamaaGreatShelf
import Derived.Test.YtjhdhfokhkcamaaGreatRows
import Derived.Test.YtjhdhfokhkcamaaGreatS01
import Derived.Test.YtjhdhfokhkcamaaGreatS02
import Derived.Test.YtjhdhfokhkcamaaGreatS03
import Derived.Test.YtjhdhfokhkcamaaGreatS04
import Derived.Test.YtjhdhfokhkcamaaGreatS06
import Derived.Test.YtjhdhfokhkcamaaGreatS07
import Derived.Test.YtjhdhfokhkcamaaGreatS09
import Derived.Test.YtjhdhfokhkcamaaGreatS13
import Derived.Test.YtjhdhfokhkcamaaGreatS14
import Derived.Test.YtjhdhfokhkcamaaGreatS17
import Derived.Test.YtjhdhfokhkcamaaGreatS21
import Derived.Test.YtjhdhfokhkcamaaGreatS23
import Derived.Test.YtjhdhfokhkcamaaGreatS24
import Derived.Test.YtjhdhfokhkcamaaGreatS29
namespace Go.Proofs.YtjhdhfokhkcamaaGreat
open Go.RowKit Go.Sort Go.Proofs
set_option linter.unusedVariables false
set_option maxRecDepth 100000
set_option maxRecDepth 100000
structure PosTo (l : List StM) (s : StM) (j p : Nat) : Prop where
 le : p ≤ j
 up : ∀ i (h : i < l.length), p ≤ i → i < j → ltSt s l[i]
 low : ∀ (h : 0 < p) (h1 : p - 1 < l.length), ¬ ltSt s l[p - 1]
theorem PosTo.up' {l : List StM} {s : StM} {j p : Nat} (h : PosTo l s j p) (hj : j < l.length) (k : ltSt s l[j]) : PosTo l s (j + 1) p :=
 ⟨by have := h.le; omega, fun i hi h1 h2 => by
  rcases Nat.lt_or_ge i j with h3 | h3
  ·exact h.up i hi h1 h3
  ·obtain rfl : i = j := by omega
   exact k, h.low⟩
theorem PosTo.here {l : List StM} {s : StM} {j p : Nat} (h : PosTo l s j p) (hj : j < l.length) (k : ¬ ltSt s l[j]) : PosTo l s (j + 1) (j + 1) :=
 ⟨Nat.le_refl _, fun i hi h1 h2 => absurd h1 (by omega), fun _ h1 => k⟩
theorem PosTo.is {l : List StM} {s : StM} {p : Nat} (h : PosTo l s l.length p) : IsPos l s p := ⟨h.le, fun i hi h1 => h.up i hi h1 hi, h.low⟩
structure RtK (w : World) (g : Nat) (x : StM) (a : Option Addr) (l : List StM) (W : World) : Prop where
 box : W.heap[g]? = some (.cells #[.int .i64 x.f, .int .i64 x.t, .int .i64 x.n, .int .i64 x.s] 135 (0, 0))
 row : StSl W a l
 frame : Below w.heap.size w W
theorem RtK.below {w W W' : World} {g : Nat} {x : StM} {a : Option Addr} {l : List StM} (h : RtK w g x a l W) (q : Below W.heap.size W W') : RtK w g x a l W' :=
 ⟨(q.block _ (heap_lt h.box)).trans h.box, h.row.below q, h.frame.trans (q.mono h.frame.size)⟩
theorem RtK.four {w W : World} {g : Nat} {x : StM} {a : Option Addr} {l : List StM} (h : RtK w g x a l W) :
  W.cell? ⟨g, 0, none⟩ = some (.int .i64 x.f) ∧ W.cell? ⟨g, 1, none⟩ = some (.int .i64 x.t) ∧ W.cell? ⟨g, 2, none⟩ = some (.int .i64 x.n) ∧ W.cell? ⟨g, 3, none⟩ = some (.int .i64 x.s) := cells4 h.box
theorem RtK.at_ {w W : World} {g : Nat} {x : StM} {b off : Nat} {l : List StM} (h : RtK w g x (some ⟨b, off, none⟩) l W) {k : Nat} (hk : k < l.length) :
  W.cell? ⟨g, 0, none⟩ = some (.int .i64 x.f) ∧ W.cell? ⟨g, 1, none⟩ = some (.int .i64 x.t) ∧ W.cell? ⟨g, 2, none⟩ = some (.int .i64 x.n) ∧ W.cell? ⟨g, 3, none⟩ = some (.int .i64 x.s) ∧
  W.cell? ⟨b, off + k * 4, none⟩ = some (.int .i64 l[k].f) ∧ W.cell? ⟨b, off + k * 4 + 1, none⟩ = some (.int .i64 l[k].t) ∧ W.cell? ⟨b, off + k * 4 + 2, none⟩ = some (.int .i64 l[k].n) ∧ W.cell? ⟨b, off + k * 4 + 3, none⟩ = some (.int .i64 l[k].s) := by
 obtain ⟨_, _, e, _, h0, h1, h2, h3⟩ := h.row.at_ hk
 cases e
 exact ⟨h.four.1, h.four.2.1, h.four.2.2.1, h.four.2.2.2, h0, h1, h2, h3⟩
theorem RtK.new {w W : World} {x : StM} {a : Option Addr} {l : List StM} (h : StSl W a l) (hb : Below w.heap.size w W) : RtK w W.heap.size x a l (W.alloc (.cells #[.int .i64 x.f, .int .i64 x.t, .int .i64 x.n, .int .i64 x.s] 135)) :=
 ⟨heap_alloc_new W _, h.below (below_one _ _), hb.alloc hb.size _⟩
structure Wd (x : Option Addr) (q n : Nat) : Prop where
 le : n ≤ q
 max : q ≤ maxLen
 nil : x = none → q = 0
theorem add_end {w w' : World} {B : Nat} {v : Value} {l : List StM} {s : StM} {p : Nat} (h : addS l s = l.take p ++ s :: l.drop p) (ho : w'.ownsRow B 135 4 v ((([] ++ l.take p) ++ [s]) ++ l.drop p).length (sts ((([] ++ l.take p) ++ [s]) ++ l.drop p))) (hb : Below w.heap.size w w') :
  ∃ x q, Ending.returned v = .returned (.slice x (addS l s).length q) ∧ StSl w' x (addS l s) ∧ Below w.heap.size w w' ∧ Wd x q (addS l s).length := by
 rw [List.nil_append, List.append_assoc, List.singleton_append, ← h] at ho
 obtain ⟨x, q, rfl, h1, h2, hs, h3⟩ := own_st ho
 exact ⟨x, q, rfl, hs, hb, ⟨h1, h2, h3⟩⟩
set_option maxHeartbeats 4000000 in
theorem refAdd_more (a : Option Addr) (c : Nat) (l : List StM) (s : StM) (w : World) (hr : StSl w a l) (hn : a = none → c = 0) (hl : l.length ≤ 1000) (hc : l.length ≤ c) (hcm : c ≤ maxLen) :
  Calls Tryz.prog 94 #[.slice a l.length c, stV s] w fun e w' => ∃ x q, e = .returned (.slice x (addS l s).length q) ∧ StSl w' x (addS l s) ∧ Below w.heap.size w w' ∧ Wd x q (addS l s).length := by
 have HWD : Hid (Wd a c l.length) := ⟨hc, hcm, hn⟩
 obtain ⟨i0, hi, hz0, hz1, hz2⟩ := info_parts infoStayR
 have HCM := Lib.hid (fun x y W => (ahead_any x y W).mono fun e w' (h : _ ∧ Grew W w') => And.intro h.1 (h.2.below (Nat.le_refl _)))
 have HK0 := Lib.hid (RtK.new (w := w) (x := s) hr (Below.refl _ _))
 have HNil := Lib.hid hn
 clear hr hn
 unfold maxLen at hcm
 unfold stV at *
 by_cases h0 : s.t ≤ s.f
 ·have hd0 := decide_eq_true h0
  have HA : Hid (addS l s = l) := by unfold Hid addS; rw [if_pos h0]
  rw [HA.out]
  go_enter Tryz.func94, Tryz.ntmps94
  go_wp2
  go_ret
  exact ⟨_, _, rfl, HK0.out.row, HK0.out.frame, HWD.out⟩
 ·have hd0 := decide_eq_false h0
  have HA : Hid (∀ p, IsPos l s p → addS l s = l.take p ++ s :: l.drop p) := fun p hp => by unfold addS; rw [if_neg h0, putS_at hp]
  go_enter Tryz.func94, Tryz.ntmps94
  go_wp2
  generalize w.alloc (.cells #[.int .i64 s.f, .int .i64 s.t, .int .i64 s.n, .int .i64 s.s] 135) = w1 at *
  generalize w.heap.size = g at *
  clear h0 hd0
  go_loopw [5, 6] (fun p i wr => ∃ (j q : Nat), j ≤ l.length ∧ q ≤ j ∧ i = .int .i64 j ∧ p = .int .i64 q ∧ Hid (PosTo l s j q) ∧ Hid (RtK w g s a l wr)) (fun _ i _ => l.length - (intOf i).toNat)
  case atStart => exact ⟨0, 0, by omega, by omega, rfl, rfl, ⟨Nat.le_refl _, fun i _ _ h => absurd h (by omega), fun h => absurd h (by omega)⟩, HK0.out⟩
  case round =>
   obtain ⟨j, q, hj, hq, rfl, rfl, HP, HK⟩ := hrel
   by_cases hjl : j < l.length
   ·obtain ⟨b, off, rfl, -, -, -, -, -⟩ := HK.out.row.at_ hjl
    have HP0 : Hid (∀ W, RtK w g s (some ⟨b, off, none⟩) l W → W.cell? ⟨g, 0, none⟩ = some (.int .i64 s.f) ∧ W.cell? ⟨g, 1, none⟩ = some (.int .i64 s.t) ∧ W.cell? ⟨g, 2, none⟩ = some (.int .i64 s.n) ∧ W.cell? ⟨g, 3, none⟩ = some (.int .i64 s.s) ∧
      W.cell? ⟨b, off + j * 4, none⟩ = some (.int .i64 l[j].f) ∧ W.cell? ⟨b, off + j * 4 + 1, none⟩ = some (.int .i64 l[j].t) ∧ W.cell? ⟨b, off + j * 4 + 2, none⟩ = some (.int .i64 l[j].n) ∧ W.cell? ⟨b, off + j * 4 + 3, none⟩ = some (.int .i64 l[j].s)) := fun W h => h.at_ hjl
    have HCX0 := Lib.hid (HCM.out s l[j])
    have HU1 := Lib.hid (HP.out.up' hjl)
    have HU2 := Lib.hid (HP.out.here hjl)
    have K1 := HK.out.below (Below.refl _ _).drew
    clear HCM
    generalize l[j] = y at *
    by_cases h3 : ltSt s y
    ·have HQ := Lib.hid (HU1.out h3)
     have HCX : Hid (∀ W, Calls Tryz.prog 153 #[.agg #[.int .i64 s.f, .int .i64 s.t, .int .i64 s.n, .int .i64 s.s], .agg #[.int .i64 y.f, .int .i64 y.t, .int .i64 y.n, .int .i64 y.s]] W fun e w' => e = .returned (.bool true) ∧ Below W.heap.size W w') := fun W => by
      have := HCX0.out W
      rwa [decide_eq_true h3] at this
     clear HU1 HU2 HCX0 h3
     go_wp2_with fail
     go_region_held3 (fun W => W.cell? ⟨g, 0, none⟩ = some (.int .i64 s.f) ∧ W.cell? ⟨g, 1, none⟩ = some (.int .i64 s.t) ∧ W.cell? ⟨g, 2, none⟩ = some (.int .i64 s.n) ∧ W.cell? ⟨g, 3, none⟩ = some (.int .i64 s.s) ∧ W.cell? ⟨b, off + j * 4, none⟩ = some (.int .i64 y.f) ∧ W.cell? ⟨b, off + j * 4 + 1, none⟩ = some (.int .i64 y.t) ∧ W.cell? ⟨b, off + j * 4 + 2, none⟩ = some (.int .i64 y.n) ∧ W.cell? ⟨b, off + j * 4 + 3, none⟩ = some (.int .i64 y.s))
      (first | exact HP0.out _ K1 | exact HP0.out _ K3)
      (first | (go_at_call 153; refine (HCX.out _).mono ?_; rintro e w3 ⟨rfl, h3⟩; have K3 := K1.below h3))
     go_wp2
     go_roundw
     case rel => exact ⟨j + 1, q, by omega, by omega, by go_num, rfl, HQ, K3⟩
     case measure => simp [intOf]; omega
    ·have HQ := Lib.hid (HU2.out h3)
     have HCX : Hid (∀ W, Calls Tryz.prog 153 #[.agg #[.int .i64 s.f, .int .i64 s.t, .int .i64 s.n, .int .i64 s.s], .agg #[.int .i64 y.f, .int .i64 y.t, .int .i64 y.n, .int .i64 y.s]] W fun e w' => e = .returned (.bool false) ∧ Below W.heap.size W w') := fun W => by
      have := HCX0.out W
      rwa [decide_eq_false h3] at this
     clear HU1 HU2 HCX0 h3
     go_wp2_with fail
     go_region_held3 (fun W => W.cell? ⟨g, 0, none⟩ = some (.int .i64 s.f) ∧ W.cell? ⟨g, 1, none⟩ = some (.int .i64 s.t) ∧ W.cell? ⟨g, 2, none⟩ = some (.int .i64 s.n) ∧ W.cell? ⟨g, 3, none⟩ = some (.int .i64 s.s) ∧ W.cell? ⟨b, off + j * 4, none⟩ = some (.int .i64 y.f) ∧ W.cell? ⟨b, off + j * 4 + 1, none⟩ = some (.int .i64 y.t) ∧ W.cell? ⟨b, off + j * 4 + 2, none⟩ = some (.int .i64 y.n) ∧ W.cell? ⟨b, off + j * 4 + 3, none⟩ = some (.int .i64 y.s))
      (first | exact HP0.out _ K1 | exact HP0.out _ K3)
      (first | (go_at_call 153; refine (HCX.out _).mono ?_; rintro e w3 ⟨rfl, h3⟩; have K3 := K1.below h3))
     go_wp2
     go_roundw
     case rel => exact ⟨j + 1, j + 1, by omega, by omega, by go_num, by go_num, HQ, K3⟩
     case measure => simp [intOf]; omega
   ·obtain rfl : j = l.length := by omega
    have HQ := Lib.hid HP.out.is
    clear HP HCM
    have hpc : q ≤ c := by omega
    have hz1' : (0 : Int) ≤ (q : Int) := by omega
    have hz2' : (q : Int) ≤ (l.length : Int) := by omega
    have hz3' : (q : Int) ≤ (c : Int) := by omega
    have hz4' : (l.length : Int) ≤ (c : Int) := by omega
    by_cases hlz : 0 < l.length
    ·obtain ⟨b, off, rfl, -, -, -, -, -⟩ := HK.out.row.at_ hlz
     by_cases hcp : c = q
     ·obtain rfl : q = l.length := by omega
      subst hcp
      have O1 := Lib.hid (own_empty8 wr 135 4 wr.heap.size (Nat.le_refl _))
      have B1 := Lib.hid (below_one wr (.cells #[] 135))
      have S1 := Lib.hid ((HK.out.row.take l.length).below B1.out)
      go_wp2_with (at_builtin; first
       | (refine wpList_append_st _ rfl (.tmp 29) (.tmp 32) 58 rfl wr.heap.size 135 i0 _ Tryz.underlying58 hi hz0 hz1 hz2 rfl _ [] rfl O1.out (some ⟨b, off, none⟩) l.length ((l).take l.length) (by rw [List.length_take, Nat.min_self]; rfl) S1.out (fun h => by cases h) (by simp; omega) B1.out.size ?_; intro v2 w2 hown2 hB2; obtain ⟨g0, g1, g2, g3⟩ := (HK.out.below (B1.out.trans hB2)).four; have BB := Lib.hid (B1.out.trans hB2); have OO := Lib.hid hown2; clear hown2 hB2)
       | (refine wpList_append_st _ rfl (.tmp 34) (.tmp 36) 58 rfl wr.heap.size 135 i0 _ Tryz.underlying58 hi hz0 hz1 hz2 rfl _ _ rfl (own_below OO.out (below_one w2 (.cells #[.int .i64 s.f, .int .i64 s.t, .int .i64 s.n, .int .i64 s.s] 135))) (some ⟨w2.heap.size, 0, none⟩) 1 [s] rfl (cells_st w2 [s] #[.int .i64 s.f, .int .i64 s.t, .int .i64 s.n, .int .i64 s.s] 135 _ rfl rfl) (fun h => by cases h) (by simp; omega) (BB.out.trans ((below_one w2 (.cells #[.int .i64 s.f, .int .i64 s.t, .int .i64 s.n, .int .i64 s.s] 135)).mono BB.out.size)).size ?_; intro v3 w3 hown3 hB3; have B3 := Lib.hid ((BB.out.trans ((below_one w2 (.cells #[.int .i64 s.f, .int .i64 s.t, .int .i64 s.n, .int .i64 s.s] 135)).mono BB.out.size)).trans hB3); have O3 := Lib.hid hown3; clear hown3 hB3 g0 g1 g2 g3)
       | (refine wpList_append_st _ rfl (.tmp 38) (.tmp 41) 58 rfl wr.heap.size 135 i0 _ Tryz.underlying58 hi hz0 hz1 hz2 rfl _ _ rfl O3.out (some ⟨b, off, none⟩) 0 ((l).drop l.length) (by rw [List.drop_eq_nil_of_le (Nat.le_refl _)]; rfl) (((show StSl wr (some ⟨b, off, none⟩) (l.drop l.length) by rw [List.drop_eq_nil_of_le (Nat.le_refl _)]; exact StSl.nil _ _)).below B3.out) (fun h => by cases h) (by simp; omega) B3.out.size ?_; intro v4 w4 hown4 hB4; have B4 := Lib.hid (B3.out.trans hB4); have O4 := Lib.hid hown4; clear hown4 hB4))
      go_ret
      refine add_end (HA.out _ HQ.out) O4.out (HK.out.frame.trans (B4.out.mono HK.out.frame.size))
     ·have O1 := Lib.hid (own_empty8 wr 135 4 wr.heap.size (Nat.le_refl _))
      have B1 := Lib.hid (below_one wr (.cells #[] 135))
      have S1 := Lib.hid ((HK.out.row.take q).below B1.out)
      go_wp2_with (at_builtin; first
       | (refine wpList_append_st _ rfl (.tmp 29) (.tmp 32) 58 rfl wr.heap.size 135 i0 _ Tryz.underlying58 hi hz0 hz1 hz2 rfl _ [] rfl O1.out (some ⟨b, off, none⟩) c ((l).take q) (by rw [List.length_take, Nat.min_eq_left hq]; rfl) S1.out (fun h => by cases h) (by simp; omega) B1.out.size ?_; intro v2 w2 hown2 hB2; obtain ⟨g0, g1, g2, g3⟩ := (HK.out.below (B1.out.trans hB2)).four; have BB := Lib.hid (B1.out.trans hB2); have OO := Lib.hid hown2; clear hown2 hB2)
       | (refine wpList_append_st _ rfl (.tmp 34) (.tmp 36) 58 rfl wr.heap.size 135 i0 _ Tryz.underlying58 hi hz0 hz1 hz2 rfl _ _ rfl (own_below OO.out (below_one w2 (.cells #[.int .i64 s.f, .int .i64 s.t, .int .i64 s.n, .int .i64 s.s] 135))) (some ⟨w2.heap.size, 0, none⟩) 1 [s] rfl (cells_st w2 [s] #[.int .i64 s.f, .int .i64 s.t, .int .i64 s.n, .int .i64 s.s] 135 _ rfl rfl) (fun h => by cases h) (by simp; omega) (BB.out.trans ((below_one w2 (.cells #[.int .i64 s.f, .int .i64 s.t, .int .i64 s.n, .int .i64 s.s] 135)).mono BB.out.size)).size ?_; intro v3 w3 hown3 hB3; have B3 := Lib.hid ((BB.out.trans ((below_one w2 (.cells #[.int .i64 s.f, .int .i64 s.t, .int .i64 s.n, .int .i64 s.s] 135)).mono BB.out.size)).trans hB3); have O3 := Lib.hid hown3; clear hown3 hB3 g0 g1 g2 g3)
       | (refine wpList_append_st _ rfl (.tmp 38) (.tmp 41) 58 rfl wr.heap.size 135 i0 _ Tryz.underlying58 hi hz0 hz1 hz2 rfl _ _ rfl O3.out (some ⟨b, off + q * 4, none⟩) (c - q) ((l).drop q) (by rw [List.length_drop]; rfl) ((HK.out.row.drop q).below B3.out) (fun h => by cases h) (by simp; omega) B3.out.size ?_; intro v4 w4 hown4 hB4; have B4 := Lib.hid (B3.out.trans hB4); have O4 := Lib.hid hown4; clear hown4 hB4))
      go_ret
      refine add_end (HA.out _ HQ.out) O4.out (HK.out.frame.trans (B4.out.mono HK.out.frame.size))
    ·have hl0 : l = [] := List.eq_nil_of_length_eq_zero (by omega)
     subst hl0
     obtain rfl : q = 0 := by simpa using hq
     cases a with
     | none =>
      have hc0 := HNil.out rfl
      subst hc0
      have O1 := Lib.hid (own_empty8 wr 135 4 wr.heap.size (Nat.le_refl _))
      have B1 := Lib.hid (below_one wr (.cells #[] 135))
      have O2 := Lib.hid (own_below O1.out (below_one _ (.cells #[.int .i64 s.f, .int .i64 s.t, .int .i64 s.n, .int .i64 s.s] 135)))
      have B2 := Lib.hid (B1.out.trans ((below_one _ (.cells #[.int .i64 s.f, .int .i64 s.t, .int .i64 s.n, .int .i64 s.s] 135)).mono B1.out.size))
      have S2 := Lib.hid (cells_st (wr.alloc (.cells #[] 135)) [s] #[.int .i64 s.f, .int .i64 s.t, .int .i64 s.n, .int .i64 s.s] 135 (wr.heap.size + 1) (size1 _ _).symm rfl)
      obtain ⟨g0, g1, g2, g3⟩ := HK.out.four
      have hgl := heap_lt HK.out.box
      clear O1
      go_wp2_with (at_builtin; first
       | (refine wpList_append_st _ rfl (.tmp 34) (.tmp 36) 58 rfl wr.heap.size 135 i0 _ Tryz.underlying58 hi hz0 hz1 hz2 rfl _ [] rfl O2.out (some ⟨wr.heap.size + 1, 0, none⟩) 1 [s] rfl S2.out (fun h => by cases h) (by simp) B2.out.size ?_; intro v3 w3 hown3 hB3; have B3 := Lib.hid (B2.out.trans hB3); have O3 := Lib.hid hown3; clear hown3 hB3 g0 g1 g2 g3 hgl)
       | (refine wpList_append_st _ rfl (.tmp 38) (.tmp 41) 58 rfl wr.heap.size 135 i0 _ Tryz.underlying58 hi hz0 hz1 hz2 rfl _ _ rfl O3.out none 0 [] rfl (StSl.nil _ _) (fun _ => rfl) (by simp) B3.out.size ?_; intro v4 w4 hown4 hB4; have B4 := Lib.hid (B3.out.trans hB4); have O4 := Lib.hid hown4; clear hown4 hB4))
      go_ret
      obtain ⟨x, q, h1, h2, h3⟩ := add_end (l := []) (p := 0) (HA.out _ HQ.out) O4.out (HK.out.frame.trans (B4.out.mono HK.out.frame.size))
      first | exact ⟨x, q, h1, h2, h3⟩ | exact ⟨x, ⟨q, h1⟩, h2, h3⟩
     | some ad =>
      obtain ⟨b, off, sp⟩ := ad
      by_cases hcp : c = 0
      ·subst hcp
       have O1 := Lib.hid (own_empty8 wr 135 4 wr.heap.size (Nat.le_refl _))
       have B1 := Lib.hid (below_one wr (.cells #[] 135))
       have O2 := Lib.hid (own_below O1.out (below_one _ (.cells #[.int .i64 s.f, .int .i64 s.t, .int .i64 s.n, .int .i64 s.s] 135)))
       have B2 := Lib.hid (B1.out.trans ((below_one _ (.cells #[.int .i64 s.f, .int .i64 s.t, .int .i64 s.n, .int .i64 s.s] 135)).mono B1.out.size))
       have S2 := Lib.hid (cells_st (wr.alloc (.cells #[] 135)) [s] #[.int .i64 s.f, .int .i64 s.t, .int .i64 s.n, .int .i64 s.s] 135 (wr.heap.size + 1) (size1 _ _).symm rfl)
       obtain ⟨g0, g1, g2, g3⟩ := HK.out.four
       have hgl := heap_lt HK.out.box
       clear O1
       go_wp2_with (at_builtin; first
        | (refine wpList_append_st _ rfl (.tmp 34) (.tmp 36) 58 rfl wr.heap.size 135 i0 _ Tryz.underlying58 hi hz0 hz1 hz2 rfl _ [] rfl O2.out (some ⟨wr.heap.size + 1, 0, none⟩) 1 [s] rfl S2.out (fun h => by cases h) (by simp) B2.out.size ?_; intro v3 w3 hown3 hB3; have B3 := Lib.hid (B2.out.trans hB3); have O3 := Lib.hid hown3; clear hown3 hB3 g0 g1 g2 g3 hgl)
        | (refine wpList_append_st _ rfl (.tmp 38) (.tmp 41) 58 rfl wr.heap.size 135 i0 _ Tryz.underlying58 hi hz0 hz1 hz2 rfl _ _ rfl O3.out (some ⟨b, off, sp⟩) 0 [] rfl (StSl.nil _ _) (fun h => by cases h) (by simp) B3.out.size ?_; intro v4 w4 hown4 hB4; have B4 := Lib.hid (B3.out.trans hB4); have O4 := Lib.hid hown4; clear hown4 hB4))
       go_ret
       obtain ⟨x, q, h1, h2, h3⟩ := add_end (l := []) (p := 0) (HA.out _ HQ.out) O4.out (HK.out.frame.trans (B4.out.mono HK.out.frame.size))
       first | exact ⟨x, q, h1, h2, h3⟩ | exact ⟨x, ⟨q, h1⟩, h2, h3⟩
      ·have O1 := Lib.hid (own_empty8 wr 135 4 wr.heap.size (Nat.le_refl _))
       have B1 := Lib.hid (below_one wr (.cells #[] 135))
       have O2 := Lib.hid (own_below O1.out (below_one _ (.cells #[.int .i64 s.f, .int .i64 s.t, .int .i64 s.n, .int .i64 s.s] 135)))
       have B2 := Lib.hid (B1.out.trans ((below_one _ (.cells #[.int .i64 s.f, .int .i64 s.t, .int .i64 s.n, .int .i64 s.s] 135)).mono B1.out.size))
       have S2 := Lib.hid (cells_st (wr.alloc (.cells #[] 135)) [s] #[.int .i64 s.f, .int .i64 s.t, .int .i64 s.n, .int .i64 s.s] 135 (wr.heap.size + 1) (size1 _ _).symm rfl)
       obtain ⟨g0, g1, g2, g3⟩ := HK.out.four
       have hgl := heap_lt HK.out.box
       clear O1
       go_wp2_with (at_builtin; first
        | (refine wpList_append_st _ rfl (.tmp 34) (.tmp 36) 58 rfl wr.heap.size 135 i0 _ Tryz.underlying58 hi hz0 hz1 hz2 rfl _ [] rfl O2.out (some ⟨wr.heap.size + 1, 0, none⟩) 1 [s] rfl S2.out (fun h => by cases h) (by simp) B2.out.size ?_; intro v3 w3 hown3 hB3; have B3 := Lib.hid (B2.out.trans hB3); have O3 := Lib.hid hown3; clear hown3 hB3 g0 g1 g2 g3 hgl)
        | (refine wpList_append_st _ rfl (.tmp 38) (.tmp 41) 58 rfl wr.heap.size 135 i0 _ Tryz.underlying58 hi hz0 hz1 hz2 rfl _ _ rfl O3.out (some _) _ [] rfl (StSl.nil _ _) (fun h => by cases h) (by simp) B3.out.size ?_; intro v4 w4 hown4 hB4; have B4 := Lib.hid (B3.out.trans hB4); have O4 := Lib.hid hown4; clear hown4 hB4))
       go_ret
       obtain ⟨x, q, h1, h2, h3⟩ := add_end (l := []) (p := 0) (HA.out _ HQ.out) O4.out (HK.out.frame.trans (B4.out.mono HK.out.frame.size))
       first | exact ⟨x, q, h1, h2, h3⟩ | exact ⟨x, ⟨q, h1⟩, h2, h3⟩
end Go.Proofs.YtjhdhfokhkcamaaGreat
namespace Go.Proofs.YtjhdhfokhkcamaaGreat
open Go.RowKit Go.Proofs
set_option linter.unusedVariables false
set_option maxRecDepth 100000
theorem two_states {w : World} {x y : SaL} (h : SaAt w x) (k : SaAt w y) (t t' : TypeId) : SB w w.heap.size t x ((w.alloc (.cells (saC x) t)).alloc (.cells (saC y) t')) ∧ SB w (w.heap.size + 1) t' y ((w.alloc (.cells (saC x) t)).alloc (.cells (saC y) t')) := by
 have S0 := SB.new (Below.refl w.heap.size w) h t
 have Z0 := SB.new (S0.frame) (k.below (below_one w (.cells (saC x) t))) t'
 rw [size1] at Z0
 exact ⟨S0.alloc _, Z0⟩
set_option maxHeartbeats 8000000 in
theorem same_any11 (x y : SaL) (w : World) (h : SaAt w x) (k : SaAt w y) (hf : Few x.m 900) (kf : Few y.m 900) :
  Calls Tryz.prog 26 #[saV x, saV y] w fun e w' => e = .returned (.bool (sameS x.m y.m)) ∧ Below w.heap.size w w' := by
 obtain ⟨HK, HZ⟩ := two_states h k 38 38
 have HS := Lib.hid HK
 have HT := Lib.hid HZ
 have hux : x.us.length ≤ 900 := by have := hf.us; unfold SaL.m at this; simp only at this; rwa [umS_len] at this
 have huy : y.us.length ≤ 900 := by have := kf.us; unfold SaL.m at this; simp only at this; rwa [umS_len] at this
 have hop := hf.op
 have kop := kf.op
 have hsu := hf.su
 have ksu := kf.su
 have htb := hf.tb
 have ktb := kf.tb
 have H1 := Lib.hid (fun V (p : OpSl V x.oa x.op) (q : OpSl V y.oa y.op) => osame_any x.oa y.oa x.oc y.oc x.op y.op V p q (Nat.le_trans hop (by unfold maxLen; decide)) (Nat.le_trans kop (by unfold maxLen; decide)))
 have H2 := Lib.hid (fun V (p : UsSl V x.ua x.us) (q : UsSl V y.ua y.us) => ueq_any x.ua y.ua x.uc y.uc x.us y.us V p q (by omega) (by omega) (fun z hz => Nat.le_trans (umS_st hf.st z hz) (by decide)) (fun z hz => Nat.le_trans (umS_st kf.st z hz) (by decide)))
 have H3 := Lib.hid (fun V (p : EnSl V x.sa x.su) (q : EnSl V y.sa y.su) => esame_any x.sa y.sa x.sc y.sc x.su y.su V p q (Nat.le_trans hsu (by unfold maxLen; decide)) (Nat.le_trans ksu (by unfold maxLen; decide)))
 have H4 := Lib.hid (fun V (p : TbSl V x.ta x.tb) (q : TbSl V y.ta y.tb) => teq_any x.ta y.ta x.tc y.tc x.tb y.tb V p q (Nat.le_trans htb (by unfold maxLen; decide)) (Nat.le_trans ktb (by unfold maxLen; decide)))
 have heq := fun V => eqNs x.now x.hor 0 0 y.now y.hor 0 0 V
 have hb0 : ((x.now == y.now) && ((x.hor == y.hor) && (((0 : Int) == 0) && ((0 : Int) == 0)))) = (decide (x.now = y.now) && decide (x.hor = y.hor)) := by
  rw [Bool.eq_iff_iff]
  simp
 rw [hb0] at heq
 have hsm : sameS x.m y.m = ((decide (x.now = y.now) && decide (x.hor = y.hor)) && decide (x.op = y.op) && decide (umS x.us = umS y.us) && decide (x.su = y.su) && decide (x.tb = y.tb)) := rfl
 rw [hsm]
 obtain ⟨c0, c1, c2, c3, c4, c5⟩ := HK.cells
 obtain ⟨d0, d1, d2, d3, d4, d5⟩ := HZ.cells
 generalize (decide (x.now = y.now) && decide (x.hor = y.hor)) = b0 at *
 generalize decide (x.op = y.op) = b1 at *
 generalize decide (umS x.us = umS y.us) = b2 at *
 generalize decide (x.su = y.su) = b3 at *
 generalize decide (x.tb = y.tb) = b4 at *
 obtain ⟨now, hor, oa, op, oc, ua, us, uc, sa, su, sc, ta, tb, tc⟩ := x
 obtain ⟨nowy, hory, oay, opy, ocy, uay, usy, ucy, say, suy, scy, tay, tby, tcy⟩ := y
 unfold saV saC at *
 dsimp only at *
 clear h k hf kf HK HZ hb0 hsm hop kop hsu ksu htb ktb hux huy
 cases b0
 ·go_enter Tryz.func26, Tryz.ntmps26
  have HF := Lib.hid HS.out.frame
  go_wp2
  go_ret
  exact ⟨retB (by simp), HF.out⟩
 ·
  cases b1
  ·go_enter Tryz.func26, Tryz.ntmps26
   go_wp2_with fail
   refine (H1.out _ HS.out.at_.op HT.out.at_.op).mono ?_
   rintro e w1 ⟨rfl, h1⟩
   have S1 := Lib.hid (HS.out.below h1)
   have T1 := Lib.hid (HT.out.below h1)
   clear c0 c1 c2 c3 c4 c5 d0 d1 d2 d3 d4 d5 HS HT h1 H1
   obtain ⟨c0, c1, c2, c3, c4, c5⟩ := S1.out.cells
   obtain ⟨d0, d1, d2, d3, d4, d5⟩ := T1.out.cells
   dsimp only at *
   have HF := Lib.hid S1.out.frame
   go_wp2
   go_ret
   exact ⟨retB (by simp), HF.out⟩
  ·
   cases b2
   ·go_enter Tryz.func26, Tryz.ntmps26
    go_wp2_with fail
    refine (H1.out _ HS.out.at_.op HT.out.at_.op).mono ?_
    rintro e w1 ⟨rfl, h1⟩
    have S1 := Lib.hid (HS.out.below h1)
    have T1 := Lib.hid (HT.out.below h1)
    clear c0 c1 c2 c3 c4 c5 d0 d1 d2 d3 d4 d5 HS HT h1 H1
    obtain ⟨c0, c1, c2, c3, c4, c5⟩ := S1.out.cells
    obtain ⟨d0, d1, d2, d3, d4, d5⟩ := T1.out.cells
    dsimp only at *
    go_wp2_with fail
    refine (H2.out _ S1.out.at_.us T1.out.at_.us).mono ?_
    rintro e w2 ⟨rfl, h2⟩
    have S2 := Lib.hid (S1.out.below h2)
    have T2 := Lib.hid (T1.out.below h2)
    clear c0 c1 c2 c3 c4 c5 d0 d1 d2 d3 d4 d5 S1 T1 h2 H2
    obtain ⟨c0, c1, c2, c3, c4, c5⟩ := S2.out.cells
    obtain ⟨d0, d1, d2, d3, d4, d5⟩ := T2.out.cells
    dsimp only at *
    have HF := Lib.hid S2.out.frame
    go_wp2
    go_ret
    exact ⟨retB (by simp), HF.out⟩
   ·
    cases b3
    ·go_enter Tryz.func26, Tryz.ntmps26
     go_wp2_with fail
     refine (H1.out _ HS.out.at_.op HT.out.at_.op).mono ?_
     rintro e w1 ⟨rfl, h1⟩
     have S1 := Lib.hid (HS.out.below h1)
     have T1 := Lib.hid (HT.out.below h1)
     clear c0 c1 c2 c3 c4 c5 d0 d1 d2 d3 d4 d5 HS HT h1 H1
     obtain ⟨c0, c1, c2, c3, c4, c5⟩ := S1.out.cells
     obtain ⟨d0, d1, d2, d3, d4, d5⟩ := T1.out.cells
     dsimp only at *
     go_wp2_with fail
     refine (H2.out _ S1.out.at_.us T1.out.at_.us).mono ?_
     rintro e w2 ⟨rfl, h2⟩
     have S2 := Lib.hid (S1.out.below h2)
     have T2 := Lib.hid (T1.out.below h2)
     clear c0 c1 c2 c3 c4 c5 d0 d1 d2 d3 d4 d5 S1 T1 h2 H2
     obtain ⟨c0, c1, c2, c3, c4, c5⟩ := S2.out.cells
     obtain ⟨d0, d1, d2, d3, d4, d5⟩ := T2.out.cells
     dsimp only at *
     go_wp2_with fail
     refine (H3.out _ S2.out.at_.su T2.out.at_.su).mono ?_
     rintro e w3 ⟨rfl, h3⟩
     have S3 := Lib.hid (S2.out.below h3)
     have T3 := Lib.hid (T2.out.below h3)
     clear c0 c1 c2 c3 c4 c5 d0 d1 d2 d3 d4 d5 S2 T2 h3 H3
     obtain ⟨c0, c1, c2, c3, c4, c5⟩ := S3.out.cells
     obtain ⟨d0, d1, d2, d3, d4, d5⟩ := T3.out.cells
     dsimp only at *
     have HF := Lib.hid S3.out.frame
     go_wp2
     go_ret
     exact ⟨retB (by simp), HF.out⟩
    ·
     go_enter Tryz.func26, Tryz.ntmps26
     go_wp2_with fail
     refine (H1.out _ HS.out.at_.op HT.out.at_.op).mono ?_
     rintro e w1 ⟨rfl, h1⟩
     have S1 := Lib.hid (HS.out.below h1)
     have T1 := Lib.hid (HT.out.below h1)
     clear c0 c1 c2 c3 c4 c5 d0 d1 d2 d3 d4 d5 HS HT h1 H1
     obtain ⟨c0, c1, c2, c3, c4, c5⟩ := S1.out.cells
     obtain ⟨d0, d1, d2, d3, d4, d5⟩ := T1.out.cells
     dsimp only at *
     go_wp2_with fail
     refine (H2.out _ S1.out.at_.us T1.out.at_.us).mono ?_
     rintro e w2 ⟨rfl, h2⟩
     have S2 := Lib.hid (S1.out.below h2)
     have T2 := Lib.hid (T1.out.below h2)
     clear c0 c1 c2 c3 c4 c5 d0 d1 d2 d3 d4 d5 S1 T1 h2 H2
     obtain ⟨c0, c1, c2, c3, c4, c5⟩ := S2.out.cells
     obtain ⟨d0, d1, d2, d3, d4, d5⟩ := T2.out.cells
     dsimp only at *
     go_wp2_with fail
     refine (H3.out _ S2.out.at_.su T2.out.at_.su).mono ?_
     rintro e w3 ⟨rfl, h3⟩
     have S3 := Lib.hid (S2.out.below h3)
     have T3 := Lib.hid (T2.out.below h3)
     clear c0 c1 c2 c3 c4 c5 d0 d1 d2 d3 d4 d5 S2 T2 h3 H3
     obtain ⟨c0, c1, c2, c3, c4, c5⟩ := S3.out.cells
     obtain ⟨d0, d1, d2, d3, d4, d5⟩ := T3.out.cells
     dsimp only at *
     go_wp2_with fail
     refine (H4.out _ S3.out.at_.tb T3.out.at_.tb).mono ?_
     rintro e w4 ⟨rfl, h4⟩
     have S4 := Lib.hid (S3.out.below h4)
     have T4 := Lib.hid (T3.out.below h4)
     clear c0 c1 c2 c3 c4 c5 d0 d1 d2 d3 d4 d5 S3 T3 h4 H4
     obtain ⟨c0, c1, c2, c3, c4, c5⟩ := S4.out.cells
     obtain ⟨d0, d1, d2, d3, d4, d5⟩ := T4.out.cells
     dsimp only at *
     have HF := Lib.hid S4.out.frame
     go_wp2
     go_ret
     exact ⟨retB (by simp), HF.out⟩
end Go.Proofs.YtjhdhfokhkcamaaGreat
