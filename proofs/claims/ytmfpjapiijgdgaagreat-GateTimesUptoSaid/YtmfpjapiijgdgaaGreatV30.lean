/- Texts of mine, one behind the other, of each what is wanted. -/
import Derived.Test.YtmfpjapiijgdgaaGreatV00
import Derived.Test.YtmfpjapiijgdgaaGreatShelf
import Derived.Test.YtmfpjapiijgdgaaGreatRows
import Derived.Test.YtmfpjapiijgdgaaGreatV01
import Derived.Test.YtmfpjapiijgdgaaGreatV03
import Derived.Test.YtmfpjapiijgdgaaGreatV05
import Derived.Test.YtmfpjapiijgdgaaGreatV06
import Derived.Test.YtmfpjapiijgdgaaGreatV07
import Derived.Test.YtmfpjapiijgdgaaGreatV09
import Derived.Test.YtmfpjapiijgdgaaGreatV10
import Derived.Test.YtmfpjapiijgdgaaGreatV16
import Derived.Test.YtmfpjapiijgdgaaGreatV17
import Derived.Test.YtmfpjapiijgdgaaGreatV18
import Derived.Test.YtmfpjapiijgdgaaGreatV20
import Derived.Test.YtmfpjapiijgdgaaGreatV24
namespace Go.Proofs.YtmfpjapiijgdgaaGreat
open Go.RowKit
set_option linter.unusedVariables false
set_option maxRecDepth 100000
set_option maxRecDepth 100000
set_option maxHeartbeats 1000000 in
theorem rstay_any (e : OpM) (t : Int) (w : World) : Calls Tryz.prog 161 #[opV e, .int .i64 t] w fun r w' => r = .returned (stV (stayO e t)) ∧ Below w.heap.size w w' := by
 unfold opV stV stayO
 obtain ⟨n, u, s, f⟩ := e
 dsimp only
 have HL : Hid (∀ o1 : Obj, (loadVar 104 ⟨w.heap.size + 1, 0, none⟩).run Tryz.prog ((w.alloc o1).alloc (.cells #[.int .i64 f, .int .i64 t, .int .i64 n, .int .i64 s] 104)) = .ok (.agg #[.int .i64 f, .int .i64 t, .int .i64 n, .int .i64 s]) ((w.alloc o1).alloc (.cells #[.int .i64 f, .int .i64 t, .int .i64 n, .int .i64 s] 104))) := fun o1 => by
  have := heap_alloc_new (w.alloc o1) (.cells #[.int .i64 f, .int .i64 t, .int .i64 n, .int .i64 s] 104)
  rw [size1] at this
  exact loadStR this
 have HG := Lib.hid (fun o p => below_two w o p)
 go_enter Tryz.func161, Tryz.ntmps161
 go_wp2
 refine bodyPost_ret (v := .agg #[.int .i64 f, .int .i64 t, .int .i64 n, .int .i64 s]) ?_ rfl ?_
 ·rw [results_cell1 rfl]
  simp [asAddr, Result.andThen, HL.out]
 ·exact ⟨rfl, HG.out _ _⟩
end Go.Proofs.YtmfpjapiijgdgaaGreat
namespace Go.Proofs.YtmfpjapiijgdgaaGreat
open Go.RowKit Go.Sort Go.Proofs
set_option linter.unusedVariables false
set_option maxRecDepth 100000
set_option maxRecDepth 100000
structure PosTo (l : List StM) (s : StM) (j p : Nat) : Prop where
 le : p ≤ j
 up : ∀ i (h : i < l.length), p ≤ i → i < j → ltSt s l[i]
 low : ∀ (h : 0 < p) (h1 : p - 1 < l.length), ¬ ltSt s l[p - 1]
theorem PosTo.up' {l : List StM} {s : StM} {j p : Nat} (h : PosTo l s j p) (hj : j < l.length) (k : ltSt s l[j]) : PosTo l s (j + 1) p :=
 ⟨by have := h.le; omega, fun i hi h1 h2 => by
  rcases Nat.lt_or_ge i j with h3 | h3
  ·exact h.up i hi h1 h3
  ·obtain rfl : i = j := by omega
   exact k, h.low⟩
theorem PosTo.here {l : List StM} {s : StM} {j p : Nat} (h : PosTo l s j p) (hj : j < l.length) (k : ¬ ltSt s l[j]) : PosTo l s (j + 1) (j + 1) :=
 ⟨Nat.le_refl _, fun i hi h1 h2 => absurd h1 (by omega), fun _ h1 => k⟩
theorem PosTo.is {l : List StM} {s : StM} {p : Nat} (h : PosTo l s l.length p) : IsPos l s p := ⟨h.le, fun i hi h1 => h.up i hi h1 hi, h.low⟩
structure RtK (w : World) (g : Nat) (x : StM) (a : Option Addr) (l : List StM) (W : World) : Prop where
 box : W.heap[g]? = some (.cells #[.int .i64 x.f, .int .i64 x.t, .int .i64 x.n, .int .i64 x.s] 104 (0, 0))
 row : StSl W a l
 frame : Below w.heap.size w W
theorem RtK.below {w W W' : World} {g : Nat} {x : StM} {a : Option Addr} {l : List StM} (h : RtK w g x a l W) (q : Below W.heap.size W W') : RtK w g x a l W' :=
 ⟨(q.block _ (heap_lt h.box)).trans h.box, h.row.below q, h.frame.trans (q.mono h.frame.size)⟩
theorem RtK.four {w W : World} {g : Nat} {x : StM} {a : Option Addr} {l : List StM} (h : RtK w g x a l W) :
  W.cell? ⟨g, 0, none⟩ = some (.int .i64 x.f) ∧ W.cell? ⟨g, 1, none⟩ = some (.int .i64 x.t) ∧ W.cell? ⟨g, 2, none⟩ = some (.int .i64 x.n) ∧ W.cell? ⟨g, 3, none⟩ = some (.int .i64 x.s) := cells4 h.box
theorem RtK.at_ {w W : World} {g : Nat} {x : StM} {b off : Nat} {l : List StM} (h : RtK w g x (some ⟨b, off, none⟩) l W) {k : Nat} (hk : k < l.length) :
  W.cell? ⟨g, 0, none⟩ = some (.int .i64 x.f) ∧ W.cell? ⟨g, 1, none⟩ = some (.int .i64 x.t) ∧ W.cell? ⟨g, 2, none⟩ = some (.int .i64 x.n) ∧ W.cell? ⟨g, 3, none⟩ = some (.int .i64 x.s) ∧
  W.cell? ⟨b, off + k * 4, none⟩ = some (.int .i64 l[k].f) ∧ W.cell? ⟨b, off + k * 4 + 1, none⟩ = some (.int .i64 l[k].t) ∧ W.cell? ⟨b, off + k * 4 + 2, none⟩ = some (.int .i64 l[k].n) ∧ W.cell? ⟨b, off + k * 4 + 3, none⟩ = some (.int .i64 l[k].s) := by
 obtain ⟨_, _, e, _, h0, h1, h2, h3⟩ := h.row.at_ hk
 cases e
 exact ⟨h.four.1, h.four.2.1, h.four.2.2.1, h.four.2.2.2, h0, h1, h2, h3⟩
theorem RtK.new {w W : World} {x : StM} {a : Option Addr} {l : List StM} (h : StSl W a l) (hb : Below w.heap.size w W) : RtK w W.heap.size x a l (W.alloc (.cells #[.int .i64 x.f, .int .i64 x.t, .int .i64 x.n, .int .i64 x.s] 104)) :=
 ⟨heap_alloc_new W _, h.below (below_one _ _), hb.alloc hb.size _⟩
structure Wd (x : Option Addr) (q n : Nat) : Prop where
 le : n ≤ q
 max : q ≤ maxLen
 nil : x = none → q = 0
theorem add_end {w w' : World} {B : Nat} {v : Value} {l : List StM} {s : StM} {p : Nat} (h : addS l s = l.take p ++ s :: l.drop p) (ho : w'.ownsRow B 104 4 v ((([] ++ l.take p) ++ [s]) ++ l.drop p).length (sts ((([] ++ l.take p) ++ [s]) ++ l.drop p))) (hb : Below w.heap.size w w') :
  ∃ x q, Ending.returned v = .returned (.slice x (addS l s).length q) ∧ StSl w' x (addS l s) ∧ Below w.heap.size w w' ∧ Wd x q (addS l s).length := by
 rw [List.nil_append, List.append_assoc, List.singleton_append, ← h] at ho
 obtain ⟨x, q, rfl, h1, h2, hs, h3⟩ := own_st ho
 exact ⟨x, q, rfl, hs, hb, ⟨h1, h2, h3⟩⟩
set_option maxHeartbeats 4000000 in
theorem refAdd_more (a : Option Addr) (c : Nat) (l : List StM) (s : StM) (w : World) (hr : StSl w a l) (hn : a = none → c = 0) (hl : l.length ≤ 1000) (hc : l.length ≤ c) (hcm : c ≤ maxLen) :
  Calls Tryz.prog 93 #[.slice a l.length c, stV s] w fun e w' => ∃ x q, e = .returned (.slice x (addS l s).length q) ∧ StSl w' x (addS l s) ∧ Below w.heap.size w w' ∧ Wd x q (addS l s).length := by
 have HWD : Hid (Wd a c l.length) := ⟨hc, hcm, hn⟩
 obtain ⟨i0, hi, hz0, hz1, hz2⟩ := info_parts infoStayR
 have HCM := Lib.hid (fun x y W => (ahead_any x y W).mono fun e w' (h : _ ∧ Grew W w') => And.intro h.1 (h.2.below (Nat.le_refl _)))
 have HK0 := Lib.hid (RtK.new (w := w) (x := s) hr (Below.refl _ _))
 have HNil := Lib.hid hn
 clear hr hn
 unfold maxLen at hcm
 unfold stV at *
 by_cases h0 : s.t ≤ s.f
 ·have hd0 := decide_eq_true h0
  have HA : Hid (addS l s = l) := by unfold Hid addS; rw [if_pos h0]
  rw [HA.out]
  go_enter Tryz.func93, Tryz.ntmps93
  go_wp2
  go_ret
  exact ⟨_, _, rfl, HK0.out.row, HK0.out.frame, HWD.out⟩
 ·have hd0 := decide_eq_false h0
  have HA : Hid (∀ p, IsPos l s p → addS l s = l.take p ++ s :: l.drop p) := fun p hp => by unfold addS; rw [if_neg h0, putS_at hp]
  go_enter Tryz.func93, Tryz.ntmps93
  go_wp2
  generalize w.alloc (.cells #[.int .i64 s.f, .int .i64 s.t, .int .i64 s.n, .int .i64 s.s] 104) = w1 at *
  generalize w.heap.size = g at *
  clear h0 hd0
  go_loopw [5, 6] (fun p i wr => ∃ (j q : Nat), j ≤ l.length ∧ q ≤ j ∧ i = .int .i64 j ∧ p = .int .i64 q ∧ Hid (PosTo l s j q) ∧ Hid (RtK w g s a l wr)) (fun _ i _ => l.length - (intOf i).toNat)
  case atStart => exact ⟨0, 0, by omega, by omega, rfl, rfl, ⟨Nat.le_refl _, fun i _ _ h => absurd h (by omega), fun h => absurd h (by omega)⟩, HK0.out⟩
  case round =>
   obtain ⟨j, q, hj, hq, rfl, rfl, HP, HK⟩ := hrel
   by_cases hjl : j < l.length
   ·obtain ⟨b, off, rfl, -, -, -, -, -⟩ := HK.out.row.at_ hjl
    have HP0 : Hid (∀ W, RtK w g s (some ⟨b, off, none⟩) l W → W.cell? ⟨g, 0, none⟩ = some (.int .i64 s.f) ∧ W.cell? ⟨g, 1, none⟩ = some (.int .i64 s.t) ∧ W.cell? ⟨g, 2, none⟩ = some (.int .i64 s.n) ∧ W.cell? ⟨g, 3, none⟩ = some (.int .i64 s.s) ∧
      W.cell? ⟨b, off + j * 4, none⟩ = some (.int .i64 l[j].f) ∧ W.cell? ⟨b, off + j * 4 + 1, none⟩ = some (.int .i64 l[j].t) ∧ W.cell? ⟨b, off + j * 4 + 2, none⟩ = some (.int .i64 l[j].n) ∧ W.cell? ⟨b, off + j * 4 + 3, none⟩ = some (.int .i64 l[j].s)) := fun W h => h.at_ hjl
    have HCX0 := Lib.hid (HCM.out s l[j])
    have HU1 := Lib.hid (HP.out.up' hjl)
    have HU2 := Lib.hid (HP.out.here hjl)
    have K1 := HK.out.below (Below.refl _ _).drew
    clear HCM
    generalize l[j] = y at *
    by_cases h3 : ltSt s y
    ·have HQ := Lib.hid (HU1.out h3)
     have HCX : Hid (∀ W, Calls Tryz.prog 157 #[.agg #[.int .i64 s.f, .int .i64 s.t, .int .i64 s.n, .int .i64 s.s], .agg #[.int .i64 y.f, .int .i64 y.t, .int .i64 y.n, .int .i64 y.s]] W fun e w' => e = .returned (.bool true) ∧ Below W.heap.size W w') := fun W => by
      have := HCX0.out W
      rwa [decide_eq_true h3] at this
     clear HU1 HU2 HCX0 h3
     go_wp2_with fail
     go_region_held3 (fun W => W.cell? ⟨g, 0, none⟩ = some (.int .i64 s.f) ∧ W.cell? ⟨g, 1, none⟩ = some (.int .i64 s.t) ∧ W.cell? ⟨g, 2, none⟩ = some (.int .i64 s.n) ∧ W.cell? ⟨g, 3, none⟩ = some (.int .i64 s.s) ∧ W.cell? ⟨b, off + j * 4, none⟩ = some (.int .i64 y.f) ∧ W.cell? ⟨b, off + j * 4 + 1, none⟩ = some (.int .i64 y.t) ∧ W.cell? ⟨b, off + j * 4 + 2, none⟩ = some (.int .i64 y.n) ∧ W.cell? ⟨b, off + j * 4 + 3, none⟩ = some (.int .i64 y.s))
      (first | exact HP0.out _ K1 | exact HP0.out _ K3)
      (first | (go_at_call 157; refine (HCX.out _).mono ?_; rintro e w3 ⟨rfl, h3⟩; have K3 := K1.below h3))
     go_wp2
     go_roundw
     case rel => exact ⟨j + 1, q, by omega, by omega, by go_num, rfl, HQ, K3⟩
     case measure => simp [intOf]; omega
    ·have HQ := Lib.hid (HU2.out h3)
     have HCX : Hid (∀ W, Calls Tryz.prog 157 #[.agg #[.int .i64 s.f, .int .i64 s.t, .int .i64 s.n, .int .i64 s.s], .agg #[.int .i64 y.f, .int .i64 y.t, .int .i64 y.n, .int .i64 y.s]] W fun e w' => e = .returned (.bool false) ∧ Below W.heap.size W w') := fun W => by
      have := HCX0.out W
      rwa [decide_eq_false h3] at this
     clear HU1 HU2 HCX0 h3
     go_wp2_with fail
     go_region_held3 (fun W => W.cell? ⟨g, 0, none⟩ = some (.int .i64 s.f) ∧ W.cell? ⟨g, 1, none⟩ = some (.int .i64 s.t) ∧ W.cell? ⟨g, 2, none⟩ = some (.int .i64 s.n) ∧ W.cell? ⟨g, 3, none⟩ = some (.int .i64 s.s) ∧ W.cell? ⟨b, off + j * 4, none⟩ = some (.int .i64 y.f) ∧ W.cell? ⟨b, off + j * 4 + 1, none⟩ = some (.int .i64 y.t) ∧ W.cell? ⟨b, off + j * 4 + 2, none⟩ = some (.int .i64 y.n) ∧ W.cell? ⟨b, off + j * 4 + 3, none⟩ = some (.int .i64 y.s))
      (first | exact HP0.out _ K1 | exact HP0.out _ K3)
      (first | (go_at_call 157; refine (HCX.out _).mono ?_; rintro e w3 ⟨rfl, h3⟩; have K3 := K1.below h3))
     go_wp2
     go_roundw
     case rel => exact ⟨j + 1, j + 1, by omega, by omega, by go_num, by go_num, HQ, K3⟩
     case measure => simp [intOf]; omega
   ·obtain rfl : j = l.length := by omega
    have HQ := Lib.hid HP.out.is
    clear HP HCM
    have hpc : q ≤ c := by omega
    have hz1' : (0 : Int) ≤ (q : Int) := by omega
    have hz2' : (q : Int) ≤ (l.length : Int) := by omega
    have hz3' : (q : Int) ≤ (c : Int) := by omega
    have hz4' : (l.length : Int) ≤ (c : Int) := by omega
    by_cases hlz : 0 < l.length
    ·obtain ⟨b, off, rfl, -, -, -, -, -⟩ := HK.out.row.at_ hlz
     by_cases hcp : c = q
     ·obtain rfl : q = l.length := by omega
      subst hcp
      have O1 := Lib.hid (own_empty8 wr 104 4 wr.heap.size (Nat.le_refl _))
      have B1 := Lib.hid (below_one wr (.cells #[] 104))
      have S1 := Lib.hid ((HK.out.row.take l.length).below B1.out)
      go_wp2_with (at_builtin; first
       | (refine wpList_append_st _ rfl (.tmp 29) (.tmp 32) 67 rfl wr.heap.size 104 i0 _ Tryz.underlying67 hi hz0 hz1 hz2 rfl _ [] rfl O1.out (some ⟨b, off, none⟩) l.length ((l).take l.length) (by rw [List.length_take, Nat.min_self]; rfl) S1.out (fun h => by cases h) (by simp; omega) B1.out.size ?_; intro v2 w2 hown2 hB2; obtain ⟨g0, g1, g2, g3⟩ := (HK.out.below (B1.out.trans hB2)).four; have BB := Lib.hid (B1.out.trans hB2); have OO := Lib.hid hown2; clear hown2 hB2)
       | (refine wpList_append_st _ rfl (.tmp 34) (.tmp 36) 67 rfl wr.heap.size 104 i0 _ Tryz.underlying67 hi hz0 hz1 hz2 rfl _ _ rfl (own_below OO.out (below_one w2 (.cells #[.int .i64 s.f, .int .i64 s.t, .int .i64 s.n, .int .i64 s.s] 104))) (some ⟨w2.heap.size, 0, none⟩) 1 [s] rfl (cells_st w2 [s] #[.int .i64 s.f, .int .i64 s.t, .int .i64 s.n, .int .i64 s.s] 104 _ rfl rfl) (fun h => by cases h) (by simp; omega) (BB.out.trans ((below_one w2 (.cells #[.int .i64 s.f, .int .i64 s.t, .int .i64 s.n, .int .i64 s.s] 104)).mono BB.out.size)).size ?_; intro v3 w3 hown3 hB3; have B3 := Lib.hid ((BB.out.trans ((below_one w2 (.cells #[.int .i64 s.f, .int .i64 s.t, .int .i64 s.n, .int .i64 s.s] 104)).mono BB.out.size)).trans hB3); have O3 := Lib.hid hown3; clear hown3 hB3 g0 g1 g2 g3)
       | (refine wpList_append_st _ rfl (.tmp 38) (.tmp 41) 67 rfl wr.heap.size 104 i0 _ Tryz.underlying67 hi hz0 hz1 hz2 rfl _ _ rfl O3.out (some ⟨b, off, none⟩) 0 ((l).drop l.length) (by rw [List.drop_eq_nil_of_le (Nat.le_refl _)]; rfl) (((show StSl wr (some ⟨b, off, none⟩) (l.drop l.length) by rw [List.drop_eq_nil_of_le (Nat.le_refl _)]; exact StSl.nil _ _)).below B3.out) (fun h => by cases h) (by simp; omega) B3.out.size ?_; intro v4 w4 hown4 hB4; have B4 := Lib.hid (B3.out.trans hB4); have O4 := Lib.hid hown4; clear hown4 hB4))
      go_ret
      refine add_end (HA.out _ HQ.out) O4.out (HK.out.frame.trans (B4.out.mono HK.out.frame.size))
     ·have O1 := Lib.hid (own_empty8 wr 104 4 wr.heap.size (Nat.le_refl _))
      have B1 := Lib.hid (below_one wr (.cells #[] 104))
      have S1 := Lib.hid ((HK.out.row.take q).below B1.out)
      go_wp2_with (at_builtin; first
       | (refine wpList_append_st _ rfl (.tmp 29) (.tmp 32) 67 rfl wr.heap.size 104 i0 _ Tryz.underlying67 hi hz0 hz1 hz2 rfl _ [] rfl O1.out (some ⟨b, off, none⟩) c ((l).take q) (by rw [List.length_take, Nat.min_eq_left hq]; rfl) S1.out (fun h => by cases h) (by simp; omega) B1.out.size ?_; intro v2 w2 hown2 hB2; obtain ⟨g0, g1, g2, g3⟩ := (HK.out.below (B1.out.trans hB2)).four; have BB := Lib.hid (B1.out.trans hB2); have OO := Lib.hid hown2; clear hown2 hB2)
       | (refine wpList_append_st _ rfl (.tmp 34) (.tmp 36) 67 rfl wr.heap.size 104 i0 _ Tryz.underlying67 hi hz0 hz1 hz2 rfl _ _ rfl (own_below OO.out (below_one w2 (.cells #[.int .i64 s.f, .int .i64 s.t, .int .i64 s.n, .int .i64 s.s] 104))) (some ⟨w2.heap.size, 0, none⟩) 1 [s] rfl (cells_st w2 [s] #[.int .i64 s.f, .int .i64 s.t, .int .i64 s.n, .int .i64 s.s] 104 _ rfl rfl) (fun h => by cases h) (by simp; omega) (BB.out.trans ((below_one w2 (.cells #[.int .i64 s.f, .int .i64 s.t, .int .i64 s.n, .int .i64 s.s] 104)).mono BB.out.size)).size ?_; intro v3 w3 hown3 hB3; have B3 := Lib.hid ((BB.out.trans ((below_one w2 (.cells #[.int .i64 s.f, .int .i64 s.t, .int .i64 s.n, .int .i64 s.s] 104)).mono BB.out.size)).trans hB3); have O3 := Lib.hid hown3; clear hown3 hB3 g0 g1 g2 g3)
       | (refine wpList_append_st _ rfl (.tmp 38) (.tmp 41) 67 rfl wr.heap.size 104 i0 _ Tryz.underlying67 hi hz0 hz1 hz2 rfl _ _ rfl O3.out (some ⟨b, off + q * 4, none⟩) (c - q) ((l).drop q) (by rw [List.length_drop]; rfl) ((HK.out.row.drop q).below B3.out) (fun h => by cases h) (by simp; omega) B3.out.size ?_; intro v4 w4 hown4 hB4; have B4 := Lib.hid (B3.out.trans hB4); have O4 := Lib.hid hown4; clear hown4 hB4))
      go_ret
      refine add_end (HA.out _ HQ.out) O4.out (HK.out.frame.trans (B4.out.mono HK.out.frame.size))
    ·have hl0 : l = [] := List.eq_nil_of_length_eq_zero (by omega)
     subst hl0
     obtain rfl : q = 0 := by simpa using hq
     cases a with
     | none =>
      have hc0 := HNil.out rfl
      subst hc0
      have O1 := Lib.hid (own_empty8 wr 104 4 wr.heap.size (Nat.le_refl _))
      have B1 := Lib.hid (below_one wr (.cells #[] 104))
      have O2 := Lib.hid (own_below O1.out (below_one _ (.cells #[.int .i64 s.f, .int .i64 s.t, .int .i64 s.n, .int .i64 s.s] 104)))
      have B2 := Lib.hid (B1.out.trans ((below_one _ (.cells #[.int .i64 s.f, .int .i64 s.t, .int .i64 s.n, .int .i64 s.s] 104)).mono B1.out.size))
      have S2 := Lib.hid (cells_st (wr.alloc (.cells #[] 104)) [s] #[.int .i64 s.f, .int .i64 s.t, .int .i64 s.n, .int .i64 s.s] 104 (wr.heap.size + 1) (size1 _ _).symm rfl)
      obtain ⟨g0, g1, g2, g3⟩ := HK.out.four
      have hgl := heap_lt HK.out.box
      clear O1
      go_wp2_with (at_builtin; first
       | (refine wpList_append_st _ rfl (.tmp 34) (.tmp 36) 67 rfl wr.heap.size 104 i0 _ Tryz.underlying67 hi hz0 hz1 hz2 rfl _ [] rfl O2.out (some ⟨wr.heap.size + 1, 0, none⟩) 1 [s] rfl S2.out (fun h => by cases h) (by simp) B2.out.size ?_; intro v3 w3 hown3 hB3; have B3 := Lib.hid (B2.out.trans hB3); have O3 := Lib.hid hown3; clear hown3 hB3 g0 g1 g2 g3 hgl)
       | (refine wpList_append_st _ rfl (.tmp 38) (.tmp 41) 67 rfl wr.heap.size 104 i0 _ Tryz.underlying67 hi hz0 hz1 hz2 rfl _ _ rfl O3.out none 0 [] rfl (StSl.nil _ _) (fun _ => rfl) (by simp) B3.out.size ?_; intro v4 w4 hown4 hB4; have B4 := Lib.hid (B3.out.trans hB4); have O4 := Lib.hid hown4; clear hown4 hB4))
      go_ret
      obtain ⟨x, q, h1, h2, h3⟩ := add_end (l := []) (p := 0) (HA.out _ HQ.out) O4.out (HK.out.frame.trans (B4.out.mono HK.out.frame.size))
      first | exact ⟨x, q, h1, h2, h3⟩ | exact ⟨x, ⟨q, h1⟩, h2, h3⟩
     | some ad =>
      obtain ⟨b, off, sp⟩ := ad
      by_cases hcp : c = 0
      ·subst hcp
       have O1 := Lib.hid (own_empty8 wr 104 4 wr.heap.size (Nat.le_refl _))
       have B1 := Lib.hid (below_one wr (.cells #[] 104))
       have O2 := Lib.hid (own_below O1.out (below_one _ (.cells #[.int .i64 s.f, .int .i64 s.t, .int .i64 s.n, .int .i64 s.s] 104)))
       have B2 := Lib.hid (B1.out.trans ((below_one _ (.cells #[.int .i64 s.f, .int .i64 s.t, .int .i64 s.n, .int .i64 s.s] 104)).mono B1.out.size))
       have S2 := Lib.hid (cells_st (wr.alloc (.cells #[] 104)) [s] #[.int .i64 s.f, .int .i64 s.t, .int .i64 s.n, .int .i64 s.s] 104 (wr.heap.size + 1) (size1 _ _).symm rfl)
       obtain ⟨g0, g1, g2, g3⟩ := HK.out.four
       have hgl := heap_lt HK.out.box
       clear O1
       go_wp2_with (at_builtin; first
        | (refine wpList_append_st _ rfl (.tmp 34) (.tmp 36) 67 rfl wr.heap.size 104 i0 _ Tryz.underlying67 hi hz0 hz1 hz2 rfl _ [] rfl O2.out (some ⟨wr.heap.size + 1, 0, none⟩) 1 [s] rfl S2.out (fun h => by cases h) (by simp) B2.out.size ?_; intro v3 w3 hown3 hB3; have B3 := Lib.hid (B2.out.trans hB3); have O3 := Lib.hid hown3; clear hown3 hB3 g0 g1 g2 g3 hgl)
        | (refine wpList_append_st _ rfl (.tmp 38) (.tmp 41) 67 rfl wr.heap.size 104 i0 _ Tryz.underlying67 hi hz0 hz1 hz2 rfl _ _ rfl O3.out (some ⟨b, off, sp⟩) 0 [] rfl (StSl.nil _ _) (fun h => by cases h) (by simp) B3.out.size ?_; intro v4 w4 hown4 hB4; have B4 := Lib.hid (B3.out.trans hB4); have O4 := Lib.hid hown4; clear hown4 hB4))
       go_ret
       obtain ⟨x, q, h1, h2, h3⟩ := add_end (l := []) (p := 0) (HA.out _ HQ.out) O4.out (HK.out.frame.trans (B4.out.mono HK.out.frame.size))
       first | exact ⟨x, q, h1, h2, h3⟩ | exact ⟨x, ⟨q, h1⟩, h2, h3⟩
      ·have O1 := Lib.hid (own_empty8 wr 104 4 wr.heap.size (Nat.le_refl _))
       have B1 := Lib.hid (below_one wr (.cells #[] 104))
       have O2 := Lib.hid (own_below O1.out (below_one _ (.cells #[.int .i64 s.f, .int .i64 s.t, .int .i64 s.n, .int .i64 s.s] 104)))
       have B2 := Lib.hid (B1.out.trans ((below_one _ (.cells #[.int .i64 s.f, .int .i64 s.t, .int .i64 s.n, .int .i64 s.s] 104)).mono B1.out.size))
       have S2 := Lib.hid (cells_st (wr.alloc (.cells #[] 104)) [s] #[.int .i64 s.f, .int .i64 s.t, .int .i64 s.n, .int .i64 s.s] 104 (wr.heap.size + 1) (size1 _ _).symm rfl)
       obtain ⟨g0, g1, g2, g3⟩ := HK.out.four
       have hgl := heap_lt HK.out.box
       clear O1
       go_wp2_with (at_builtin; first
        | (refine wpList_append_st _ rfl (.tmp 34) (.tmp 36) 67 rfl wr.heap.size 104 i0 _ Tryz.underlying67 hi hz0 hz1 hz2 rfl _ [] rfl O2.out (some ⟨wr.heap.size + 1, 0, none⟩) 1 [s] rfl S2.out (fun h => by cases h) (by simp) B2.out.size ?_; intro v3 w3 hown3 hB3; have B3 := Lib.hid (B2.out.trans hB3); have O3 := Lib.hid hown3; clear hown3 hB3 g0 g1 g2 g3 hgl)
        | (refine wpList_append_st _ rfl (.tmp 38) (.tmp 41) 67 rfl wr.heap.size 104 i0 _ Tryz.underlying67 hi hz0 hz1 hz2 rfl _ _ rfl O3.out (some _) _ [] rfl (StSl.nil _ _) (fun h => by cases h) (by simp) B3.out.size ?_; intro v4 w4 hown4 hB4; have B4 := Lib.hid (B3.out.trans hB4); have O4 := Lib.hid hown4; clear hown4 hB4))
       go_ret
       obtain ⟨x, q, h1, h2, h3⟩ := add_end (l := []) (p := 0) (HA.out _ HQ.out) O4.out (HK.out.frame.trans (B4.out.mono HK.out.frame.size))
       first | exact ⟨x, q, h1, h2, h3⟩ | exact ⟨x, ⟨q, h1⟩, h2, h3⟩
set_option maxHeartbeats 4000000 in
theorem rstays_any (a : Option Addr) (c : Nat) (l : List OpM) (u : ByteArray) (t : Int) (w : World) (hr : OpSl w a l) (hl : l.length ≤ 1000) :
  Calls Tryz.prog 98 #[.slice a l.length c, .string u, .int .i64 t] w fun e w' => ∃ x q, e = .returned (.slice x (staysO l u t).length q) ∧ StSl w' x (staysO l u t) ∧ Below w.heap.size w w' := by
 have HR := Lib.hid hr
 have HST := Lib.hid (fun (x : OpM) W => rstay_any x t W)
 unfold opV stV stayO at HST
 clear hr
 go_enter Tryz.func98, Tryz.ntmps98
 go_wp2
 go_loopw [7, 8] (fun v i wr => ∃ (j : Nat) (x : Option Addr) (q : Nat), j ≤ l.length ∧ i = .int .i64 j ∧ v = .slice x (staysO (l.take j) u t).length q ∧ Hid (Wd x q (staysO (l.take j) u t).length) ∧ Hid (StSl wr x (staysO (l.take j) u t)) ∧ Hid (Below w.heap.size w wr)) (fun _ i _ => l.length - (intOf i).toNat)
 case atStart => exact ⟨0, none, 0, by omega, rfl, rfl, ⟨Nat.le_refl _, by unfold maxLen; omega, fun _ => rfl⟩, StSl.nil _ _, Below.refl _ _⟩
 case round =>
  obtain ⟨j, x0, q0, hj, rfl, rfl, HW, HS, HB⟩ := hrel
  by_cases hjl : j < l.length
  ·obtain ⟨b, off, rfl, hbl, hc0, hc1, hc2, hc3⟩ := (HR.out.below HB.out).at_ hjl
   have HN := Lib.hid (staysO_next l u t j hjl)
   have HLN := Lib.hid (staysO_len l u t j)
   generalize staysO (l.take j) u t = M at *
   generalize l[j] = x at *
   by_cases hu : x.u = u
   ·have q1 : (x.u.toList == u.toList) = true := by rw [hu]; exact txt_eq u
    have HN2 : Hid (staysO (l.take (j + 1)) u t = addS M (stayO x t)) := by
     have := HN.out
     rwa [if_pos hu] at this
    have HAD := Lib.hid (fun W (h : StSl W x0 M) => refAdd_more x0 q0 M (stayO x t) W h HW.out.nil (by have := HLN.out; omega) HW.out.le HW.out.max)
    unfold stV stayO at HAD
    unfold stayO at HN2
    dsimp only at HAD HN2
    generalize addS M ⟨x.f, t, x.n, x.s⟩ = M2 at *
    clear HN hu HLN HW
    go_wp2_with fail
    refine (HST.out x _).mono ?_
    rintro r w2 ⟨rfl, hB⟩
    have HB2 := Lib.hid (HB.out.trans (hB.mono HB.out.size))
    have HS2 := Lib.hid (HS.out.below hB)
    clear hB HST hc0 hc1 hc2 hc3
    go_wp2_with fail
    refine (HAD.out _ HS2.out).mono ?_
    rintro r w3 ⟨x1, q1', rfl, hs, hB, hw⟩
    have HB3 := Lib.hid (HB2.out.trans (hB.mono HB2.out.size))
    have HS3 := Lib.hid hs
    have HW3 := Lib.hid hw
    clear hs hw hB HAD
    go_wp2
    go_roundw
    case rel => exact ⟨j + 1, x1, q1', by omega, by go_num, by rw [HN2.out], (by unfold Hid; rw [HN2.out]; exact HW3.out), (by unfold Hid; rw [HN2.out]; exact HS3.out), HB3.out⟩
    case measure => simp [intOf]; omega
   ·have q1 := txt_ne hu
    have HN2 : Hid (staysO (l.take (j + 1)) u t = M) := by
     have := HN.out
     rwa [if_neg hu] at this
    clear HN hu HLN HST
    go_wp2
    go_roundw
    case rel => exact ⟨j + 1, x0, q0, by omega, by go_num, by rw [HN2.out], (by unfold Hid; rw [HN2.out]; exact HW.out), (by unfold Hid; rw [HN2.out]; exact HS.out), HB.out⟩
    case measure => simp [intOf]; omega
  ·obtain rfl : j = l.length := by omega
   rw [List.take_of_length_le (Nat.le_refl _)] at HS
   have HE : Hid (staysO (l.take l.length) u t = staysO l u t) := by unfold Hid; rw [List.take_of_length_le (Nat.le_refl _)]
   go_wp2
   go_ret
   exact ⟨x0, q0, (by rw [HE.out]; rfl), HS.out, HB.out⟩
end Go.Proofs.YtmfpjapiijgdgaaGreat
namespace Go.Proofs.YtmfpjapiijgdgaaGreat
open Go.RowKit
set_option linter.unusedVariables false
set_option maxRecDepth 100000
set_option maxRecDepth 100000
structure CellP (P : Int → Prop) (e : List Int) : Prop where
 rise : Rise e
 cell : ∀ k (h : k + 1 < e.length) x, e[k] ≤ x → x < e[k + 1] → (P x ↔ P e[k])
 first : ∀ x, P x → ∃ h : 0 < e.length, e[0] ≤ x
 last : ∀ x, P x → ∀ k (h : k + 1 = e.length), x < e[k]
def GlW (P : Int → Prop) (e : List Int) (k : Nat) (r : List SpM) : Prop := (r = [] ∧ e = []) ∨ ∃ h : k < e.length, GlueI P e[k] r
theorem CellP.start {P : Int → Prop} {e : List Int} (h : CellP P e) : GlW P e 0 [] := by
 rcases Nat.eq_zero_or_pos e.length with h0 | h0
 ·exact .inl ⟨rfl, List.eq_nil_of_length_eq_zero h0⟩
 ·exact .inr ⟨h0, GlueI.start fun x hx => (h.first x hx).2⟩
theorem CellP.lt {P : Int → Prop} {e : List Int} (h : CellP P e) {k : Nat} (hk : k + 1 < e.length) : e[k] < e[k + 1] := (List.pairwise_iff_getElem.1 h.rise) k (k + 1) (by omega) hk (by omega)
theorem CellP.step {P : Int → Prop} {e : List Int} (h : CellP P e) {k : Nat} {r : List SpM} (g : GlW P e k r) (hk : k + 1 < e.length) (hp : P e[k]) : GlW P e (k + 1) (glueS r ⟨e[k], e[k + 1]⟩) := by
 rcases g with ⟨_, rfl⟩ | ⟨h0, g⟩
 ·simp at hk
 ·exact .inr ⟨hk, g.step (h.lt hk) fun x h1 h2 => (h.cell k hk x h1 h2).2 hp⟩
theorem CellP.skip {P : Int → Prop} {e : List Int} (h : CellP P e) {k : Nat} {r : List SpM} (g : GlW P e k r) (hk : k + 1 < e.length) (hp : ¬ P e[k]) : GlW P e (k + 1) r := by
 rcases g with ⟨_, rfl⟩ | ⟨h0, g⟩
 ·simp at hk
 ·exact .inr ⟨hk, g.skip (h.lt hk) fun x h1 h2 hx => hp ((h.cell k hk x h1 h2).1 hx)⟩
theorem CellP.done {P : Int → Prop} {e : List Int} (h : CellP P e) {k : Nat} {r : List SpM} (g : GlW P e k r) (hk : ¬ k + 1 < e.length) : IsSet P r := by
 rcases g with ⟨rfl, rfl⟩ | ⟨h0, g⟩
 ·exact ⟨NormL.nil, fun x => ⟨fun hx => absurd hx HasL.nil, fun hx => by obtain ⟨h0, _⟩ := h.first x hx; simp at h0⟩⟩
 ·exact g.done fun x hx => h.last x hx k (by omega)
theorem cell_one {l : List SpM} {e : List Int} (h : IsEnds l e) : CellP (HasL l) e :=
 ⟨h.1, fun k hk x h1 h2 => h.cell (fun _ hs => hs) hk h1 h2, fun x hx => h.first (fun _ hs => hs) hx, fun x hx k hk => h.last (fun _ hs => hs) hx hk⟩
theorem glueS_le (r : List SpM) (s : SpM) : (glueS r s).length ≤ r.length + 1 := by
 rcases List.eq_nil_or_concat r with rfl | ⟨fr, u, hfu⟩
 ·rw [glueS_nil]; simp
 ·rw [hfu, List.concat_eq_append, glueS_snoc]
  split <;> simp
theorem ints_two {w : World} {a : Option Addr} {e : List Int} (h : Sl w a (ints e)) {k : Nat} (hk : k + 1 < e.length) : ∃ b off, a = some ⟨b, off, none⟩ ∧ ∀ W, Below w.heap.size w W → W.cell? ⟨b, off + k, none⟩ = some (.int .i64 e[k]) ∧ W.cell? ⟨b, off + (k + 1), none⟩ = some (.int .i64 e[k + 1]) := by
 obtain ⟨b, off, rfl, _, _⟩ := ints_at h hk
 refine ⟨b, off, rfl, fun W hW => ?_⟩
 obtain ⟨_, _, e1, _, h1⟩ := ints_at (h.below hW) (k := k) (by omega)
 obtain ⟨_, _, e2, _, h2⟩ := ints_at (h.below hW) hk
 cases e1
 cases e2
 exact ⟨h1, h2⟩
set_option maxHeartbeats 4000000 in
theorem refNorm_any (a : Option Addr) (c : Nat) (l : List SpM) (w : World) (hr : SpSl w a l) (hl : l.length ≤ 100000) :
  Calls Tryz.prog 96 #[.slice a l.length c] w fun e w' => ∃ (v : Value) (r : List SpM), e = .returned v ∧ IsSet (HasL l) r ∧ r.length ≤ 2 * l.length ∧ w'.ownsRow w.heap.size 106 2 v r.length (sps r) ∧ Below w.heap.size w w' := by
 have HR := Lib.hid hr
 have HE := Lib.hid (ends_any a c l w hr hl)
 have HH := Lib.hid refHas_any
 have HG := Lib.hid glue_any
 have hlm : l.length ≤ maxLen := by unfold maxLen; omega
 clear hr
 go_enter Tryz.func96, Tryz.ntmps96
 go_wp2_with fail
 refine HE.out.mono ?_
 rintro r w1 ⟨v, e, rfl, hen, hel, hown, hB1⟩
 clear HE
 have HP := Lib.hid (cell_one hen)
 have HB1 := Lib.hid hB1
 obtain ⟨ea, ec, rfl, _, hecm, hsl, _, _⟩ := own_slice hown
 have HSL := Lib.hid hsl
 clear hen hown hB1 hsl
 go_wp2
 go_loopw [4, 5] (fun v i wr => ∃ (k : Nat) (r : List SpM), i = .int .i64 k ∧ k ≤ e.length ∧ r.length ≤ k ∧ Hid (GlW (HasL l) e k r) ∧ Hid (wr.ownsRow w1.heap.size 106 2 v r.length (sps r)) ∧ Hid (Below w1.heap.size w1 wr)) (fun _ i _ => e.length - (intOf i).toNat)
 case atStart => exact ⟨0, [], rfl, by omega, by simp, HP.out.start, ⟨rfl, .inl ⟨rfl, rfl⟩⟩, Below.refl _ _⟩
 case round =>
  obtain ⟨k, r, rfl, hke, hrk, HI, HO, HB⟩ := hrel
  by_cases hk : k + 1 < e.length
  ·obtain ⟨b, off, rfl, hc⟩ := ints_two HSL.out hk
   have HSC := Lib.hid (fun W (hW : Below w1.heap.size wr W) => hc W (HB.out.trans hW))
   obtain ⟨c0, c1⟩ := hc wr HB.out
   have HST := Lib.hid (fun hp => HP.out.step HI.out hk hp)
   have HSK := Lib.hid (fun hp => HP.out.skip HI.out hk hp)
   have HRW := Lib.hid (HR.out.below (HB1.out.trans (HB.out.mono HB1.out.size)))
   have HHW := Lib.hid (HH.out a c l e[k] wr HRW.out hlm)
   have HBI := Lib.hid (hasB_iff l e[k])
   clear hc HI
   generalize e[k] = x at *
   generalize e[k + 1] = y at *
   by_cases hb : hasB l x = true
   ·rw [hb] at HHW
    have HN := Lib.hid (HST.out (HBI.out.1 hb))
    clear HST HSK HBI hb
    go_wp2_with fail
    refine HHW.out.mono ?_
    rintro r1 w2 ⟨rfl, hw2⟩
    obtain rfl : wr = w2 := hw2.symm
    clear hw2
    go_wp2_with fail
    have hX : Below w1.heap.size wr wr.drew := (Below.refl _ _).drew
    have hwk : IntKind.i64.wrap ((k : Int) + 1) = (k : Int) + 1 := by rw [IntWalk.i64_in] <;> omega
    have hk0 : (0 : Int) ≤ (k : Int) := Int.natCast_nonneg _
    have hk1 : (k : Int) < (e.length : Int) := by omega
    have hk2 : (k : Int) + 1 < (e.length : Int) := by omega
    have hk3 : (0 : Int) ≤ (k : Int) + 1 := by omega
    have hk4 : ((k : Int) + 1).toNat = k + 1 := by omega
    have HGW : Hid (Calls Tryz.prog 160 #[_, .agg #[.int .i64 x, .int .i64 y]] wr.drew _) := HG.out w1.heap.size _ r ⟨x, y⟩ wr.drew HB.out.size HO.out.drew (by omega)
    go_region_held3 (fun W => W.cell? ⟨b, off + k, none⟩ = some (.int .i64 x) ∧ W.cell? ⟨b, off + (k + 1), none⟩ = some (.int .i64 y))
     (first | with_reducible exact HSC.out _ hX | with_reducible exact HSC.out _ hY | assumption)
     ((go_at_call 160; refine HGW.out.mono ?_; rintro r3 w3 ⟨v3, rfl, hown3, hB3⟩; have hY := hX.trans hB3))
    clear hwk hk0 hk1 hk2 hk3 hk4 hX HSC HGW HHW
    go_wp2
    go_roundw
    case rel => exact ⟨k + 1, glueS r ⟨x, y⟩, by go_num, by omega, Nat.le_trans (glueS_le _ _) (by omega), HN, hown3, HB.out.trans hY⟩
    case measure => simp [intOf]; omega
   ·have hb : hasB l x = false := by simpa using hb
    rw [hb] at HHW
    have HN := Lib.hid (HSK.out (fun h => by rw [HBI.out.2 h] at hb; cases hb))
    clear HST HSK HBI hb
    go_wp2_with fail
    refine HHW.out.mono ?_
    rintro r1 w2 ⟨rfl, hw2⟩
    obtain rfl : wr = w2 := hw2.symm
    clear hw2 HSC HHW
    go_wp2
    go_roundw
    case rel => exact ⟨k + 1, r, by go_num, by omega, by omega, HN, HO, HB⟩
    case measure => simp [intOf]; omega
  ·have HD := Lib.hid (HP.out.done HI.out hk)
   go_wp2
   go_ret
   first | exact ⟨_, r, rfl, HD.out, by omega, own_low HO.out HB1.out.size, HB1.out.trans (HB.out.mono HB1.out.size)⟩ | exact ⟨_, rfl, r, HD.out, by omega, own_low HO.out HB1.out.size, HB1.out.trans (HB.out.mono HB1.out.size)⟩
end Go.Proofs.YtmfpjapiijgdgaaGreat
namespace Go.Proofs.YtmfpjapiijgdgaaGreat
open Go.RowKit Go.Proofs
set_option linter.unusedVariables false
set_option maxRecDepth 100000
set_option maxRecDepth 100000
theorem step_append_own {P : Program} {ops : Array Oper} {o : Oper} {a : Act} {w : World} {K : Act → World → Prop} {Q : Exit → Act → World → Prop} {E : Prop}
  (hg : o.guard = none) (s x : Operand) (t : TypeId) (hop : o.op = Op.call { callee := Callee.builtin Builtin.append, args := #[s, x], argTypes := #[t, t] })
  (base : Nat) (e : TypeId) (i : TypeInfo) (z : Value) (size bytes : Nat) (ht : P.underlying t = some (.slice e)) (hi : P.info? e = some i) (hz : i.zero = some z)
  (hsize : i.size = size) (hby : i.bytes = bytes) (hzs : z.cells.size = size) (hsz : 0 < size)
  (v : Value) (n : Nat) (xs : List Value) (hs : a.eval s = v) (hown : w.ownsRow base e size v n xs)
  (ad : Addr) (m c : Nat) (news : List Value) (hx : a.eval x = .slice (some ad) m c) (hl : news.length = m * size) (hnews : ∀ j u, news[j]? = some u → w.cell? (ad.add j) = some u) (h1 : ∀ u ∈ news, u.oneCell' = true)
  (h63 : n + m ≤ maxLen) (hbytes : (n + m) * bytes ≤ 140737488355328) (hbase : base ≤ w.heap.size)
  (hK : ∀ v' w', w'.ownsRow base e size v' (n + m) (xs ++ news) → w.grownBy w' v.ownBlock → K (a.put o.dst v') w') :
  if Region.wanted o (yielded ops a.tmps) = true then Oper.wp P o a w K Q else E := by
 have hw : Region.wanted o (yielded ops a.tmps) = true := by simp [Region.wanted, hg]
 rw [if_pos hw]
 obtain ⟨v', w', hrun, ho, hg, -, -⟩ := run_append_own_at (P := P) (w := w) base t o.type e i z size bytes ht hi hz hsize hby hzs hsz v n xs hown ad m c news hl hnews h1 h63 hbytes hbase
 unfold Oper.wp
 simp [execOp, hop, resolve, invoke, builtin, hs, hx, hrun, Result.andThen]
 exact hK v' w' ho hg
set_option maxHeartbeats 4000000 in
theorem refPeriods_any (a : Option Addr) (c : Nat) (l : List EnM) (p u : ByteArray) (w : World) (hr : EnSl w a l) (hl : l.length ≤ 1000) :
  Calls Tryz.prog 106 #[.slice a l.length c, pr p u] w fun e w' => ∃ v r, e = .returned v ∧ IsSet (HasL (perS l p u)) r ∧ r.length ≤ 2 * l.length ∧ w'.ownsRow w.heap.size 106 2 v r.length (sps r) ∧ Below w.heap.size w w' := by
 obtain ⟨i0, hi, hz0, hz1, hz2⟩ := info_parts infoSpanR
 have HK0 := Lib.hid (PK.new hr p u 97)
 have HNM := Lib.hid (fun x q W (h : SpSl W x (perS l p u)) => refNorm_any x q (perS l p u) W h (by have := per_len l p u; omega))
 have HPL := Lib.hid (per_len l p u)
 have HC := Lib.hid (fun e W => of_any e p u W)
 unfold enV pr at HC
 unfold pr
 clear hr
 go_enter Tryz.func106, Tryz.ntmps106
 go_wp2
 generalize w.alloc (.cells #[.string p, .string u] 97) = W0 at *
 generalize w.heap.size = g at *
 go_loopw [5, 6] (fun v i wr => ∃ (j : Nat), j ≤ l.length ∧ i = .int .i64 j ∧ Hid (wr.ownsRow W0.heap.size 106 2 v (perS (l.take j) p u).length (sps (perS (l.take j) p u))) ∧ Hid (Below W0.heap.size W0 wr)) (fun _ i _ => l.length - (intOf i).toNat)
 case atStart => exact ⟨0, by omega, rfl, ⟨rfl, .inl ⟨rfl, rfl⟩⟩, Below.refl _ _⟩
 case round =>
  obtain ⟨j, hj, rfl, HO, HB⟩ := hrel
  have HKW := Lib.hid (HK0.out.below HB.out)
  by_cases hjl : j < l.length
  ·obtain ⟨b, off, rfl, -, -, -, -, -⟩ := HKW.out.row.at_ hjl
   have HT := Lib.hid (per_take l p u j hjl)
   have HLN := Lib.hid (per_tlen l p u j)
   have HSC := Lib.hid (fun W (h : PK w g p u (some ⟨b, off, none⟩) l W) => h.cells hjl)
   generalize l[j] = x at *
   generalize perS (l.take j) p u = m at *
   have K1 := HKW.out.below (Below.refl _ _).drew
   have HCC := Lib.hid (HC.out x)
   clear HC
   cases hb : ofE p u x with
   | true =>
    have HC2 : Hid (perS (l.take (j + 1)) p u = m ++ [x.sp]) := by have := HT.out; rwa [if_pos hb] at this
    rw [hb] at HCC
    clear HT hb
    go_wp2_with fail
    go_region_held3 (fun W => W.cell? ⟨g, 0, none⟩ = some (.string p) ∧ W.cell? ⟨g, 1, none⟩ = some (.string u) ∧ W.cell? ⟨b, off + j * 4, none⟩ = some (.string x.w) ∧ W.cell? ⟨b, off + j * 4 + 1, none⟩ = some (.string x.u) ∧ W.cell? ⟨b, off + j * 4 + 2, none⟩ = some (.int .i64 x.f) ∧ W.cell? ⟨b, off + j * 4 + 3, none⟩ = some (.int .i64 x.t))
     (first | exact HSC.out _ K2 | exact HSC.out _ K1)
     (first | (go_at_call 166; refine (HCC.out _).mono ?_; rintro e w2 ⟨rfl, h2⟩; have K2 := K1.below h2))
    have hbW : Below wr.heap.size wr w2 := (Below.refl _ _).drew.trans h2
    have hbX : Below wr.heap.size wr (w2.alloc (.cells #[.int .i64 x.f, .int .i64 x.t] 106)).drew := (hbW.trans ((ebelow_one w2 _).mono hbW.size)).drew
    have HO2 := Lib.hid (own_below HO.out hbX)
    have HB2 := Lib.hid (HB.out.trans (hbX.mono HB.out.size))
    have HS2 := Lib.hid HB2.out.size
    have HNW : Hid (∀ j u, [Value.int .i64 x.f, .int .i64 x.t][j]? = some u → (w2.alloc (.cells #[.int .i64 x.f, .int .i64 x.t] 106)).drew.cell? ((⟨w2.heap.size, 0, none⟩ : Addr).add j) = some u) := fun j u h => news_at w2 #[.int .i64 x.f, .int .i64 x.t] 106 _ rfl j u h
    have HS6 : Hid (∀ W, Below W0.heap.size W0 W → W.cell? ⟨b, off + j * 4 + 2, none⟩ = some (.int .i64 x.f) ∧ W.cell? ⟨b, off + j * 4 + 3, none⟩ = some (.int .i64 x.t)) := fun W h => (HSC.out W (HK0.out.below h)).2.2.2.2
    have HBD := Lib.hid (HB.out.trans (hbW.drew.mono HB.out.size))
    have HBE := Lib.hid (HB.out.trans ((hbW.trans ((ebelow_one w2 (.cells #[.int .i64 x.f, .int .i64 x.t] 106)).mono hbW.size)).mono HB.out.size))
    have hlm := HLN.out
    clear hbW hbX h2 K1 K2 HCC HSC HO HB
    go_wp2_with fail
    go_region_held3 (fun W => W.cell? ⟨b, off + j * 4 + 2, none⟩ = some (.int .i64 x.f) ∧ W.cell? ⟨b, off + j * 4 + 3, none⟩ = some (.int .i64 x.t))
     (first | with_reducible exact HS6.out _ HBD.out | with_reducible exact HS6.out _ HB2.out | with_reducible exact HS6.out _ HBE.out | with_reducible exact HS6.out _ HB3.out | assumption)
     (first | (refine step_append_own rfl (.tmp 19) (.tmp 31) 74 rfl W0.heap.size 106 i0 _ 2 16 Tryz.underlying74 hi hz0 hz1 hz2 rfl (by decide) _ _ _ rfl HO2.out ⟨w2.heap.size, 0, none⟩ 1 1 [.int .i64 x.f, .int .i64 x.t] rfl rfl HNW.out (two_one _ _) (by unfold maxLen; omega) (by omega) HS2.out ?_; intro v' w4 hown' hgrow; have HB3 := Lib.hid (app_below HB2.out HS2.out HO2.out hgrow); have HO3 := Lib.hid hown'; clear hown' hgrow))
    go_wp2
    go_roundw
    case rel => exact ⟨j + 1, by omega, by go_num, (by unfold Hid; rw [HC2.out, List.length_append, sps_snoc]; exact HO3.out), HB3⟩
    case measure => simp [intOf]; omega
   | false =>
    have HC2 : Hid (perS (l.take (j + 1)) p u = m) := by have := HT.out; rwa [if_neg (by rw [hb]; exact Bool.false_ne_true), List.append_nil] at this
    rw [hb] at HCC
    clear HT hb
    go_wp2_with fail
    go_region_held3 (fun W => W.cell? ⟨g, 0, none⟩ = some (.string p) ∧ W.cell? ⟨g, 1, none⟩ = some (.string u) ∧ W.cell? ⟨b, off + j * 4, none⟩ = some (.string x.w) ∧ W.cell? ⟨b, off + j * 4 + 1, none⟩ = some (.string x.u) ∧ W.cell? ⟨b, off + j * 4 + 2, none⟩ = some (.int .i64 x.f) ∧ W.cell? ⟨b, off + j * 4 + 3, none⟩ = some (.int .i64 x.t))
     (first | exact HSC.out _ K2 | exact HSC.out _ K1)
     (first | (go_at_call 166; refine (HCC.out _).mono ?_; rintro e w2 ⟨rfl, h2⟩; have K2 := K1.below h2))
    have hbW : Below wr.heap.size wr w2 := (Below.refl _ _).drew.trans h2
    have HOD := Lib.hid (own_below HO.out hbW)
    have HBD := Lib.hid (HB.out.trans (hbW.mono HB.out.size))
    clear hbW h2 K1 K2 HCC HSC HO HB
    go_wp2
    go_roundw
    case rel => exact ⟨j + 1, by omega, by go_num, (by unfold Hid; rw [HC2.out]; exact HOD.out), HBD⟩
    case measure => simp [intOf]; omega
  ·obtain rfl : j = l.length := by omega
   rw [List.take_of_length_le (Nat.le_refl _)] at HO
   obtain ⟨x, q, rfl, h1, h2, h3, -⟩ := own_spm HO.out
   have HC := Lib.hid (HNM.out x q _ h3)
   have HF := Lib.hid (HKW.out.frame)
   clear h1 h2 h3 HNM HO
   go_wp2_with fail
   refine HC.out.mono ?_
   rintro e w2 ⟨v, r, rfl, hs, hrl, ho, hB⟩
   go_wp2
   go_ret
   exact ⟨v, r, rfl, hs, Nat.le_trans hrl (Nat.mul_le_mul_left 2 HPL.out), own_low ho HF.out.size, HF.out.trans (hB.mono HF.out.size)⟩
theorem ofU_hit {D : List UsL} {u : ByteArray} {j : Nat} (hj : j < D.length) (hlow : ∀ i (h : i < D.length), i < j → (D[i]).u ≠ u) (he : (D[j]).u = u) : ofU (umS D) u = (D[j]).l := by
 unfold ofU
 have hj2 : j < (umS D).length := by rw [umS_len]; exact hj
 have h1 : (umS D).find? (isKy UsM.u u) = some ((umS D)[j]) := by
  rw [List.find?_eq_some_iff_getElem]
  refine ⟨by unfold isKy; rw [decide_eq_true_iff]; simpa [umS, UsL.m] using he, j, hj2, rfl, fun i hi => ?_⟩
  have := hlow i (by omega) hi
  have h2 : i < (umS D).length := by omega
  unfold isKy
  simp [umS, UsL.m, this]
 rw [h1]
 simp [umS, UsL.m]
theorem ofU_miss {D : List UsL} {u : ByteArray} (hlow : ∀ i (h : i < D.length), (D[i]).u ≠ u) : ofU (umS D) u = [] := by
 unfold ofU
 have h1 : (umS D).find? (isKy UsM.u u) = none := by
  rw [List.find?_eq_none]
  intro x hx
  obtain ⟨y, hy, rfl⟩ := List.mem_map.1 hx
  obtain ⟨i, hi, rfl⟩ := List.getElem_of_mem hy
  have := hlow i hi
  unfold isKy
  simp [UsL.m, this]
 rw [h1]
set_option maxHeartbeats 4000000 in
theorem rof_any (x : SaL) (u : ByteArray) (w : World) (h : SaAt w x) (hl : x.us.length ≤ 100000) :
  Calls Tryz.prog 97 #[saV x, .string u] w fun e w' => ∃ a c, e = .returned (.slice a (ofU x.m.us u).length c) ∧ StSl w' a (ofU x.m.us u) ∧ Cp a (ofU x.m.us u).length c ∧ Below w.heap.size w w' := by
 have S0 := SB.new (Below.refl w.heap.size w) h 27
 obtain ⟨c0, c1, c2, c3, c4, c5⟩ := S0.cells
 have HU := Lib.hid S0.at_.us
 have HFR := Lib.hid S0.frame
 have HM : Hid (x.m.us = umS x.us) := rfl
 rw [show x.m.us = umS x.us from rfl]
 unfold saV saC at *
 clear h S0
 obtain ⟨now, hor, oa, op, oc, ua, us, uc, sa, su, sc, ta, tb, tc⟩ := x
 dsimp only at *
 go_enter Tryz.func97, Tryz.ntmps97
 go_wp2
 go_loopw [5] (fun i wr => ∃ (j : Nat), j ≤ us.length ∧ i = .int .i64 j ∧ Hid (∀ i (h : i < us.length), i < j → (us[i]).u ≠ u) ∧ wr = w.alloc (.cells #[.int .i64 now, .int .i64 hor, .slice oa op.length oc, .slice ua us.length uc, .slice sa su.length sc, .slice ta tb.length tc] 27)) (fun i _ => us.length - (intOf i).toNat)
 case atStart => exact ⟨0, by omega, rfl, (fun i h hi => by omega), rfl⟩
 case round =>
  obtain ⟨j, hj, rfl, HLO, rfl⟩ := hrel
  by_cases hjl : j < us.length
  ·obtain ⟨b, off, rfl, hbl, r0, r1, hat⟩ := HU.out.get hjl
   by_cases he : (us[j]).u = u
   ·have HX := Lib.hid (ofU_hit hjl HLO.out he)
    have HA := Lib.hid hat
    clear HLO HM hat
    generalize us[j] = y at *
    have he1 := txt_eq y.u
    subst he
    go_wp2
    go_ret
    exact ⟨y.a, y.c, by rw [HX.out]; rfl, by rw [HX.out]; exact HA.out.st, by rw [HX.out]; exact ⟨HA.out.le, HA.out.mx, HA.out.nil⟩, HFR.out⟩
   ·have heq := txt_ne he
    have HN : Hid (∀ i (h : i < us.length), i < j + 1 → (us[i]).u ≠ u) := fun i h hi => by
     by_cases hij : i = j
     ·subst hij; exact he
     ·exact HLO.out i h (by omega)
    clear HLO HM hat he
    generalize us[j] = y at *
    go_wp2
    go_roundw
    case rel => exact ⟨j + 1, by omega, by go_num, HN, by first | rfl | trivial⟩
    case measure => simp [intOf]; omega
  ·obtain rfl : j = us.length := by omega
   have HX := Lib.hid (ofU_miss (D := us) (u := u) (fun i h => HLO.out i h h))
   go_wp2
   go_ret
   exact ⟨none, 0, by rw [HX.out]; rfl, by rw [HX.out]; exact StSl.nil _ _, by rw [HX.out]; exact Cp.none, HFR.out⟩
set_option maxHeartbeats 8000000 in
theorem rstays_any11 (x : SaL) (u : ByteArray) (t : Int) (w : World) (h : SaAt w x) (hf : Few x.m 400) :
  Calls Tryz.prog 46 #[saV x, .string u, .int .i64 t] w fun e w' => ∃ a q, e = .returned (.slice a (staysS x.m u t).length q) ∧ StSl w' a (staysS x.m u t) ∧ Below w.heap.size w w' := by
 have HK := SB.new (Below.refl w.heap.size w) h 27
 have hol : (ofU x.m.us u).length ≤ 400 := ofU_few hf u
 have hsl : (staysO x.m.op u t).length ≤ 400 := staysO_few _ _ _ hf.op
 have HSO := Lib.hid (fun V (h : SaAt V x) => rof_any x u V h (by have := hf.us; unfold SaL.m at this; simp only at this; rw [umS_len] at this; omega))
 have HOS := Lib.hid (fun V (h : OpSl V x.oa x.op) => rstays_any x.oa x.oc x.op u t V h (Nat.le_trans hf.op (by decide)))
 have HAN := Lib.hid (fun j (hj : j < (staysO x.m.op u t).length) => addsS_next (staysO x.m.op u t) (ofU x.m.us u) j hj)
 have HAL := Lib.hid (fun j => addsS_len ((staysO x.m.op u t).take j) (ofU x.m.us u))
 have HAD := Lib.hid (fun V a c (l : List StM) (s : StM) (h : StSl V a l) (k : Cp a l.length c) (hl : l.length ≤ 1000) => refAdd_more a c l s V h k.nil hl k.le k.mx)
 have HS := Lib.hid HK
 obtain ⟨c0, c1, c2, c3, c4, c5⟩ := HK.cells
 rw [show staysS x.m u t = addsS (staysO x.m.op u t) (ofU x.m.us u) from rfl]
 rw [show x.op = x.m.op from rfl] at HOS c2
 generalize hL : staysO x.m.op u t = L at *
 generalize ofU x.m.us u = O at *
 obtain ⟨now, hor, oa, op, oc, ua, us, uc, sa, su, sc, ta, tb, tc⟩ := x
 unfold saV saC stV at *
 dsimp only at *
 clear h hf HK hL
 go_enter Tryz.func46, Tryz.ntmps46
 go_wp2_with fail
 refine (HSO.out _ HS.out.at_).mono ?_
 rintro e w1 ⟨x1, q1, rfl, l1, k1, h1⟩
 have A2 := Lib.hid (HS.out.below h1)
 have L2 := Lib.hid l1
 have C2 := Lib.hid k1
 clear c0 c1 c2 c3 c4 c5
 obtain ⟨c0, c1, c2, c3, c4, c5⟩ := A2.out.cells
 dsimp only at *
 clear h1 l1 HS HSO k1
 go_wp2_with fail
 refine (HOS.out _ A2.out.at_.op).mono ?_
 rintro e w3 ⟨x3, q3, rfl, l3, h3⟩
 have L3 := Lib.hid (L2.out.below h3)
 have M3 := Lib.hid l3
 have B3 := Lib.hid (A2.out.frame.trans (h3.mono A2.out.frame.size))
 clear c0 c1 c2 c3 c4 c5 A2 L2 HOS l3 h3
 go_wp2
 go_loopw [7, 9] (fun v iv wr => ∃ (j : Nat) (a : Option Addr) (c : Nat), j ≤ L.length ∧ iv = .int .i64 j ∧ v = .slice a (addsS (L.take j) O).length c ∧ Hid (StSl wr a (addsS (L.take j) O)) ∧ Hid (Cp a (addsS (L.take j) O).length c) ∧ Hid (Below w3.heap.size w3 wr)) (fun _ iv _ => L.length - (intOf iv).toNat)
 case atStart => exact ⟨0, _, _, by omega, rfl, rfl, L3.out, C2.out, Below.refl _ _⟩
 case round =>
  clear L3 C2
  obtain ⟨j, a, c, hj, rfl, rfl, HR, HC, HB⟩ := hrel
  by_cases hjl : j < L.length
  ·obtain ⟨b, off, rfl, hbl, r0, r1, r2, r3⟩ := (M3.out.below HB.out) j hjl
   have HN := Lib.hid (HAN.out j hjl)
   have hal := HAL.out j
   have hal2 : (L.take j).length ≤ 400 := by rw [List.length_take]; omega
   have HAJ := Lib.hid (HAD.out _ a c (addsS (L.take j) O) L[j] HR.out HC.out (by omega))
   have HB1 := Lib.hid HB.out
   clear HAN HAL HAD HR HC HB hal hal2
   generalize addsS (L.take j) O = R at *
   generalize L[j] = s at *
   go_wp2_with fail
   refine HAJ.out.mono ?_
   rintro e w4 ⟨x4, q4, rfl, k4, h4, d4⟩
   have HB2 := Lib.hid (HB1.out.trans (h4.mono HB1.out.size))
   have HC2 := Lib.hid (Cp.mk d4.le d4.max d4.nil)
   have HS4 := Lib.hid k4
   clear HAJ HB1 h4 d4 k4 r0 r1 r2 r3
   go_wp2
   go_roundw
   case rel => exact ⟨j + 1, x4, q4, by omega, by go_num, by rw [HN.out], (by unfold Hid; rw [HN.out]; exact HS4.out), (by unfold Hid; rw [HN.out]; exact HC2.out), HB2.out⟩
   case measure => simp [intOf]; omega
  ·obtain rfl : j = L.length := by omega
   rw [List.take_length] at HR HC
   rw [List.take_length]
   have HF := Lib.hid (B3.out.trans (HB.out.mono B3.out.size))
   clear HAN HAL HAD HC HB B3 M3
   go_wp2
   go_ret
   exact ⟨a, c, rfl, HR.out, HF.out⟩
end Go.Proofs.YtmfpjapiijgdgaaGreat
