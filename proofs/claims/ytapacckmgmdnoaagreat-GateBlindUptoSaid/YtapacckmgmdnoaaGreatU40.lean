/- Texts of mine, one behind the other, of each what is wanted. -/
import Derived.Test.YtapacckmgmdnoaaGreatU00
import Derived.Test.YtapacckmgmdnoaaGreatShelf
import Derived.Test.YtapacckmgmdnoaaGreatU01
import Derived.Test.YtapacckmgmdnoaaGreatU02
import Derived.Test.YtapacckmgmdnoaaGreatU04
import Derived.Test.YtapacckmgmdnoaaGreatU05
import Derived.Test.YtapacckmgmdnoaaGreatU07
import Derived.Test.YtapacckmgmdnoaaGreatU08
import Derived.Test.YtapacckmgmdnoaaGreatU09
import Derived.Test.YtapacckmgmdnoaaGreatU11
import Derived.Test.YtapacckmgmdnoaaGreatU37
namespace Go.Proofs.YtapacckmgmdnoaaGreat
open Go.RowKit Go.Proofs
set_option linter.unusedVariables false
set_option maxRecDepth 100000
set_option maxRecDepth 100000
def arr4 (n : Nat → Int) : Array Value := #[.int .i64 (n 0), .int .i64 (n 1), .int .i64 (n 2), .int .i64 (n 3)]
def upN (n l m : Nat → Int) (j i : Nat) : Int := if i < j then clampN n l m i else n i
theorem arr4_get (n : Nat → Int) {i : Nat} (h : i < 4) : (arr4 n)[i]? = some (.int .i64 (n i)) := by
 have : i = 0 ∨ i = 1 ∨ i = 2 ∨ i = 3 := by omega
 rcases this with rfl | rfl | rfl | rfl <;> rfl
structure WiK (w : World) (g : Nat) (n l m v : Nat → Int) (W : World) : Prop where
 n : W.heap[g]? = some (.cells (arr4 n) 151 (0, 0))
 l : W.heap[g + 1]? = some (.cells (arr4 l) 151 (0, 0))
 m : W.heap[g + 2]? = some (.cells (arr4 m) 151 (0, 0))
 v : W.heap[g + 3]? = some (.cells (arr4 v) 151 (0, 0))
 ge : w.heap.size ≤ g
 frame : Below w.heap.size w W
theorem arr4_set (n l m : Nat → Int) {j : Nat} (h : j < 4) : (arr4 (upN n l m j)).setIfInBounds j (.int .i64 (clampN n l m j)) = arr4 (upN n l m (j + 1)) := by
 have : j = 0 ∨ j = 1 ∨ j = 2 ∨ j = 3 := by omega
 rcases this with rfl | rfl | rfl | rfl <;> simp [arr4, upN]
theorem WiK.next {w W : World} {g : Nat} {n l m : Nat → Int} {j : Nat} (h : WiK w g n l m (upN n l m j) W) (hj : j < 4) : WiK w g n l m (upN n l m (j + 1)) (W.setCell ⟨g + 3, j, none⟩ (.int .i64 (clampN n l m j))) :=
 ⟨(block_far (by omega)).trans h.n, (block_far (by omega)).trans h.l, (block_far (by omega)).trans h.m, (heap_setCell_at h.v j _).trans (by rw [arr4_set n l m hj]), h.ge, h.frame.setCell (p := ⟨g + 3, j, none⟩) (by have := h.ge; show w.heap.size ≤ g + 3; omega) _⟩
theorem WiK.drew {w W : World} {g : Nat} {n l m v : Nat → Int} (h : WiK w g n l m v W) (k : Nat) : WiK w g n l m v (W.drewN k) := ⟨h.n, h.l, h.m, h.v, h.ge, h.frame.trans (Drew.below ⟨k, rfl⟩ _)⟩
theorem eqNs (a b c d e f g h : Int) (w : World) : (Op.equalIn 10000 151 (.agg #[.int .i64 a, .int .i64 b, .int .i64 c, .int .i64 d]) (.agg #[.int .i64 e, .int .i64 f, .int .i64 g, .int .i64 h])).run Tryz.prog w = .ok ((a == e) && ((b == f) && ((c == g) && (d == h)))) w := by
 have u3 := Tryz.underlying3
 have a3 := Tryz.isAgg3
 have z3 := Tryz.sizeOf3
 rw [show (10000 : Nat) = 9999 + 1 from rfl, Op.equalIn]
 simp only [Sem.run_bind, run_underlying Tryz.underlying151, Result.andThen_ok]
 simp only [Std.Legacy.Range.forIn_eq_forIn_range', Std.Legacy.Range.size, Nat.sub_zero, Nat.add_sub_cancel, Nat.div_one, List.range'_succ, List.range'_zero, List.forIn_cons, List.forIn_nil]
 go_simp
 by_cases h1 : a = e <;> by_cases h2 : b = f <;> by_cases h3 : c = g <;> by_cases h4 : d = h <;> simp [h1, h2, h3, h4]
set_option maxHeartbeats 4000000 in
theorem within4_any (n l m : Nat → Int) (w : World) :
  Calls Tryz.prog 112 #[.agg (arr4 n), .agg (arr4 l), .agg (arr4 m)] w fun e w' => e = .returned (.bool (wiB n l m)) ∧ Below w.heap.size w w' := by
 have K0 : Hid (WiK w w.heap.size n l m (upN n l m 0) ((((w.alloc (.cells (arr4 n) 151)).alloc (.cells (arr4 l) 151)).alloc (.cells (arr4 m) 151)).alloc (.cells (arr4 n) 151))) := by
  have h1 := heap_alloc_new w (.cells (arr4 n) 151)
  have b1 := below_one w (.cells (arr4 n) 151)
  have z1 := size1 w (.cells (arr4 n) 151)
  generalize w.alloc (.cells (arr4 n) 151) = w1 at *
  have h2 := heap_alloc_new w1 (.cells (arr4 l) 151)
  have b2 := below_one w1 (.cells (arr4 l) 151)
  have z2 := size1 w1 (.cells (arr4 l) 151)
  generalize w1.alloc (.cells (arr4 l) 151) = w2 at *
  have h3 := heap_alloc_new w2 (.cells (arr4 m) 151)
  have b3 := below_one w2 (.cells (arr4 m) 151)
  have z3 := size1 w2 (.cells (arr4 m) 151)
  generalize w2.alloc (.cells (arr4 m) 151) = w3 at *
  have h4 := heap_alloc_new w3 (.cells (arr4 n) 151)
  have b4 := below_one w3 (.cells (arr4 n) 151)
  generalize w3.alloc (.cells (arr4 n) 151) = w4 at *
  have e1 : w1.heap.size = w.heap.size + 1 := z1
  have e2 : w2.heap.size = w.heap.size + 2 := by omega
  have e3 : w3.heap.size = w.heap.size + 3 := by omega
  rw [e1] at h2
  rw [e2] at h3
  rw [e3] at h4
  refine ⟨?_, ?_, ?_, ?_, Nat.le_refl _, ?_⟩
  ·rw [b4.block _ (by omega), b3.block _ (by omega), b2.block _ (by omega)]; exact h1
  ·rw [b4.block _ (by omega), b3.block _ (by omega)]; exact h2
  ·rw [b4.block _ (by omega)]; exact h3
  ·exact h4
  ·exact ((b1.trans (b2.mono (by omega))).trans (b3.mono (by omega))).trans (b4.mono (by omega))
 have HLD : Hid (∀ W, WiK w w.heap.size n l m (upN n l m 4) W → ∀ i, i < 4 → W.cell? ⟨w.heap.size + 1 + 1 + 1, i, none⟩ = some (.int .i64 (clampN n l m i)) ∧ W.cell? ⟨w.heap.size, i, none⟩ = some (.int .i64 (n i))) := fun W h i hi => by
  refine ⟨?_, ?_⟩
  ·rw [cell_of_row _ _ _ _ _ (0, 0) h.v, arr4_get _ hi]
   unfold upN
   rw [if_pos hi]
  ·rw [cell_of_row _ _ _ _ _ (0, 0) h.n, arr4_get _ hi]
 have HWI : Hid (wiB n l m = ((clampN n l m 0 == n 0) && ((clampN n l m 1 == n 1) && ((clampN n l m 2 == n 2) && (clampN n l m 3 == n 3))))) := rfl
 unfold arr4 at *
 go_enter Tryz.func112, Tryz.ntmps112
 go_wp2
 go_loopw [10] (fun i wr => ∃ (j : Nat), j ≤ 4 ∧ i = .int .i64 j ∧ Hid (WiK w w.heap.size n l m (upN n l m j) wr)) (fun i _ => 4 - (intOf i).toNat)
 case atStart => exact ⟨0, by omega, rfl, K0.out⟩
 case round =>
  clear K0
  obtain ⟨j, hj, rfl, HK⟩ := hrel
  by_cases hjl : j < 4
  ·have c0 : wr.cell? ⟨w.heap.size + 1 + 1 + 1, j, none⟩ = some (.int .i64 (n j)) := by
    rw [cell_of_row _ _ _ _ _ (0, 0) HK.out.v, arr4_get _ hjl]
    unfold upN
    rw [if_neg (by omega)]
   have c1 : wr.cell? ⟨w.heap.size + 1, j, none⟩ = some (.int .i64 (l j)) := by rw [cell_of_row _ _ _ _ _ (0, 0) HK.out.l, arr4_get _ hjl]
   have c2 : wr.cell? ⟨w.heap.size + 1 + 1, j, none⟩ = some (.int .i64 (m j)) := by rw [cell_of_row _ _ _ _ _ (0, 0) HK.out.m, arr4_get _ hjl]
   have f0 : wr.frozen? ⟨w.heap.size + 1 + 1 + 1, j, none⟩ = false := frozen_of_row _ _ j _ _ HK.out.v
   have hlt : w.heap.size + 1 + 1 + 1 < wr.heap.size := heap_lt HK.out.v
   have HN : Hid (WiK w w.heap.size n l m (upN n l m (j + 1)) (wr.setCell ⟨w.heap.size + 3, j, none⟩ (.int .i64 (clampN n l m j))).drew) := (HK.out.next hjl).drew 1
   have hjI : (j : Int) < 4 := by omega
   have hj0 : (0 : Int) ≤ (j : Int) := by omega
   clear HK HLD
   unfold clampN at HN
   generalize n j = nj at *
   generalize l j = lj at *
   generalize m j = mj at *
   go_wp2_with fail
   go_region
   go_wp2
   go_roundw
   case rel => exact ⟨j + 1, by omega, by go_num, HN⟩
   case measure => simp [intOf]; omega
  ·have hj4 : j = 4 := by omega
   have hlt : ¬ (j : Int) < 4 := by omega
   rw [hj4] at HK
   obtain ⟨a0, b0⟩ := HLD.out _ HK.out 0 (by decide)
   obtain ⟨a1, b1⟩ := HLD.out _ HK.out 1 (by decide)
   obtain ⟨a2, b2⟩ := HLD.out _ HK.out 2 (by decide)
   obtain ⟨a3, b3⟩ := HLD.out _ HK.out 3 (by decide)
   generalize clampN n l m 0 = z0 at *
   generalize clampN n l m 1 = z1 at *
   generalize clampN n l m 2 = z2 at *
   generalize clampN n l m 3 = z3 at *
   generalize n 0 = n0 at *
   generalize n 1 = n1 at *
   generalize n 2 = n2 at *
   generalize n 3 = n3 at *
   clear hj4
   have HF := Lib.hid HK.out.frame
   have heq := eqNs z0 z1 z2 z3 n0 n1 n2 n3
   clear HK HLD
   go_wp2
   go_ret
   exact ⟨retB HWI.out.symm, HF.out⟩
theorem arr_v4 (a b c d : Int) : arr4 (v4 a b c d) = #[.int .i64 a, .int .i64 b, .int .i64 c, .int .i64 d] := rfl
set_option maxHeartbeats 2000000 in
theorem latest_any (x : SaL) (n : Int) (w : World) (h : SaAt w x) (hl : x.op.length ≤ 100000) :
  Calls Tryz.prog 180 #[saV x, .int .i64 n] w fun e w' => e = .returned (.int .i64 (latS x.op x.now n)) ∧ Below w.heap.size w w' := by
 obtain ⟨now, hor, oa, op, oc, ua, us, uc, sa, su, sc, ta, tb, tc⟩ := x
 have S0 := SB.new (Below.refl w.heap.size w) h 39
 have hb := below_one (w.alloc (.cells (saC ⟨now, hor, oa, op, oc, ua, us, uc, sa, su, sc, ta, tb, tc⟩) 39)) (.cells #[.int .i64 n] 3)
 have S1 := S0.below hb
 have hcap : CapO ((w.alloc (.cells (saC ⟨now, hor, oa, op, oc, ua, us, uc, sa, su, sc, ta, tb, tc⟩) 39)).alloc (.cells #[.int .i64 n] 3)) (w.heap.size + 1) (.int .i64 n) := ⟨by have := cell_of_row ((w.alloc (.cells (saC ⟨now, hor, oa, op, oc, ua, us, uc, sa, su, sc, ta, tb, tc⟩) 39)).alloc (.cells #[.int .i64 n] 3)) (w.alloc (.cells (saC ⟨now, hor, oa, op, oc, ua, us, uc, sa, su, sc, ta, tb, tc⟩) 39)).heap.size 0 _ _ (0, 0) (heap_alloc_new _ _); rw [size1] at this; exact this, by rw [size1, size1]; omega⟩
 have HF := Lib.hid (find_op oa oc op 220 (w.heap.size + 1) (hasN n) (fun V => CapO V (w.heap.size + 1) (.int .i64 n)) _ S1.at_.op hcap (by exact Nat.le_trans hl (by decide)) (call_known Tryz.func220 rfl) (fun W W' h q => h.below q) (fun y hy V h => c_latest y n (w.heap.size + 1) V h))
 have HS := Lib.hid S1
 have hle : op.findIdx (hasN n) ≤ op.length := List.findIdx_le_length
 have HE : Hid (latS op now n = if h : op.findIdx (hasN n) < op.length then op[op.findIdx (hasN n)].f else now) := rfl
 obtain ⟨c0, c1, c2, c3, c4, c5⟩ := S1.cells
 unfold saV saC at *
 dsimp only at *
 clear h S0 S1 hb hcap
 generalize op.findIdx (hasN n) = k at *
 by_cases hk : k < op.length
 ·have HE2 : Hid (latS op now n = op[k].f) := by have := HE.out; rwa [dif_pos hk] at this
  have d1 : ((k : Int) == (op.length : Int)) = false := by rw [beq_eq_false_iff_ne]; omega
  clear HE
  go_enter Tryz.func180, Tryz.ntmps180
  go_wp2_with fail
  refine HF.out.mono ?_
  rintro e w2 ⟨rfl, hB⟩
  have S2 := HS.out.below hB
  clear c0 c1 c2 c3 c4 c5
  obtain ⟨b, off, rfl, hbl, hc0, hc1, hc2, hc3⟩ := S2.at_.op.at_ hk
  obtain ⟨c0, c1, c2, c3, c4, c5⟩ := S2.cells
  have HB := Lib.hid S2.frame
  clear S2 hB HS HF
  dsimp only at *
  go_wp2
  go_ret
  exact ⟨by rw [HE2.out]; rfl, HB.out⟩
 ·have HE2 : Hid (latS op now n = now) := by have := HE.out; rwa [dif_neg hk] at this
  have d1 : ((k : Int) == (op.length : Int)) = true := by rw [beq_iff_eq]; omega
  clear HE
  go_enter Tryz.func180, Tryz.ntmps180
  go_wp2_with fail
  refine HF.out.mono ?_
  rintro e w2 ⟨rfl, hB⟩
  have S2 := HS.out.below hB
  clear c0 c1 c2 c3 c4 c5
  obtain ⟨c0, c1, c2, c3, c4, c5⟩ := S2.cells
  have HB := Lib.hid S2.frame
  clear S2 hB HS HF
  dsimp only at *
  go_wp2
  go_ret
  exact ⟨by rw [HE2.out]; rfl, HB.out⟩
set_option maxHeartbeats 1000000 in
theorem c_right1 (y : OpM) (x : SaL) (w0 : World) (g : Nat) (W : World) (h : SB w0 g 39 x W) :
  Calls Tryz.prog 115 #[.agg #[.int .i64 y.n, .string y.u, .int .i64 y.s, .int .i64 y.f], .pointer (some ⟨g, 0, none⟩)] W fun r w' => r = .returned (.bool (fromB x.m y)) ∧ Below W.heap.size W w' := by
 have hb := below_one W (.cells #[.int .i64 y.n, .string y.u, .int .i64 y.s, .int .i64 y.f] 184)
 obtain ⟨c0, -⟩ := (h.below hb).cells
 have HB := Lib.hid hb
 have HE : Hid (decide (y.f ≤ x.now) = fromB x.m y) := rfl
 clear hb h
 generalize fromB x.m y = r at *
 generalize x.now = nw at *
 go_enter Tryz.func115, Tryz.ntmps115
 go_wp2
 go_ret
 exact ⟨retB HE.out, HB.out⟩
set_option maxHeartbeats 1000000 in
theorem c_right4 (y : TbM) (x : SaL) (w0 : World) (g : Nat) (W : World) (h : SB w0 g 39 x W) :
  Calls Tryz.prog 128 #[.agg #[.string y.u, .int .i64 y.a], .pointer (some ⟨g, 0, none⟩)] W fun r w' => r = .returned (.bool (tombB x.m y)) ∧ Below W.heap.size W w' := by
 have hb := below_one W (.cells #[.string y.u, .int .i64 y.a] 141)
 obtain ⟨c0, -⟩ := (h.below hb).cells
 have HB := Lib.hid hb
 have HE : Hid ((decide (0 ≤ y.a) && decide (y.a ≤ x.now)) = tombB x.m y) := rfl
 clear hb h
 generalize tombB x.m y = r at *
 generalize x.now = nw at *
 obtain ⟨yu, ya⟩ := y
 dsimp only at *
 by_cases h1 : 0 ≤ ya
 ·have d1 : decide (0 ≤ ya) = true := decide_eq_true h1
  rw [d1, Bool.true_and] at HE
  clear h1
  go_enter Tryz.func128, Tryz.ntmps128
  go_wp2
  go_ret
  exact ⟨retB HE.out, HB.out⟩
 ·have d1 : decide (0 ≤ ya) = false := decide_eq_false h1
  rw [d1, Bool.false_and] at HE
  clear h1
  go_enter Tryz.func128, Tryz.ntmps128
  go_wp2
  go_ret
  exact ⟨retB HE.out, HB.out⟩
set_option maxHeartbeats 2000000 in
theorem rightTimes_any (x : SaL) (y : EnM) (w : World) (h : SaAt w x) :
  Calls Tryz.prog 124 #[saV x, .agg #[.string y.w, .string y.u, .int .i64 y.f, .int .i64 y.t]] w fun r w' => r = .returned (.bool (timesB x.m y)) ∧ Below w.heap.size w w' := by
 have S0 := SB.new (Below.refl w.heap.size w) h 39
 have hb := below_one (w.alloc (.cells (saC x) 39)) (.cells #[.string y.w, .string y.u, .int .i64 y.f, .int .i64 y.t] 165)
 have S1 := S0.below hb
 obtain ⟨c0, -⟩ := S1.cells
 have HB := Lib.hid S1.frame
 have HE : Hid ((decide (0 ≤ y.f) && (decide (y.f ≤ x.now) && (decide (y.t ≤ x.now) || (y.t == 1099511627776)))) = timesB x.m y) := rfl
 unfold saV saC at *
 clear h S0 S1 hb
 generalize timesB x.m y = r at *
 generalize x.now = nw at *
 obtain ⟨yw, yu, yf, yt⟩ := y
 dsimp only at *
 by_cases h1 : 0 ≤ yf
 ·have d1 : decide (0 ≤ yf) = true := decide_eq_true h1
  rw [d1, Bool.true_and] at HE
  by_cases h2 : yf ≤ nw
  ·have d2 : decide (yf ≤ nw) = true := decide_eq_true h2
   rw [d2, Bool.true_and] at HE
   by_cases h3 : yt ≤ nw
   ·have d3 : decide (yt ≤ nw) = true := decide_eq_true h3
    rw [d3, Bool.true_or] at HE
    clear h1 h2 h3
    go_enter Tryz.func124, Tryz.ntmps124
    go_wp2
    go_ret
    exact ⟨retB HE.out, HB.out⟩
   ·have d3 : decide (yt ≤ nw) = false := decide_eq_false h3
    rw [d3, Bool.false_or] at HE
    clear h1 h2 h3
    go_enter Tryz.func124, Tryz.ntmps124
    go_wp2
    go_ret
    exact ⟨retB HE.out, HB.out⟩
  ·have d2 : decide (yf ≤ nw) = false := decide_eq_false h2
   rw [d2, Bool.false_and] at HE
   clear h1 h2
   go_enter Tryz.func124, Tryz.ntmps124
   go_wp2
   go_ret
   exact ⟨retB HE.out, HB.out⟩
 ·have d1 : decide (0 ≤ yf) = false := decide_eq_false h1
  rw [d1, Bool.false_and] at HE
  clear h1
  go_enter Tryz.func124, Tryz.ntmps124
  go_wp2
  go_ret
  exact ⟨retB HE.out, HB.out⟩
set_option maxHeartbeats 1000000 in
theorem c_right3 (y : EnM) (x : SaL) (w0 : World) (g : Nat) (W : World) (h : SB w0 g 39 x W) :
  Calls Tryz.prog 123 #[.agg #[.string y.w, .string y.u, .int .i64 y.f, .int .i64 y.t], .pointer (some ⟨g, 0, none⟩)] W fun r w' => r = .returned (.bool (timesB x.m y)) ∧ Below W.heap.size W w' := by
 have hb := below_one W (.cells #[.string y.w, .string y.u, .int .i64 y.f, .int .i64 y.t] 165)
 have S1 := h.below hb
 obtain ⟨c0, c1, c2, c3, c4, c5⟩ := S1.cells
 have HC := Lib.hid (fun V h => rightTimes_any x y V h)
 have HS := Lib.hid S1
 have HB := Lib.hid hb
 unfold saV saC at HC
 clear h S1 hb
 go_enter Tryz.func123, Tryz.ntmps123
 go_wp2_with fail
 refine (HC.out _ HS.out.at_).mono ?_
 rintro r w2 ⟨rfl, hB⟩
 go_wp2
 go_ret
 exact ⟨rfl, HB.out.trans (hB.mono HB.out.size)⟩
set_option maxHeartbeats 4000000 in
theorem c_rightStays (y : StM) (x : SaL) (w0 : World) (g : Nat) (W : World) (h : SB w0 g 39 x W) (hl : x.op.length ≤ 100000) :
  Calls Tryz.prog 179 #[.agg #[.int .i64 y.f, .int .i64 y.t, .int .i64 y.n, .int .i64 y.s], .pointer (some ⟨g, 0, none⟩)] W fun r w' => r = .returned (.bool (stayB x.m y)) ∧ Below W.heap.size W w' := by
 obtain ⟨yf, yt, yn, ys⟩ := y
 have hgl0 := h.lt
 have hb := below_one W (.cells #[.int .i64 yf, .int .i64 yt, .int .i64 yn, .int .i64 ys] 111)
 have K0 := h.below hb
 have hy : ∀ V, Below (W.alloc (.cells #[.int .i64 yf, .int .i64 yt, .int .i64 yn, .int .i64 ys] 111)).heap.size (W.alloc (.cells #[.int .i64 yf, .int .i64 yt, .int .i64 yn, .int .i64 ys] 111)) V → V.heap[W.heap.size]? = some (.cells #[.int .i64 yf, .int .i64 yt, .int .i64 yn, .int .i64 ys] 111 (0, 0)) := fun V q => (q.block _ (by rw [size1]; omega)).trans (heap_alloc_new W _)
 have HY := Lib.hid (fun V q => cells4 (hy V q))
 have HB := Lib.hid hb
 have HL := Lib.hid (fun V (h : SaAt V x) => latest_any x yn V h hl)
 have HW := Lib.hid (fun V => within4_any (v4 yf yt yn ys) (v4 0 0 1 1) (v4 x.now (latS x.op x.now yn) 999 4) V)
 rw [arr_v4, arr_v4, arr_v4] at HW
 have HE : Hid (wiB (v4 yf yt yn ys) (v4 0 0 1 1) (v4 x.now (latS x.op x.now yn) 999 4) = stayB x.m ⟨yf, yt, yn, ys⟩) := rfl
 rw [HE.out] at HW
 have hsc : ∀ V, SB w0 g 39 x V → Below (W.alloc (.cells #[.int .i64 yf, .int .i64 yt, .int .i64 yn, .int .i64 ys] 111)).heap.size (W.alloc (.cells #[.int .i64 yf, .int .i64 yt, .int .i64 yn, .int .i64 ys] 111)) V → V.cell? ⟨g, 0, none⟩ = some (.int .i64 x.now) ∧ V.cell? ⟨g, 1, none⟩ = some (.int .i64 x.hor) ∧ V.cell? ⟨g, 2, none⟩ = some (.slice x.oa x.op.length x.oc) ∧ V.cell? ⟨g, 3, none⟩ = some (.slice x.ua x.us.length x.uc) ∧ V.cell? ⟨g, 4, none⟩ = some (.slice x.sa x.su.length x.sc) ∧ V.cell? ⟨g, 5, none⟩ = some (.slice x.ta x.tb.length x.tc) ∧ V.cell? ⟨W.heap.size, 2, none⟩ = some (.int .i64 yn) := fun V h q => by
  obtain ⟨a0, a1, a2, a3, a4, a5⟩ := h.cells
  exact ⟨a0, a1, a2, a3, a4, a5, (cells4 (hy V q)).2.2.1⟩
 have HSC := Lib.hid hsc
 have hz := Zb.new (W.alloc (.cells #[.int .i64 yf, .int .i64 yt, .int .i64 yn, .int .i64 ys] 111)) (.int .i64 0) (.int .i64 0) (.int .i64 0) (.int .i64 0) 151
 rw [size1] at hz
 have hb2 := below_one (W.alloc (.cells #[.int .i64 yf, .int .i64 yt, .int .i64 yn, .int .i64 ys] 111)) (.cells #[.int .i64 0, .int .i64 0, .int .i64 0, .int .i64 0] 151)
 have K9 := K0.drew
 have Q9 : Below (W.alloc (.cells #[.int .i64 yf, .int .i64 yt, .int .i64 yn, .int .i64 ys] 111)).heap.size (W.alloc (.cells #[.int .i64 yf, .int .i64 yt, .int .i64 yn, .int .i64 ys] 111)) (W.alloc (.cells #[.int .i64 yf, .int .i64 yt, .int .i64 yn, .int .i64 ys] 111)).drew := (Below.refl _ _).drew
 have K1 := (K0.below hb2).drew
 have Q1 : Below (W.alloc (.cells #[.int .i64 yf, .int .i64 yt, .int .i64 yn, .int .i64 ys] 111)).heap.size (W.alloc (.cells #[.int .i64 yf, .int .i64 yt, .int .i64 yn, .int .i64 ys] 111)) ((W.alloc (.cells #[.int .i64 yf, .int .i64 yt, .int .i64 yn, .int .i64 ys] 111)).alloc (.cells #[.int .i64 0, .int .i64 0, .int .i64 0, .int .i64 0] 151)).drew := hb2.drew
 have Z1 := hz.drew
 have HSF : Hid (∀ V, SB w0 g 39 x V → Below (W.alloc (.cells #[.int .i64 yf, .int .i64 yt, .int .i64 yn, .int .i64 ys] 111)).heap.size (W.alloc (.cells #[.int .i64 yf, .int .i64 yt, .int .i64 yn, .int .i64 ys] 111)) V → Zb (W.alloc (.cells #[.int .i64 yf, .int .i64 yt, .int .i64 yn, .int .i64 ys] 111)) (W.heap.size + 1) (.int .i64 0) (.int .i64 0) (.int .i64 0) (.int .i64 0) 151 V → ∀ a b c d, (fun V => V.cell? ⟨g, 0, none⟩ = some (.int .i64 x.now) ∧ V.cell? ⟨g, 1, none⟩ = some (.int .i64 x.hor) ∧ V.cell? ⟨g, 2, none⟩ = some (.slice x.oa x.op.length x.oc) ∧ V.cell? ⟨g, 3, none⟩ = some (.slice x.ua x.us.length x.uc) ∧ V.cell? ⟨g, 4, none⟩ = some (.slice x.sa x.su.length x.sc) ∧ V.cell? ⟨g, 5, none⟩ = some (.slice x.ta x.tb.length x.tc) ∧ V.cell? ⟨W.heap.size, 2, none⟩ = some (.int .i64 yn)) (setO V (W.heap.size + 1) a b c d)) := fun V h q hz a b c d => by
  obtain ⟨a0, a1, a2, a3, a4, a5, a6⟩ := HSC.out V h q
  have hg : g ≠ W.heap.size + 1 := by have := hgl0; omega
  have hw : W.heap.size ≠ W.heap.size + 1 := by omega
  exact ⟨(setO_cell V _ a b c d (p := ⟨g, 0, none⟩) hg).trans a0, (setO_cell V _ a b c d (p := ⟨g, 1, none⟩) hg).trans a1, (setO_cell V _ a b c d (p := ⟨g, 2, none⟩) hg).trans a2, (setO_cell V _ a b c d (p := ⟨g, 3, none⟩) hg).trans a3, (setO_cell V _ a b c d (p := ⟨g, 4, none⟩) hg).trans a4, (setO_cell V _ a b c d (p := ⟨g, 5, none⟩) hg).trans a5, (setO_cell V _ a b c d (p := ⟨W.heap.size, 2, none⟩) hw).trans a6⟩
 have HGN : Hid (g ≠ W.heap.size + 1) := by unfold Hid; omega
 unfold setO at HSF
 dsimp only at HSF
 unfold saV saC at HL
 clear h hb K0 hy hsc HE hz hb2
 generalize stayB x.m ⟨yf, yt, yn, ys⟩ = R at *
 generalize latS x.op x.now yn = z at *
 go_enter Tryz.func179, Tryz.ntmps179
 go_wp2_with fail
 go_region_held3 (fun V => V.cell? ⟨g, 0, none⟩ = some (.int .i64 x.now) ∧ V.cell? ⟨g, 1, none⟩ = some (.int .i64 x.hor) ∧ V.cell? ⟨g, 2, none⟩ = some (.slice x.oa x.op.length x.oc) ∧ V.cell? ⟨g, 3, none⟩ = some (.slice x.ua x.us.length x.uc) ∧ V.cell? ⟨g, 4, none⟩ = some (.slice x.sa x.su.length x.sc) ∧ V.cell? ⟨g, 5, none⟩ = some (.slice x.ta x.tb.length x.tc) ∧ V.cell? ⟨W.heap.size, 2, none⟩ = some (.int .i64 yn))
  (first | with_reducible exact HSC.out _ K9 Q9 | with_reducible exact HSC.out _ K1 Q1 | with_reducible exact HSC.out _ K2 Q2 | exact HSF.out _ K2 Q2 Z2 _ _ _ _ | exact HSC.out _ (K2.below (below_one _ _)) (Q2.trans ((below_one _ _).mono Q2.size)))
  (first | (go_at_call 180; (first | (refine (HL.out _ K1.at_).mono ?_; rintro e w2 ⟨rfl, h2⟩; have K2 := K1.below h2; have Q2 := Q1.trans (h2.mono Q1.size); have Z2 := Z1.below h2; obtain ⟨z0, z1, z2, z3⟩ := Z2.cells; obtain ⟨y0, y1, y2, y3⟩ := Z2.free; have hgl := Z2.lt) | (refine (HL.out _ K9.at_).mono ?_; rintro e w2 ⟨rfl, h2⟩; have K2 := K9.below h2; have Q2 := Q9.trans (h2.mono Q9.size)))))
 ·obtain ⟨e0, e1, e2, e3⟩ := HY.out (w2.alloc (.cells #[.int .i64 x.now, .int .i64 z, .int .i64 999, .int .i64 4] 151)) (Q2.trans ((below_one _ _).mono Q2.size))
  obtain ⟨d0, d1, d2, d3⟩ := cells4 (heap_alloc_new w2 (.cells #[.int .i64 x.now, .int .i64 z, .int .i64 999, .int .i64 4] 151))
  have HFB := Lib.hid (HB.out.trans ((Q2.trans ((below_one w2 (.cells #[.int .i64 x.now, .int .i64 z, .int .i64 999, .int .i64 4] 151)).mono Q2.size)).mono HB.out.size))
  clear HY HSC HSF HL HB
  go_wp2_with fail
  refine (HW.out _).mono ?_
  rintro e w3 ⟨rfl, h3⟩
  go_wp2
  go_ret
  exact ⟨rfl, HFB.out.trans (h3.mono HFB.out.size)⟩
 ·obtain ⟨b0, b1, b2, b3⟩ := HY.out w2 Q2
  have hne : W.heap.size ≠ W.heap.size + 1 := by omega
  have e0 := (setO_cell w2 (W.heap.size + 1) (.int .i64 x.now) (.int .i64 z) (.int .i64 999) (.int .i64 4) (p := ⟨W.heap.size, 0, none⟩) hne).trans b0
  have e1 := (setO_cell w2 (W.heap.size + 1) (.int .i64 x.now) (.int .i64 z) (.int .i64 999) (.int .i64 4) (p := ⟨W.heap.size, 1, none⟩) hne).trans b1
  have e2 := (setO_cell w2 (W.heap.size + 1) (.int .i64 x.now) (.int .i64 z) (.int .i64 999) (.int .i64 4) (p := ⟨W.heap.size, 2, none⟩) hne).trans b2
  have e3 := (setO_cell w2 (W.heap.size + 1) (.int .i64 x.now) (.int .i64 z) (.int .i64 999) (.int .i64 4) (p := ⟨W.heap.size, 3, none⟩) hne).trans b3
  have HFB := Lib.hid (HB.out.trans ((Z2.set (.int .i64 x.now) (.int .i64 z) (.int .i64 999) (.int .i64 4)).mono HB.out.size))
  have hr := World.rangeAt_setCells_same (w := w2) (W.heap.size + 1) 0 [.int .i64 x.now, .int .i64 z, .int .i64 999, .int .i64 4] Z2.there
  have d0 : (setO w2 (W.heap.size + 1) (.int .i64 x.now) (.int .i64 z) (.int .i64 999) (.int .i64 4)).cell? ⟨W.heap.size + 1, 0, none⟩ = some (.int .i64 x.now) := hr 0 _ rfl
  have d1 : (setO w2 (W.heap.size + 1) (.int .i64 x.now) (.int .i64 z) (.int .i64 999) (.int .i64 4)).cell? ⟨W.heap.size + 1, 1, none⟩ = some (.int .i64 z) := hr 1 _ rfl
  have d2 : (setO w2 (W.heap.size + 1) (.int .i64 x.now) (.int .i64 z) (.int .i64 999) (.int .i64 4)).cell? ⟨W.heap.size + 1, 2, none⟩ = some (.int .i64 999) := hr 2 _ rfl
  have d3 : (setO w2 (W.heap.size + 1) (.int .i64 x.now) (.int .i64 z) (.int .i64 999) (.int .i64 4)).cell? ⟨W.heap.size + 1, 3, none⟩ = some (.int .i64 4) := hr 3 _ rfl
  unfold setO at e0 e1 e2 e3 d0 d1 d2 d3 HFB
  clear HY HSC HSF HL HB b0 b1 b2 b3 hr z0 z1 z2 z3 y0 y1 y2 y3
  generalize hW4 : (((w2.setCell ⟨W.heap.size + 1, 0, none⟩ (.int .i64 x.now)).setCell ⟨W.heap.size + 1, 1, none⟩ (.int .i64 z)).setCell ⟨W.heap.size + 1, 2, none⟩ (.int .i64 999)).setCell ⟨W.heap.size + 1, 3, none⟩ (.int .i64 4) = w4 at *
  clear hW4
  go_wp2_with fail
  refine (HW.out _).mono ?_
  rintro e w3 ⟨rfl, h3⟩
  go_wp2
  go_ret
  exact ⟨rfl, HFB.out.trans (h3.mono HFB.out.size)⟩
set_option maxHeartbeats 2000000 in
theorem rightStays_any (x : SaL) (a : Option Addr) (c : Nat) (l : List StM) (w : World) (h : SaAt w x) (hr : StSl w a l) (hl : x.op.length ≤ 100000) (hn : l.length ≤ 100000) :
  Calls Tryz.prog 120 #[saV x, .slice a l.length c] w fun r w' => r = .returned (.bool (staysB x.m l)) ∧ Below w.heap.size w w' := by
 have S0 := SB.new (Below.refl w.heap.size w) h 39
 have HS := Lib.hid S0
 have HR := Lib.hid (hr.below (below_one w (.cells (saC x) 39)))
 have HRI := Lib.hid (fun V (h : StSl V a l) => rising8_any a c l V h (by omega))
 have HAL := Lib.hid (fun V (h : SB w w.heap.size 39 x V) (hq : StSl V a l) => all_st a c l 179 w.heap.size (stayB x.m) (fun V => SB w w.heap.size 39 x V) V hq h (by omega) (call_known Tryz.func179 rfl) (fun W W' h q => h.below q) (fun y hy V h => c_rightStays y x w w.heap.size V h hl))
 have HE : Hid ((decide (0 < l.length) && (decide (RiseS l) && l.all (stayB x.m))) = staysB x.m l) := rfl
 unfold saV saC at *
 clear h hr S0
 generalize staysB x.m l = R at *
 generalize l.all (stayB x.m) = b3 at *
 generalize decide (RiseS l) = b2 at *
 by_cases h1 : 0 < l.length
 ·have d1 : decide (0 < l.length) = true := decide_eq_true h1
  have d1' : decide ((0 : Int) < (l.length : Int)) = true := decide_eq_true (by omega)
  rw [d1, Bool.true_and] at HE
  clear h1
  cases b2 with
  | true =>
   rw [Bool.true_and] at HE
   go_enter Tryz.func120, Tryz.ntmps120
   go_wp2_with fail
   refine (HRI.out _ HR.out).mono ?_
   rintro e w2 ⟨rfl, h2⟩
   go_wp2_with fail
   refine (HAL.out _ (HS.out.below h2) (HR.out.below h2)).mono ?_
   rintro e w3 ⟨rfl, h3⟩
   go_wp2
   go_ret
   exact ⟨retB HE.out, ((HS.out.below h2).below h3).frame⟩
  | false =>
   rw [Bool.false_and] at HE
   go_enter Tryz.func120, Tryz.ntmps120
   go_wp2_with fail
   refine (HRI.out _ HR.out).mono ?_
   rintro e w2 ⟨rfl, h2⟩
   go_wp2
   go_ret
   exact ⟨retB HE.out, (HS.out.below h2).frame⟩
 ·have d1 : decide (0 < l.length) = false := decide_eq_false h1
  have d1' : decide ((0 : Int) < (l.length : Int)) = false := decide_eq_false (by omega)
  rw [d1, Bool.false_and] at HE
  clear h1
  go_enter Tryz.func120, Tryz.ntmps120
  go_wp2
  go_ret
  exact ⟨retB HE.out, HS.out.frame⟩
set_option maxHeartbeats 1000000 in
theorem c_right2 (y : UsL) (x : SaL) (w0 : World) (g : Nat) (W : World) (h : SB w0 g 39 x W) (hy : UsAt W y) (hl : x.op.length ≤ 100000) (hn : y.l.length ≤ 100000) :
  Calls Tryz.prog 119 #[.agg #[.string y.u, .slice y.a y.l.length y.c], .pointer (some ⟨g, 0, none⟩)] W fun r w' => r = .returned (.bool (staysB x.m y.l)) ∧ Below W.heap.size W w' := by
 have hb := below_one W (.cells #[.string y.u, .slice y.a y.l.length y.c] 108)
 have S1 := h.below hb
 obtain ⟨c0, c1, c2, c3, c4, c5⟩ := S1.cells
 have HC := Lib.hid (fun V h k => rightStays_any x y.a y.c y.l V h k hl hn)
 have HS := Lib.hid S1
 have HY := Lib.hid (hy.below hb)
 have HB := Lib.hid hb
 unfold saV saC at HC
 clear h S1 hb hy
 go_enter Tryz.func119, Tryz.ntmps119
 go_wp2_with fail
 refine (HC.out _ HS.out.at_ HY.out.st).mono ?_
 rintro r w2 ⟨rfl, hB⟩
 go_wp2
 go_ret
 exact ⟨rfl, HB.out.trans (hB.mono HB.out.size)⟩
end Go.Proofs.YtapacckmgmdnoaaGreat
