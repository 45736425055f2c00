/- Layer 8: the words by which each law shows that the package is alive. -/
import Derived.Test.YtbcabbddgppkaaaZ20
import Derived.Test.YtbcabbddgppkaaaZ19
import Derived.Test.YtbcabbddgppkaaaZ16
import Derived.Test.YtbcabbddgppkaaaW16
namespace Go.Proofs.Ytbcabbddgppkaaa
open Go.RowKit
set_option linter.unusedVariables false
set_option maxRecDepth 100000

def l8 : List StM := [⟨1, 3, 2, 1⟩, ⟨2, 9, 1, 1⟩]
def c8 : List StM := [⟨1, 3, 2, 1⟩, ⟨2, 3, 1, 1⟩, ⟨5, 6, 1, 1⟩]
def b8 : List SpM := [⟨0, 3⟩, ⟨5, 6⟩]
theorem b8_set : IsSet (HasL b8) b8 := ⟨⟨by simp [RowL, b8], by simp [b8]⟩, fun x => Iff.rfl⟩
theorem c8_cut : IsCut l8 (HasL b8) c8 := ⟨b8, b8_set, by rw [show rawS l8 b8 = c8 by decide], by unfold SortedS c8; simp [ltSt]⟩
theorem own_some {w : World} {B e n : Nat} {v : Value} {l : List StM} (hn : l.length = n) (h0 : 0 < n) (h : w.ownsRow B e 4 v l.length (sts l)) : ∃ g o q, v = .slice (some ⟨g, o, none⟩) n q ∧ StSl w (some ⟨g, o, none⟩) l := by
  subst hn
  obtain ⟨a, c, rfl, _, _, h, _⟩ := own_st h
  obtain ⟨g, o, rfl, _⟩ := h 0 h0
  exact ⟨g, o, c, rfl, h⟩
theorem al_one (f t n s : Int) (W : World) : Calls Try.prog 57 #[.int .i64 f, .int .i64 t, .int .i64 n, .int .i64 s] W fun e w' => e = .returned (.agg #[.int .i64 f, .int .i64 t, .int .i64 n, .int .i64 s]) ∧ Below W.heap.size W w' :=
  (one_any f t n s W).mono fun e w' h => ⟨h.1, by rw [h.2]; exact (Below.refl _ _).alloc (Nat.le_refl _) _⟩
theorem al_add1 (W : World) : Calls Try.prog 36 #[.slice none 0 0, .agg #[.int .i64 2, .int .i64 9, .int .i64 1, .int .i64 1]] W fun e w' => ∃ x q, e = .returned (.slice x 1 q) ∧ 1 ≤ q ∧ q ≤ maxLen ∧ (x = none → q = 0) ∧ StSl w' x [⟨2, 9, 1, 1⟩] ∧ Below W.heap.size W w' :=
  s_add none 0 [] ⟨2, 9, 1, 1⟩ W (StSl.nil _ _) (fun _ => rfl) (by decide) (by decide) (by decide)
theorem al_add2 (x : Option Addr) (q : Nat) (W : World) (h : StSl W x [⟨2, 9, 1, 1⟩]) (hn : x = none → q = 0) (h1 : 1 ≤ q) (h2 : q ≤ maxLen) : Calls Try.prog 36 #[.slice x 1 q, .agg #[.int .i64 1, .int .i64 3, .int .i64 2, .int .i64 1]] W fun e w' => ∃ g o q, e = .returned (.slice (some ⟨g, o, none⟩) 2 q) ∧ StSl w' (some ⟨g, o, none⟩) l8 ∧ Below W.heap.size W w' := by
  refine (add8_any x q [⟨2, 9, 1, 1⟩] ⟨1, 3, 2, 1⟩ W h hn (by decide) h1 h2).mono ?_
  rintro e w' ⟨v, rfl, ho, hb⟩
  have e8 : addS [⟨2, 9, 1, 1⟩] ⟨1, 3, 2, 1⟩ = l8 := by decide
  rw [e8] at ho
  obtain ⟨g, o, q, rfl, hs⟩ := own_some (n := 2) rfl (by decide) ho
  exact ⟨g, o, q, rfl, hs, hb⟩
theorem al_cut (g o q p : Nat) (W : World) (hp : p = W.heap.size) (h : StSl W (some ⟨g, o, none⟩) l8) (t : TypeId) : Calls Try.prog 40 #[.slice (some ⟨g, o, none⟩) 2 q, .slice (some ⟨p, 0, none⟩) 2 2] (W.alloc (.cells #[.int .i64 0, .int .i64 3, .int .i64 5, .int .i64 6] t)) fun e w' => ∃ g o q, e = .returned (.slice (some ⟨g, o, none⟩) 3 q) ∧ StSl w' (some ⟨g, o, none⟩) c8 ∧ Below W.heap.size W w' := by
  subst hp
  have hA := (Below.refl W.heap.size W).alloc (Nat.le_refl _) (.cells #[.int .i64 0, .int .i64 3, .int .i64 5, .int .i64 6] t)
  refine (cut_any (some ⟨g, o, none⟩) q l8 (some ⟨W.heap.size, 0, none⟩) 2 b8 _ (h.below hA) (cells_sp W b8 _ _ _ rfl rfl) (by decide) (by decide) (by decide) (by decide) (by decide)).mono ?_
  rintro e w' ⟨v, m, rfl, hc, _, ho, hb⟩
  obtain rfl := hc.only c8_cut
  obtain ⟨g, o, q, rfl, hs⟩ := own_some (n := 3) rfl (by decide) ho
  exact ⟨g, o, q, rfl, hs, hA.trans (hb.mono (by rw [size1]; omega))⟩
theorem al_last (g o q : Nat) (W : World) (h : StSl W (some ⟨g, o, none⟩) l8) : Calls Try.prog 43 #[.slice (some ⟨g, o, none⟩) 2 q] W fun e w' => e = .returned (.tuple #[.int .i64 9, .bool true]) ∧ Below W.heap.size W w' := by
  have h1 := last_any (some ⟨g, o, none⟩) q l8 W h (by decide)
  rw [show lastS l8 = (9, true) by decide] at h1
  exact h1
theorem al_none (W : World) : Calls Try.prog 43 #[.slice none 0 0] W fun e w' => e = .returned (.tuple #[.int .i64 0, .bool false]) ∧ Below W.heap.size W w' :=
  last_any none 0 [] W (StSl.nil _ _) (by decide)
theorem al_rise (g o q : Nat) (W : World) (h : StSl W (some ⟨g, o, none⟩) l8) : Calls Try.prog 33 #[.slice (some ⟨g, o, none⟩) 2 q] W fun e w' => e = .returned (.bool true) ∧ Below W.heap.size W w' := by
  have h1 := rising8_any (some ⟨g, o, none⟩) q l8 W h (by decide)
  rw [show decide (RiseS l8) = true by decide] at h1
  exact h1
theorem al_after (g o q : Nat) (W : World) (h : StSl W (some ⟨g, o, none⟩) l8) : Calls Try.prog 45 #[.slice (some ⟨g, o, none⟩) 2 q, .int .i64 3] W fun e w' => ∃ x q, e = .returned (.slice x 1 q) ∧ Below W.heap.size W w' := by
  refine (s_after (some ⟨g, o, none⟩) q l8 3 W h (by decide)).mono ?_
  rintro e w' ⟨x, q, rfl, _, hb⟩
  exact ⟨x, q, rfl, hb⟩
theorem al_same (g o q : Nat) (W : World) (h : StSl W (some ⟨g, o, none⟩) l8) : Calls Try.prog 42 #[.slice (some ⟨g, o, none⟩) 2 q, .slice (some ⟨g, o, none⟩) 2 q] W fun e w' => e = .returned (.bool true) ∧ Below W.heap.size W w' :=
  s_same (some ⟨g, o, none⟩) (some ⟨g, o, none⟩) q q l8 W h h (by decide)
theorem al_other (g o q g2 o2 q2 : Nat) (W : World) (h : StSl W (some ⟨g, o, none⟩) l8) (k : StSl W (some ⟨g2, o2, none⟩) c8) : Calls Try.prog 42 #[.slice (some ⟨g, o, none⟩) 2 q, .slice (some ⟨g2, o2, none⟩) 3 q2] W fun e w' => e = .returned (.bool false) ∧ Below W.heap.size W w' := by
  have h1 := s_same2 (some ⟨g, o, none⟩) (some ⟨g2, o2, none⟩) q q2 l8 c8 W h k (by decide) (by decide)
  rw [show decide (l8 = c8) = false by decide] at h1
  exact h1
theorem al_cmp (W : World) : Calls Try.prog 32 #[.agg #[.int .i64 1, .int .i64 3, .int .i64 2, .int .i64 1], .agg #[.int .i64 2, .int .i64 9, .int .i64 1, .int .i64 1]] W fun e w' => e = .returned (.int .i64 (-1)) ∧ Below W.heap.size W w' :=
  s_cmp ⟨1, 3, 2, 1⟩ ⟨2, 9, 1, 1⟩ W
/-- both rows, all else as it was -/
structure AlS (w : World) (g o g2 o2 : Nat) (W : World) : Prop where
  l : StSl W (some ⟨g, o, none⟩) l8
  c : StSl W (some ⟨g2, o2, none⟩) c8
  frame : Below w.heap.size w W
theorem AlS.below {w W W' : World} {g o g2 o2 : Nat} (h : AlS w g o g2 o2 W) (q : Below W.heap.size W W') : AlS w g o g2 o2 W' :=
  ⟨h.l.below q, h.c.below q, h.frame.trans (q.mono h.frame.size)⟩
theorem AlS.l0 {w W : World} {g o g2 o2 : Nat} (h : AlS w g o g2 o2 W) : W.cell? ⟨g, o, none⟩ = some (.int .i64 1) ∧ W.cell? ⟨g, o + 1, none⟩ = some (.int .i64 3) ∧ W.cell? ⟨g, o + 2, none⟩ = some (.int .i64 2) ∧ W.cell? ⟨g, o + 3, none⟩ = some (.int .i64 1) := by
  obtain ⟨_, _, e, _, h0, h1, h2, h3⟩ := h.l.at_ (k := 0) (by decide)
  cases e
  exact ⟨h0, h1, h2, h3⟩
theorem AlS.l1 {w W : World} {g o g2 o2 : Nat} (h : AlS w g o g2 o2 W) : W.cell? ⟨g, o + 4, none⟩ = some (.int .i64 2) ∧ W.cell? ⟨g, o + 4 + 1, none⟩ = some (.int .i64 9) ∧ W.cell? ⟨g, o + 4 + 2, none⟩ = some (.int .i64 1) ∧ W.cell? ⟨g, o + 4 + 3, none⟩ = some (.int .i64 1) := by
  obtain ⟨_, _, e, _, h0, h1, h2, h3⟩ := h.l.at_ (k := 1) (by decide)
  cases e
  exact ⟨h0, h1, h2, h3⟩
theorem AlS.c1 {w W : World} {g o g2 o2 : Nat} (h : AlS w g o g2 o2 W) : W.cell? ⟨g2, o2 + 4, none⟩ = some (.int .i64 2) ∧ W.cell? ⟨g2, o2 + 4 + 1, none⟩ = some (.int .i64 3) ∧ W.cell? ⟨g2, o2 + 4 + 2, none⟩ = some (.int .i64 1) ∧ W.cell? ⟨g2, o2 + 4 + 3, none⟩ = some (.int .i64 1) := by
  obtain ⟨_, _, e, _, h0, h1, h2, h3⟩ := h.c.at_ (k := 1) (by decide)
  cases e
  exact ⟨h0, h1, h2, h3⟩
theorem AlS.c2 {w W : World} {g o g2 o2 : Nat} (h : AlS w g o g2 o2 W) : W.cell? ⟨g2, o2 + 8, none⟩ = some (.int .i64 5) ∧ W.cell? ⟨g2, o2 + 8 + 1, none⟩ = some (.int .i64 6) ∧ W.cell? ⟨g2, o2 + 8 + 2, none⟩ = some (.int .i64 1) ∧ W.cell? ⟨g2, o2 + 8 + 3, none⟩ = some (.int .i64 1) := by
  obtain ⟨_, _, e, _, h0, h1, h2, h3⟩ := h.c.at_ (k := 2) (by decide)
  cases e
  exact ⟨h0, h1, h2, h3⟩

set_option maxHeartbeats 4000000 in
theorem alive8_any (w : World) : Calls Try.prog 29 #[] w fun e w' => e = .returned (.bool true) ∧ Below w.heap.size w w' := by
  have H1 := Lib.hid al_one
  have HA1 := Lib.hid al_add1
  have HA2 := Lib.hid al_add2
  have HCU := Lib.hid al_cut
  have HLA := Lib.hid al_last
  have HLN := Lib.hid al_none
  have HRI := Lib.hid al_rise
  have HAF := Lib.hid al_after
  have HSA := Lib.hid al_same
  have HOT := Lib.hid al_other
  have HCM := Lib.hid al_cmp
  go_enter Try.func29, Try.ntmps29
  go_wp2_with fail
  refine (H1.out 2 9 1 1 _).mono ?_
  rintro e w1 ⟨rfl, h1⟩
  go_wp2_with fail
  refine (HA1.out _).mono ?_
  rintro e w2 ⟨x1, q1, rfl, k1, m1, n1, z1, h2⟩
  have f2 := Lib.hid (h1.trans (h2.mono h1.size))
  go_wp2_with fail
  refine (H1.out 1 3 2 1 _).mono ?_
  rintro e w3 ⟨rfl, h3⟩
  have z2 := z1.below h3
  have f3 := Lib.hid (f2.out.trans (h3.mono f2.out.size))
  go_wp2_with fail
  refine (HA2.out x1 q1 _ z2 n1 k1 m1).mono ?_
  rintro e w4 ⟨g, o, q2, rfl, z3, h4⟩
  have f4 := Lib.hid (f3.out.trans (h4.mono f3.out.size))
  have Z3 := Lib.hid z3
  clear h1 h2 h3 h4 z1 z2 z3 k1 m1 n1 f2 f3
  go_wp2_with fail
  refine (HCU.out g o q2 _ _ rfl Z3.out _).mono ?_
  rintro e w5 ⟨g2, o2, q3, rfl, z4, h5⟩
  have S5 : Hid (AlS w g o g2 o2 w5) := ⟨Z3.out.below h5, z4, f4.out.trans (h5.mono f4.out.size)⟩
  clear Z3 z4 h5 f4
  go_wp2_with fail
  refine (HLA.out g o q2 _ S5.out.l).mono ?_
  rintro e w6 ⟨rfl, h6⟩
  have S6 := Lib.hid (S5.out.below h6)
  clear S5 h6
  go_wp2_with fail
  refine (HLN.out _).mono ?_
  rintro e w7 ⟨rfl, h7⟩
  have S7 := Lib.hid (S6.out.below h7)
  clear S6 h7
  have HBL : Hid (∀ W W', AlS w g o g2 o2 W → Below W.heap.size W W' → AlS w g o g2 o2 W') := fun W W' h r => h.below r
  have HSC : Hid (∀ W, AlS w g o g2 o2 W → W.cell? ⟨g, o, none⟩ = some (.int .i64 1) ∧ W.cell? ⟨g, o + 1, none⟩ = some (.int .i64 3) ∧ W.cell? ⟨g, o + 2, none⟩ = some (.int .i64 2) ∧ W.cell? ⟨g, o + 3, none⟩ = some (.int .i64 1) ∧ W.cell? ⟨g, o + 4, none⟩ = some (.int .i64 2) ∧ W.cell? ⟨g, o + 4 + 1, none⟩ = some (.int .i64 9) ∧ W.cell? ⟨g, o + 4 + 2, none⟩ = some (.int .i64 1) ∧ W.cell? ⟨g, o + 4 + 3, none⟩ = some (.int .i64 1) ∧ W.cell? ⟨g2, o2 + 4, none⟩ = some (.int .i64 2) ∧ W.cell? ⟨g2, o2 + 4 + 1, none⟩ = some (.int .i64 3) ∧ W.cell? ⟨g2, o2 + 4 + 2, none⟩ = some (.int .i64 1) ∧ W.cell? ⟨g2, o2 + 4 + 3, none⟩ = some (.int .i64 1) ∧ W.cell? ⟨g2, o2 + 8, none⟩ = some (.int .i64 5) ∧ W.cell? ⟨g2, o2 + 8 + 1, none⟩ = some (.int .i64 6) ∧ W.cell? ⟨g2, o2 + 8 + 2, none⟩ = some (.int .i64 1) ∧ W.cell? ⟨g2, o2 + 8 + 3, none⟩ = some (.int .i64 1)) := fun W h => by
    obtain ⟨a0, a1, a2, a3⟩ := h.l0
    obtain ⟨b0, b1, b2, b3⟩ := h.l1
    obtain ⟨c0, c1, c2, c3⟩ := h.c1
    obtain ⟨d0, d1, d2, d3⟩ := h.c2
    exact ⟨a0, a1, a2, a3, b0, b1, b2, b3, c0, c1, c2, c3, d0, d1, d2, d3⟩
  have K0 : AlS w g o g2 o2 w7.drew := S7.out.below (Below.refl _ _).drew
  go_wp2_with fail
  simp only [List.append_eq, List.cons_append, List.nil_append]
  go_region_held3 (fun W => W.cell? ⟨g, o, none⟩ = some (.int .i64 1) ∧ W.cell? ⟨g, o + 1, none⟩ = some (.int .i64 3) ∧ W.cell? ⟨g, o + 2, none⟩ = some (.int .i64 2) ∧ W.cell? ⟨g, o + 3, none⟩ = some (.int .i64 1) ∧ W.cell? ⟨g, o + 4, none⟩ = some (.int .i64 2) ∧ W.cell? ⟨g, o + 4 + 1, none⟩ = some (.int .i64 9) ∧ W.cell? ⟨g, o + 4 + 2, none⟩ = some (.int .i64 1) ∧ W.cell? ⟨g, o + 4 + 3, none⟩ = some (.int .i64 1) ∧ W.cell? ⟨g2, o2 + 4, none⟩ = some (.int .i64 2) ∧ W.cell? ⟨g2, o2 + 4 + 1, none⟩ = some (.int .i64 3) ∧ W.cell? ⟨g2, o2 + 4 + 2, none⟩ = some (.int .i64 1) ∧ W.cell? ⟨g2, o2 + 4 + 3, none⟩ = some (.int .i64 1) ∧ W.cell? ⟨g2, o2 + 8, none⟩ = some (.int .i64 5) ∧ W.cell? ⟨g2, o2 + 8 + 1, none⟩ = some (.int .i64 6) ∧ W.cell? ⟨g2, o2 + 8 + 2, none⟩ = some (.int .i64 1) ∧ W.cell? ⟨g2, o2 + 8 + 3, none⟩ = some (.int .i64 1))
    (first |  with_reducible exact HSC.out _ K8 | with_reducible exact HSC.out _ K7 | with_reducible exact HSC.out _ K6 | with_reducible exact HSC.out _ K5 | with_reducible exact HSC.out _ K4 | with_reducible exact HSC.out _ K3 | with_reducible exact HSC.out _ K2 | with_reducible exact HSC.out _ K1 | with_reducible exact HSC.out _ K0 | assumption)
    (first | (have hseen := K7; clear hseen; go_at_call 32; refine (HCM.out _).mono ?_; rintro e v8 ⟨rfl, h8⟩; have K8 := HBL.out _ _ K7 h8) | (have hseen := K6; clear hseen; go_at_call 42; refine (HOT.out g o q2 g2 o2 q3 _ K6.l K6.c).mono ?_; rintro e v7 ⟨rfl, h7⟩; have K7 := HBL.out _ _ K6 h7) | (have hseen := K5; clear hseen; go_at_call 42; refine (HSA.out g o q2 _ K5.l).mono ?_; rintro e v6 ⟨rfl, h6⟩; have K6 := HBL.out _ _ K5 h6) | (have hseen := K4; clear hseen; go_at_call 45; refine (HAF.out g o q2 _ K4.l).mono ?_; rintro e v5 ⟨x12, q12, rfl, h5⟩; have K5 := HBL.out _ _ K4 h5) | (have hseen := K3; clear hseen; go_at_call 57; refine (H1.out 5 6 1 1 _).mono ?_; rintro e v4 ⟨rfl, h4⟩; have K4 := HBL.out _ _ K3 h4) | (have hseen := K2; clear hseen; go_at_call 57; refine (H1.out 2 3 1 1 _).mono ?_; rintro e v3 ⟨rfl, h3⟩; have K3 := HBL.out _ _ K2 h3) | (have hseen := K1; clear hseen; go_at_call 33; refine (HRI.out g o q2 _ K1.l).mono ?_; rintro e v2 ⟨rfl, h2⟩; have K2 := HBL.out _ _ K1 h2) | (have hseen := K0; clear hseen; go_at_call 57; refine (H1.out 1 3 2 1 _).mono ?_; rintro e v1 ⟨rfl, h1⟩; have K1 := HBL.out _ _ K0 h1))
  go_wp2
  go_ret
  exact ⟨rfl, K8.frame⟩
end Go.Proofs.Ytbcabbddgppkaaa
