/- Texts of mine, one behind the other, of each what is wanted. -/
import Derived.Test.YtjhdhfokhkcamaaGreatS00
import Derived.Test.YtjhdhfokhkcamaaGreatShelf
import Derived.Test.YtjhdhfokhkcamaaGreatRows
import Derived.Test.YtjhdhfokhkcamaaGreatS02
import Derived.Test.YtjhdhfokhkcamaaGreatS04
import Derived.Test.YtjhdhfokhkcamaaGreatS07
import Derived.Test.YtjhdhfokhkcamaaGreatS09
import Derived.Test.YtjhdhfokhkcamaaGreatS11
import Derived.Test.YtjhdhfokhkcamaaGreatS13
import Derived.Test.YtjhdhfokhkcamaaGreatS14
import Derived.Test.YtjhdhfokhkcamaaGreatS17
import Derived.Test.YtjhdhfokhkcamaaGreatS26
import Derived.Test.YtjhdhfokhkcamaaGreatS29
import Derived.Test.YtjhdhfokhkcamaaGreatS32
import Derived.Test.YtjhdhfokhkcamaaGreatS33
import Derived.Test.YtjhdhfokhkcamaaGreatS35
import Derived.Test.YtjhdhfokhkcamaaGreatS46
namespace Go.Proofs.YtjhdhfokhkcamaaGreat
open Go.RowKit Go.Proofs
set_option linter.unusedVariables false
set_option maxRecDepth 100000
theorem l_a1 (V : World) : Calls Tryz.prog 16 #[.agg #[.int .i64 0, .int .i64 0, .slice none 0 0, .slice none 0 0, .slice none 0 0, .slice none 0 0], .agg #[.int .i64 1, .int .i64 3, .string ⟨#[97, 110, 110]⟩, .string ⟨#[]⟩, .int .i64 1, .int .i64 1]] V (Tells V sA1 0) := by
 have := apply_any saO 1 3 1 1 an11 no11 V (SaAt.zero V) RightS.zero (by decide) (by decide) (by decide)
 rw [saO_m, aT1, aE1] at this
 exact this
theorem l_a2 (y : SaL) (V : World) (hm : y.m = sA1) (hy : SaAt V y) : Calls Tryz.prog 16 #[saV y, .agg #[.int .i64 2, .int .i64 7, .string ⟨#[97, 110, 110]⟩, .string ⟨#[]⟩, .int .i64 1, .int .i64 2]] V (Tells V sA2 0) := by
 have := apply_any y 2 7 1 2 an11 no11 V hy (hm ▸ aR1) (by rw [hm]; decide) (by decide) (by decide)
 rw [hm, aT2, aE2] at this
 exact this
theorem l_a3 (y : SaL) (V : World) (hm : y.m = sA2) (hy : SaAt V y) : Calls Tryz.prog 16 #[saV y, .agg #[.int .i64 7, .int .i64 6, .string ⟨#[97, 110, 110]⟩, .string ⟨#[]⟩, .int .i64 0, .int .i64 0]] V fun r w' => ∃ z, r = .returned (.tuple #[saV z, .int .i64 111]) ∧ Below V.heap.size V w' := by
 have := apply_any y 7 6 0 0 an11 no11 V hy (hm ▸ aR2) (by rw [hm]; decide) (by decide) (by decide)
 rw [hm, aE3] at this
 exact this.mono fun e w' ⟨z, h1, _, _, h4⟩ => ⟨z, h1, h4⟩
theorem l_a4 (y : SaL) (V : World) (hm : y.m = sA2) (hy : SaAt V y) : Calls Tryz.prog 16 #[saV y, .agg #[.int .i64 7, .int .i64 8, .string ⟨#[]⟩, .string ⟨#[]⟩, .int .i64 0, .int .i64 0]] V fun r w' => ∃ z, r = .returned (.tuple #[saV z, .int .i64 110]) ∧ Below V.heap.size V w' := by
 have := apply_any y 7 8 0 0 no11 no11 V hy (hm ▸ aR2) (by rw [hm]; decide) (by decide) (by decide)
 rw [hm, aE4] at this
 exact this.mono fun e w' ⟨z, h1, _, _, h4⟩ => ⟨z, h1, h4⟩
theorem us_nil {us : List UsL} (h : umS us = []) : us = [] := List.map_eq_nil_iff.1 h
theorem us_one {us : List UsL} {u : ByteArray} {l : List StM} (h : umS us = [⟨u, l⟩]) : ∃ a c, us = [⟨u, a, l, c⟩] := by
 cases us with
 | nil => cases h
 | cons y us =>
  obtain ⟨yu, ya, yl, yc⟩ := y
  have h1 : (⟨yu, yl⟩ : UsM) :: umS us = [⟨u, l⟩] := h
  injection h1 with h2 h3
  injection h2 with h4 h5
  subst h4 h5
  rw [us_nil h3]
  exact ⟨_, _, rfl⟩
theorem l_a5 (y : SaL) (V : World) (hm : y.m = sA2) (hy : SaAt V y) : Calls Tryz.prog 16 #[saV y, .agg #[.int .i64 7, .int .i64 9, .string ⟨#[97, 110, 110]⟩, .string ⟨#[]⟩, .int .i64 0, .int .i64 0]] V fun r w' => ∃ oa oc ua uc sa sc ta tc, r = .returned (.tuple #[.agg #[.int .i64 9, .int .i64 0, .slice oa 0 oc, .slice ua 0 uc, .slice sa 0 sc, .slice ta 1 tc], .int .i64 0]) ∧ SaAt w' ⟨9, 0, oa, [], oc, ua, [], uc, sa, [], sc, ta, [⟨an11, 9⟩], tc⟩ ∧ Below V.heap.size V w' := by
 have := apply_any y 7 9 0 0 an11 no11 V hy (hm ▸ aR2) (by rw [hm]; decide) (by decide) (by decide)
 rw [hm, aT5, aE5] at this
 refine this.mono ?_
 rintro e w' ⟨⟨now, hor, oa, op, oc, ua, us, uc, sa, su, sc, ta, tb, tc⟩, rfl, h2, h3, h4⟩
 unfold SaL.m sA3 at h3
 dsimp only at h3
 injection h3 with g1 g2 g3 g4 g5 g6
 have g7 := us_nil g4
 subst g1 g2 g3 g5 g6 g7
 exact ⟨oa, oc, ua, uc, sa, sc, ta, tc, rfl, h2, h4⟩
theorem l_rs (y : SaL) (V : World) (hm : y.m = sA2) (hy : SaAt V y) : Calls Tryz.prog 22 #[saV y] V fun r w' => ∃ oa oc ua uc sa sc ta tc a c, r = .returned (.agg #[.int .i64 7, .int .i64 0, .slice oa 0 oc, .slice ua 1 uc, .slice sa 0 sc, .slice ta 0 tc]) ∧ SaAt w' ⟨7, 0, oa, [], oc, ua, [⟨an11, a, [⟨3, 7, 1, 1⟩], c⟩], uc, sa, [], sc, ta, [], tc⟩ ∧ Below V.heap.size V w' := by
 have := reset_any11 y V hy (hm ▸ aR2) (by rw [hm]; decide)
 rw [hm, aRS] at this
 refine this.mono ?_
 rintro e w' ⟨⟨now, hor, oa, op, oc, ua, us, uc, sa, su, sc, ta, tb, tc⟩, rfl, h2, h3, h4⟩
 unfold SaL.m sA4 at h3
 dsimp only at h3
 injection h3 with g1 g2 g3 g4 g5 g6
 obtain ⟨a, c, g7⟩ := us_one g4
 subst g1 g2 g3 g5 g6 g7
 exact ⟨oa, oc, ua, uc, sa, sc, ta, tc, a, c, rfl, h2, h4⟩
theorem l_st (y : SaL) (V : World) (hm : y.m = sA2) (hy : SaAt V y) : Calls Tryz.prog 29 #[saV y, .string ⟨#[97, 110, 110]⟩, .int .i64 9] V fun r w' => ∃ a q, r = .returned (.slice a 2 q) ∧ StSl w' a [⟨3, 7, 1, 1⟩, ⟨7, 9, 1, 2⟩] ∧ Below V.heap.size V w' := by
 have := stays_any11 y an11 9 V hy (hm ▸ (few_of aR2 (n := 400) (by decide)))
 rw [hm, aST] at this
 refine this.mono ?_
 rintro e w' ⟨a, q, rfl, h1, h3⟩
 exact ⟨a, q, rfl, h1, h3⟩
def y3 (oa ua sa ta : Option Addr) (oc uc sc tc : Nat) : SaL := ⟨9, 0, oa, [], oc, ua, [], uc, sa, [], sc, ta, [⟨an11, 9⟩], tc⟩
def y4 (oa ua sa ta a : Option Addr) (oc uc sc tc c : Nat) : SaL := ⟨7, 0, oa, [], oc, ua, [⟨an11, a, [⟨3, 7, 1, 1⟩], c⟩], uc, sa, [], sc, ta, [], tc⟩
theorem l_hs (y : SaL) (V : World) (hm : y.m = sA3) (hy : SaAt V y) : Calls Tryz.prog 31 #[saV y, .string ⟨#[97, 110, 110]⟩] V fun r w' => r = .returned (.bool true) ∧ Below V.heap.size V w' := by
 have := has_any11 y an11 V hy (hm ▸ aR3) (hm ▸ (few_of aR3 (n := 400) (by decide)))
 rw [hm, aHS] at this
 exact this
theorem y3_m (oa ua sa ta : Option Addr) (oc uc sc tc : Nat) : (⟨9, 0, oa, [], oc, ua, [], uc, sa, [], sc, ta, [⟨an11, 9⟩], tc⟩ : SaL).m = sA3 := rfl
theorem y4_m (oa ua sa ta a : Option Addr) (oc uc sc tc c : Nat) : (⟨7, 0, oa, [], oc, ua, [⟨an11, a, [⟨3, 7, 1, 1⟩], c⟩], uc, sa, [], sc, ta, [], tc⟩ : SaL).m = sA4 := rfl
theorem l_cn (y : SaL) (V : World) (hm : y.m = sA3) (hy : SaAt V y) : Calls Tryz.prog 33 #[saV y] V fun r w' => r = .returned (.int .i64 1) ∧ Below V.heap.size V w' := by
 have := count_any11 y V hy (by rw [hm]; decide) (by have := few_us (hm ▸ (few_of aR3 (n := 400) (by decide)) : Few y.m 400); omega)
 rw [hm] at this
 exact this
theorem sz3 : SzS sA3 := ⟨(fun e h => by cases h), (fun e h => by cases h), (fun e h => by cases h), (fun e h => by rw [List.mem_singleton.1 h]; decide)⟩
theorem l_rg (y : SaL) (V : World) (hm : y.m = sA3) (hy : SaAt V y) : Calls Tryz.prog 20 #[saV y] V fun r w' => r = .returned (.bool true) ∧ Below V.heap.size V w' := by
 have hf : Few y.m 400 := hm ▸ (few_of aR3 (n := 400) (by decide))
 have := right_any11 y V hy (hm ▸ sz3) (Nat.le_trans hf.op (by decide)) (Nat.le_trans (few_us hf) (by decide)) (Nat.le_trans hf.su (by decide)) (Nat.le_trans hf.tb (by decide)) (fun z hz => Nat.le_trans (umS_st hf.st z hz) (by decide))
 rw [hm, (rightB_iff sA3).2 aR3] at this
 exact this
theorem l_sm (y z : SaL) (b : Bool) (V : World) (hy : SaAt V y) (hz : SaAt V z) (f : Few y.m 900) (g : Few z.m 900) (h : sameS y.m z.m = b) : Calls Tryz.prog 26 #[saV y, saV z] V fun r w' => r = .returned (.bool b) ∧ Below V.heap.size V w' := by
 have := same_any11 y z V hy hz f g
 rw [h] at this
 exact this
theorem l_s1 (y z : SaL) (V : World) (hm : y.m = sA4) (hn : z.m = sA4) (hy : SaAt V y) (hz : SaAt V z) : Calls Tryz.prog 26 #[saV y, saV z] V fun r w' => r = .returned (.bool true) ∧ Below V.heap.size V w' :=
 l_sm y z true V hy hz (hm ▸ few_of aR4 (n := 900) (by decide)) (hn ▸ few_of aR4 (n := 900) (by decide)) ((sameS_iff _ _).2 (hm.trans hn.symm))
theorem l_s2 (y z : SaL) (V : World) (hm : y.m = sA4) (hn : z.m = sA3) (hy : SaAt V y) (hz : SaAt V z) : Calls Tryz.prog 26 #[saV y, saV z] V fun r w' => r = .returned (.bool false) ∧ Below V.heap.size V w' :=
 l_sm y z false V hy hz (hm ▸ few_of aR4 (n := 900) (by decide)) (hn ▸ few_of aR3 (n := 900) (by decide)) (Bool.eq_false_iff.2 fun h => aNE (by rw [← hm, ← hn]; exact (sameS_iff _ _).1 h))
theorem l_r4 (y : SaL) (V : World) (hm : y.m = sA4) (hy : SaAt V y) : Calls Tryz.prog 22 #[saV y] V (Is V sA4) := by
 have := reset_any11 y V hy (hm ▸ aR4) (by rw [hm]; decide)
 rw [hm, aRR] at this
 exact this
theorem l_p4 (y : SaL) (V : World) (hm : y.m = sA4) (hy : SaAt V y) : Calls Tryz.prog 23 #[saV y] V fun r w' => ∃ n h oa ua sa ta a b c oc uc sc tc, r = .returned (.agg #[.int .i64 n, .int .i64 h, .slice oa a oc, .slice ua 1 uc, .slice sa b sc, .slice ta c tc]) ∧ Below V.heap.size V w' := by
 have := prune_any11 y V hy (hm ▸ aR4) (by rw [hm]; decide)
 rw [hm, aPR] at this
 refine this.mono ?_
 rintro e w' ⟨⟨now, hor, oa, op, oc, ua, us, uc, sa, su, sc, ta, tb, tc⟩, rfl, h2, h3, h4⟩
 unfold SaL.m sA4 at h3
 dsimp only at h3
 injection h3 with g1 g2 g3 g4 g5 g6
 obtain ⟨a, c, g7⟩ := us_one g4
 subst g7
 exact ⟨_, _, _, _, _, _, _, _, _, _, _, _, _, rfl, h4⟩
theorem field_us (p1 p2 : Int) (p3 p4 p5 p6 : Option Addr) (p7 k p8 p9 p10 p11 p12 p13 : Nat) (w : World) : (Instr.field 38 (.agg #[.int .i64 p1, .int .i64 p2, .slice p3 p7 p10, .slice p4 k p11, .slice p5 p8 p12, .slice p6 p9 p13]) 3).run Tryz.prog w = .ok (.slice p4 k p11) w := by kernel_rfl
structure AlK (w : World) (g9 g11 : Nat) (y z : SaL) (a : Option Addr) (W : World) : Prop where
 u : SB w g9 38 y W
 x : SB w g11 38 z W
 l : StSl W a [⟨3, 7, 1, 1⟩, ⟨7, 9, 1, 2⟩]
theorem AlK.below {w W W' : World} {g9 g11 : Nat} {y z : SaL} {a : Option Addr} (h : AlK w g9 g11 y z a W) (q : Below W.heap.size W W') : AlK w g9 g11 y z a W' := ⟨h.u.below q, h.x.below q, h.l.below q⟩
set_option maxHeartbeats 4000000 in
theorem alive11 (w : World) : Calls Tryz.prog 14 #[] w fun e w' => e = .returned (.bool true) ∧ Below w.heap.size w w' := by
 have H1 := Lib.hid l_a1
 have H2 := Lib.hid l_a2
 have H3 := Lib.hid l_a3
 have H4 := Lib.hid l_a4
 have H5 := Lib.hid l_a5
 have H6 := Lib.hid l_rs
 have H7 := Lib.hid l_st
 have H8 := Lib.hid l_hs
 have H9 := Lib.hid l_cn
 have H10 := Lib.hid l_rg
 have H11 := Lib.hid l_s1
 have H14 := Lib.hid l_s2
 have H12 := Lib.hid l_r4
 have H13 := Lib.hid l_p4
 unfold saV saC at H2 H3 H4 H5 H6 H7 H8 H9 H10 H11 H12 H13 H14
 go_enter Tryz.func14, Tryz.ntmps14
 go_wp2_with fail
 refine (H1.out _).mono ?_
 rintro e w1 ⟨y1, rfl, hy1, m1, h1⟩
 have K1 := Lib.hid (SB.new h1 hy1 38)
 have M1 := Lib.hid m1
 obtain ⟨n1, r1, oa1, op1, oc1, ua1, us1, uc1, sa1, su1, sc1, ta1, tb1, tc1⟩ := y1
 unfold saV saC at *
 dsimp only at *
 obtain ⟨c0, c1, c2, c3, c4, c5⟩ := K1.out.cells
 dsimp only at *
 clear h1 hy1 m1 H1
 go_wp2_with fail
 refine (H2.out _ _ M1.out K1.out.at_).mono ?_
 rintro e w2 ⟨y2, rfl, hy2, m2, h2⟩
 have K2 := Lib.hid (SB.new (K1.out.frame.trans (h2.mono K1.out.frame.size)) hy2 38)
 have M2 := Lib.hid m2
 clear c0 c1 c2 c3 c4 c5
 obtain ⟨n2, r2, oa2, op2, oc2, ua2, us2, uc2, sa2, su2, sc2, ta2, tb2, tc2⟩ := y2
 (try unfold saV at *)
 (try unfold saC at *)
 dsimp only at *
 obtain ⟨c0, c1, c2, c3, c4, c5⟩ := K2.out.cells
 dsimp only at *
 clear h2 hy2 m2 H2 K1 M1
 go_wp2_with fail
 refine (H3.out _ _ M2.out K2.out.at_).mono ?_
 rintro e w3 ⟨z3, rfl, h3⟩
 have K3 := Lib.hid ((K2.out.below h3).alloc (.cells (saC z3) 38))
 clear c0 c1 c2 c3 c4 c5
 obtain ⟨n3, r3, oa3, op3, oc3, ua3, us3, uc3, sa3, su3, sc3, ta3, tb3, tc3⟩ := z3
 (try unfold saV at *)
 (try unfold saC at *)
 dsimp only at *
 obtain ⟨c0, c1, c2, c3, c4, c5⟩ := K3.out.cells
 dsimp only at *
 clear h3 H3 K2
 go_wp2_with fail
 refine (H4.out _ _ M2.out K3.out.at_).mono ?_
 rintro e w4 ⟨z4, rfl, h4⟩
 have K4 := Lib.hid ((K3.out.below h4).alloc (.cells (saC z4) 38))
 clear c0 c1 c2 c3 c4 c5
 obtain ⟨n4, r4, oa4, op4, oc4, ua4, us4, uc4, sa4, su4, sc4, ta4, tb4, tc4⟩ := z4
 (try unfold saV at *)
 (try unfold saC at *)
 dsimp only at *
 obtain ⟨c0, c1, c2, c3, c4, c5⟩ := K4.out.cells
 dsimp only at *
 clear h4 H4 K3
 go_wp2_with fail
 refine (H5.out _ _ M2.out K4.out.at_).mono ?_
 rintro e w5 ⟨oa, oc, ua, uc, sa, sc, ta, tc, rfl, hu, h5⟩
 have U5 := Lib.hid (SB.new (K4.out.frame.trans (h5.mono K4.out.frame.size)) hu 38)
 have K5 := Lib.hid ((K4.out.below h5).alloc (.cells (saC ⟨9, 0, oa, [], oc, ua, [], uc, sa, [], sc, ta, [⟨an11, 9⟩], tc⟩) 38))
 clear c0 c1 c2 c3 c4 c5
 (try unfold saV at *)
 (try unfold saC at *)
 dsimp only at *
 simp only [List.length_cons, List.length_nil, Nat.zero_add] at U5 K5
 obtain ⟨c0, c1, c2, c3, c4, c5⟩ := K5.out.cells
 dsimp only at *
 clear h5 H5 K4 hu
 go_wp2_with fail
 refine (H6.out _ _ M2.out K5.out.at_).mono ?_
 rintro e w6 ⟨oa', oc', ua', uc', sa', sc', ta', tc', ax, cx, rfl, hx, h6⟩
 have X6 := Lib.hid (SB.new (K5.out.frame.trans (h6.mono K5.out.frame.size)) hx 38)
 have K6 := Lib.hid ((K5.out.below h6).alloc (.cells (saC ⟨7, 0, oa', [], oc', ua', [⟨an11, ax, [⟨3, 7, 1, 1⟩], cx⟩], uc', sa', [], sc', ta', [], tc'⟩) 38))
 have U6 := Lib.hid ((U5.out.below h6).alloc (.cells (saC ⟨7, 0, oa', [], oc', ua', [⟨an11, ax, [⟨3, 7, 1, 1⟩], cx⟩], uc', sa', [], sc', ta', [], tc'⟩) 38))
 clear c0 c1 c2 c3 c4 c5
 (try unfold saV at *)
 (try unfold saC at *)
 dsimp only at *
 simp only [List.length_cons, List.length_nil, Nat.zero_add] at X6 K6 U6
 obtain ⟨c0, c1, c2, c3, c4, c5⟩ := K6.out.cells
 dsimp only at *
 clear h6 H6 K5 U5 hx
 go_wp2_with fail
 refine (H7.out _ _ M2.out K6.out.at_).mono ?_
 rintro e w7 ⟨al, ql, rfl, hl, h7⟩
 have A7 : AlK w w5.heap.size w6.heap.size _ _ al w7 := ⟨U6.out.below h7, X6.out.below h7, hl⟩
 have HA7 := Lib.hid A7
 clear c0 c1 c2 c3 c4 c5 h7 H7 K6 U6 X6 hl M2
 obtain ⟨bl, ol, rfl, -⟩ := A7.l 0 (by decide)
 obtain ⟨bt, ot, et, -⟩ := A7.u.at_.tb.get (k := 0) (by simp)
 obtain ⟨bu, ou, eu, -⟩ := A7.x.at_.us.get (k := 0) (by simp)
 dsimp only at et eu
 subst et eu
 have HSC : Hid (∀ V, AlK w w5.heap.size w6.heap.size ⟨9, 0, oa, [], oc, ua, [], uc, sa, [], sc, some ⟨bt, ot, none⟩, [⟨an11, 9⟩], tc⟩ ⟨7, 0, oa', [], oc', some ⟨bu, ou, none⟩, [⟨an11, ax, [⟨3, 7, 1, 1⟩], cx⟩], uc', sa', [], sc', ta', [], tc'⟩ (some ⟨bl, ol, none⟩) V → V.cell? ⟨w5.heap.size, 0, none⟩ = some (.int .i64 9) ∧ V.cell? ⟨w5.heap.size, 1, none⟩ = some (.int .i64 0) ∧ V.cell? ⟨w5.heap.size, 2, none⟩ = some (.slice oa 0 oc) ∧ V.cell? ⟨w5.heap.size, 3, none⟩ = some (.slice ua 0 uc) ∧ V.cell? ⟨w5.heap.size, 4, none⟩ = some (.slice sa 0 sc) ∧ V.cell? ⟨w5.heap.size, 5, none⟩ = some (.slice (some ⟨bt, ot, none⟩) 1 tc)
   ∧ V.cell? ⟨w6.heap.size, 0, none⟩ = some (.int .i64 7) ∧ V.cell? ⟨w6.heap.size, 1, none⟩ = some (.int .i64 0) ∧ V.cell? ⟨w6.heap.size, 2, none⟩ = some (.slice oa' 0 oc') ∧ V.cell? ⟨w6.heap.size, 3, none⟩ = some (.slice (some ⟨bu, ou, none⟩) 1 uc') ∧ V.cell? ⟨w6.heap.size, 4, none⟩ = some (.slice sa' 0 sc') ∧ V.cell? ⟨w6.heap.size, 5, none⟩ = some (.slice ta' 0 tc')
   ∧ V.cell? ⟨bl, ol + 1, none⟩ = some (.int .i64 7) ∧ V.cell? ⟨bl, ol + 4 + 1, none⟩ = some (.int .i64 9) ∧ V.cell? ⟨bt, ot + 1, none⟩ = some (.int .i64 9) ∧ V.cell? ⟨bu, ou + 1, none⟩ = some (.slice ax 1 cx)) := fun V h => by
  obtain ⟨c0, c1, c2, c3, c4, c5⟩ := h.u.cells
  obtain ⟨d0, d1, d2, d3, d4, d5⟩ := h.x.cells
  obtain ⟨b', o', e', -, -, l0, -⟩ := h.l 0 (by decide)
  cases e'
  obtain ⟨b', o', e', -, -, l1, -⟩ := h.l 1 (by decide)
  cases e'
  obtain ⟨b', o', e', -, -, t1⟩ := h.u.at_.tb.get (k := 0) (by simp)
  cases e'
  obtain ⟨b', o', e', -, -, u1, -⟩ := h.x.at_.us.get (k := 0) (by simp)
  cases e'
  simp only [Nat.zero_mul, Nat.add_zero, Nat.one_mul] at l0 l1 t1 u1
  exact ⟨c0, c1, c2, c3, c4, c5, d0, d1, d2, d3, d4, d5, l0, l1, t1, u1⟩
 obtain ⟨c0, c1, c2, c3, c4, c5, d0, d1, d2, d3, d4, d5, e0, e1, e2, e3⟩ := HSC.out _ A7
 have A8 := A7.below (Below.refl _ _).drew
 have hfd := field_us
 go_wp2_with fail
 simp only [List.append_eq, List.cons_append, List.nil_append]
 go_region_held3 (fun V => V.cell? ⟨w5.heap.size, 0, none⟩ = some (.int .i64 9) ∧ V.cell? ⟨w5.heap.size, 1, none⟩ = some (.int .i64 0) ∧ V.cell? ⟨w5.heap.size, 2, none⟩ = some (.slice oa 0 oc) ∧ V.cell? ⟨w5.heap.size, 3, none⟩ = some (.slice ua 0 uc) ∧ V.cell? ⟨w5.heap.size, 4, none⟩ = some (.slice sa 0 sc) ∧ V.cell? ⟨w5.heap.size, 5, none⟩ = some (.slice (some ⟨bt, ot, none⟩) 1 tc) ∧ V.cell? ⟨w6.heap.size, 0, none⟩ = some (.int .i64 7) ∧ V.cell? ⟨w6.heap.size, 1, none⟩ = some (.int .i64 0) ∧ V.cell? ⟨w6.heap.size, 2, none⟩ = some (.slice oa' 0 oc') ∧ V.cell? ⟨w6.heap.size, 3, none⟩ = some (.slice (some ⟨bu, ou, none⟩) 1 uc') ∧ V.cell? ⟨w6.heap.size, 4, none⟩ = some (.slice sa' 0 sc') ∧ V.cell? ⟨w6.heap.size, 5, none⟩ = some (.slice ta' 0 tc') ∧ V.cell? ⟨bl, ol + 1, none⟩ = some (.int .i64 7) ∧ V.cell? ⟨bl, ol + 4 + 1, none⟩ = some (.int .i64 9) ∧ V.cell? ⟨bt, ot + 1, none⟩ = some (.int .i64 9) ∧ V.cell? ⟨bu, ou + 1, none⟩ = some (.slice ax 1 cx))
  (first | with_reducible exact HSC.out _ A15 | with_reducible exact HSC.out _ A14 | with_reducible exact HSC.out _ A13 | with_reducible exact HSC.out _ A12 | with_reducible exact HSC.out _ A11 | with_reducible exact HSC.out _ A10 | with_reducible exact HSC.out _ A9 | with_reducible exact HSC.out _ A8)
  (first | (have hseen := A14; clear hseen; go_at_call 23; refine (H13.out _ _ (y4_m _ _ _ _ _ _ _ _ _ _) A14.x.at_).mono ?_; rintro e w15 ⟨p1, p2, p3, p4, p5, p6, p7, p8, p9, p10, p11, p12, p13, rfl, h15⟩; have A15 := A14.below h15) | (have hseen := A13; clear hseen; go_at_call 26; refine (H14.out _ _ _ (y4_m _ _ _ _ _ _ _ _ _ _) (y3_m _ _ _ _ _ _ _ _) A13.x.at_ A13.u.at_).mono ?_; rintro e w14 ⟨rfl, h14⟩; have A14 := A13.below h14) | (have hseen := A12; clear hseen; go_at_call 26; refine (H11.out _ _ _ (y4_m _ _ _ _ _ _ _ _ _ _) m12 A12.x.at_ l12).mono ?_; rintro e w13 ⟨rfl, h13⟩; have A13 := A12.below h13) | (have hseen := A11; clear hseen; go_at_call 22; refine (H12.out _ _ (y4_m _ _ _ _ _ _ _ _ _ _) A11.x.at_).mono ?_; rintro e w12 ⟨y12, rfl, l12, m12, h12⟩; have A12 := A11.below h12) | (have hseen := A10; clear hseen; go_at_call 20; refine (H10.out _ _ (y3_m _ _ _ _ _ _ _ _) A10.u.at_).mono ?_; rintro e w11 ⟨rfl, h11⟩; have A11 := A10.below h11) | (have hseen := A9; clear hseen; go_at_call 33; refine (H9.out _ _ (y3_m _ _ _ _ _ _ _ _) A9.u.at_).mono ?_; rintro e w10 ⟨rfl, h10⟩; have A10 := A9.below h10) | (have hseen := A8; clear hseen; go_at_call 31; refine (H8.out _ _ (y3_m _ _ _ _ _ _ _ _) A8.u.at_).mono ?_; rintro e w9 ⟨rfl, h9⟩; have A9 := A8.below h9))
 all_goals
  have HF := Lib.hid A15.u.frame
  clear A8 A9 A10 A11 A12 A13 A14 A15 HSC H8 H9 H10 H11 H12 H13 H14
  go_wp2
  go_ret
  exact ⟨rfl, HF.out⟩
end Go.Proofs.YtjhdhfokhkcamaaGreat
