/- Layer 9: the words by which each law shows that the package is alive. -/
import Derived.Test.YthaancmobpamhaaAB17
import Derived.Deep.RegionHeld3
namespace Go.Proofs.Ythaancmobpamhaa
open Go.RowKit
set_option linter.unusedVariables false
set_option maxRecDepth 100000

def pa : ByteArray := ⟨#[97]⟩
def pb : ByteArray := ⟨#[98]⟩
def eG : EnM := ⟨pa, pb, 3, 1099511627776⟩
def eM : EnM := ⟨pa, pb, 3, 5⟩
def eN : EnM := ⟨pa, pb, 9, 1099511627776⟩
def sL : List SpM := [⟨3, 5⟩, ⟨9, 1099511627776⟩]
theorem fG : IsFirst (infE pa pb) [eG] 0 := ⟨by decide, fun i hi h => absurd h (by omega), fun _ => infE_iff.2 ⟨rfl, rfl, rfl⟩⟩
theorem anyG : [eG].any (infE pa pb) = true := by rw [fG.any]; decide
theorem anyM : [eM].any (infE pa pb) = false := List.any_eq_false.2 (fun x hx h => by
  rw [List.mem_singleton.1 hx] at h
  have : (5 : Int) = 1099511627776 := (infE_iff.1 h).2.2
  omega)
theorem fN : IsFirst (infE pa pb) [eM, eN] 1 := ⟨by decide, fun i hi h => by
  obtain rfl : i = 0 := by omega
  cases hc : infE pa pb eM with
  | false => exact hc
  | true =>
    have : (5 : Int) = 1099511627776 := (infE_iff.1 hc).2.2
    omega, fun _ => infE_iff.2 ⟨rfl, rfl, rfl⟩⟩
theorem anyN : [eM, eN].any (infE pa pb) = true := by rw [fN.any]; decide
theorem grantM : grantS [eM] (mkE pa pb 9) = [eM, eN] := grant_at (k := 1) ⟨by decide, fun i hi h => by
  obtain rfl : i = 0 := by omega
  refine decide_eq_false (fun k => ?_)
  have h1 : pc (mkE pa pb 9) eM = 0 := pc_eq.2 ⟨rfl, rfl⟩
  rcases k with k | ⟨_, k⟩
  · have k' : pc (mkE pa pb 9) eM < 0 := k
    omega
  · have k' : (9 : Int) < 3 := k
    omega, fun h => absurd h (by decide)⟩
theorem revokeG : revokeS [eG] pa pb 5 = [eM] := by rw [revoke_at fG, cut_at (by decide)]; rfl
theorem riseN : RiseE [eM, eN] := fun k hk => by
  match k, hk with
  | 0, _ => exact ⟨⟨show (3 : Int) < 5 by decide, rfl, rfl⟩, fun h => absurd h (by omega)⟩
  | 1, _ => exact ⟨⟨show (9 : Int) < 1099511627776 by decide, rfl, rfl⟩, fun _ => ⟨Or.inr ⟨pc_eq.2 ⟨rfl, rfl⟩, show (3 : Int) < 9 by decide⟩, fun _ => show (5 : Int) ≤ 9 by decide⟩⟩
theorem szN : SzE [eM, eN] := fun e he => by
  simp only [List.mem_cons, List.mem_nil_iff, or_false] at he
  rcases he with rfl | rfl <;> exact ⟨by decide, by decide⟩
theorem wiN : [eM, eN].filter (wiE pa) = [] := List.filter_eq_nil_iff.2 (fun x hx h => by
  unfold wiE at h
  rw [Bool.and_eq_true, decide_eq_true_iff] at h
  simp only [List.mem_cons, List.mem_nil_iff, or_false] at hx
  rcases hx with rfl | rfl <;> exact h.1 rfl)
theorem afN : [eM, eN].filter (afE 5) = [eN] := rfl
theorem perN : perS [eM, eN] pa pb = sL := by
  unfold perS
  rw [List.filter_cons_of_pos (p := ofE pa pb) (a := eM) (ofE_iff.2 ⟨rfl, rfl⟩), List.filter_cons_of_pos (p := ofE pa pb) (a := eN) (ofE_iff.2 ⟨rfl, rfl⟩)]
  rfl
theorem sL_set : IsSet (HasL sL) sL := ⟨⟨by simp [RowL, sL], by simp [sL]⟩, fun x => Iff.rfl⟩

theorem al_g1 (W : World) : Calls Try.prog 12 #[.slice none 0 0, .agg #[.string ⟨#[97]⟩, .string ⟨#[98]⟩], .int .i64 3] W fun e w' => ∃ x q, e = .returned (.tuple #[.slice x 1 q, .int .i64 0]) ∧ 1 ≤ q ∧ q ≤ maxLen ∧ (x = none → q = 0) ∧ EnSl w' x [eG] ∧ Below W.heap.size W w' :=
  e_grant none 0 [] pa pb 3 W (EnSl.nil _ _) (fun _ => rfl) (by decide) (by decide) (by decide) rfl
theorem al_on (x : Option Addr) (q : Nat) (W : World) (h : EnSl W x [eG]) (hn : x = none → q = 0) (h1 : 1 ≤ q) (h2 : q ≤ maxLen) : Calls Try.prog 12 #[.slice x 1 q, .agg #[.string ⟨#[97]⟩, .string ⟨#[98]⟩], .int .i64 4] W fun e w' => e = .returned (.tuple #[.slice none 0 0, .int .i64 90]) ∧ Below W.heap.size W w' :=
  e_grant_no x q [eG] pa pb 4 W h hn (by decide) h1 h2 anyG
theorem al_rv (x : Option Addr) (q : Nat) (W : World) (h : EnSl W x [eG]) (h1 : 1 ≤ q) (h2 : q ≤ maxLen) : Calls Try.prog 14 #[.slice x 1 q, .agg #[.string ⟨#[97]⟩, .string ⟨#[98]⟩], .int .i64 5] W fun e w' => ∃ x q, e = .returned (.tuple #[.slice x 1 q, .int .i64 0]) ∧ 1 ≤ q ∧ q ≤ maxLen ∧ (x = none → q = 0) ∧ EnSl w' x [eM] ∧ Below W.heap.size W w' := by
  have := e_revoke x q [eG] pa pb 5 W h (by decide) h1 h2 anyG
  rw [revokeG] at this
  exact this
theorem al_off (x : Option Addr) (q : Nat) (W : World) (h : EnSl W x [eM]) (h1 : 1 ≤ q) (h2 : q ≤ maxLen) : Calls Try.prog 14 #[.slice x 1 q, .agg #[.string ⟨#[97]⟩, .string ⟨#[98]⟩], .int .i64 6] W fun e w' => e = .returned (.tuple #[.slice none 0 0, .int .i64 91]) ∧ Below W.heap.size W w' :=
  e_revoke_no x q [eM] pa pb 6 W h (by decide) h1 h2 anyM
theorem al_g2 (x : Option Addr) (q : Nat) (W : World) (h : EnSl W x [eM]) (hn : x = none → q = 0) (h1 : 1 ≤ q) (h2 : q ≤ maxLen) : Calls Try.prog 12 #[.slice x 1 q, .agg #[.string ⟨#[97]⟩, .string ⟨#[98]⟩], .int .i64 9] W fun e w' => ∃ x q, e = .returned (.tuple #[.slice x 2 q, .int .i64 0]) ∧ 2 ≤ q ∧ q ≤ maxLen ∧ (x = none → q = 0) ∧ EnSl w' x [eM, eN] ∧ Below W.heap.size W w' := by
  have := e_grant x q [eM] pa pb 9 W h hn (by decide) h1 h2 anyM
  rw [grantM] at this
  exact this
theorem al_per (x : Option Addr) (q : Nat) (W : World) (h : EnSl W x [eM, eN]) : Calls Try.prog 22 #[.slice x 2 q, .agg #[.string ⟨#[97]⟩, .string ⟨#[98]⟩]] W fun e w' => ∃ g o q, e = .returned (.slice (some ⟨g, o, none⟩) 2 q) ∧ SpSl w' (some ⟨g, o, none⟩) sL ∧ Below W.heap.size W w' := by
  refine (e_periods_r x q [eM, eN] pa pb sL W h (by rw [perN]; exact sL_set) (by decide)).mono ?_
  rintro e w' ⟨x, q, rfl, hs, hb⟩
  obtain ⟨g, o, rfl, _⟩ := hs 0 (by decide)
  exact ⟨g, o, q, rfl, hs, hb⟩
theorem al_inN (x : Option Addr) (q : Nat) (W : World) (h : EnSl W x [eM, eN]) : Calls Try.prog 18 #[.slice x 2 q, .agg #[.string ⟨#[97]⟩, .string ⟨#[98]⟩]] W fun e w' => e = .returned (.bool true) ∧ Below W.heap.size W w' := by
  have := e_inforce x q [eM, eN] pa pb W h (by decide)
  rw [anyN] at this
  exact this
theorem al_inM (x : Option Addr) (q : Nat) (W : World) (h : EnSl W x [eM]) : Calls Try.prog 18 #[.slice x 1 q, .agg #[.string ⟨#[97]⟩, .string ⟨#[98]⟩]] W fun e w' => e = .returned (.bool false) ∧ Below W.heap.size W w' := by
  have := e_inforce x q [eM] pa pb W h (by decide)
  rw [anyM] at this
  exact this
theorem al_rise (x : Option Addr) (q : Nat) (W : World) (h : EnSl W x [eM, eN]) : Calls Try.prog 28 #[.slice x 2 q] W fun e w' => e = .returned (.bool true) ∧ Below W.heap.size W w' := by
  have := e_rising x q [eM, eN] W h szN (by decide)
  rw [decide_eq_true riseN] at this
  exact this
theorem al_wi (x : Option Addr) (q : Nat) (W : World) (h : EnSl W x [eM, eN]) : Calls Try.prog 24 #[.slice x 2 q, .string ⟨#[97]⟩] W fun e w' => ∃ x q, e = .returned (.slice x 0 q) ∧ Below W.heap.size W w' := by
  have := e_without x q [eM, eN] pa W h (by decide)
  rw [wiN] at this
  refine this.mono ?_
  rintro e w' ⟨x, q, rfl, -, -, -, -, hb⟩
  exact ⟨x, q, rfl, hb⟩
theorem al_af (x : Option Addr) (q : Nat) (W : World) (h : EnSl W x [eM, eN]) : Calls Try.prog 26 #[.slice x 2 q, .int .i64 5] W fun e w' => ∃ x q, e = .returned (.slice x 1 q) ∧ Below W.heap.size W w' := by
  have := e_after x q [eM, eN] 5 W h (by decide)
  rw [afN] at this
  refine this.mono ?_
  rintro e w' ⟨x, q, rfl, -, -, -, -, hb⟩
  exact ⟨x, q, rfl, hb⟩
theorem al_one (W : World) : Calls Try.prog 35 #[.string ⟨#[97]⟩, .string ⟨#[98]⟩, .int .i64 3, .int .i64 5] W fun e w' => e = .returned (.agg #[.string ⟨#[97]⟩, .string ⟨#[98]⟩, .int .i64 3, .int .i64 5]) ∧ Below W.heap.size W w' :=
  (eone_any ⟨#[97]⟩ ⟨#[98]⟩ 3 5 W).mono fun e w' h => ⟨h.1, by rw [h.2]; exact below_one _ _⟩
theorem al_same (x : Option Addr) (q g : Nat) (W : World) (hg : g = W.heap.size) (h : EnSl W x [eM]) (t : TypeId) : Calls Try.prog 30 #[.slice x 1 q, .slice (some ⟨g, 0, none⟩) 1 1] (W.alloc (.cells #[.string ⟨#[97]⟩, .string ⟨#[98]⟩, .int .i64 3, .int .i64 5] t)) fun e w' => e = .returned (.bool true) ∧ Below W.heap.size W w' := by
  have hb := below_one W (.cells #[.string ⟨#[97]⟩, .string ⟨#[98]⟩, .int .i64 3, .int .i64 5] t)
  have hc : EnSl (W.alloc (.cells #[.string ⟨#[97]⟩, .string ⟨#[98]⟩, .int .i64 3, .int .i64 5] t)) (some ⟨g, 0, none⟩) [eM] := cells_en W [eM] _ t g hg rfl
  have := e_same x (some ⟨g, 0, none⟩) q 1 [eM] [eM] _ (h.below hb) hc (by decide) (by decide)
  rw [decide_eq_true rfl] at this
  exact this.mono fun e w' k => ⟨k.1, hb.trans (k.2.mono hb.size)⟩
/-- the pair, both rows, the periods, all else as it was -/
structure AlE (w : World) (g : Nat) (x y : Option Addr) (gs os : Nat) (W : World) : Prop where
  pc : PcAt W g ⟨#[97]⟩ ⟨#[98]⟩
  m : EnSl W x [eM]
  n : EnSl W y [eM, eN]
  s : SpSl W (some ⟨gs, os, none⟩) sL
  frame : Below w.heap.size w W
theorem AlE.below {w W W' : World} {g : Nat} {x y : Option Addr} {gs os : Nat} (h : AlE w g x y gs os W) (q : Below W.heap.size W W') : AlE w g x y gs os W' :=
  ⟨h.pc.below q, h.m.below q, h.n.below q, h.s.below q, h.frame.trans (q.mono h.frame.size)⟩
theorem AlE.cells {w W : World} {g : Nat} {x y : Option Addr} {gs os : Nat} (h : AlE w g x y gs os W) : W.cell? ⟨g, 0, none⟩ = some (.string ⟨#[97]⟩) ∧ W.cell? ⟨g, 1, none⟩ = some (.string ⟨#[98]⟩) ∧ W.cell? ⟨gs, os, none⟩ = some (.int .i64 3) ∧ W.cell? ⟨gs, os + 1, none⟩ = some (.int .i64 5) := by
  obtain ⟨_, _, e, _, h0, h1⟩ := h.s 0 (by decide)
  cases e
  exact ⟨h.pc.1, h.pc.2.1, h0, h1⟩

set_option maxHeartbeats 4000000 in
theorem alive_any (w : World) : Calls Try.prog 10 #[] w fun e w' => e = .returned (.bool true) ∧ Below w.heap.size w w' := by
  have H1 := Lib.hid al_g1
  have H2 := Lib.hid al_on
  have H3 := Lib.hid al_rv
  have H4 := Lib.hid al_off
  have H5 := Lib.hid al_g2
  have H6 := Lib.hid al_per
  have H7 := Lib.hid al_inN
  have H8 := Lib.hid al_inM
  have H9 := Lib.hid al_rise
  have H10 := Lib.hid al_wi
  have H11 := Lib.hid al_af
  have H12 := Lib.hid al_one
  have H13 := Lib.hid al_same
  have P0 := Lib.hid (PcAt.new w ⟨#[97]⟩ ⟨#[98]⟩ 31)
  have B0 := Lib.hid (below_one w (.cells #[.string ⟨#[97]⟩, .string ⟨#[98]⟩] 31))
  go_enter Try.func10, Try.ntmps10
  go_wp2_with fail
  generalize w.alloc (.cells #[.string ⟨#[97]⟩, .string ⟨#[98]⟩] 31) = w0 at *
  have HW := Lib.hid B0.out
  clear B0
  refine (H1.out _).mono ?_
  rintro e w1 ⟨x1, q1, rfl, k1, m1, n1, z1, h1⟩
  have P1 := Lib.hid (P0.out.below h1)
  have F1 := Lib.hid (HW.out.trans (h1.mono HW.out.size))
  have Z1 := Lib.hid z1
  obtain ⟨c0, c1, -⟩ := P1.out
  clear z1 h1 P0 HW
  go_wp2_with fail
  refine (H2.out x1 q1 _ Z1.out n1 k1 m1).mono ?_
  rintro e w2 ⟨rfl, h1⟩
  have P2 := Lib.hid (P1.out.below h1)
  have F2 := Lib.hid (F1.out.trans (h1.mono F1.out.size))
  have Z2 := Lib.hid (Z1.out.below h1)
  clear c0 c1 Z1 h1 P1 F1
  obtain ⟨c0, c1, -⟩ := P2.out
  go_wp2_with fail
  refine (H3.out x1 q1 _ Z2.out k1 m1).mono ?_
  rintro e w3 ⟨x3, q3, rfl, k3, m3, n3, z1, h1⟩
  have P3 := Lib.hid (P2.out.below h1)
  have F3 := Lib.hid (F2.out.trans (h1.mono F2.out.size))
  have Z3 := Lib.hid z1
  clear c0 c1 Z2 h1 P2 F2 z1 k1 m1 n1
  obtain ⟨c0, c1, -⟩ := P3.out
  go_wp2_with fail
  refine (H4.out x3 q3 _ Z3.out k3 m3).mono ?_
  rintro e w4 ⟨rfl, h1⟩
  have P4 := Lib.hid (P3.out.below h1)
  have F4 := Lib.hid (F3.out.trans (h1.mono F3.out.size))
  have Z4 := Lib.hid (Z3.out.below h1)
  clear c0 c1 Z3 h1 P3 F3
  obtain ⟨c0, c1, -⟩ := P4.out
  go_wp2_with fail
  refine (H5.out x3 q3 _ Z4.out n3 k3 m3).mono ?_
  rintro e w5 ⟨x5, q5, rfl, k5, m5, n5, z1, h1⟩
  have P5 := Lib.hid (P4.out.below h1)
  have F5 := Lib.hid (F4.out.trans (h1.mono F4.out.size))
  have Z5 := Lib.hid (Z4.out.below h1)
  have Y5 := Lib.hid z1
  clear c0 c1 Z4 h1 P4 F4 z1 k3 m3 n3 k5 m5 n5
  obtain ⟨c0, c1, -⟩ := P5.out
  go_wp2_with fail
  refine (H6.out x5 q5 _ Y5.out).mono ?_
  rintro e w6 ⟨gs, os, q6, rfl, z1, h1⟩
  have S6 : Hid (AlE w w.heap.size x3 x5 gs os w6) := ⟨P5.out.below h1, Z5.out.below h1, Y5.out.below h1, z1, F5.out.trans (h1.mono F5.out.size)⟩
  clear c0 c1 Z5 h1 P5 F5 z1 Y5
  obtain ⟨a0, a1, a2, a3⟩ := S6.out.cells
  go_wp2_with fail
  refine (H7.out x5 q5 _ S6.out.n).mono ?_
  rintro e w7 ⟨rfl, h1⟩
  have S7 := Lib.hid (S6.out.below h1)
  clear S6 h1 a0 a1 a2 a3
  obtain ⟨a0, a1, a2, a3⟩ := S7.out.cells
  go_wp2_with fail
  refine (H8.out x3 q3 _ S7.out.m).mono ?_
  rintro e w8 ⟨rfl, h1⟩
  have S8 := Lib.hid (S7.out.below h1)
  clear S7 h1 a0 a1 a2 a3
  obtain ⟨a0, a1, a2, a3⟩ := S8.out.cells
  go_wp2_with fail
  refine (H9.out x5 q5 _ S8.out.n).mono ?_
  rintro e w9 ⟨rfl, h1⟩
  have S9 := Lib.hid (S8.out.below h1)
  clear S8 h1 a0 a1 a2 a3
  obtain ⟨a0, a1, a2, a3⟩ := S9.out.cells
  go_wp2_with fail
  refine (H10.out x5 q5 _ S9.out.n).mono ?_
  rintro e w10 ⟨y, p, rfl, h1⟩
  have S10 := Lib.hid (S9.out.below h1)
  clear S9 h1 a0 a1 a2 a3
  obtain ⟨a0, a1, a2, a3⟩ := S10.out.cells
  go_wp2_with fail
  refine (H11.out x5 q5 _ S10.out.n).mono ?_
  rintro e w11 ⟨y', p', rfl, h1⟩
  have S11 := Lib.hid (S10.out.below h1)
  clear S10 h1 a0 a1 a2 a3
  obtain ⟨a0, a1, a2, a3⟩ := S11.out.cells
  go_wp2_with fail
  refine (H12.out _).mono ?_
  rintro e w12 ⟨rfl, h1⟩
  have S12 := Lib.hid (S11.out.below h1)
  clear S11 h1 a0 a1 a2 a3
  obtain ⟨a0, a1, a2, a3⟩ := S12.out.cells
  go_wp2_with fail
  refine (H13.out x3 q3 _ _ rfl S12.out.m _).mono ?_
  rintro e w13 ⟨rfl, h1⟩
  have S13 := Lib.hid (S12.out.below h1)
  clear S12 h1 a0 a1 a2 a3
  go_wp2
  go_ret
  exact ⟨rfl, S13.out.frame⟩
end Go.Proofs.Ythaancmobpamhaa
