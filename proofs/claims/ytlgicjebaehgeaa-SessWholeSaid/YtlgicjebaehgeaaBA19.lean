/- Layer 10: the words by which each law shows that the package is alive. -/
import Derived.Test.YtlgicjebaehgeaaBA18
namespace Go.Proofs.Ytlgicjebaehgeaa
open Go.RowKit
set_option linter.unusedVariables false
set_option maxRecDepth 100000

def an : ByteArray := ⟨#[97, 110, 110]⟩
def bo : ByteArray := ⟨#[98, 111, 98]⟩
def e1 : OpM := ⟨2, an, 1, 3⟩
def e2 : OpM := ⟨2, an, 4, 5⟩
def eb : OpM := ⟨2, bo, 0, 0⟩
theorem an_bo : ¬ an = bo := fun h => by
  have : toL an = toL bo := by rw [h]
  revert this
  decide
theorem f1 : IsFst (hasN 2) [e1] 0 := ⟨by decide, fun i hi h => absurd h (by omega), fun _ => rfl⟩
theorem f2 : IsFst (hasN 2) [e2] 0 := ⟨by decide, fun i hi h => absurd h (by omega), fun _ => rfl⟩
theorem opC1 : openC [] e1 = 0 := rfl
theorem opR1 : openR [] e1 = [e1] := by unfold openR; rw [if_pos opC1]; rfl
theorem opC2 : openC [e1] eb = 100 := rfl
theorem opR2 : openR [e1] eb = [] := by unfold openR; rw [opC2, if_neg (by decide)]
theorem fc1 : findC [e1] 2 an = 0 ∧ findE [e1] 2 an = e1 ∧ findP [e1] 2 an = 0 := fc_hit f1 (by decide) rfl
theorem fc2 : findC [e2] 2 an = 0 ∧ findE [e2] 2 an = e2 ∧ findP [e2] 2 an = 0 := fc_hit f2 (by decide) rfl
theorem fcb : findC [e2] 2 bo = 102 ∧ findE [e2] 2 bo = opZ ∧ findP [e2] 2 bo = 0 := fc_user f2 (by decide) an_bo
theorem fcn : findC [] 2 an = 101 ∧ findE [] 2 an = opZ ∧ findP [] 2 an = 0 := fc_miss ⟨Nat.le_refl _, fun i hi => absurd hi (by simp), fun h => absurd h (by simp)⟩ an
theorem ch1 : chgR [e1] 2 an 4 5 = [e2] := by unfold chgR; rw [if_pos fc1.1, fc1.2.2, chgAt_at (by decide)]; rfl
theorem fs1 : fndS [e1] 2 an 5 = ⟨3, 5, 2, 1⟩ := by unfold fndS; rw [if_pos fc1.1, fc1.2.1]; rfl
theorem clb : cloR [e2] 2 bo = [] := by unfold cloR; rw [fcb.1, if_neg (by decide)]
theorem fsb : fndS [e2] 2 bo 7 = ⟨0, 0, 0, 0⟩ := by unfold fndS; rw [fcb.1, if_neg (by decide)]; rfl
theorem cl2 : cloR [e2] 2 an = [] := by unfold cloR; rw [if_pos fc2.1, fc2.2.2]; rfl
theorem fs2 : fndS [e2] 2 an 7 = ⟨5, 7, 2, 4⟩ := by unfold fndS; rw [if_pos fc2.1, fc2.2.1]; rfl
theorem us2 : srt (usO [e2]) = [an] := rfl
theorem ok2 : OkO e2 := ⟨rfl, by decide, by decide, by decide, by decide, by decide, by decide⟩
theorem ri2 : RiseO [e2] := riseO_iff.2 ⟨by decide, fun e he => by rw [List.mem_singleton.1 he]; exact ok2, List.pairwise_singleton _ _⟩
theorem sz2 : SzO [e2] := fun e he => by
  rw [List.mem_singleton.1 he]
  decide
theorem wi2 : [e2].filter (notU an) = [] := List.filter_eq_nil_iff.2 (fun x hx h => by
  rw [List.mem_singleton.1 hx] at h
  exact (of_decide_eq_true h) rfl)
theorem st2 : (staysO [e2] an 9).length = 1 := by
  have h := (stays_is [e2] an 9 1 (by decide)).1.length_eq
  have h1 : rawO [e2] an 9 = [stayO e2 9] := by
    unfold rawO
    rw [List.filter_cons_of_pos (p := stU an 9) (a := e2) (by unfold stU; rw [decide_eq_true (show e2.u = an from rfl)]; rfl)]
    rfl
  have h2 : [e2].take 1 = [e2] := rfl
  rw [h2, h1] at h
  exact h
theorem ne12 : ¬ [e1] = [e2] := fun h => by
  have : e1.s = e2.s := by rw [(List.cons.inj h).1]
  revert this
  decide

theorem al_o1 (W : World) : Calls Try.prog 12 #[.slice none 0 0, .agg #[.int .i64 2, .string ⟨#[97, 110, 110]⟩, .int .i64 1, .int .i64 3]] W fun e w' => ∃ x q, e = .returned (.tuple #[.slice x 1 q, .int .i64 0]) ∧ 1 ≤ q ∧ q ≤ maxLen ∧ (x = none → q = 0) ∧ OpSl w' x [e1] ∧ Below W.heap.size W w' := by
  have := o_open none 0 [] e1 W (OpSl.nil _ _) (fun _ => rfl) (by decide) (by decide) (by decide)
  rw [opC1, opR1] at this
  refine this.mono ?_
  rintro e w' ⟨x, q, rfl, h1, h2, h3, h4, h5⟩
  exact ⟨x, q, rfl, h1, h2, h3, h4, h5⟩
theorem al_o2 (x : Option Addr) (q : Nat) (W : World) (h : OpSl W x [e1]) (hn : x = none → q = 0) (h1 : 1 ≤ q) (h2 : q ≤ maxLen) : Calls Try.prog 12 #[.slice x 1 q, .agg #[.int .i64 2, .string ⟨#[98, 111, 98]⟩, .int .i64 0, .int .i64 0]] W fun e w' => ∃ y p, e = .returned (.tuple #[.slice y 0 p, .int .i64 100]) ∧ Below W.heap.size W w' := by
  have := o_open x q [e1] eb W h hn (by decide) h1 h2
  rw [opC2, opR2] at this
  refine this.mono ?_
  rintro e w' ⟨x, q, rfl, h1, h2, h3, h4, h5⟩
  exact ⟨x, q, rfl, h5⟩
theorem al_ch (x : Option Addr) (q : Nat) (W : World) (h : OpSl W x [e1]) (h1 : 1 ≤ q) (h2 : q ≤ maxLen) : Calls Try.prog 18 #[.slice x 1 q, .int .i64 2, .string ⟨#[97, 110, 110]⟩, .int .i64 4, .int .i64 5] W fun e w' => ∃ x q, e = .returned (.tuple #[.slice x 1 q, .agg #[.int .i64 3, .int .i64 5, .int .i64 2, .int .i64 1], .int .i64 0]) ∧ 1 ≤ q ∧ q ≤ maxLen ∧ (x = none → q = 0) ∧ OpSl w' x [e2] ∧ Below W.heap.size W w' := by
  have := o_change x q [e1] 2 an 4 5 W h (by decide) h1 h2
  rw [ch1, fs1, fc1.1] at this
  refine this.mono ?_
  rintro e w' ⟨x, q, rfl, h1, h2, h3, h4, h5⟩
  exact ⟨x, q, rfl, h1, h2, h3, h4, h5⟩
theorem al_cb (x : Option Addr) (q : Nat) (W : World) (h : OpSl W x [e2]) (h1 : 1 ≤ q) (h2 : q ≤ maxLen) : Calls Try.prog 23 #[.slice x 1 q, .int .i64 2, .string ⟨#[98, 111, 98]⟩, .int .i64 7] W fun e w' => ∃ x q, e = .returned (.tuple #[.slice x 0 q, .agg #[.int .i64 0, .int .i64 0, .int .i64 0, .int .i64 0], .int .i64 102]) ∧ Below W.heap.size W w' := by
  have := o_close x q [e2] 2 bo 7 W h (by decide) h1 h2
  rw [clb, fsb, fcb.1] at this
  refine this.mono ?_
  rintro e w' ⟨x, q, rfl, h1, h2, h3, h4, h5⟩
  exact ⟨x, q, rfl, h5⟩
theorem al_ca (x : Option Addr) (q : Nat) (W : World) (h : OpSl W x [e2]) (h1 : 1 ≤ q) (h2 : q ≤ maxLen) : Calls Try.prog 23 #[.slice x 1 q, .int .i64 2, .string ⟨#[97, 110, 110]⟩, .int .i64 7] W fun e w' => ∃ x q, e = .returned (.tuple #[.slice x 0 q, .agg #[.int .i64 5, .int .i64 7, .int .i64 2, .int .i64 4], .int .i64 0]) ∧ Below W.heap.size W w' := by
  have := o_close x q [e2] 2 an 7 W h (by decide) h1 h2
  rw [cl2, fs2, fc2.1] at this
  refine this.mono ?_
  rintro e w' ⟨x, q, rfl, h1, h2, h3, h4, h5⟩
  exact ⟨x, q, rfl, h5⟩
theorem al_f0 (x : Option Addr) (q : Nat) (W : World) : Calls Try.prog 20 #[.slice x 0 q, .int .i64 2, .string ⟨#[97, 110, 110]⟩] W fun e w' => e = .returned (.tuple #[.agg #[.int .i64 0, .string ⟨#[]⟩, .int .i64 0, .int .i64 0], .int .i64 101]) ∧ Below W.heap.size W w' := by
  have := o_find x q [] 2 an W (OpSl.nil _ _) (by decide)
  rw [fcn.1, fcn.2.1] at this
  exact this
theorem al_f2 (x : Option Addr) (q : Nat) (W : World) (h : OpSl W x [e2]) : Calls Try.prog 20 #[.slice x 1 q, .int .i64 2, .string ⟨#[97, 110, 110]⟩] W fun e w' => e = .returned (.tuple #[.agg #[.int .i64 2, .string ⟨#[97, 110, 110]⟩, .int .i64 4, .int .i64 5], .int .i64 0]) ∧ Below W.heap.size W w' := by
  have := o_find x q [e2] 2 an W h (by decide)
  rw [fc2.1, fc2.2.1] at this
  exact this
theorem al_us (x : Option Addr) (q : Nat) (W : World) (h : OpSl W x [e2]) : Calls Try.prog 30 #[.slice x 1 q] W fun e w' => ∃ b o q, e = .returned (.slice (some ⟨b, o, none⟩) 1 q) ∧ w'.cell? ⟨b, o, none⟩ = some (.string ⟨#[97, 110, 110]⟩) ∧ Below W.heap.size W w' := by
  have := o_users x q [e2] W h (by decide)
  rw [us2] at this
  refine this.mono ?_
  rintro e w' ⟨x, q, rfl, hs, hb⟩
  obtain ⟨b, o, rfl, _, hc⟩ := hs.str (k := 0) (by decide)
  exact ⟨b, o, q, rfl, hc, hb⟩
theorem al_ri (x : Option Addr) (q : Nat) (W : World) (h : OpSl W x [e2]) : Calls Try.prog 17 #[.slice x 1 q] W fun e w' => e = .returned (.bool true) ∧ Below W.heap.size W w' := by
  have := o_rising x q [e2] W h sz2 (by decide)
  rw [decide_eq_true ri2] at this
  exact this
theorem al_wi (x : Option Addr) (q : Nat) (W : World) (h : OpSl W x [e2]) : Calls Try.prog 32 #[.slice x 1 q, .string ⟨#[97, 110, 110]⟩] W fun e w' => ∃ x q, e = .returned (.slice x 0 q) ∧ Below W.heap.size W w' := by
  have := o_without x q [e2] an W h (by decide)
  rw [wi2] at this
  refine this.mono ?_
  rintro e w' ⟨x, q, rfl, -, -, -, -, hb⟩
  exact ⟨x, q, rfl, hb⟩
theorem al_st (x : Option Addr) (q : Nat) (W : World) (h : OpSl W x [e2]) : Calls Try.prog 27 #[.slice x 1 q, .string ⟨#[97, 110, 110]⟩, .int .i64 9] W fun e w' => ∃ x q, e = .returned (.slice x 1 q) ∧ Below W.heap.size W w' := by
  have := o_stays x q [e2] an 9 W h (by decide)
  rw [st2] at this
  refine this.mono ?_
  rintro e w' ⟨x, q, rfl, -, -, -, -, hb⟩
  exact ⟨x, q, rfl, hb⟩
theorem al_s1 (x : Option Addr) (q : Nat) (W : World) (h : OpSl W x [e2]) : Calls Try.prog 34 #[.slice x 1 q, .slice x 1 q] W fun e w' => e = .returned (.bool true) ∧ Below W.heap.size W w' := by
  have := o_same x x q q [e2] [e2] W h h (by decide) (by decide)
  rw [decide_eq_true rfl] at this
  exact this
theorem al_s2 (x y : Option Addr) (q p : Nat) (W : World) (h : OpSl W x [e1]) (k : OpSl W y [e2]) : Calls Try.prog 34 #[.slice x 1 q, .slice y 1 p] W fun e w' => e = .returned (.bool false) ∧ Below W.heap.size W w' := by
  have := o_same x y q p [e1] [e2] W h k (by decide) (by decide)
  rw [decide_eq_false ne12] at this
  exact this
/-- a block of four cells -/
def Bk (W : World) (g : Nat) (a b c d : Value) : Prop := (W.cell? ⟨g, 0, none⟩ = some a ∧ W.cell? ⟨g, 1, none⟩ = some b ∧ W.cell? ⟨g, 2, none⟩ = some c ∧ W.cell? ⟨g, 3, none⟩ = some d) ∧ g < W.heap.size
theorem Bk.below {W W' : World} {g : Nat} {a b c d : Value} (h : Bk W g a b c d) (q : Below W.heap.size W W') : Bk W' g a b c d :=
  ⟨⟨(q.cell (p := ⟨g, 0, none⟩) h.2).trans h.1.1, (q.cell (p := ⟨g, 1, none⟩) h.2).trans h.1.2.1, (q.cell (p := ⟨g, 2, none⟩) h.2).trans h.1.2.2.1, (q.cell (p := ⟨g, 3, none⟩) h.2).trans h.1.2.2.2⟩, Nat.lt_of_lt_of_le h.2 q.size⟩
theorem Bk.new (W : World) (a b c d : Value) (t : TypeId) : Bk (W.alloc (.cells #[a, b, c, d] t)) W.heap.size a b c d := ⟨cells4 (heap_alloc_new W _), by rw [size1]; omega⟩
/-- all else as it was -/
def Fr (w W : World) : Prop := Below w.heap.size w W
theorem Fr.below {w W W' : World} (h : Fr w W) (q : Below W.heap.size W W') : Fr w W' := Below.trans h (q.mono (Below.size h))

set_option maxHeartbeats 8000000 in
theorem alive_any (w : World) : Calls Try.prog 10 #[] w fun e w' => e = .returned (.bool true) ∧ Below w.heap.size w w' := by
  have H1 := Lib.hid al_o1
  have H2 := Lib.hid al_o2
  have H3 := Lib.hid al_ch
  have H4 := Lib.hid al_cb
  have H5 := Lib.hid al_ca
  have H6 := Lib.hid al_f0
  have H7 := Lib.hid al_f2
  have H8 := Lib.hid al_us
  have H9 := Lib.hid al_ri
  have H10 := Lib.hid al_wi
  have H11 := Lib.hid al_st
  have H12 := Lib.hid al_s1
  have H13 := Lib.hid al_s2
  have F : Hid (Fr w w) := Below.refl _ _
  have hna : (({ data := #[97, 110, 110] } : ByteArray).toList == ({ data := #[97, 110, 110] } : ByteArray).toList) = true := txt_eq _
  go_enter Try.func10, Try.ntmps10
  go_wp2_with fail
  refine (H1.out _).mono ?_
  rintro e w1 ⟨x1, q1, rfl, k1, m1, n1, z1, h1⟩
  have Z1 := Lib.hid z1
  replace F := Lib.hid (F.out.below h1)
  clear z1 h1
  go_wp2_with fail
  refine (H2.out x1 q1 _ Z1.out n1 k1 m1).mono ?_
  rintro e w2 ⟨y2, p2, rfl, h1⟩
  replace F := Lib.hid (F.out.below h1)
  replace Z1 := Lib.hid (Z1.out.below h1)
  clear h1
  go_wp2_with fail
  refine (H3.out x1 q1 _ Z1.out k1 m1).mono ?_
  rintro e w3 ⟨x3, q3, rfl, k3, m3, n3, z1, h1⟩
  have Z3 := Lib.hid z1
  have hb := below_one w3 (.cells #[.int .i64 3, .int .i64 5, .int .i64 2, .int .i64 1] 44)
  have h2 := h1.trans (hb.mono h1.size)
  replace F := Lib.hid (F.out.below h2)
  replace Z1 := Lib.hid (Z1.out.below h2)
  replace Z3 := Lib.hid (Z3.out.below hb)
  have B6 := Lib.hid (Bk.new w3 (.int .i64 3) (.int .i64 5) (.int .i64 2) (.int .i64 1) 44)
  clear z1 hb h2 h1
  go_wp2_with fail
  refine (H4.out x3 q3 _ Z3.out k3 m3).mono ?_
  rintro e w4 ⟨y4, p4, rfl, h1⟩
  have hb := below_one w4 (.cells #[.int .i64 0, .int .i64 0, .int .i64 0, .int .i64 0] 44)
  have h2 := h1.trans (hb.mono h1.size)
  replace F := Lib.hid (F.out.below h2)
  replace Z1 := Lib.hid (Z1.out.below h2)
  replace B6 := Lib.hid (B6.out.below h2)
  replace Z3 := Lib.hid (Z3.out.below h2)
  clear hb h2 h1
  go_wp2_with fail
  refine (H5.out x3 q3 _ Z3.out k3 m3).mono ?_
  rintro e w5 ⟨x5, q5, rfl, h1⟩
  have hb := below_one w5 (.cells #[.int .i64 5, .int .i64 7, .int .i64 2, .int .i64 4] 44)
  have h2 := h1.trans (hb.mono h1.size)
  replace F := Lib.hid (F.out.below h2)
  replace Z1 := Lib.hid (Z1.out.below h2)
  replace B6 := Lib.hid (B6.out.below h2)
  replace Z3 := Lib.hid (Z3.out.below h2)
  have B12 := Lib.hid (Bk.new w5 (.int .i64 5) (.int .i64 7) (.int .i64 2) (.int .i64 4) 44)
  clear hb h2 h1
  go_wp2_with fail
  refine (H6.out x5 q5 _).mono ?_
  rintro e w6 ⟨rfl, h1⟩
  have hb := below_one w6 (.cells #[.int .i64 0, .string ⟨#[]⟩, .int .i64 0, .int .i64 0] 31)
  have h2 := h1.trans (hb.mono h1.size)
  replace F := Lib.hid (F.out.below h2)
  replace Z1 := Lib.hid (Z1.out.below h2)
  replace B6 := Lib.hid (B6.out.below h2)
  replace Z3 := Lib.hid (Z3.out.below h2)
  replace B12 := Lib.hid (B12.out.below h2)
  clear hb h2 h1
  go_wp2_with fail
  refine (H7.out x3 q3 _ Z3.out).mono ?_
  rintro e w7 ⟨rfl, h1⟩
  have hb := below_one w7 (.cells #[.int .i64 2, .string ⟨#[97, 110, 110]⟩, .int .i64 4, .int .i64 5] 31)
  have h2 := h1.trans (hb.mono h1.size)
  replace F := Lib.hid (F.out.below h2)
  replace Z1 := Lib.hid (Z1.out.below h2)
  replace B6 := Lib.hid (B6.out.below h2)
  replace Z3 := Lib.hid (Z3.out.below h2)
  replace B12 := Lib.hid (B12.out.below h2)
  have B16 := Lib.hid (Bk.new w7 (.int .i64 2) (.string ⟨#[97, 110, 110]⟩) (.int .i64 4) (.int .i64 5) 31)
  clear hb h2 h1
  go_wp2_with fail
  refine (H8.out x3 q3 _ Z3.out).mono ?_
  rintro e w8 ⟨b8, o8, q8, rfl, c8, h1⟩
  replace F := Lib.hid (F.out.below h1)
  replace Z1 := Lib.hid (Z1.out.below h1)
  replace B6 := Lib.hid (B6.out.below h1)
  replace Z3 := Lib.hid (Z3.out.below h1)
  replace B12 := Lib.hid (B12.out.below h1)
  replace B16 := Lib.hid (B16.out.below h1)
  clear h1
  obtain ⟨⟨a0, a1, a2, a3⟩, -⟩ := B6.out
  obtain ⟨⟨b0, b1, b2, b3⟩, -⟩ := B12.out
  obtain ⟨⟨d0, d1, d2, d3⟩, -⟩ := B16.out
  clear B6 B12 B16
  go_wp2_with fail
  refine (H9.out x3 q3 _ Z3.out).mono ?_
  rintro e w9 ⟨rfl, h1⟩
  replace F := Lib.hid (F.out.below h1)
  replace Z1 := Lib.hid (Z1.out.below h1)
  replace Z3 := Lib.hid (Z3.out.below h1)
  clear h1
  clear a0 a1 a2 a3 b0 b1 b2 b3 d0 d1 d2 d3 c8
  go_wp2_with fail
  refine (H10.out x3 q3 _ Z3.out).mono ?_
  rintro e w10 ⟨y9, p9, rfl, h1⟩
  replace F := Lib.hid (F.out.below h1)
  replace Z1 := Lib.hid (Z1.out.below h1)
  replace Z3 := Lib.hid (Z3.out.below h1)
  clear h1
  go_wp2_with fail
  refine (H11.out x3 q3 _ Z3.out).mono ?_
  rintro e w11 ⟨y10, p10, rfl, h1⟩
  replace F := Lib.hid (F.out.below h1)
  replace Z1 := Lib.hid (Z1.out.below h1)
  replace Z3 := Lib.hid (Z3.out.below h1)
  clear h1
  go_wp2_with fail
  refine (H12.out x3 q3 _ Z3.out).mono ?_
  rintro e w12 ⟨rfl, h1⟩
  replace F := Lib.hid (F.out.below h1)
  replace Z1 := Lib.hid (Z1.out.below h1)
  replace Z3 := Lib.hid (Z3.out.below h1)
  clear h1
  go_wp2_with fail
  refine (H13.out x1 x3 q1 q3 _ Z1.out Z3.out).mono ?_
  rintro e w13 ⟨rfl, h1⟩
  replace F := Lib.hid (F.out.below h1)
  replace Z1 := Lib.hid (Z1.out.below h1)
  replace Z3 := Lib.hid (Z3.out.below h1)
  clear h1
  go_wp2
  go_ret
  exact ⟨rfl, F.out⟩
end Go.Proofs.Ytlgicjebaehgeaa
