/- HistParts: what is left within some spans, and what is left within others that have nothing of them, is, taken together, as much of each time as is left within both; for all rows and times. No condition. -/
import Derived.Test.YtbcabbddgppkaaaZ23
namespace Go.Proofs.Ytbcabbddgppkaaa.histParts
open Go.ChangeShapes Go.WideShapes Go.ChangeAt Go.RowKit
open Go.ChangeMaps (open_string shut_string)
set_option linter.unusedVariables false
set_option maxRecDepth 100000

/-- the rows that came in, the program's own spans, the time, all else as it was -/
structure Pa (w : World) (g : Nat) (t : Int) (a b d x y : Option Addr) (l : List StM) (A B X Y : List SpM) (W : World) : Prop where
  box : W.cell? ⟨g, 0, none⟩ = some (.int .i64 t)
  lt : g < W.heap.size
  a : StSl W a l
  b : SpSl W b A
  d : SpSl W d B
  x : SpSl W x X
  y : SpSl W y Y
  frame : Below w.heap.size w W
theorem Pa.below {w W W' : World} {g : Nat} {t : Int} {a b d x y : Option Addr} {l : List StM} {A B X Y : List SpM} (h : Pa w g t a b d x y l A B X Y W) (r : Below W.heap.size W W') : Pa w g t a b d x y l A B X Y W' :=
  ⟨(r.cell (p := ⟨g, 0, none⟩) h.lt).trans h.box, Nat.lt_of_lt_of_le h.lt r.size, h.a.below r, h.b.below r, h.d.below r, h.x.below r, h.y.below r, h.frame.trans (r.mono h.frame.size)⟩
theorem Pa.lay {w : World} (t : Int) (O : Obj) {a b d : Option Addr} {l : List StM} {A B : List SpM} (h1 : StSl w a l) (h2 : SpSl w b A) (h3 : SpSl w d B) (r : Nat) : Pa w (w.heap.size + 1) t a b d b d l A B A B (((w.alloc O).alloc (.cells #[.int .i64 t] 3)).drewN r) := by
  have b0 := (Below.refl w.heap.size w).alloc (Nat.le_refl _) O
  have z0 := size1 w O
  generalize w.alloc O = w0 at *
  have k1 := heap_alloc_new w0 (.cells #[.int .i64 t] 3)
  have b1 := (Below.refl w0.heap.size w0).alloc (Nat.le_refl _) (.cells #[.int .i64 t] 3)
  have z1 := size1 w0 (.cells #[.int .i64 t] 3)
  generalize w0.alloc (.cells #[.int .i64 t] 3) = w1 at *
  rw [z0] at k1 z1
  have hbx : w1.cell? ⟨w.heap.size + 1, 0, none⟩ = some (.int .i64 t) := by rw [cell_of_row _ _ _ _ _ (0, 0) k1]; rfl
  exact Pa.below (W := w1) ⟨hbx, heap_lt k1, (h1.below b0).below b1, (h2.below b0).below b1, (h3.below b0).below b1, (h2.below b0).below b1, (h3.below b0).below b1, b0.trans (b1.mono (by omega))⟩ (Drew.below ⟨r, rfl⟩ _)
/-- what is left three times, the program's own spans, the time, all else as it was -/
structure Pb (w : World) (g : Nat) (t : Int) (x y p q m : Option Addr) (A Y : List SpM) (P Q M : List StM) (W : World) : Prop where
  box : W.cell? ⟨g, 0, none⟩ = some (.int .i64 t)
  lt : g < W.heap.size
  x : SpSl W x A
  y : SpSl W y Y
  p : StSl W p P
  q : StSl W q Q
  m : StSl W m M
  frame : Below w.heap.size w W
theorem Pb.below {w W W' : World} {g : Nat} {t : Int} {x y p q m : Option Addr} {A Y : List SpM} {P Q M : List StM} (h : Pb w g t x y p q m A Y P Q M W) (r : Below W.heap.size W W') : Pb w g t x y p q m A Y P Q M W' :=
  ⟨(r.cell (p := ⟨g, 0, none⟩) h.lt).trans h.box, Nat.lt_of_lt_of_le h.lt r.size, h.x.below r, h.y.below r, h.p.below r, h.q.below r, h.m.below r, h.frame.trans (r.mono h.frame.size)⟩
theorem sum_is {l P Q M : List StM} {A B Y J : List SpM} (hp : IsCut l (HasL A) P) (hq : IsCut l (HasL Y) Q) (hm : IsCut l (HasL J) M) (hY : IsSet (fun x => HasL B x ∧ ¬ HasL A x) Y) (hJ : IsSet (fun x => HasL A x ∨ HasL Y x) J) (t : Int) :
    P.countP (atT t) + Q.countP (atT t) = M.countP (atT t) ∧ (M.countP (atT t) ≠ 0 → HasL A t ∨ HasL Y t) := by
  have h := parts_count hp hq hm (fun x h1 h2 => ((hY.2 x).1 h2).2 h1) (fun x => hJ.2 x) t
  exact ⟨h.1, fun hne => (hJ.2 t).1 (h.2 hne)⟩

set_option maxHeartbeats 8000000 in
theorem walk (w : World) (a : Option Addr) (c : Nat) (l : List StM) (hs : StSl w a l) (hf : FitsT l) (hc : l.length ≤ c) (hcm : c ≤ maxLen) (hn : a = none → c = 0) (b : Option Addr) (q : Nat) (A : List SpM) (hs' : SpSl w b A) (hf' : FitsS A) (hc' : A.length ≤ q) (hcm' : q ≤ maxLen) (hn' : b = none → q = 0) (d : Option Addr) (o : Nat) (B : List SpM) (hs2 : SpSl w d B) (hf2 : FitsS B) (hc2 : B.length ≤ o) (hcm2 : o ≤ maxLen) (hn2 : d = none → o = 0) (t : Int) (ht : (Lit.int .i64 t).wf = true) :
    Calls Try.prog 10 #[.slice a l.length c, .agg #[.slice b A.length q, .slice d B.length o], .int .i64 t] w fun e w' => e = .returned (.bool true) ∧ Below w.heap.size w w' := by
  have HAL := Lib.hid alive8_any
  have S0 := Lib.hid (Pa.lay t (.cells #[.slice b A.length q, .slice d B.length o] 76) hs hs' hs2)
  by_cases h1 : 20 < l.length
  · have hd1 : decide ((20 : Int) < (l.length : Int)) = true := decide_eq_true (by omega)
    clear hs hs' hc hcm hc' hcm' hs2 hc2 hcm2
    go_enter Try.func10, Try.ntmps10
    go_wp2
    go_quiet (fail)
    go_wp2_with fail
    refine (HAL.out _).mono ?_
    rintro e w1 ⟨rfl, hB⟩
    go_wp2
    go_ret
    exact ⟨rfl, (S0.out _).frame.trans (hB.mono (S0.out _).frame.size)⟩
  have hd1 : decide ((20 : Int) < (l.length : Int)) = false := decide_eq_false (by omega)
  by_cases h2 : 20 < A.length
  · have hd2 : decide ((20 : Int) < (A.length : Int)) = true := decide_eq_true (by omega)
    clear hs hs' hc hcm hc' hcm' hs2 hc2 hcm2
    go_enter Try.func10, Try.ntmps10
    go_wp2
    go_quiet (fail)
    go_wp2_with fail
    refine (HAL.out _).mono ?_
    rintro e w1 ⟨rfl, hB⟩
    go_wp2
    go_ret
    exact ⟨rfl, (S0.out _).frame.trans (hB.mono (S0.out _).frame.size)⟩
  have hd2 : decide ((20 : Int) < (A.length : Int)) = false := decide_eq_false (by omega)
  by_cases h3 : 20 < B.length
  · have hd3 : decide ((20 : Int) < (B.length : Int)) = true := decide_eq_true (by omega)
    clear hs hs' hc hcm hc' hcm' hs2 hc2 hcm2
    go_enter Try.func10, Try.ntmps10
    go_wp2
    go_quiet (fail)
    go_wp2_with fail
    refine (HAL.out _).mono ?_
    rintro e w1 ⟨rfl, hB⟩
    go_wp2
    go_ret
    exact ⟨rfl, (S0.out _).frame.trans (hB.mono (S0.out _).frame.size)⟩
  have hd3 : decide ((20 : Int) < (B.length : Int)) = false := decide_eq_false (by omega)
  have HL1 := Lib.hid (show l.length ≤ 20 by omega)
  have HL2 := Lib.hid (show A.length ≤ 20 by omega)
  have HL3 := Lib.hid (show B.length ≤ 20 by omega)
  have HNB := Lib.hid (fun W (h : SpSl W b A) => c_news b q A W h (by omega))
  have HND := Lib.hid (fun W (h : SpSl W d B) => c_news d o B W h (by omega))
  have HNL := Lib.hid (fun W (h : StSl W a l) => s_news a c l W h (by omega))
  have HLE := Lib.hid (fun x p y q W (h : SpSl W x B) (k : SpSl W y A) h1 h2 h3 h4 => n_less x p y q B A W h k h1 h2 h3 h4 (by omega) (by omega) hf2 hf')
  have HC1 := Lib.hid (fun x p y q W h1 h2 h3 h4 => s_cut 20 20 x p l y q A W h1 h2 (by omega) (by omega) h3 h4 (by decide))
  have HC2 := Lib.hid (fun r x p y q W hm h1 h2 h3 h4 => s_cut 20 61 x p l y q r W h1 h2 (by omega) hm h3 h4 (by decide))
  have HJN := Lib.hid n_join
  have HCT := Lib.hid (fun x q m W h1 h2 h3 h4 => count_any x q m (w.heap.size + 1) t W h1 h2 h3 h4)
  have HHS := Lib.hid (fun x q r W (h : SpSl W x r) hl => lhas_any x q r t W h hl)
  clear hs hs' hf hf' hc hcm hn hc' hcm' hn' h1 h2 h3 hs2 hf2 hc2 hcm2 hn2 ht
  go_enter Try.func10, Try.ntmps10
  go_wp2
  go_quiet (fail)
  go_wp2_with fail
  generalize w.heap.size + 1 = g at *
  refine (HNB.out _ (S0.out _).b).mono ?_
  rintro e w1 ⟨x, p, rfl, hp1, hp2, hp3, hx, hB1⟩
  have S1 : Hid (Pa w g t a b d x x l A B A A w1) := ⟨((S0.out _).below hB1).box, ((S0.out _).below hB1).lt, ((S0.out _).below hB1).a, ((S0.out _).below hB1).b, ((S0.out _).below hB1).d, hx, hx, ((S0.out _).below hB1).frame⟩
  have P1 := Lib.hid hp1
  have P2 := Lib.hid hp2
  have P3 := Lib.hid hp3
  clear S0 hp1 hp2 hp3 hx hB1
  go_wp2_with fail
  refine (HND.out _ S1.out.d).mono ?_
  rintro e w2 ⟨x2, p2, rfl, hp1, hp2, -, z2, hB1⟩
  have S2 := Lib.hid (S1.out.below hB1)
  have P4 := Lib.hid hp1
  have P5 := Lib.hid hp2
  clear S1 hp1 hp2 hB1
  go_wp2_with fail
  refine (HNB.out _ S2.out.b).mono ?_
  rintro e w3 ⟨x3, p3, rfl, hp1, hp2, -, z3, hB1⟩
  have S3 := Lib.hid (S2.out.below hB1)
  have P6 := Lib.hid hp1
  have P7 := Lib.hid hp2
  replace z2 := z2.below hB1
  clear S2 hp1 hp2 hB1 HNB HND
  go_wp2_with fail
  refine (HLE.out x2 p2 x3 p3 _ z2 z3 P4.out P6.out P5.out P7.out).mono ?_
  rintro e w4 ⟨y, p4, Y, rfl, hY, hYl, hp1, hp2, hp3, hy, hB1⟩
  have S4 : Hid (Pa w g t a b d x y l A B A Y w4) := ⟨(S3.out.below hB1).box, (S3.out.below hB1).lt, (S3.out.below hB1).a, (S3.out.below hB1).b, (S3.out.below hB1).d, (S3.out.below hB1).x, hy, (S3.out.below hB1).frame⟩
  have HY := Lib.hid hY
  have HYL := Lib.hid (show Y.length ≤ 41 by have := HL2.out; have := HL3.out; omega)
  have Q1 := Lib.hid hp1
  have Q2 := Lib.hid hp2
  have Q3 := Lib.hid hp3
  clear S3 hY hYl hp1 hp2 hp3 hy hB1 z2 z3 P4 P5 P6 P7 HLE
  go_wp2_with fail
  refine (HNL.out _ S4.out.a).mono ?_
  rintro e w5 ⟨x5, q5, rfl, -, -, -, z5, h5⟩
  have S5 := Lib.hid (S4.out.below h5)
  clear S4 h5
  go_wp2_with fail
  refine (HC1.out x5 q5 x p _ z5 S5.out.x P1.out P2.out).mono ?_
  rintro e w6 ⟨x6, q6, m1, rfl, hm1, hl1, z6, h6⟩
  have S6 := Lib.hid (S5.out.below h6)
  clear S5 h6
  have M1 := Lib.hid hm1
  have M1L := Lib.hid (show m1.length ≤ 400 by omega)
  clear z5 hm1 hl1 HC1
  go_wp2_with fail
  refine (HNL.out _ S6.out.a).mono ?_
  rintro e w7 ⟨x7, q7, rfl, -, -, -, z7, h7⟩
  have S7 := Lib.hid (S6.out.below h7)
  replace z6 := z6.below h7
  clear S6 h7
  go_wp2_with fail
  refine (HC2.out Y x7 q7 y p4 _ (by have := HYL.out; omega) z7 S7.out.y Q1.out Q2.out).mono ?_
  rintro e w8 ⟨x8, q8, m2, rfl, hm2, hl2, z8, h8⟩
  have S8 := Lib.hid (S7.out.below h8)
  replace z6 := z6.below h8
  clear S7 h8
  have M2 := Lib.hid hm2
  have M2L := Lib.hid (show m2.length ≤ 1220 by omega)
  clear z7 hm2 hl2
  go_wp2_with fail
  refine (HNL.out _ S8.out.a).mono ?_
  rintro e w9 ⟨x9, q9, rfl, -, -, -, z9, h9⟩
  have S9 := Lib.hid (S8.out.below h9)
  replace z6 := z6.below h9
  replace z8 := z8.below h9
  clear S8 h9
  go_wp2_with fail
  refine (HJN.out x y p p4 _ A Y _ rfl S9.out.x S9.out.y P3.out Q3.out (by have := HL2.out; omega) (by have := HYL.out; omega) _).mono ?_
  rintro e w10 ⟨x10, q10, J, rfl, hJ, hJl, hj1, hj2, -, z10, h10⟩
  have S10 := Lib.hid (S9.out.below h10)
  replace z6 := z6.below h10
  replace z8 := z8.below h10
  replace z9 := z9.below h10
  clear S9 h10
  have HJ := Lib.hid hJ
  have HJL := Lib.hid (show J.length ≤ 61 by have := HL2.out; have := HYL.out; omega)
  have J1 := Lib.hid hj1
  have J2 := Lib.hid hj2
  clear hJ hJl hj1 hj2
  go_wp2_with fail
  refine (HC2.out J x9 q9 x10 q10 _ HJL.out z9 z10 J1.out J2.out).mono ?_
  rintro e w11 ⟨x11, q11, m3, rfl, hm3, hl3, z11, h11⟩
  have S11 := Lib.hid (S10.out.below h11)
  replace z6 := z6.below h11
  replace z8 := z8.below h11
  clear S10 h11
  have M3 := Lib.hid hm3
  have M3L := Lib.hid (show m3.length ≤ 1220 by omega)
  have hsm := sum_is M1.out M2.out hm3 HY.out HJ.out t
  have T0 : Hid (Pb w g t x y x6 x8 x11 A Y m1 m2 m3 w11) := ⟨S11.out.box, S11.out.lt, S11.out.x, S11.out.y, z6, z8, z11, S11.out.frame⟩
  have HC1 : Hid (∃ i1 i2 i3 : Int, IntKind.i64.wrap (i1 + i2) = i3 ∧ (i3 ≠ 0 → HasL A t ∨ HasL Y t) ∧
      (∀ W, Pb w g t x y x6 x8 x11 A Y m1 m2 m3 W → Calls Try.prog 47 #[.slice x6 m1.length q6, .pointer (some ⟨g, 0, none⟩)] W fun e w' => e = .returned (.int .i64 i1) ∧ Below W.heap.size W w') ∧
      (∀ W, Pb w g t x y x6 x8 x11 A Y m1 m2 m3 W → Calls Try.prog 47 #[.slice x8 m2.length q8, .pointer (some ⟨g, 0, none⟩)] W fun e w' => e = .returned (.int .i64 i2) ∧ Below W.heap.size W w') ∧
      (∀ W, Pb w g t x y x6 x8 x11 A Y m1 m2 m3 W → Calls Try.prog 47 #[.slice x11 m3.length q11, .pointer (some ⟨g, 0, none⟩)] W fun e w' => e = .returned (.int .i64 i3) ∧ Below W.heap.size W w')) := by
    have e1 := Nat.le_trans (List.countP_le_length (p := atT t)) M1L.out
    have e2 := Nat.le_trans (List.countP_le_length (p := atT t)) M2L.out
    refine ⟨(m1.countP (atT t) : Nat), (m2.countP (atT t) : Nat), (m3.countP (atT t) : Nat), ?_, fun hne => hsm.2 (by omega), fun W h => HCT.out x6 q6 m1 W h.p h.box h.lt (by have := M1L.out; omega), fun W h => HCT.out x8 q8 m2 W h.q h.box h.lt (by have := M2L.out; omega), fun W h => HCT.out x11 q11 m3 W h.m h.box h.lt (by have := M3L.out; omega)⟩
    rw [IntWalk.i64_in] <;> omega
  obtain ⟨i1, i2, i3, hw1, hhas, hc1, hc2, hc3⟩ := HC1.out
  have HN1 := Lib.hid hc1
  have HN2 := Lib.hid hc2
  have HN3 := Lib.hid hc3
  have he3 : (i3 == i3) = true := beq_self_eq_true _
  have HBL : Hid (∀ W W', Pb w g t x y x6 x8 x11 A Y m1 m2 m3 W → Below W.heap.size W W' → Pb w g t x y x6 x8 x11 A Y m1 m2 m3 W') := fun W W' h r => h.below r
  have HAO : Hid (∀ W O, Pb w g t x y x6 x8 x11 A Y m1 m2 m3 W → Pb w g t x y x6 x8 x11 A Y m1 m2 m3 (W.alloc O)) := fun W O h => h.below ((Below.refl _ _).alloc (Nat.le_refl _) O)
  have HSC : Hid (∀ W, Pb w g t x y x6 x8 x11 A Y m1 m2 m3 W → W.cell? ⟨g, 0, none⟩ = some (.int .i64 t)) := fun W h => h.box
  have K0 := T0.out.below (Below.refl w11.heap.size w11).drew
  clear HC1 hc1 hc2 hc3 hsm M1 M2 M3 HJ T0 S11 z6 z8 z9 z10 z11 hm3 hl3 HCT HNL HC2 HY
  by_cases h0 : i3 = 0
  · have hz0 : (i3 == 0) = true := beq_iff_eq.2 h0
    clear hhas h0
    go_wp2_with fail
    refine wp_region_held_drew (S := (fun W => W.cell? ⟨g, 0, none⟩ = some (.int .i64 t))) (by kernel_rfl) ?_ (fun hHeld => ?_)
    · exact HSC.out _ K0
    refine wpAnyH_ready (rs := [0]) (by kernel_rfl) (by simp) ?_
    refine AllReadyH.cons (o := ⟨some 56, _, _, _, _, _⟩) rfl (fun K hK => ?_) AllReadyH.nil
    go_simp
    refine (HAL.out _).mono ?_
    rintro e v1 ⟨rfl, h1⟩
    have K1 := HBL.out _ _ K0 h1
    go_wp2_with fail
    refine hK.out _ _ ?_ (fun hH0 => ?_)
    · exact HSC.out _ K1
    clear hK K
    (try simp only [Act.put, List.setIfInBounds_toArray, List.set_cons_zero, List.set_cons_succ])
    refine wpAnyH_take (i := 1) (oi := ⟨some 57, _, _, _, _, _⟩) (v := ?_) rfl (by kernel_rfl) (by kernel_rfl) (by kernel_rfl) (fun _ _ _ h => h) (Or.inl ⟨by rfl, ?_⟩) (by assumption) ?_
    rotate_left
    · (intro wS hSw; (try dsimp only at hSw); (go_simp) <;> (with_reducible rfl))
    (try simp only [Act.put, List.setIfInBounds_toArray, List.set_cons_zero, List.set_cons_succ])
    refine wpAnyH_take (i := 2) (oi := ⟨some 58, _, _, _, _, _⟩) (v := ?_) rfl (by kernel_rfl) (by kernel_rfl) (by kernel_rfl) (fun _ _ _ h => h) (Or.inl ⟨by rfl, ?_⟩) (by assumption) ?_
    rotate_left
    · (intro wS hSw; (try dsimp only at hSw); (go_simp) <;> (with_reducible rfl))
    (try simp only [Act.put, List.setIfInBounds_toArray, List.set_cons_zero, List.set_cons_succ])
    refine wpAnyH_take (i := 3) (oi := ⟨some 59, _, _, _, _, _⟩) (v := ?_) rfl (by kernel_rfl) (by kernel_rfl) (by kernel_rfl) (fun _ _ _ h => h) (Or.inl ⟨by rfl, ?_⟩) (by assumption) ?_
    rotate_left
    · (intro wS hSw; (try dsimp only at hSw); (go_simp) <;> (with_reducible rfl))
    (try simp only [Act.put, List.setIfInBounds_toArray, List.set_cons_zero, List.set_cons_succ])
    refine wpAnyH_take (i := 5) (oi := ⟨some 61, _, _, _, _, _⟩) (v := ?_) rfl (by kernel_rfl) (by kernel_rfl) (by kernel_rfl) (fun _ _ _ h => h) (Or.inl ⟨by rfl, ?_⟩) (by assumption) ?_
    rotate_left
    · (intro wS hSw; (try dsimp only at hSw); (go_simp) <;> (with_reducible rfl))
    (try simp only [Act.put, List.setIfInBounds_toArray, List.set_cons_zero, List.set_cons_succ])
    refine wpAnyH_take (i := 6) (oi := ⟨some 62, _, _, _, _, _⟩) (v := ?_) rfl (by kernel_rfl) (by kernel_rfl) (by kernel_rfl) (fun _ _ _ h => h) (Or.inl ⟨by rfl, ?_⟩) (by assumption) ?_
    rotate_left
    · (intro wS hSw; (try dsimp only at hSw); (go_simp) <;> (with_reducible rfl))
    (try simp only [Act.put, List.setIfInBounds_toArray, List.set_cons_zero, List.set_cons_succ])
    refine wpAnyH_take (i := 9) (oi := ⟨some 65, _, _, _, _, _⟩) (v := ?_) rfl (by kernel_rfl) (by kernel_rfl) (by kernel_rfl) (fun _ _ _ h => h) (Or.inl ⟨by rfl, ?_⟩) (by assumption) ?_
    rotate_left
    · (intro wS hSw; (try dsimp only at hSw); (go_simp) <;> (with_reducible rfl))
    (try simp only [Act.put, List.setIfInBounds_toArray, List.set_cons_zero, List.set_cons_succ])
    refine wpAnyH_take (i := 10) (oi := ⟨some 66, _, _, _, _, _⟩) (v := ?_) rfl (by kernel_rfl) (by kernel_rfl) (by kernel_rfl) (fun _ _ _ h => h) (Or.inl ⟨by rfl, ?_⟩) (by assumption) ?_
    rotate_left
    · (intro wS hSw; (try dsimp only at hSw); (go_simp) <;> (with_reducible rfl))
    (try simp only [Act.put, List.setIfInBounds_toArray, List.set_cons_zero, List.set_cons_succ])
    refine wpAnyH_ready (rs := [4]) (by kernel_rfl) (by simp) ?_
    refine AllReadyH.cons (o := ⟨some 60, _, _, _, _, _⟩) rfl (fun K hK => ?_) AllReadyH.nil
    go_simp
    refine (HN1.out _ K1).mono ?_
    rintro e v2 ⟨rfl, h2⟩
    have K2 := HBL.out _ _ K1 h2
    go_wp2_with fail
    refine hK.out _ _ ?_ (fun hH4 => ?_)
    · exact HSC.out _ K2
    clear hK K
    (try simp only [Act.put, List.setIfInBounds_toArray, List.set_cons_zero, List.set_cons_succ])
    refine wpAnyH_ready (rs := [7]) (by kernel_rfl) (by simp) ?_
    refine AllReadyH.cons (o := ⟨some 63, _, _, _, _, _⟩) rfl (fun K hK => ?_) AllReadyH.nil
    go_simp
    refine (HN2.out _ K2).mono ?_
    rintro e v3 ⟨rfl, h3⟩
    have K3 := HBL.out _ _ K2 h3
    go_wp2_with fail
    refine hK.out _ _ ?_ (fun hH7 => ?_)
    · exact HSC.out _ K3
    clear hK K
    (try simp only [Act.put, List.setIfInBounds_toArray, List.set_cons_zero, List.set_cons_succ])
    refine wpAnyH_take (i := 8) (oi := ⟨some 64, _, _, _, _, _⟩) (v := ?_) rfl (by kernel_rfl) (by kernel_rfl) (by kernel_rfl) (fun _ _ _ h => h) (Or.inl ⟨by rfl, ?_⟩) (by assumption) ?_
    rotate_left
    · (intro wS hSw; (try dsimp only at hSw); (go_simp) <;> (with_reducible rfl))
    (try simp only [Act.put, List.setIfInBounds_toArray, List.set_cons_zero, List.set_cons_succ])
    refine wpAnyH_ready (rs := [11]) (by kernel_rfl) (by simp) ?_
    refine AllReadyH.cons (o := ⟨some 67, _, _, _, _, _⟩) rfl (fun K hK => ?_) AllReadyH.nil
    go_simp
    refine (HN3.out _ K3).mono ?_
    rintro e v4 ⟨rfl, h4⟩
    have K4 := HBL.out _ _ K3 h4
    go_wp2_with fail
    refine hK.out _ _ ?_ (fun hH11 => ?_)
    · exact HSC.out _ K4
    clear hK K
    (try simp only [Act.put, List.setIfInBounds_toArray, List.set_cons_zero, List.set_cons_succ])
    refine wpAnyH_take (i := 12) (oi := ⟨some 68, _, _, _, _, _⟩) (v := ?_) rfl (by kernel_rfl) (by kernel_rfl) (by kernel_rfl) (fun _ _ _ h => h) (Or.inl ⟨by rfl, ?_⟩) (by assumption) ?_
    rotate_left
    · (intro wS hSw; (try dsimp only at hSw); (go_simp) <;> (with_reducible rfl))
    (try simp only [Act.put, List.setIfInBounds_toArray, List.set_cons_zero, List.set_cons_succ])
    refine wpAnyH_take (i := 13) (oi := ⟨some 69, _, _, _, _, _⟩) (v := ?_) rfl (by kernel_rfl) (by kernel_rfl) (by kernel_rfl) (fun _ _ _ h => h) (Or.inl ⟨by rfl, ?_⟩) (by assumption) ?_
    rotate_left
    · (intro wS hSw; (try dsimp only at hSw); (go_simp) <;> (with_reducible rfl))
    (try simp only [Act.put, List.setIfInBounds_toArray, List.set_cons_zero, List.set_cons_succ])
    refine wpAnyH_take (i := 14) (oi := ⟨some 70, _, _, _, _, _⟩) (v := ?_) rfl (by kernel_rfl) (by kernel_rfl) (by kernel_rfl) (fun _ _ _ h => h) (Or.inl ⟨by rfl, ?_⟩) (by assumption) ?_
    rotate_left
    · (intro wS hSw; (try dsimp only at hSw); (go_simp) <;> (with_reducible rfl))
    (try simp only [Act.put, List.setIfInBounds_toArray, List.set_cons_zero, List.set_cons_succ])
    refine wpAnyH_take (i := 15) (oi := ⟨some 71, _, _, _, _, _⟩) (v := ?_) rfl (by kernel_rfl) (by kernel_rfl) (by kernel_rfl) (fun _ _ _ h => h) (Or.inl ⟨by rfl, ?_⟩) (by assumption) ?_
    rotate_left
    · (intro wS hSw; (try dsimp only at hSw); (go_simp) <;> (with_reducible rfl))
    (try simp only [Act.put, List.setIfInBounds_toArray, List.set_cons_zero, List.set_cons_succ])
    refine wpAnyH_take (i := 16) (oi := ⟨some 72, _, _, _, _, _⟩) (v := ?_) rfl (by kernel_rfl) (by kernel_rfl) (by kernel_rfl) (fun _ _ _ h => h) (Or.inl ⟨by rfl, ?_⟩) (by assumption) ?_
    rotate_left
    · (intro wS hSw; (try dsimp only at hSw); (go_simp) <;> (with_reducible rfl))
    (try simp only [Act.put, List.setIfInBounds_toArray, List.set_cons_zero, List.set_cons_succ])
    refine wpAnyH_ready (rs := [17]) (by kernel_rfl) (by simp) ?_
    refine AllReadyH.cons (o := ⟨some 73, _, _, _, _, _⟩) rfl (fun K hK => ?_) AllReadyH.nil
    go_simp
    refine (HN3.out _ K4).mono ?_
    rintro e v5 ⟨rfl, h5⟩
    have K5 := HBL.out _ _ K4 h5
    go_wp2_with fail
    refine hK.out _ _ ?_ (fun hH17 => ?_)
    · exact HSC.out _ K5
    clear hK K
    (try simp only [Act.put, List.setIfInBounds_toArray, List.set_cons_zero, List.set_cons_succ])
    refine wpAnyH_take (i := 18) (oi := ⟨some 74, _, _, _, _, _⟩) (v := ?_) rfl (by kernel_rfl) (by kernel_rfl) (by kernel_rfl) (fun _ _ _ h => h) (Or.inl ⟨by rfl, ?_⟩) (by assumption) ?_
    rotate_left
    · (intro wS hSw; (try dsimp only at hSw); (go_simp) <;> (with_reducible rfl))
    (try simp only [Act.put, List.setIfInBounds_toArray, List.set_cons_zero, List.set_cons_succ])
    refine wpAnyH_take (i := 19) (oi := ⟨some 75, _, _, _, _, _⟩) (v := ?_) rfl (by kernel_rfl) (by kernel_rfl) (by kernel_rfl) (fun _ _ _ h => h) (Or.inl ⟨by rfl, ?_⟩) (by assumption) ?_
    rotate_left
    · (intro wS hSw; (try dsimp only at hSw); (go_simp) <;> (with_reducible rfl))
    (try simp only [Act.put, List.setIfInBounds_toArray, List.set_cons_zero, List.set_cons_succ])
    refine wpAnyH_take (i := 20) (oi := ⟨some 76, _, _, _, _, _⟩) (v := undef) rfl (by kernel_rfl) (by kernel_rfl) (by kernel_rfl) (fun _ _ _ h => h) (Or.inr ⟨by rfl, rfl⟩) (by assumption) ?_
    (try simp only [Act.put, List.setIfInBounds_toArray, List.set_cons_zero, List.set_cons_succ])
    refine wpAnyH_take (i := 21) (oi := ⟨some 77, _, _, _, _, _⟩) (v := undef) rfl (by kernel_rfl) (by kernel_rfl) (by kernel_rfl) (fun _ _ _ h => h) (Or.inr ⟨by rfl, rfl⟩) (by assumption) ?_
    (try simp only [Act.put, List.setIfInBounds_toArray, List.set_cons_zero, List.set_cons_succ])
    refine wpAnyH_take (i := 22) (oi := ⟨some 78, _, _, _, _, _⟩) (v := undef) rfl (by kernel_rfl) (by kernel_rfl) (by kernel_rfl) (fun _ _ _ h => h) (Or.inr ⟨by rfl, rfl⟩) (by assumption) ?_
    (try simp only [Act.put, List.setIfInBounds_toArray, List.set_cons_zero, List.set_cons_succ])
    refine wpAnyH_take (i := 23) (oi := ⟨some 79, _, _, _, _, _⟩) (v := undef) rfl (by kernel_rfl) (by kernel_rfl) (by kernel_rfl) (fun _ _ _ h => h) (Or.inr ⟨by rfl, rfl⟩) (by assumption) ?_
    (try simp only [Act.put, List.setIfInBounds_toArray, List.set_cons_zero, List.set_cons_succ])
    refine wpAnyH_take (i := 24) (oi := ⟨some 80, _, _, _, _, _⟩) (v := undef) rfl (by kernel_rfl) (by kernel_rfl) (by kernel_rfl) (fun _ _ _ h => h) (Or.inr ⟨by rfl, rfl⟩) (by assumption) ?_
    (try simp only [Act.put, List.setIfInBounds_toArray, List.set_cons_zero, List.set_cons_succ])
    refine wpAnyH_take (i := 25) (oi := ⟨some 81, _, _, _, _, _⟩) (v := undef) rfl (by kernel_rfl) (by kernel_rfl) (by kernel_rfl) (fun _ _ _ h => h) (Or.inr ⟨by rfl, rfl⟩) (by assumption) ?_
    (try simp only [Act.put, List.setIfInBounds_toArray, List.set_cons_zero, List.set_cons_succ])
    refine wpAnyH_take (i := 26) (oi := ⟨some 82, _, _, _, _, _⟩) (v := ?_) rfl (by kernel_rfl) (by kernel_rfl) (by kernel_rfl) (fun _ _ _ h => h) (Or.inl ⟨by rfl, ?_⟩) (by assumption) ?_
    rotate_left
    · (intro wS hSw; (try dsimp only at hSw); (go_simp) <;> (with_reducible rfl))
    (try simp only [Act.put, List.setIfInBounds_toArray, List.set_cons_zero, List.set_cons_succ])
    refine wpAnyH_take (i := 27) (oi := ⟨some 83, _, _, _, _, _⟩) (v := ?_) rfl (by kernel_rfl) (by kernel_rfl) (by kernel_rfl) (fun _ _ _ h => h) (Or.inl ⟨by rfl, ?_⟩) (by assumption) ?_
    rotate_left
    · (intro wS hSw; (try dsimp only at hSw); (go_simp) <;> (with_reducible rfl))
    (try simp only [Act.put, List.setIfInBounds_toArray, List.set_cons_zero, List.set_cons_succ])
    refine wpAnyH_take (i := 28) (oi := ⟨some 6, _, _, _, _, _⟩) (v := ?_) rfl (by kernel_rfl) (by kernel_rfl) (by kernel_rfl) (fun _ _ _ h => h) (Or.inl ⟨by rfl, ?_⟩) (by assumption) ?_
    rotate_left
    · (intro wS hSw; (try dsimp only at hSw); (go_simp) <;> (with_reducible rfl))
    (try simp only [Act.put, List.setIfInBounds_toArray, List.set_cons_zero, List.set_cons_succ])
    refine wpAnyH_done (by kernel_rfl) ?_ _
    all_goals
      go_wp2
      go_ret
      exact ⟨rfl, K5.frame⟩
  · have hz0 : (i3 == 0) = false := beq_eq_false_iff_ne.2 h0
    have HHA := Lib.hid (hhas h0)
    clear hhas h0
    go_wp2_with fail

    go_region_held3 (fun W => W.cell? ⟨g, 0, none⟩ = some (.int .i64 t))
      (first | with_reducible exact HSC.out _ (HAO.out _ _ K5) | with_reducible exact HSC.out _ K7 | with_reducible exact HSC.out _ K6 | with_reducible exact HSC.out _ K5 | with_reducible exact HSC.out _ K4 | with_reducible exact HSC.out _ K3 | with_reducible exact HSC.out _ K2 | with_reducible exact HSC.out _ K1 | with_reducible exact HSC.out _ K0 | assumption)
      (first | (have hseen := K6; clear hseen; go_at_call 48; refine (HHS.out u6 r6 J6 _ y6 (by have := HL2.out; have := HYL.out; unfold maxLen; omega)).mono ?_; rintro e v7 ⟨hv6, h7⟩; have K7 := HBL.out _ _ K6 h7; rw [hh6] at hv6; subst hv6) | (have hseen := K5; clear hseen; go_at_call 20; refine (HJN.out x y p p4 _ A Y _ rfl K5.x K5.y P3.out Q3.out (by have := HL2.out; omega) (by have := HYL.out; omega) _).mono ?_; rintro e v6 ⟨u6, r6, J6, rfl, hJ6, jl6, -, -, -, y6, h6⟩; have K6 := HBL.out _ _ K5 h6; have hh6 := (hasB_iff J6 t).2 ((hJ6.2 t).2 HHA.out)) | (have hseen := K4; clear hseen; go_at_call 47; refine (HN3.out _ K4).mono ?_; rintro e v5 ⟨rfl, h5⟩; have K5 := HBL.out _ _ K4 h5) | (have hseen := K3; clear hseen; go_at_call 47; refine (HN3.out _ K3).mono ?_; rintro e v4 ⟨rfl, h4⟩; have K4 := HBL.out _ _ K3 h4) | (have hseen := K2; clear hseen; go_at_call 47; refine (HN2.out _ K2).mono ?_; rintro e v3 ⟨rfl, h3⟩; have K3 := HBL.out _ _ K2 h3) | (have hseen := K1; clear hseen; go_at_call 47; refine (HN1.out _ K1).mono ?_; rintro e v2 ⟨rfl, h2⟩; have K2 := HBL.out _ _ K1 h2) | (have hseen := K0; clear hseen; go_at_call 29; refine (HAL.out _).mono ?_; rintro e v1 ⟨rfl, h1⟩; have K1 := HBL.out _ _ K0 h1))

    go_wp2
    go_ret
    exact ⟨rfl, K7.frame⟩

set_option maxRecDepth 100000 in
theorem lifted (os : Os) (started : os.Started) (H : Type) (enc : TypeId × Value → H) :
    ReturnsInHanded {} Try.checked os 10 .any (Rows.histPartsSpec.pre6 enc Try.prog Try.f10 Rows.histPartsRow.domain false) (Rows.histPartsSpec.post enc Try.prog Try.f10 false true false false) := by
  refine returnsInHanded_of_change (C := Try.checked) own started (by kernel_rfl) Try.func10
    (ChangeSpec.witness6 (enc := enc) (C := Try.checked) false ⟨#[], #[.slice none 0 0, .agg #[.slice none 0 0, .slice none 0 0], .int .i64 0], []⟩ 8 (by kernel_rfl) (by kernel_rfl) (by kernel_rfl) (by kernel_rfl)) ?_
  intro W base args ds gs before hval0 hW hcnd _
  have hval : ∀ (j : Nat) t v, Try.f10.params[j]? = some t → args[j]? = some v → Value.okWide Try.prog W .any base t v := hval0
  have hW' := hW
  have hlt := hW.lt
  obtain ⟨p, q, hA0, hV, rfl, hfz, hnd⟩ := hW
  have hA : DataW.TrodAll enc Try.prog W 0 (fun _ => true) true Try.f10.params.toList args.toList ds p := hA0
  rw [Try.params10] at hA hval
  obtain ⟨v0, vs0, d0, ds0, p0, q0, hargs, rfl, rfl, h0, r0⟩ := trodAll_cons hA
  obtain ⟨v1, vs1, d1, ds1, p1, q1, rfl, rfl, rfl, h1, r1⟩ := trodAll_cons r0
  obtain ⟨v2, vs2, d2, ds2, p2, q2, rfl, rfl, rfl, h2, r2⟩ := trodAll_cons r1
  obtain ⟨rfl, rfl, rfl⟩ := trodAll_nil r2
  obtain rfl : args = #[v0, v1, v2] := by cases args; simp_all
  obtain ⟨a0, c0, l0, rfl, s0, f0, m0, n0, o0⟩ := open_stays (hval 0 49 v0 rfl rfl) h0
  obtain ⟨a1, b1, c1, q1, l1, k1, rfl, ⟨s1, f1, m1, n1, o1⟩, ⟨s1', f1', m1', n1', o1'⟩⟩ := open_spans2 (hval 1 76 v1 rfl rfl) h1
  obtain ⟨a2, rfl, -, -, w2⟩ := open_int Try.underlying3 (hval 2 3 v2 rfl rfl) h2
  refine (walk W a0 c0 l0 s0 f0 m0 n0 o0 a1 c1 l1 s1 f1 m1 n1 o1 b1 q1 k1 s1' f1' m1' n1' o1' a2 w2).mono fun e W' ⟨he, hb⟩ => ?_
  subst he
  exact ⟨_, rfl, law_post rfl hW' (fun ds h => by match ds, h with | [_, _, _], _ => rfl) (by kernel_rfl) (by kernel_rfl) (by kernel_rfl) hb⟩

theorem over : Rows.histPartsRow.holds Try.pinned (OpenSpec.ofChange Rows.histPartsSpec) :=
  OpenClaim.holds_of_wide 10 Try.f10 rfl rfl rfl rfl rfl rfl rfl ⟨rfl, rfl, rfl, rfl, rfl⟩ rfl rfl rfl rfl rfl (by kernel_rfl) Try.func10 (by kernel_rfl)
    (of_decide_eq_true (by kernel_rfl)) (by unfold Func.isWrapper; first | (rw [if_pos (by decide +kernel)]; kernel_rfl) | (rw [if_neg (by decide +kernel)]; exact ⟨rfl, rfl⟩))
    (fun os started H enc _ => lifted os started H enc)

theorem proved : Rows.HistPartsSaid := over
end Go.Proofs.Ytbcabbddgppkaaa.histParts
