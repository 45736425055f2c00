/- SpanMoves: spans that are all moved alike have times that are moved alike; for all rows and numbers. No condition. -/
import Derived.Test.YtbcabbddgppkaaaW20
namespace Go.Proofs.Ytbcabbddgppkaaa.spanMoves
open Go.ChangeShapes Go.WideShapes Go.ChangeAt Go.RowKit
open Go.ChangeMaps (open_string shut_string)
set_option linter.unusedVariables false
set_option maxRecDepth 100000

theorem has_move {A : List SpM} {k t : Int} : HasL (A.map (mvS k)) t ↔ HasL A (t - k) := by
  constructor
  · rintro ⟨s, hs, h1, h2⟩
    obtain ⟨u, hu, rfl⟩ := List.mem_map.1 hs
    exact ⟨u, hu, by have : u.f + k ≤ t := h1; omega, by have : t < u.t + k := h2; omega⟩
  · rintro ⟨s, hs, h1, h2⟩
    exact ⟨mvS k s, List.mem_map.2 ⟨s, hs, rfl⟩, by show s.f + k ≤ t; omega, by show t < s.t + k; omega⟩
theorem norm_move {k : Int} : ∀ {r : List SpM}, NormL r → NormL (r.map (mvS k))
  | [], _ => NormL.nil
  | s :: r, h => by
    have ih := norm_move (k := k) h.tail
    refine ⟨⟨by show s.f + k ≤ s.t + k; have := h.1.1; omega, fun u hu => ?_, ih.1⟩, fun u hu => ?_⟩
    · obtain ⟨o, ho, rfl⟩ := List.mem_map.1 hu
      have := h.1.2.1 o ho
      show s.t + k < o.f + k
      omega
    · obtain ⟨o, ho, rfl⟩ := List.mem_map.1 hu
      have := h.2 o ho
      show o.f + k < o.t + k
      omega
theorem set_move {P : Int → Prop} {r : List SpM} (k : Int) (h : IsSet P r) : IsSet (fun t => P (t - k)) (r.map (mvS k)) :=
  ⟨norm_move h.1, fun t => has_move.trans (h.2 _)⟩
theorem in_has {A : List SpM} (h : AllIn A) {x : Int} (hx : HasL A x) : -2199023255552 ≤ x ∧ x < 2199023255552 := by
  obtain ⟨s, hs, h1, h2⟩ := hx
  have := h s hs
  unfold InB at this
  omega
theorem set_in {P : Int → Prop} {r : List SpM} (h : IsSet P r) (hP : ∀ x, P x → -2199023255552 ≤ x ∧ x < 2199023255552) : AllIn r := fun s hs => by
  have h1 := isSet_fits h hP s hs
  have h2 := h.1.2 s hs
  unfold InB
  omega
theorem fits_move {A : List SpM} {k : Int} (h : AllIn A) (hk : -1073741824 ≤ k ∧ k ≤ 1073741824) : FitsS (A.map (mvS k)) := fun s hs => by
  obtain ⟨u, hu, rfl⟩ := List.mem_map.1 hs
  have := h u hu
  unfold InB at this
  show I64 (u.f + k) ∧ I64 (u.t + k)
  unfold I64
  omega
/-- the number in a block of its own, the rows that came in, all else as it was -/
structure Mv (w : World) (g : Nat) (k : Int) (a b : Option Addr) (l m : List SpM) (W : World) : Prop where
  box : W.cell? ⟨g, 0, none⟩ = some (.int .i64 k)
  lt : g < W.heap.size
  a : SpSl W a l
  b : SpSl W b m
  frame : Below w.heap.size w W
theorem Mv.below {w W W' : World} {g : Nat} {k : Int} {a b : Option Addr} {l m : List SpM} (h : Mv w g k a b l m W) (r : Below W.heap.size W W') : Mv w g k a b l m W' :=
  ⟨(r.cell (p := ⟨g, 0, none⟩) h.lt).trans h.box, Nat.lt_of_lt_of_le h.lt r.size, h.a.below r, h.b.below r, h.frame.trans (r.mono h.frame.size)⟩
theorem Mv.lay {w : World} (k : Int) {a b : Option Addr} {l m : List SpM} (h1 : SpSl w a l) (h2 : SpSl w b m) : Mv w w.heap.size k a b l m (w.alloc (.cells #[.int .i64 k] 3)) := by
  have k1 := heap_alloc_new w (.cells #[.int .i64 k] 3)
  have b1 := (Below.refl w.heap.size w).alloc (Nat.le_refl _) (.cells #[.int .i64 k] 3)
  have hbx : (w.alloc (.cells #[.int .i64 k] 3)).cell? ⟨w.heap.size, 0, none⟩ = some (.int .i64 k) := by rw [cell_of_row _ _ _ _ _ (0, 0) k1]; rfl
  exact ⟨hbx, heap_lt k1, h1.below b1, h2.below b1, b1⟩
theorem mv_yes (x : Option Addr) (c : Nat) (L : List SpM) (g : Nat) (k : Int) (W : World) (h : SpSl W x L) (hl : L.length ≤ 1000) (hg : W.cell? ⟨g, 0, none⟩ = some (.int .i64 k)) (hgl : g < W.heap.size) (hk : -1073741824 ≤ k ∧ k ≤ 1073741824) (hin : AllIn L) :
    Calls Try.prog 23 #[.slice x L.length c, .pointer (some ⟨g, 0, none⟩)] W fun e w' => ∃ y q M, e = .returned (.tuple #[.slice y M.length q, .bool true]) ∧ Hid (M = L.map (mvS k)) ∧ Hid (M.length = L.length) ∧ M.length ≤ q ∧ q ≤ maxLen ∧ SpSl w' y M ∧ Below W.heap.size W w' := by
  refine (move_any x c L g k W h hl hg hgl hk).mono ?_
  rintro e w' ⟨hb, ⟨hno, _⟩ | ⟨_, v, rfl, ho⟩⟩
  · exact absurd hin hno
  · have hlen : L.length = (L.map (mvS k)).length := (List.length_map _).symm
    rw [hlen] at ho
    obtain ⟨y, q, rfl, k1, k2, k3, k4⟩ := own_spm ho
    exact ⟨y, q, _, rfl, rfl, hlen.symm, k1, k2, k3, hb⟩
theorem mv_no (x : Option Addr) (c : Nat) (L : List SpM) (g : Nat) (k : Int) (W : World) (h : SpSl W x L) (hl : L.length ≤ 1000) (hg : W.cell? ⟨g, 0, none⟩ = some (.int .i64 k)) (hgl : g < W.heap.size) (hk : -1073741824 ≤ k ∧ k ≤ 1073741824) (hin : ¬ AllIn L) :
    Calls Try.prog 23 #[.slice x L.length c, .pointer (some ⟨g, 0, none⟩)] W fun e w' => e = .returned (.tuple #[.slice none 0 0, .bool false]) ∧ Below W.heap.size W w' := by
  refine (move_any x c L g k W h hl hg hgl hk).mono ?_
  rintro e w' ⟨hb, ⟨_, rfl⟩ | ⟨hyes, _⟩⟩
  · exact ⟨rfl, hb⟩
  · exact absurd hyes hin
theorem mv_any (x : Option Addr) (c : Nat) (L : List SpM) (g : Nat) (k : Int) (W : World) (h : SpSl W x L) (hl : L.length ≤ 1000) (hg : W.cell? ⟨g, 0, none⟩ = some (.int .i64 k)) (hgl : g < W.heap.size) (hk : -1073741824 ≤ k ∧ k ≤ 1073741824) :
    Calls Try.prog 23 #[.slice x L.length c, .pointer (some ⟨g, 0, none⟩)] W fun e w' => ∃ v b, e = .returned (.tuple #[v, .bool b]) ∧ Below W.heap.size W w' := by
  refine (move_any x c L g k W h hl hg hgl hk).mono ?_
  rintro e w' ⟨hb, ⟨_, rfl⟩ | ⟨_, v, rfl, _⟩⟩
  · exact ⟨_, _, rfl, hb⟩
  · exact ⟨_, _, rfl, hb⟩
theorem q_rnorm (xa : Option Addr) (ca : Nat) (A : List SpM) (W : World) (ha : SpSl W xa A) (hl : A.length ≤ 100) :
    Calls Try.prog 21 #[.slice xa A.length ca] W fun e w' => ∃ x q r, e = .returned (.slice x r.length q) ∧ IsSet (HasL A) r ∧ r.length ≤ 1000 ∧ SpSl w' x r ∧ Below W.heap.size W w' := by
  refine (refNorm_any xa ca A W ha (by omega)).mono ?_
  rintro e w' ⟨v, r', rfl, hs, hl', ho, hb⟩
  obtain ⟨x, q, rfl, k1, k3⟩ := own_sp ho
  exact ⟨x, q, r', rfl, hs, by omega, k3, hb⟩
theorem q_rmeet (xa : Option Addr) (ca : Nat) (xb : Option Addr) (cb : Nat) (A B : List SpM) (W : World) (ha : SpSl W xa A) (hb : SpSl W xb B) (na : xa = none → ca = 0) (nb : xb = none → cb = 0) (hl : A.length ≤ 100) (hl2 : B.length ≤ 100) :
    Calls Try.prog 24 #[.slice xa A.length ca, .slice xb B.length cb] W fun e w' => ∃ x q r, e = .returned (.slice x r.length q) ∧ IsSet (fun t => HasL A t ∧ HasL B t) r ∧ r.length ≤ 1000 ∧ SpSl w' x r ∧ Below W.heap.size W w' := by
  refine (refMeet_any xa ca xb cb A B W ha hb na nb (by omega)).mono ?_
  rintro e w' ⟨v, r', rfl, hs, hl', ho, hb⟩
  obtain ⟨x, q, rfl, k1, k3⟩ := own_sp ho
  exact ⟨x, q, r', rfl, hs, by omega, k3, hb⟩
theorem q_rless (xa : Option Addr) (ca : Nat) (xb : Option Addr) (cb : Nat) (A B : List SpM) (W : World) (ha : SpSl W xa A) (hb : SpSl W xb B) (na : xa = none → ca = 0) (nb : xb = none → cb = 0) (hl : A.length ≤ 100) (hl2 : B.length ≤ 100) :
    Calls Try.prog 25 #[.slice xa A.length ca, .slice xb B.length cb] W fun e w' => ∃ x q r, e = .returned (.slice x r.length q) ∧ IsSet (fun t => HasL A t ∧ ¬ HasL B t) r ∧ r.length ≤ 1000 ∧ SpSl w' x r ∧ Below W.heap.size W w' := by
  refine (refLess_any xa ca xb cb A B W ha hb na nb (by omega)).mono ?_
  rintro e w' ⟨v, r', rfl, hs, hl', ho, hb⟩
  obtain ⟨x, q, rfl, k1, k3⟩ := own_sp ho
  exact ⟨x, q, r', rfl, hs, by omega, k3, hb⟩

set_option maxHeartbeats 2000000 in
theorem walk (w : World) (a : Option Addr) (c : Nat) (l : List SpM) (hs : SpSl w a l) (hf : FitsS l) (hc : l.length ≤ c) (hcm : c ≤ maxLen) (hn : a = none → c = 0) (b : Option Addr) (d : Nat) (m : List SpM) (hs' : SpSl w b m) (hf' : FitsS m) (hd : m.length ≤ d) (hdm : d ≤ maxLen) (hn' : b = none → d = 0) (k : Int) (hk : (Lit.int .i64 k).wf = true) :
    Calls Try.prog 5 #[.slice a l.length c, .slice b m.length d, .int .i64 k] w fun e w' => e = .returned (.bool true) ∧ Below w.heap.size w w' := by
  have HAL := Lib.hid alive_any
  have S0 := Lib.hid (Mv.lay k hs hs')
  clear hs hs' hf hf' hc hcm hd hdm hk
  by_cases h1 : 30 < l.length
  · have hd1 : decide ((30 : Int) < (l.length : Int)) = true := decide_eq_true (by omega)
    go_enter Try.func5, Try.ntmps5
    go_wp2_with fail
    refine (HAL.out _).mono ?_
    rintro e w1 ⟨rfl, hB⟩
    go_wp2
    go_ret
    exact ⟨rfl, S0.out.frame.trans (hB.mono S0.out.frame.size)⟩
  have hd1 : decide ((30 : Int) < (l.length : Int)) = false := decide_eq_false (by omega)
  by_cases h2 : 30 < m.length
  · have hd2 : decide ((30 : Int) < (m.length : Int)) = true := decide_eq_true (by omega)
    go_enter Try.func5, Try.ntmps5
    go_wp2_with fail
    refine (HAL.out _).mono ?_
    rintro e w1 ⟨rfl, hB⟩
    go_wp2
    go_ret
    exact ⟨rfl, S0.out.frame.trans (hB.mono S0.out.frame.size)⟩
  have hd2 : decide ((30 : Int) < (m.length : Int)) = false := decide_eq_false (by omega)
  by_cases h3 : (1073741824 : Int) < k
  · have hd3 : decide ((1073741824 : Int) < k) = true := decide_eq_true h3
    go_enter Try.func5, Try.ntmps5
    go_wp2_with fail
    refine (HAL.out _).mono ?_
    rintro e w1 ⟨rfl, hB⟩
    go_wp2
    go_ret
    exact ⟨rfl, S0.out.frame.trans (hB.mono S0.out.frame.size)⟩
  have hd3 : decide ((1073741824 : Int) < k) = false := decide_eq_false h3
  by_cases h4 : k < (-1073741824 : Int)
  · have hd4 : decide (k < (-1073741824 : Int)) = true := decide_eq_true h4
    go_enter Try.func5, Try.ntmps5
    go_wp2_with fail
    refine (HAL.out _).mono ?_
    rintro e w1 ⟨rfl, hB⟩
    go_wp2
    go_ret
    exact ⟨rfl, S0.out.frame.trans (hB.mono S0.out.frame.size)⟩
  have hd4 : decide (k < (-1073741824 : Int)) = false := decide_eq_false h4
  have hkk : -1073741824 ≤ k ∧ k ≤ 1073741824 := by omega
  have HL1 := Lib.hid (show l.length ≤ 30 by omega)
  have HL2 := Lib.hid (show m.length ≤ 30 by omega)
  have HY := Lib.hid (fun x q L W h hl (hm : ∃ l m, Mv w w.heap.size k a b l m W) hin => hm.elim fun _ hm => hm.elim fun _ hm => mv_yes x q L w.heap.size k W h hl hm.box hm.lt hkk hin)
  have HN := Lib.hid (fun x q L W h hl (hm : ∃ l m, Mv w w.heap.size k a b l m W) hin => hm.elim fun _ hm => hm.elim fun _ hm => mv_no x q L w.heap.size k W h hl hm.box hm.lt hkk hin)
  have HG := Lib.hid (fun x q L W h hl (hm : ∃ l m, Mv w w.heap.size k a b l m W) => hm.elim fun _ hm => hm.elim fun _ hm => mv_any x q L w.heap.size k W h hl hm.box hm.lt hkk)
  have HRN := Lib.hid (fun W (h : SpSl W a l) => q_rnorm a c l W h (by omega))
  have HRM := Lib.hid (fun W (h : SpSl W a l) (h' : SpSl W b m) => q_rmeet a c b d l m W h h' hn hn' (by omega) (by omega))
  have HRL := Lib.hid (fun W (h : SpSl W a l) (h' : SpSl W b m) => q_rless a c b d l m W h h' hn hn' (by omega) (by omega))
  have HFM := Lib.hid (fun A (h : AllIn A) => fits_move (k := k) h hkk)
  have HK := Lib.hid hkk
  clear h1 h2 h3 h4 hkk hn hn'
  have hbx := S0.out.box
  by_cases i1 : AllIn l
  · have I1 := Lib.hid i1
    by_cases i2 : AllIn m
    · have I2 := Lib.hid i2
      clear i1 i2 HN HG
      go_enter Try.func5, Try.ntmps5
      go_wp2_with fail
      refine (HY.out a c l _ S0.out.a (by have := HL1.out; omega) ⟨_, _, S0.out⟩ I1.out).mono ?_
      rintro e w1 ⟨x, p, M1, rfl, HM1, HT1, hp1, hp2, zx, h1⟩
      have S1 := Lib.hid (S0.out.below h1)
      have P1 := Lib.hid hp1
      have P2 := Lib.hid hp2
      clear S0 hbx h1 hp1 hp2
      go_wp2_with fail
      refine (HY.out b d m _ S1.out.b (by have := HL2.out; omega) ⟨_, _, S1.out⟩ I2.out).mono ?_
      rintro e w2 ⟨y, q, M2, rfl, HM2, HT2, hp1, hp2, zy, h1⟩
      have S2 := Lib.hid (S1.out.below h1)
      replace zx := zx.below h1
      have Q1 := Lib.hid hp1
      have Q2 := Lib.hid hp2
      clear S1 h1 hp1 hp2
      go_wp2_with fail
      refine (HRN.out _ S2.out.a).mono ?_
      rintro e w3 ⟨x3, q3, n, rfl, hn3, ln3, z3, h3⟩
      have S3 := Lib.hid (S2.out.below h3)
      replace zx := zx.below h3
      replace zy := zy.below h3
      clear S2 h3
      have N3 := Lib.hid hn3
      have LN3 := Lib.hid ln3
      clear hn3 ln3 HRN
      go_wp2_with fail
      refine (HY.out x3 q3 n _ z3 LN3.out ⟨_, _, S3.out⟩ (set_in N3.out (fun t h => in_has I1.out h))).mono ?_
      rintro e w4 ⟨x4, q4, M4, rfl, HM4, HT4, -, -, z4, h4⟩
      have S4 := Lib.hid (S3.out.below h4)
      replace zx := zx.below h4
      replace zy := zy.below h4
      clear S3 h4
      clear z3
      go_wp2_with fail
      refine (HRM.out _ S4.out.a S4.out.b).mono ?_
      rintro e w5 ⟨x5, q5, u, rfl, hn3, ln3, z5, h5⟩
      have S5 := Lib.hid (S4.out.below h5)
      replace zx := zx.below h5
      replace zy := zy.below h5
      replace z4 := z4.below h5
      clear S4 h5
      have N5 := Lib.hid hn3
      have LN5 := Lib.hid ln3
      clear hn3 ln3 HRM
      go_wp2_with fail
      refine (HY.out x5 q5 u _ z5 LN5.out ⟨_, _, S5.out⟩ (set_in N5.out (fun t h => in_has I1.out h.1))).mono ?_
      rintro e w6 ⟨x6, q6, M6, rfl, HM6, HT6, -, -, z6, h6⟩
      have S6 := Lib.hid (S5.out.below h6)
      replace zx := zx.below h6
      replace zy := zy.below h6
      replace z4 := z4.below h6
      clear S5 h6
      clear z5
      go_wp2_with fail
      refine (HRL.out _ S6.out.a S6.out.b).mono ?_
      rintro e w7 ⟨x7, q7, v, rfl, hn3, ln3, z7, h7⟩
      have S7 := Lib.hid (S6.out.below h7)
      replace zx := zx.below h7
      replace zy := zy.below h7
      replace z4 := z4.below h7
      replace z6 := z6.below h7
      clear S6 h7
      have N7 := Lib.hid hn3
      have LN7 := Lib.hid ln3
      clear hn3 ln3 HRL
      go_wp2_with fail
      refine (HY.out x7 q7 v _ z7 LN7.out ⟨_, _, S7.out⟩ (set_in N7.out (fun t h => in_has I1.out h.1))).mono ?_
      rintro e w8 ⟨x8, q8, M8, rfl, HM8, HT8, -, -, z8, h8⟩
      have S8 := Lib.hid (S7.out.below h8)
      replace zx := zx.below h8
      replace zy := zy.below h8
      replace z4 := z4.below h8
      replace z6 := z6.below h8
      clear S7 h8
      clear z7
      go_wp2_with fail
      refine (HAL.out _).mono ?_
      rintro e w9 ⟨rfl, h9⟩
      have S9 := Lib.hid (S8.out.below h9)
      replace zx := zx.below h9
      replace zy := zy.below h9
      replace z4 := z4.below h9
      replace z6 := z6.below h9
      replace z8 := z8.below h9
      clear S8 h9
      go_wp2_with fail
      refine (n_norm x p M1 _ zx P1.out P2.out (by have := HL1.out; have := HT1.out; omega)).mono ?_
      rintro e w10 ⟨x10, q10, r1, rfl, hr1, -, -, -, -, z10, h10⟩
      have S10 := Lib.hid (S9.out.below h10)
      replace zx := zx.below h10
      replace zy := zy.below h10
      replace z4 := z4.below h10
      replace z6 := z6.below h10
      replace z8 := z8.below h10
      clear S9 h10
      obtain rfl : r1 = M4 := by
        have h := hr1
        rw [HM1.out] at h
        rw [HM4.out]
        exact (h.congr (fun t => has_move)).only (set_move k N3.out)
      clear hr1
      go_wp2_with fail
      refine (c_same x10 x4 q10 q4 r1 _ z10 z4 (by have := LN3.out; have := HT4.out; omega)).mono ?_
      rintro e w11 ⟨rfl, h11⟩
      have S11 := Lib.hid (S10.out.below h11)
      replace zx := zx.below h11
      replace zy := zy.below h11
      replace z6 := z6.below h11
      replace z8 := z8.below h11
      clear S10 h11
      clear z10 z4
      go_wp2_with fail
      refine (n_meet x p y q M1 M2 _ zx zy P1.out Q1.out P2.out Q2.out (by have := HL1.out; have := HT1.out; omega) (by have := HL2.out; have := HT2.out; omega)).mono ?_
      rintro e w12 ⟨x12, q12, r2, rfl, hr2, -, -, -, -, z12, h12⟩
      have S12 := Lib.hid (S11.out.below h12)
      replace zx := zx.below h12
      replace zy := zy.below h12
      replace z6 := z6.below h12
      replace z8 := z8.below h12
      clear S11 h12
      obtain rfl : r2 = M6 := by
        have h := hr2
        rw [HM1.out, HM2.out] at h
        rw [HM6.out]
        exact (h.congr (fun t => and_congr has_move has_move)).only (set_move k N5.out)
      clear hr2
      go_wp2_with fail
      refine (c_same x12 x6 q12 q6 r2 _ z12 z6 (by have := LN5.out; have := HT6.out; omega)).mono ?_
      rintro e w13 ⟨rfl, h13⟩
      have S13 := Lib.hid (S12.out.below h13)
      replace zx := zx.below h13
      replace zy := zy.below h13
      replace z8 := z8.below h13
      clear S12 h13
      clear z12 z6
      go_wp2_with fail
      refine (n_less x p y q M1 M2 _ zx zy P1.out Q1.out P2.out Q2.out (by have := HL1.out; have := HT1.out; omega) (by have := HL2.out; have := HT2.out; omega) (by rw [HM1.out]; exact HFM.out l I1.out) (by rw [HM2.out]; exact HFM.out m I2.out)).mono ?_
      rintro e w14 ⟨x14, q14, r3, rfl, hr3, -, -, -, -, z14, h14⟩
      have S14 := Lib.hid (S13.out.below h14)
      replace zx := zx.below h14
      replace zy := zy.below h14
      replace z8 := z8.below h14
      clear S13 h14
      obtain rfl : r3 = M8 := by
        have h := hr3
        rw [HM1.out, HM2.out] at h
        rw [HM8.out]
        exact (h.congr (fun t => and_congr has_move (not_congr has_move))).only (set_move k N7.out)
      clear hr3
      go_wp2_with fail
      refine (c_same x14 x8 q14 q8 r3 _ z14 z8 (by have := LN7.out; have := HT8.out; omega)).mono ?_
      rintro e w15 ⟨rfl, h15⟩
      have S15 := Lib.hid (S14.out.below h15)
      clear S14 h15
      go_wp2
      go_ret
      exact ⟨rfl, S15.out.frame⟩
    · clear HG HRN HRM HRL HFM i1
      go_enter Try.func5, Try.ntmps5
      go_wp2_with fail
      refine (HY.out a c l _ S0.out.a (by have := HL1.out; omega) ⟨_, _, S0.out⟩ I1.out).mono ?_
      rintro e w1 ⟨x, p, M1, rfl, -, -, -, -, zx, h1⟩
      have S1 := Lib.hid (S0.out.below h1)
      clear S0 hbx h1 zx
      go_wp2_with fail
      refine (HN.out b d m _ S1.out.b (by have := HL2.out; omega) ⟨_, _, S1.out⟩ i2).mono ?_
      rintro e w2 ⟨rfl, h1⟩
      have S2 := Lib.hid (S1.out.below h1)
      clear S1 h1
      go_wp2_with fail
      refine (HAL.out _).mono ?_
      rintro e w3 ⟨rfl, hB⟩
      go_wp2
      go_ret
      exact ⟨rfl, S2.out.frame.trans (hB.mono S2.out.frame.size)⟩
  · clear HY HRN HRM HRL HFM
    go_enter Try.func5, Try.ntmps5
    go_wp2_with fail
    refine (HN.out a c l _ S0.out.a (by have := HL1.out; omega) ⟨_, _, S0.out⟩ i1).mono ?_
    rintro e w1 ⟨rfl, h1⟩
    have S1 := Lib.hid (S0.out.below h1)
    clear S0 hbx h1
    go_wp2_with fail
    refine (HG.out b d m _ S1.out.b (by have := HL2.out; omega) ⟨_, _, S1.out⟩).mono ?_
    rintro e w2 ⟨v, b2, rfl, h1⟩
    have S2 := Lib.hid (S1.out.below h1)
    clear S1 h1
    go_wp2_with fail
    refine (HAL.out _).mono ?_
    rintro e w3 ⟨rfl, hB⟩
    go_wp2
    go_ret
    exact ⟨rfl, S2.out.frame.trans (hB.mono S2.out.frame.size)⟩

set_option maxRecDepth 100000 in
theorem lifted (os : Os) (started : os.Started) (H : Type) (enc : TypeId × Value → H) :
    ReturnsInHanded {} Try.checked os 5 .any (Rows.spanMovesSpec.pre6 enc Try.prog Try.f5 Rows.spanMovesRow.domain false) (Rows.spanMovesSpec.post enc Try.prog Try.f5 false true false false) := by
  refine returnsInHanded_of_change (C := Try.checked) own started (by kernel_rfl) Try.func5
    (ChangeSpec.witness6 (enc := enc) (C := Try.checked) false ⟨#[], #[.slice none 0 0, .slice none 0 0, .int .i64 0], []⟩ 8 (by kernel_rfl) (by kernel_rfl) (by kernel_rfl) (by kernel_rfl)) ?_
  intro W base args ds gs before hval0 hW hcnd _
  have hval : ∀ (j : Nat) t v, Try.f5.params[j]? = some t → args[j]? = some v → Value.okWide Try.prog W .any base t v := hval0
  have hW' := hW
  have hlt := hW.lt
  obtain ⟨p, q, hA0, hV, rfl, hfz, hnd⟩ := hW
  have hA : DataW.TrodAll enc Try.prog W 0 (fun _ => true) true Try.f5.params.toList args.toList ds p := hA0
  rw [Try.params5] at hA hval
  obtain ⟨v0, vs0, d0, ds0, p0, q0, hargs, rfl, rfl, h0, r0⟩ := trodAll_cons hA
  obtain ⟨v1, vs1, d1, ds1, p1, q1, rfl, rfl, rfl, h1, r1⟩ := trodAll_cons r0
  obtain ⟨v2, vs2, d2, ds2, p2, q2, rfl, rfl, rfl, h2, r2⟩ := trodAll_cons r1
  obtain ⟨rfl, rfl, rfl⟩ := trodAll_nil r2
  obtain rfl : args = #[v0, v1, v2] := by cases args; simp_all
  obtain ⟨a0, c0, l0, rfl, s0, f0, m0, n0, o0⟩ := open_spans (hval 0 30 v0 rfl rfl) h0
  obtain ⟨a1, c1, l1, rfl, s1, f1, m1, n1, o1⟩ := open_spans (hval 1 30 v1 rfl rfl) h1
  obtain ⟨a2, rfl, -, -, w2⟩ := open_int Try.underlying3 (hval 2 3 v2 rfl rfl) h2
  refine (walk W a0 c0 l0 s0 f0 m0 n0 o0 a1 c1 l1 s1 f1 m1 n1 o1 a2 w2).mono fun e W' ⟨he, hb⟩ => ?_
  subst he
  exact ⟨_, rfl, law_post rfl hW' (fun ds h => by match ds, h with | [_, _, _], _ => rfl) (by kernel_rfl) (by kernel_rfl) (by kernel_rfl) hb⟩

theorem over : Rows.spanMovesRow.holds Try.pinned (OpenSpec.ofChange Rows.spanMovesSpec) :=
  OpenClaim.holds_of_wide 5 Try.f5 rfl rfl rfl rfl rfl rfl rfl ⟨rfl, rfl, rfl, rfl, rfl⟩ rfl rfl rfl rfl rfl (by kernel_rfl) Try.func5 (by kernel_rfl)
    (of_decide_eq_true (by kernel_rfl)) (by unfold Func.isWrapper; first | (rw [if_pos (by decide +kernel)]; kernel_rfl) | (rw [if_neg (by decide +kernel)]; exact ⟨rfl, rfl⟩))
    (fun os started H enc _ => lifted os started H enc)

theorem proved : Rows.SpanMovesSaid := over
end Go.Proofs.Ytbcabbddgppkaaa.spanMoves
