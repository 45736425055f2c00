/- HistOrders: how two stays compare, and which rows rise, is what the document says; for all stays and rows. No condition. -/
import Derived.Test.YtbcabbddgppkaaaZ21
namespace Go.Proofs.Ytbcabbddgppkaaa.histOrders
open Go.ChangeShapes Go.WideShapes Go.ChangeAt Go.RowKit
open Go.ChangeMaps (open_string shut_string)
set_option linter.unusedVariables false
set_option maxRecDepth 100000

/-- both stays, the row that came in, all else as it was -/
structure Od (w : World) (p q : Nat) (s o : StM) (a : Option Addr) (l : List StM) (W : World) : Prop where
  s : W.heap[p]? = some (.cells #[.int .i64 s.f, .int .i64 s.t, .int .i64 s.n, .int .i64 s.s] 47 (0, 0))
  o : W.heap[q]? = some (.cells #[.int .i64 o.f, .int .i64 o.t, .int .i64 o.n, .int .i64 o.s] 47 (0, 0))
  a : StSl W a l
  frame : Below w.heap.size w W
theorem Od.below {w W W' : World} {p q : Nat} {s o : StM} {a : Option Addr} {l : List StM} (h : Od w p q s o a l W) (r : Below W.heap.size W W') : Od w p q s o a l W' :=
  ⟨(r.block _ (heap_lt h.s)).trans h.s, (r.block _ (heap_lt h.o)).trans h.o, h.a.below r, h.frame.trans (r.mono h.frame.size)⟩
theorem Od.cells {w W : World} {p q : Nat} {s o : StM} {a : Option Addr} {l : List StM} (h : Od w p q s o a l W) : W.cell? ⟨p, 0, none⟩ = some (.int .i64 s.f) ∧ W.cell? ⟨p, 1, none⟩ = some (.int .i64 s.t) ∧ W.cell? ⟨p, 2, none⟩ = some (.int .i64 s.n) ∧ W.cell? ⟨p, 3, none⟩ = some (.int .i64 s.s) ∧ W.cell? ⟨q, 0, none⟩ = some (.int .i64 o.f) ∧ W.cell? ⟨q, 1, none⟩ = some (.int .i64 o.t) ∧ W.cell? ⟨q, 2, none⟩ = some (.int .i64 o.n) ∧ W.cell? ⟨q, 3, none⟩ = some (.int .i64 o.s) := by
  obtain ⟨a0, a1, a2, a3⟩ := cells4 h.s
  obtain ⟨b0, b1, b2, b3⟩ := cells4 h.o
  exact ⟨a0, a1, a2, a3, b0, b1, b2, b3⟩
/-- two stays laid one behind the other, behind another block -/
theorem Od.lay {w : World} (s o : StM) {a : Option Addr} {l : List StM} (B : Obj) (h : StSl w a l) : Od w (w.heap.size + 1) (w.heap.size + 1 + 1) s o a l ((((w.alloc B).alloc (.cells #[.int .i64 s.f, .int .i64 s.t, .int .i64 s.n, .int .i64 s.s] 47)).alloc (.cells #[.int .i64 o.f, .int .i64 o.t, .int .i64 o.n, .int .i64 o.s] 47)).drew) := by
  have b0 := (Below.refl w.heap.size w).alloc (Nat.le_refl _) B
  have z0 := size1 w B
  generalize w.alloc B = w0 at *
  have h1 := heap_alloc_new w0 (.cells #[.int .i64 s.f, .int .i64 s.t, .int .i64 s.n, .int .i64 s.s] 47)
  have b1 := (Below.refl w0.heap.size w0).alloc (Nat.le_refl _) (.cells #[.int .i64 s.f, .int .i64 s.t, .int .i64 s.n, .int .i64 s.s] 47)
  have z1 := size1 w0 (.cells #[.int .i64 s.f, .int .i64 s.t, .int .i64 s.n, .int .i64 s.s] 47)
  generalize w0.alloc (.cells #[.int .i64 s.f, .int .i64 s.t, .int .i64 s.n, .int .i64 s.s] 47) = w1 at *
  have h2 := heap_alloc_new w1 (.cells #[.int .i64 o.f, .int .i64 o.t, .int .i64 o.n, .int .i64 o.s] 47)
  have b2 := (Below.refl w1.heap.size w1).alloc (Nat.le_refl _) (.cells #[.int .i64 o.f, .int .i64 o.t, .int .i64 o.n, .int .i64 o.s] 47)
  generalize w1.alloc (.cells #[.int .i64 o.f, .int .i64 o.t, .int .i64 o.n, .int .i64 o.s] 47) = w2 at *
  rw [z0] at h1 z1
  rw [z1] at h2
  exact Od.below (W := w2) ⟨(b2.block _ (heap_lt h1)).trans h1, h2, ((h.below b0).below b1).below b2, (b0.trans (b1.mono (by omega))).trans (b2.mono (by omega))⟩ (Below.refl _ _).drew
theorem Od.swap {w W : World} {p q : Nat} {s o : StM} {a : Option Addr} {l : List StM} (h : Od w p q s o a l W) : Od w q p o s a l W := ⟨h.o, h.s, h.a, h.frame⟩
theorem three_ways (s o : StM) : (ltSt s o ∧ ¬ ltSt o s ∧ cmpSt s o = -1 ∧ cmpSt o s = 1) ∨ (¬ ltSt s o ∧ ltSt o s ∧ cmpSt s o = 1 ∧ cmpSt o s = -1) ∨ (¬ ltSt s o ∧ ¬ ltSt o s ∧ cmpSt s o = 0 ∧ cmpSt o s = 0) := by
  unfold cmpSt
  by_cases h1 : ltSt s o
  · have h2 := ltSt_asymm h1
    simp [h1, h2]
  · by_cases h2 : ltSt o s
    · simp [h1, h2]
    · simp [h1, h2]

set_option maxHeartbeats 8000000 in
theorem walk (w : World) (s o : StM) (a : Option Addr) (c : Nat) (l : List StM) (hs : StSl w a l) (hf : FitsT l) (hc : l.length ≤ c) (hcm : c ≤ maxLen) (hn : a = none → c = 0) :
    Calls Try.prog 6 #[.agg #[.int .i64 s.f, .int .i64 s.t, .int .i64 s.n, .int .i64 s.s, .int .i64 o.f, .int .i64 o.t, .int .i64 o.n, .int .i64 o.s], .slice a l.length c] w fun e w' => e = .returned (.bool true) ∧ Below w.heap.size w w' := by
  have HAL := Lib.hid alive8_any
  have L1 := Lib.hid (fun B => Od.lay s o B hs)
  have L2 := Lib.hid (fun B => (Od.lay o s B hs).swap)
  have HNS := Lib.hid (fun W (h : StSl W a l) hl => s_news a c l W h hl)
  have HN1 := Lib.hid (s_new s)
  have HN2 := Lib.hid (s_new o)
  have HRG := Lib.hid (fun x q W (h : StSl W x l) hl => rising8_any x q l W h hl)
  have HRR := Lib.hid (fun W (h : StSl W a l) hl => refRising_any a c l W h hl)
  have HC1 := Lib.hid (s_cmp s o)
  have HC2 := Lib.hid (s_cmp o s)
  have HA1 := Lib.hid (s_ahead s o)
  have HA2 := Lib.hid (s_ahead o s)
  have HTW := three_ways s o
  unfold stV at *
  generalize decide (RiseS l) = rs at *
  have he3 : (rs == rs) = true := by cases rs <;> rfl
  clear hs hf hc hcm hn
  by_cases h1 : 60 < l.length
  · have hd1 : decide ((60 : Int) < (l.length : Int)) = true := decide_eq_true (by omega)
    clear he3 HTW
    go_enter Try.func6, Try.ntmps6
    go_wp2_with fail
    go_region
    all_goals
      go_wp2_with fail
      refine (HAL.out _).mono ?_
      rintro e w1 ⟨rfl, hB⟩
      go_wp2
      go_ret
      first | exact ⟨rfl, (L1.out _).frame.trans (hB.mono (L1.out _).frame.size)⟩ | exact ⟨rfl, (L2.out _).frame.trans (hB.mono (L2.out _).frame.size)⟩
  have hd1 : decide ((60 : Int) < (l.length : Int)) = false := decide_eq_false (by omega)
  have HHL := Lib.hid (show l.length ≤ 60 by omega)
  have hm0 : IntKind.i64.wrap 0 = 0 := by decide
  have hm1 : IntKind.i64.wrap 1 = 1 := by decide
  have hm2 : IntKind.i64.wrap (-1) = -1 := by decide
  clear h1
  have HBL : Hid (∀ p q W W', Od w p q s o a l W → Below W.heap.size W W' → Od w p q s o a l W') := fun p q W W' h r => h.below r
  rcases HTW with ⟨t1, t2, t3, t4⟩ | ⟨t1, t2, t3, t4⟩ | ⟨t1, t2, t3, t4⟩
  · rw [t3] at HC1
    rw [t4] at HC2
    rw [decide_eq_true t1] at HA1
    rw [decide_eq_false t2] at HA2
    clear t1 t2 t3 t4
    go_enter Try.func6, Try.ntmps6
    go_wp2_with fail
    go_region
    · have S0 := L1.out (.cells #[.int .i64 s.f, .int .i64 s.t, .int .i64 s.n, .int .i64 s.s, .int .i64 o.f, .int .i64 o.t, .int .i64 o.n, .int .i64 o.s] 48)
      clear L1 L2
      generalize World.drew _ = W0 at *
      generalize w.heap.size + 1 + 1 = u at *
      generalize w.heap.size + 1 = v at *
      have S1 := Lib.hid S0
      obtain ⟨a0, a1, a2, a3, b0, b1, b2, b3⟩ := S0.cells
      clear S0
      go_wp2_with fail
      refine (HA1.out _).mono ?_
      rintro e w1 ⟨rfl, hB⟩
      have S2 := Lib.hid (S1.out.below hB)
      clear S1 hB a0 a1 a2 a3 b0 b1 b2 b3 HA1
      obtain ⟨a0, a1, a2, a3, b0, b1, b2, b3⟩ := S2.out.cells
      go_wp2_with fail
      refine (HA2.out _).mono ?_
      rintro e w2 ⟨rfl, hB⟩
      have S3 := Lib.hid (S2.out.below hB)
      clear S2 hB a0 a1 a2 a3 b0 b1 b2 b3 HA2
      have K0 := S3.out.below (Below.refl w2.heap.size w2).drew
      have HBL := Lib.hid (HBL.out v u)
      have HSC : Hid (∀ W, Od w v u s o a l W → W.cell? ⟨v, 0, none⟩ = some (.int .i64 s.f) ∧ W.cell? ⟨v, 1, none⟩ = some (.int .i64 s.t) ∧ W.cell? ⟨v, 2, none⟩ = some (.int .i64 s.n) ∧ W.cell? ⟨v, 3, none⟩ = some (.int .i64 s.s) ∧ W.cell? ⟨u, 0, none⟩ = some (.int .i64 o.f) ∧ W.cell? ⟨u, 1, none⟩ = some (.int .i64 o.t) ∧ W.cell? ⟨u, 2, none⟩ = some (.int .i64 o.n) ∧ W.cell? ⟨u, 3, none⟩ = some (.int .i64 o.s)) := fun W h => h.cells
      go_wp2_with fail
      go_region_held3 (fun W => W.cell? ⟨v, 0, none⟩ = some (.int .i64 s.f) ∧ W.cell? ⟨v, 1, none⟩ = some (.int .i64 s.t) ∧ W.cell? ⟨v, 2, none⟩ = some (.int .i64 s.n) ∧ W.cell? ⟨v, 3, none⟩ = some (.int .i64 s.s) ∧ W.cell? ⟨u, 0, none⟩ = some (.int .i64 o.f) ∧ W.cell? ⟨u, 1, none⟩ = some (.int .i64 o.t) ∧ W.cell? ⟨u, 2, none⟩ = some (.int .i64 o.n) ∧ W.cell? ⟨u, 3, none⟩ = some (.int .i64 o.s))
        (first |  with_reducible exact HSC.out _ K10 | with_reducible exact HSC.out _ K9 | with_reducible exact HSC.out _ K8 | with_reducible exact HSC.out _ K7 | with_reducible exact HSC.out _ K6 | with_reducible exact HSC.out _ K5 | with_reducible exact HSC.out _ K4 | with_reducible exact HSC.out _ K3 | with_reducible exact HSC.out _ K2 | with_reducible exact HSC.out _ K1 | with_reducible exact HSC.out _ K0 | assumption)
        (first | (have hseen := K9; clear hseen; go_at_call 35; refine (HRR.out _ K9.a (by have := HHL.out; omega)).mono ?_; rintro e v10 ⟨rfl, h10⟩; have K10 := HBL.out _ _ K9 h10) | (have hseen := K8; clear hseen; go_at_call 33; refine (HRG.out x8 q8 _ z8 (by have := HHL.out; omega)).mono ?_; rintro e v9 ⟨rfl, h9⟩; have K9 := HBL.out _ _ K8 h9) | (have hseen := K7; clear hseen; go_at_call 34; refine (HNS.out _ K7.a (by have := HHL.out; omega)).mono ?_; rintro e v8 ⟨x8, q8, rfl, -, -, -, z8, h8⟩; have K8 := HBL.out _ _ K7 h8) | (have hseen := K6; clear hseen; go_at_call 32; refine (HC2.out _).mono ?_; rintro e v7 ⟨rfl, h7⟩; have K7 := HBL.out _ _ K6 h7) | (have hseen := K5; clear hseen; go_at_call 31; refine (HN1.out _).mono ?_; rintro e v6 ⟨rfl, h6⟩; have K6 := HBL.out _ _ K5 h6) | (have hseen := K4; clear hseen; go_at_call 31; refine (HN2.out _).mono ?_; rintro e v5 ⟨rfl, h5⟩; have K5 := HBL.out _ _ K4 h5) | (have hseen := K3; clear hseen; go_at_call 32; refine (HC1.out _).mono ?_; rintro e v4 ⟨rfl, h4⟩; have K4 := HBL.out _ _ K3 h4) | (have hseen := K2; clear hseen; go_at_call 31; refine (HN2.out _).mono ?_; rintro e v3 ⟨rfl, h3⟩; have K3 := HBL.out _ _ K2 h3) | (have hseen := K1; clear hseen; go_at_call 31; refine (HN1.out _).mono ?_; rintro e v2 ⟨rfl, h2⟩; have K2 := HBL.out _ _ K1 h2) | (have hseen := K0; clear hseen; go_at_call 29; refine (HAL.out _).mono ?_; rintro e v1 ⟨rfl, h1⟩; have K1 := HBL.out _ _ K0 h1))
      go_wp2
      go_ret
      exact ⟨rfl, K10.frame⟩
    · have S0 := L2.out (.cells #[.int .i64 s.f, .int .i64 s.t, .int .i64 s.n, .int .i64 s.s, .int .i64 o.f, .int .i64 o.t, .int .i64 o.n, .int .i64 o.s] 48)
      clear L1 L2
      generalize World.drew _ = W0 at *
      generalize w.heap.size + 1 + 1 = u at *
      generalize w.heap.size + 1 = v at *
      have S1 := Lib.hid S0
      obtain ⟨a0, a1, a2, a3, b0, b1, b2, b3⟩ := S0.cells
      clear S0
      go_wp2_with fail
      refine (HA1.out _).mono ?_
      rintro e w1 ⟨rfl, hB⟩
      have S2 := Lib.hid (S1.out.below hB)
      clear S1 hB a0 a1 a2 a3 b0 b1 b2 b3 HA1
      obtain ⟨a0, a1, a2, a3, b0, b1, b2, b3⟩ := S2.out.cells
      go_wp2_with fail
      refine (HA2.out _).mono ?_
      rintro e w2 ⟨rfl, hB⟩
      have S3 := Lib.hid (S2.out.below hB)
      clear S2 hB a0 a1 a2 a3 b0 b1 b2 b3 HA2
      have K0 := S3.out.below (Below.refl w2.heap.size w2).drew
      have HBL := Lib.hid (HBL.out u v)
      have HSC : Hid (∀ W, Od w u v s o a l W → W.cell? ⟨u, 0, none⟩ = some (.int .i64 s.f) ∧ W.cell? ⟨u, 1, none⟩ = some (.int .i64 s.t) ∧ W.cell? ⟨u, 2, none⟩ = some (.int .i64 s.n) ∧ W.cell? ⟨u, 3, none⟩ = some (.int .i64 s.s) ∧ W.cell? ⟨v, 0, none⟩ = some (.int .i64 o.f) ∧ W.cell? ⟨v, 1, none⟩ = some (.int .i64 o.t) ∧ W.cell? ⟨v, 2, none⟩ = some (.int .i64 o.n) ∧ W.cell? ⟨v, 3, none⟩ = some (.int .i64 o.s)) := fun W h => h.cells
      go_wp2_with fail
      go_region_held3 (fun W => W.cell? ⟨u, 0, none⟩ = some (.int .i64 s.f) ∧ W.cell? ⟨u, 1, none⟩ = some (.int .i64 s.t) ∧ W.cell? ⟨u, 2, none⟩ = some (.int .i64 s.n) ∧ W.cell? ⟨u, 3, none⟩ = some (.int .i64 s.s) ∧ W.cell? ⟨v, 0, none⟩ = some (.int .i64 o.f) ∧ W.cell? ⟨v, 1, none⟩ = some (.int .i64 o.t) ∧ W.cell? ⟨v, 2, none⟩ = some (.int .i64 o.n) ∧ W.cell? ⟨v, 3, none⟩ = some (.int .i64 o.s))
        (first |  with_reducible exact HSC.out _ K10 | with_reducible exact HSC.out _ K9 | with_reducible exact HSC.out _ K8 | with_reducible exact HSC.out _ K7 | with_reducible exact HSC.out _ K6 | with_reducible exact HSC.out _ K5 | with_reducible exact HSC.out _ K4 | with_reducible exact HSC.out _ K3 | with_reducible exact HSC.out _ K2 | with_reducible exact HSC.out _ K1 | with_reducible exact HSC.out _ K0 | assumption)
        (first | (have hseen := K9; clear hseen; go_at_call 35; refine (HRR.out _ K9.a (by have := HHL.out; omega)).mono ?_; rintro e v10 ⟨rfl, h10⟩; have K10 := HBL.out _ _ K9 h10) | (have hseen := K8; clear hseen; go_at_call 33; refine (HRG.out x8 q8 _ z8 (by have := HHL.out; omega)).mono ?_; rintro e v9 ⟨rfl, h9⟩; have K9 := HBL.out _ _ K8 h9) | (have hseen := K7; clear hseen; go_at_call 34; refine (HNS.out _ K7.a (by have := HHL.out; omega)).mono ?_; rintro e v8 ⟨x8, q8, rfl, -, -, -, z8, h8⟩; have K8 := HBL.out _ _ K7 h8) | (have hseen := K6; clear hseen; go_at_call 32; refine (HC2.out _).mono ?_; rintro e v7 ⟨rfl, h7⟩; have K7 := HBL.out _ _ K6 h7) | (have hseen := K5; clear hseen; go_at_call 31; refine (HN1.out _).mono ?_; rintro e v6 ⟨rfl, h6⟩; have K6 := HBL.out _ _ K5 h6) | (have hseen := K4; clear hseen; go_at_call 31; refine (HN2.out _).mono ?_; rintro e v5 ⟨rfl, h5⟩; have K5 := HBL.out _ _ K4 h5) | (have hseen := K3; clear hseen; go_at_call 32; refine (HC1.out _).mono ?_; rintro e v4 ⟨rfl, h4⟩; have K4 := HBL.out _ _ K3 h4) | (have hseen := K2; clear hseen; go_at_call 31; refine (HN2.out _).mono ?_; rintro e v3 ⟨rfl, h3⟩; have K3 := HBL.out _ _ K2 h3) | (have hseen := K1; clear hseen; go_at_call 31; refine (HN1.out _).mono ?_; rintro e v2 ⟨rfl, h2⟩; have K2 := HBL.out _ _ K1 h2) | (have hseen := K0; clear hseen; go_at_call 29; refine (HAL.out _).mono ?_; rintro e v1 ⟨rfl, h1⟩; have K1 := HBL.out _ _ K0 h1))
      go_wp2
      go_ret
      exact ⟨rfl, K10.frame⟩
  · rw [t3] at HC1
    rw [t4] at HC2
    rw [decide_eq_false t1] at HA1
    rw [decide_eq_true t2] at HA2
    clear t1 t2 t3 t4
    go_enter Try.func6, Try.ntmps6
    go_wp2_with fail
    go_region
    · have S0 := L1.out (.cells #[.int .i64 s.f, .int .i64 s.t, .int .i64 s.n, .int .i64 s.s, .int .i64 o.f, .int .i64 o.t, .int .i64 o.n, .int .i64 o.s] 48)
      clear L1 L2
      generalize World.drew _ = W0 at *
      generalize w.heap.size + 1 + 1 = u at *
      generalize w.heap.size + 1 = v at *
      have S1 := Lib.hid S0
      obtain ⟨a0, a1, a2, a3, b0, b1, b2, b3⟩ := S0.cells
      clear S0
      go_wp2_with fail
      refine (HA1.out _).mono ?_
      rintro e w1 ⟨rfl, hB⟩
      have S2 := Lib.hid (S1.out.below hB)
      clear S1 hB a0 a1 a2 a3 b0 b1 b2 b3 HA1
      obtain ⟨a0, a1, a2, a3, b0, b1, b2, b3⟩ := S2.out.cells
      go_wp2_with fail
      refine (HA2.out _).mono ?_
      rintro e w2 ⟨rfl, hB⟩
      have S3 := Lib.hid (S2.out.below hB)
      clear S2 hB a0 a1 a2 a3 b0 b1 b2 b3 HA2
      have K0 := S3.out.below (Below.refl w2.heap.size w2).drew
      have HBL := Lib.hid (HBL.out v u)
      have HSC : Hid (∀ W, Od w v u s o a l W → W.cell? ⟨v, 0, none⟩ = some (.int .i64 s.f) ∧ W.cell? ⟨v, 1, none⟩ = some (.int .i64 s.t) ∧ W.cell? ⟨v, 2, none⟩ = some (.int .i64 s.n) ∧ W.cell? ⟨v, 3, none⟩ = some (.int .i64 s.s) ∧ W.cell? ⟨u, 0, none⟩ = some (.int .i64 o.f) ∧ W.cell? ⟨u, 1, none⟩ = some (.int .i64 o.t) ∧ W.cell? ⟨u, 2, none⟩ = some (.int .i64 o.n) ∧ W.cell? ⟨u, 3, none⟩ = some (.int .i64 o.s)) := fun W h => h.cells
      go_wp2_with fail
      go_region_held3 (fun W => W.cell? ⟨v, 0, none⟩ = some (.int .i64 s.f) ∧ W.cell? ⟨v, 1, none⟩ = some (.int .i64 s.t) ∧ W.cell? ⟨v, 2, none⟩ = some (.int .i64 s.n) ∧ W.cell? ⟨v, 3, none⟩ = some (.int .i64 s.s) ∧ W.cell? ⟨u, 0, none⟩ = some (.int .i64 o.f) ∧ W.cell? ⟨u, 1, none⟩ = some (.int .i64 o.t) ∧ W.cell? ⟨u, 2, none⟩ = some (.int .i64 o.n) ∧ W.cell? ⟨u, 3, none⟩ = some (.int .i64 o.s))
        (first |  with_reducible exact HSC.out _ K10 | with_reducible exact HSC.out _ K9 | with_reducible exact HSC.out _ K8 | with_reducible exact HSC.out _ K7 | with_reducible exact HSC.out _ K6 | with_reducible exact HSC.out _ K5 | with_reducible exact HSC.out _ K4 | with_reducible exact HSC.out _ K3 | with_reducible exact HSC.out _ K2 | with_reducible exact HSC.out _ K1 | with_reducible exact HSC.out _ K0 | assumption)
        (first | (have hseen := K9; clear hseen; go_at_call 35; refine (HRR.out _ K9.a (by have := HHL.out; omega)).mono ?_; rintro e v10 ⟨rfl, h10⟩; have K10 := HBL.out _ _ K9 h10) | (have hseen := K8; clear hseen; go_at_call 33; refine (HRG.out x8 q8 _ z8 (by have := HHL.out; omega)).mono ?_; rintro e v9 ⟨rfl, h9⟩; have K9 := HBL.out _ _ K8 h9) | (have hseen := K7; clear hseen; go_at_call 34; refine (HNS.out _ K7.a (by have := HHL.out; omega)).mono ?_; rintro e v8 ⟨x8, q8, rfl, -, -, -, z8, h8⟩; have K8 := HBL.out _ _ K7 h8) | (have hseen := K6; clear hseen; go_at_call 32; refine (HC2.out _).mono ?_; rintro e v7 ⟨rfl, h7⟩; have K7 := HBL.out _ _ K6 h7) | (have hseen := K5; clear hseen; go_at_call 31; refine (HN1.out _).mono ?_; rintro e v6 ⟨rfl, h6⟩; have K6 := HBL.out _ _ K5 h6) | (have hseen := K4; clear hseen; go_at_call 31; refine (HN2.out _).mono ?_; rintro e v5 ⟨rfl, h5⟩; have K5 := HBL.out _ _ K4 h5) | (have hseen := K3; clear hseen; go_at_call 32; refine (HC1.out _).mono ?_; rintro e v4 ⟨rfl, h4⟩; have K4 := HBL.out _ _ K3 h4) | (have hseen := K2; clear hseen; go_at_call 31; refine (HN2.out _).mono ?_; rintro e v3 ⟨rfl, h3⟩; have K3 := HBL.out _ _ K2 h3) | (have hseen := K1; clear hseen; go_at_call 31; refine (HN1.out _).mono ?_; rintro e v2 ⟨rfl, h2⟩; have K2 := HBL.out _ _ K1 h2) | (have hseen := K0; clear hseen; go_at_call 29; refine (HAL.out _).mono ?_; rintro e v1 ⟨rfl, h1⟩; have K1 := HBL.out _ _ K0 h1))
      go_wp2
      go_ret
      exact ⟨rfl, K10.frame⟩
    · have S0 := L2.out (.cells #[.int .i64 s.f, .int .i64 s.t, .int .i64 s.n, .int .i64 s.s, .int .i64 o.f, .int .i64 o.t, .int .i64 o.n, .int .i64 o.s] 48)
      clear L1 L2
      generalize World.drew _ = W0 at *
      generalize w.heap.size + 1 + 1 = u at *
      generalize w.heap.size + 1 = v at *
      have S1 := Lib.hid S0
      obtain ⟨a0, a1, a2, a3, b0, b1, b2, b3⟩ := S0.cells
      clear S0
      go_wp2_with fail
      refine (HA1.out _).mono ?_
      rintro e w1 ⟨rfl, hB⟩
      have S2 := Lib.hid (S1.out.below hB)
      clear S1 hB a0 a1 a2 a3 b0 b1 b2 b3 HA1
      obtain ⟨a0, a1, a2, a3, b0, b1, b2, b3⟩ := S2.out.cells
      go_wp2_with fail
      refine (HA2.out _).mono ?_
      rintro e w2 ⟨rfl, hB⟩
      have S3 := Lib.hid (S2.out.below hB)
      clear S2 hB a0 a1 a2 a3 b0 b1 b2 b3 HA2
      have K0 := S3.out.below (Below.refl w2.heap.size w2).drew
      have HBL := Lib.hid (HBL.out u v)
      have HSC : Hid (∀ W, Od w u v s o a l W → W.cell? ⟨u, 0, none⟩ = some (.int .i64 s.f) ∧ W.cell? ⟨u, 1, none⟩ = some (.int .i64 s.t) ∧ W.cell? ⟨u, 2, none⟩ = some (.int .i64 s.n) ∧ W.cell? ⟨u, 3, none⟩ = some (.int .i64 s.s) ∧ W.cell? ⟨v, 0, none⟩ = some (.int .i64 o.f) ∧ W.cell? ⟨v, 1, none⟩ = some (.int .i64 o.t) ∧ W.cell? ⟨v, 2, none⟩ = some (.int .i64 o.n) ∧ W.cell? ⟨v, 3, none⟩ = some (.int .i64 o.s)) := fun W h => h.cells
      go_wp2_with fail
      go_region_held3 (fun W => W.cell? ⟨u, 0, none⟩ = some (.int .i64 s.f) ∧ W.cell? ⟨u, 1, none⟩ = some (.int .i64 s.t) ∧ W.cell? ⟨u, 2, none⟩ = some (.int .i64 s.n) ∧ W.cell? ⟨u, 3, none⟩ = some (.int .i64 s.s) ∧ W.cell? ⟨v, 0, none⟩ = some (.int .i64 o.f) ∧ W.cell? ⟨v, 1, none⟩ = some (.int .i64 o.t) ∧ W.cell? ⟨v, 2, none⟩ = some (.int .i64 o.n) ∧ W.cell? ⟨v, 3, none⟩ = some (.int .i64 o.s))
        (first |  with_reducible exact HSC.out _ K10 | with_reducible exact HSC.out _ K9 | with_reducible exact HSC.out _ K8 | with_reducible exact HSC.out _ K7 | with_reducible exact HSC.out _ K6 | with_reducible exact HSC.out _ K5 | with_reducible exact HSC.out _ K4 | with_reducible exact HSC.out _ K3 | with_reducible exact HSC.out _ K2 | with_reducible exact HSC.out _ K1 | with_reducible exact HSC.out _ K0 | assumption)
        (first | (have hseen := K9; clear hseen; go_at_call 35; refine (HRR.out _ K9.a (by have := HHL.out; omega)).mono ?_; rintro e v10 ⟨rfl, h10⟩; have K10 := HBL.out _ _ K9 h10) | (have hseen := K8; clear hseen; go_at_call 33; refine (HRG.out x8 q8 _ z8 (by have := HHL.out; omega)).mono ?_; rintro e v9 ⟨rfl, h9⟩; have K9 := HBL.out _ _ K8 h9) | (have hseen := K7; clear hseen; go_at_call 34; refine (HNS.out _ K7.a (by have := HHL.out; omega)).mono ?_; rintro e v8 ⟨x8, q8, rfl, -, -, -, z8, h8⟩; have K8 := HBL.out _ _ K7 h8) | (have hseen := K6; clear hseen; go_at_call 32; refine (HC2.out _).mono ?_; rintro e v7 ⟨rfl, h7⟩; have K7 := HBL.out _ _ K6 h7) | (have hseen := K5; clear hseen; go_at_call 31; refine (HN1.out _).mono ?_; rintro e v6 ⟨rfl, h6⟩; have K6 := HBL.out _ _ K5 h6) | (have hseen := K4; clear hseen; go_at_call 31; refine (HN2.out _).mono ?_; rintro e v5 ⟨rfl, h5⟩; have K5 := HBL.out _ _ K4 h5) | (have hseen := K3; clear hseen; go_at_call 32; refine (HC1.out _).mono ?_; rintro e v4 ⟨rfl, h4⟩; have K4 := HBL.out _ _ K3 h4) | (have hseen := K2; clear hseen; go_at_call 31; refine (HN2.out _).mono ?_; rintro e v3 ⟨rfl, h3⟩; have K3 := HBL.out _ _ K2 h3) | (have hseen := K1; clear hseen; go_at_call 31; refine (HN1.out _).mono ?_; rintro e v2 ⟨rfl, h2⟩; have K2 := HBL.out _ _ K1 h2) | (have hseen := K0; clear hseen; go_at_call 29; refine (HAL.out _).mono ?_; rintro e v1 ⟨rfl, h1⟩; have K1 := HBL.out _ _ K0 h1))
      go_wp2
      go_ret
      exact ⟨rfl, K10.frame⟩
  · rw [t3] at HC1
    rw [t4] at HC2
    rw [decide_eq_false t1] at HA1
    rw [decide_eq_false t2] at HA2
    clear t1 t2 t3 t4
    go_enter Try.func6, Try.ntmps6
    go_wp2_with fail
    go_region
    · have S0 := L1.out (.cells #[.int .i64 s.f, .int .i64 s.t, .int .i64 s.n, .int .i64 s.s, .int .i64 o.f, .int .i64 o.t, .int .i64 o.n, .int .i64 o.s] 48)
      clear L1 L2
      generalize World.drew _ = W0 at *
      generalize w.heap.size + 1 + 1 = u at *
      generalize w.heap.size + 1 = v at *
      have S1 := Lib.hid S0
      obtain ⟨a0, a1, a2, a3, b0, b1, b2, b3⟩ := S0.cells
      clear S0
      go_wp2_with fail
      refine (HA1.out _).mono ?_
      rintro e w1 ⟨rfl, hB⟩
      have S2 := Lib.hid (S1.out.below hB)
      clear S1 hB a0 a1 a2 a3 b0 b1 b2 b3 HA1
      obtain ⟨a0, a1, a2, a3, b0, b1, b2, b3⟩ := S2.out.cells
      go_wp2_with fail
      refine (HA2.out _).mono ?_
      rintro e w2 ⟨rfl, hB⟩
      have S3 := Lib.hid (S2.out.below hB)
      clear S2 hB a0 a1 a2 a3 b0 b1 b2 b3 HA2
      have K0 := S3.out.below (Below.refl w2.heap.size w2).drew
      have HBL := Lib.hid (HBL.out v u)
      have HSC : Hid (∀ W, Od w v u s o a l W → W.cell? ⟨v, 0, none⟩ = some (.int .i64 s.f) ∧ W.cell? ⟨v, 1, none⟩ = some (.int .i64 s.t) ∧ W.cell? ⟨v, 2, none⟩ = some (.int .i64 s.n) ∧ W.cell? ⟨v, 3, none⟩ = some (.int .i64 s.s) ∧ W.cell? ⟨u, 0, none⟩ = some (.int .i64 o.f) ∧ W.cell? ⟨u, 1, none⟩ = some (.int .i64 o.t) ∧ W.cell? ⟨u, 2, none⟩ = some (.int .i64 o.n) ∧ W.cell? ⟨u, 3, none⟩ = some (.int .i64 o.s)) := fun W h => h.cells
      go_wp2_with fail
      go_region_held3 (fun W => W.cell? ⟨v, 0, none⟩ = some (.int .i64 s.f) ∧ W.cell? ⟨v, 1, none⟩ = some (.int .i64 s.t) ∧ W.cell? ⟨v, 2, none⟩ = some (.int .i64 s.n) ∧ W.cell? ⟨v, 3, none⟩ = some (.int .i64 s.s) ∧ W.cell? ⟨u, 0, none⟩ = some (.int .i64 o.f) ∧ W.cell? ⟨u, 1, none⟩ = some (.int .i64 o.t) ∧ W.cell? ⟨u, 2, none⟩ = some (.int .i64 o.n) ∧ W.cell? ⟨u, 3, none⟩ = some (.int .i64 o.s))
        (first |  with_reducible exact HSC.out _ K10 | with_reducible exact HSC.out _ K9 | with_reducible exact HSC.out _ K8 | with_reducible exact HSC.out _ K7 | with_reducible exact HSC.out _ K6 | with_reducible exact HSC.out _ K5 | with_reducible exact HSC.out _ K4 | with_reducible exact HSC.out _ K3 | with_reducible exact HSC.out _ K2 | with_reducible exact HSC.out _ K1 | with_reducible exact HSC.out _ K0 | assumption)
        (first | (have hseen := K9; clear hseen; go_at_call 35; refine (HRR.out _ K9.a (by have := HHL.out; omega)).mono ?_; rintro e v10 ⟨rfl, h10⟩; have K10 := HBL.out _ _ K9 h10) | (have hseen := K8; clear hseen; go_at_call 33; refine (HRG.out x8 q8 _ z8 (by have := HHL.out; omega)).mono ?_; rintro e v9 ⟨rfl, h9⟩; have K9 := HBL.out _ _ K8 h9) | (have hseen := K7; clear hseen; go_at_call 34; refine (HNS.out _ K7.a (by have := HHL.out; omega)).mono ?_; rintro e v8 ⟨x8, q8, rfl, -, -, -, z8, h8⟩; have K8 := HBL.out _ _ K7 h8) | (have hseen := K6; clear hseen; go_at_call 32; refine (HC2.out _).mono ?_; rintro e v7 ⟨rfl, h7⟩; have K7 := HBL.out _ _ K6 h7) | (have hseen := K5; clear hseen; go_at_call 31; refine (HN1.out _).mono ?_; rintro e v6 ⟨rfl, h6⟩; have K6 := HBL.out _ _ K5 h6) | (have hseen := K4; clear hseen; go_at_call 31; refine (HN2.out _).mono ?_; rintro e v5 ⟨rfl, h5⟩; have K5 := HBL.out _ _ K4 h5) | (have hseen := K3; clear hseen; go_at_call 32; refine (HC1.out _).mono ?_; rintro e v4 ⟨rfl, h4⟩; have K4 := HBL.out _ _ K3 h4) | (have hseen := K2; clear hseen; go_at_call 31; refine (HN2.out _).mono ?_; rintro e v3 ⟨rfl, h3⟩; have K3 := HBL.out _ _ K2 h3) | (have hseen := K1; clear hseen; go_at_call 31; refine (HN1.out _).mono ?_; rintro e v2 ⟨rfl, h2⟩; have K2 := HBL.out _ _ K1 h2) | (have hseen := K0; clear hseen; go_at_call 29; refine (HAL.out _).mono ?_; rintro e v1 ⟨rfl, h1⟩; have K1 := HBL.out _ _ K0 h1))
      go_wp2
      go_ret
      exact ⟨rfl, K10.frame⟩
    · have S0 := L2.out (.cells #[.int .i64 s.f, .int .i64 s.t, .int .i64 s.n, .int .i64 s.s, .int .i64 o.f, .int .i64 o.t, .int .i64 o.n, .int .i64 o.s] 48)
      clear L1 L2
      generalize World.drew _ = W0 at *
      generalize w.heap.size + 1 + 1 = u at *
      generalize w.heap.size + 1 = v at *
      have S1 := Lib.hid S0
      obtain ⟨a0, a1, a2, a3, b0, b1, b2, b3⟩ := S0.cells
      clear S0
      go_wp2_with fail
      refine (HA1.out _).mono ?_
      rintro e w1 ⟨rfl, hB⟩
      have S2 := Lib.hid (S1.out.below hB)
      clear S1 hB a0 a1 a2 a3 b0 b1 b2 b3 HA1
      obtain ⟨a0, a1, a2, a3, b0, b1, b2, b3⟩ := S2.out.cells
      go_wp2_with fail
      refine (HA2.out _).mono ?_
      rintro e w2 ⟨rfl, hB⟩
      have S3 := Lib.hid (S2.out.below hB)
      clear S2 hB a0 a1 a2 a3 b0 b1 b2 b3 HA2
      have K0 := S3.out.below (Below.refl w2.heap.size w2).drew
      have HBL := Lib.hid (HBL.out u v)
      have HSC : Hid (∀ W, Od w u v s o a l W → W.cell? ⟨u, 0, none⟩ = some (.int .i64 s.f) ∧ W.cell? ⟨u, 1, none⟩ = some (.int .i64 s.t) ∧ W.cell? ⟨u, 2, none⟩ = some (.int .i64 s.n) ∧ W.cell? ⟨u, 3, none⟩ = some (.int .i64 s.s) ∧ W.cell? ⟨v, 0, none⟩ = some (.int .i64 o.f) ∧ W.cell? ⟨v, 1, none⟩ = some (.int .i64 o.t) ∧ W.cell? ⟨v, 2, none⟩ = some (.int .i64 o.n) ∧ W.cell? ⟨v, 3, none⟩ = some (.int .i64 o.s)) := fun W h => h.cells
      go_wp2_with fail
      go_region_held3 (fun W => W.cell? ⟨u, 0, none⟩ = some (.int .i64 s.f) ∧ W.cell? ⟨u, 1, none⟩ = some (.int .i64 s.t) ∧ W.cell? ⟨u, 2, none⟩ = some (.int .i64 s.n) ∧ W.cell? ⟨u, 3, none⟩ = some (.int .i64 s.s) ∧ W.cell? ⟨v, 0, none⟩ = some (.int .i64 o.f) ∧ W.cell? ⟨v, 1, none⟩ = some (.int .i64 o.t) ∧ W.cell? ⟨v, 2, none⟩ = some (.int .i64 o.n) ∧ W.cell? ⟨v, 3, none⟩ = some (.int .i64 o.s))
        (first |  with_reducible exact HSC.out _ K10 | with_reducible exact HSC.out _ K9 | with_reducible exact HSC.out _ K8 | with_reducible exact HSC.out _ K7 | with_reducible exact HSC.out _ K6 | with_reducible exact HSC.out _ K5 | with_reducible exact HSC.out _ K4 | with_reducible exact HSC.out _ K3 | with_reducible exact HSC.out _ K2 | with_reducible exact HSC.out _ K1 | with_reducible exact HSC.out _ K0 | assumption)
        (first | (have hseen := K9; clear hseen; go_at_call 35; refine (HRR.out _ K9.a (by have := HHL.out; omega)).mono ?_; rintro e v10 ⟨rfl, h10⟩; have K10 := HBL.out _ _ K9 h10) | (have hseen := K8; clear hseen; go_at_call 33; refine (HRG.out x8 q8 _ z8 (by have := HHL.out; omega)).mono ?_; rintro e v9 ⟨rfl, h9⟩; have K9 := HBL.out _ _ K8 h9) | (have hseen := K7; clear hseen; go_at_call 34; refine (HNS.out _ K7.a (by have := HHL.out; omega)).mono ?_; rintro e v8 ⟨x8, q8, rfl, -, -, -, z8, h8⟩; have K8 := HBL.out _ _ K7 h8) | (have hseen := K6; clear hseen; go_at_call 32; refine (HC2.out _).mono ?_; rintro e v7 ⟨rfl, h7⟩; have K7 := HBL.out _ _ K6 h7) | (have hseen := K5; clear hseen; go_at_call 31; refine (HN1.out _).mono ?_; rintro e v6 ⟨rfl, h6⟩; have K6 := HBL.out _ _ K5 h6) | (have hseen := K4; clear hseen; go_at_call 31; refine (HN2.out _).mono ?_; rintro e v5 ⟨rfl, h5⟩; have K5 := HBL.out _ _ K4 h5) | (have hseen := K3; clear hseen; go_at_call 32; refine (HC1.out _).mono ?_; rintro e v4 ⟨rfl, h4⟩; have K4 := HBL.out _ _ K3 h4) | (have hseen := K2; clear hseen; go_at_call 31; refine (HN2.out _).mono ?_; rintro e v3 ⟨rfl, h3⟩; have K3 := HBL.out _ _ K2 h3) | (have hseen := K1; clear hseen; go_at_call 31; refine (HN1.out _).mono ?_; rintro e v2 ⟨rfl, h2⟩; have K2 := HBL.out _ _ K1 h2) | (have hseen := K0; clear hseen; go_at_call 29; refine (HAL.out _).mono ?_; rintro e v1 ⟨rfl, h1⟩; have K1 := HBL.out _ _ K0 h1))
      go_wp2
      go_ret
      exact ⟨rfl, K10.frame⟩

set_option maxRecDepth 100000 in
theorem lifted (os : Os) (started : os.Started) (H : Type) (enc : TypeId × Value → H) :
    ReturnsInHanded {} Try.checked os 6 .any (Rows.histOrdersSpec.pre6 enc Try.prog Try.f6 Rows.histOrdersRow.domain false) (Rows.histOrdersSpec.post enc Try.prog Try.f6 false true false false) := by
  refine returnsInHanded_of_change (C := Try.checked) own started (by kernel_rfl) Try.func6
    (ChangeSpec.witness6 (enc := enc) (C := Try.checked) false ⟨#[], #[.agg #[.int .i64 0, .int .i64 0, .int .i64 0, .int .i64 0, .int .i64 0, .int .i64 0, .int .i64 0, .int .i64 0], .slice none 0 0], []⟩ 8 (by kernel_rfl) (by kernel_rfl) (by kernel_rfl) (by kernel_rfl)) ?_
  intro W base args ds gs before hval0 hW hcnd _
  have hval : ∀ (j : Nat) t v, Try.f6.params[j]? = some t → args[j]? = some v → Value.okWide Try.prog W .any base t v := hval0
  have hW' := hW
  have hlt := hW.lt
  obtain ⟨p, q, hA0, hV, rfl, hfz, hnd⟩ := hW
  have hA : DataW.TrodAll enc Try.prog W 0 (fun _ => true) true Try.f6.params.toList args.toList ds p := hA0
  rw [Try.params6] at hA hval
  obtain ⟨v0, vs0, d0, ds0, p0, q0, hargs, rfl, rfl, h0, r0⟩ := trodAll_cons hA
  obtain ⟨v1, vs1, d1, ds1, p1, q1, rfl, rfl, rfl, h1, r1⟩ := trodAll_cons r0
  obtain ⟨rfl, rfl, rfl⟩ := trodAll_nil r1
  obtain rfl : args = #[v0, v1] := by cases args; simp_all
  obtain ⟨x0, y0, rfl, f0, g0, f0', g0'⟩ := open_stay2 (hval 0 48 v0 rfl rfl) h0
  obtain ⟨a1, c1, l1, rfl, s1, f1, m1, n1, o1⟩ := open_stays (hval 1 49 v1 rfl rfl) h1
  refine (walk W x0 y0 a1 c1 l1 s1 f1 m1 n1 o1).mono fun e W' ⟨he, hb⟩ => ?_
  subst he
  exact ⟨_, rfl, law_post rfl hW' (fun ds h => by match ds, h with | [_, _], _ => rfl) (by kernel_rfl) (by kernel_rfl) (by kernel_rfl) hb⟩

theorem over : Rows.histOrdersRow.holds Try.pinned (OpenSpec.ofChange Rows.histOrdersSpec) :=
  OpenClaim.holds_of_wide 6 Try.f6 rfl rfl rfl rfl rfl rfl rfl ⟨rfl, rfl, rfl, rfl, rfl⟩ rfl rfl rfl rfl rfl (by kernel_rfl) Try.func6 (by kernel_rfl)
    (of_decide_eq_true (by kernel_rfl)) (by unfold Func.isWrapper; first | (rw [if_pos (by decide +kernel)]; kernel_rfl) | (rw [if_neg (by decide +kernel)]; exact ⟨rfl, rfl⟩))
    (fun os started H enc _ => lifted os started H enc)

theorem proved : Rows.HistOrdersSaid := over
end Go.Proofs.Ytbcabbddgppkaaa.histOrders
