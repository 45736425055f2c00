/- Layer 6: Of, contract: the event of any frame. -/
import Derived.Test.YtollhemkjnkalaaGreatDoorK1
import Derived.Deep.RegionHeld3
namespace Go.Proofs.YtollhemkjnkalaaGreatDoor
open Go.RowKit Go.Shelf
set_option linter.unusedVariables false
set_option maxRecDepth 100000

theorem set6_at {W : World} {G : Nat} {t : TypeId} {a0 b0 c0 d0 e0 f0 : Value} (h : W.heap[G]? = some (.cells #[a0, b0, c0, d0, e0, f0] t (0, 0))) (a b c d e f : Value) :
    ((((((W.setCell ⟨G, 0, none⟩ a).setCell ⟨G, 1, none⟩ b).setCell ⟨G, 2, none⟩ c).setCell ⟨G, 3, none⟩ d).setCell ⟨G, 4, none⟩ e).setCell ⟨G, 5, none⟩ f).heap[G]? = some (.cells #[a, b, c, d, e, f] t (0, 0)) :=
  heap_setCell_at (heap_setCell_at (heap_setCell_at (heap_setCell_at (heap_setCell_at (heap_setCell_at h 0 a) 1 b) 2 c) 3 d) 4 e) 5 f
theorem heap_lt {W : World} {G : Nat} {o : Obj} (h : W.heap[G]? = some o) : G < W.heap.size := (Array.getElem?_eq_some_iff.1 h).1
theorem set6_below {w W : World} {G : Nat} (h : Below w.heap.size w W) (hg : w.heap.size ≤ G) (a b c d e f : Value) :
    Below w.heap.size w ((((((W.setCell ⟨G, 0, none⟩ a).setCell ⟨G, 1, none⟩ b).setCell ⟨G, 2, none⟩ c).setCell ⟨G, 3, none⟩ d).setCell ⟨G, 4, none⟩ e).setCell ⟨G, 5, none⟩ f) :=
  (((((h.setCell (p := ⟨G, 0, none⟩) hg _).setCell (p := ⟨G, 1, none⟩) hg _).setCell (p := ⟨G, 2, none⟩) hg _).setCell (p := ⟨G, 3, none⟩) hg _).setCell (p := ⟨G, 4, none⟩) hg _).setCell (p := ⟨G, 5, none⟩) hg _
theorem set6_load {W : World} {R : Nat} {a0 b0 c0 d0 e0 f0 : Value} (h : W.heap[R]? = some (.cells #[a0, b0, c0, d0, e0, f0] 40 (0, 0))) (a b c d e f : Value) (o : Obj) :
    (loadVar 40 ⟨R, 0, none⟩).run Tryz.prog (((((((W.setCell ⟨R, 0, none⟩ a).setCell ⟨R, 1, none⟩ b).setCell ⟨R, 2, none⟩ c).setCell ⟨R, 3, none⟩ d).setCell ⟨R, 4, none⟩ e).setCell ⟨R, 5, none⟩ f).alloc o) = .ok (.agg #[a, b, c, d, e, f]) (((((((W.setCell ⟨R, 0, none⟩ a).setCell ⟨R, 1, none⟩ b).setCell ⟨R, 2, none⟩ c).setCell ⟨R, 3, none⟩ d).setCell ⟨R, 4, none⟩ e).setCell ⟨R, 5, none⟩ f).alloc o) :=
  loadEv ((Below.heap_alloc _ _ _ (heap_lt (set6_at h a b c d e f))).trans (set6_at h a b c d e f))
theorem set6_alloc {w W : World} {G : Nat} (h : Below w.heap.size w W) (hg : w.heap.size ≤ G) (a b c d e f : Value) (o : Obj) :
    Below w.heap.size w (((((((W.setCell ⟨G, 0, none⟩ a).setCell ⟨G, 1, none⟩ b).setCell ⟨G, 2, none⟩ c).setCell ⟨G, 3, none⟩ d).setCell ⟨G, 4, none⟩ e).setCell ⟨G, 5, none⟩ f).alloc o) := (set6_below h hg a b c d e f).alloc (set6_below h hg a b c d e f).size _
theorem isF_no {k : UInt8} {b : ByteArray} (h : rightE (guessE k b) = false) : isF k b = false := by unfold isF; rw [h]; rfl
theorem isF_neq (k : UInt8) (b : ByteArray) (h : rightE (guessE k b) = true) : isF k b = (decide (letterE (guessE k b).kind = k) && ((tx (lineE (guessE k b))).toList == b.toList)) := by unfold isF; rw [h]; rfl
theorem dec_u8 (a b : UInt8) : decide (a = b) = ((a.toNat : Int) == (b.toNat : Int)) := by
  rw [Bool.eq_iff_iff]
  simp only [decide_eq_true_eq, beq_iff_eq]
  constructor
  · rintro rfl; rfl
  · intro h; exact UInt8.toNat_inj.1 (by omega)

set_option maxHeartbeats 4000000 in
theorem of_any (k : UInt8) (b : ByteArray) (hb : b.size ≤ 4294967200) (w : World) (hp : Pow10 w) (hm : MaxIs w) : Calls Tryz.prog 16 #[frW k b] w fun r w' => r = .returned (.tuple #[evV (ofE k b), .bool (isF k b)]) ∧ Below w.heap.size w w' := by
  have hfit := split_fit b hb
  have hkr : -9223372036854775808 ≤ letP k + 1 ∧ letP k + 1 ≤ 9223372036854775807 := by unfold letP; repeat' split <;> omega
  obtain ⟨he, hi⟩ := fromW_fits (letP k + 1) hkr _ hfit
  have HIX := Lib.hid (fun W => indexLetter k W)
  have HSP : Hid (∀ W, OfW w k b W → Calls Tryz.prog 33 #[.string b] W fun r w' => ∃ a c, r = .returned (.slice a ((splitOf (toL b)).map tx).length c) ∧ ((splitOf (toL b)).map tx).length ≤ c ∧ c ≤ maxLen ∧ Sl w' a (strs ((splitOf (toL b)).map tx)) ∧ Below W.heap.size W w') := fun W h => by
    obtain ⟨m, hm1⟩ := hm.below h.frame
    refine (split_any b m W hb hm1).mono ?_
    rintro r w' ⟨v, rfl, hown, hB⟩
    rw [← List.length_map (f := tx)] at hown
    obtain ⟨a, c, rfl, q1, q2, q3, _⟩ := own_slice hown
    exact ⟨a, c, rfl, q1, q2, q3, hB⟩
  have HFW := Lib.hid (fun W a c (hs : Sl W a (strs ((splitOf (toL b)).map tx))) hc hm => fromWords_any (letP k + 1) ((splitOf (toL b)).map tx) hfit a c W hs hc hm)
  have HFR := Lib.hid (fun W (h : OfW w k b W) => frame_any (guessE k b) he hi W (hp.below h.frame))
  have HGE : Hid (fromW (letP k + 1) ((splitOf (toL b)).map tx) = guessE k b) := rfl
  obtain ⟨ov, hov⟩ : ∃ x, x = ofE k b := ⟨_, rfl⟩
  obtain ⟨iv, hiv⟩ : ∃ x, x = isF k b := ⟨_, rfl⟩
  rw [← hov, ← hiv]
  have HOV := Lib.hid hov
  have HIV := Lib.hid hiv
  clear hov hiv
  rw [HGE.out] at HFW
  have HW := Lib.hid (OfW.new w k b)
  have HB := Lib.hid (fun W W' (h : OfW w k b W) (q : Below W.heap.size W W') => h.below q)
  have HSC : Hid (∀ W, OfW w k b W → W.cell? ⟨w.heap.size, 0, none⟩ = some (.int .u8 (k.toNat : Int)) ∧ W.cell? ⟨w.heap.size, 1, none⟩ = some (.string b) ∧ OfW w k b W) := fun W h => ⟨(cells2 h.fr).1.1, (cells2 h.fr).1.2, h⟩
  have HRS := Lib.hid (fun W (h : OfW w k b W) => h.res)
  have HFB := Lib.hid (fun W (h : OfW w k b W) => h.frame)
  have HSZ := Lib.hid (fun W (h : OfW w k b W) => h.size)
  have HS6 : Hid (∀ (W : World) (g : Nat) (a b' c d e f : Value), w.heap.size + 2 ≤ g → OfW w k b W → OfW w k b ((((((W.setCell ⟨g, 0, none⟩ a).setCell ⟨g, 1, none⟩ b').setCell ⟨g, 2, none⟩ c).setCell ⟨g, 3, none⟩ d).setCell ⟨g, 4, none⟩ e).setCell ⟨g, 5, none⟩ f)) := fun W g a b' c d e f hg h =>
    ⟨(heap_set_far (by omega)).trans ((heap_set_far (by omega)).trans ((heap_set_far (by omega)).trans ((heap_set_far (by omega)).trans ((heap_set_far (by omega)).trans ((heap_set_far (by omega)).trans h.fr))))),
     (heap_set_far (by omega)).trans ((heap_set_far (by omega)).trans ((heap_set_far (by omega)).trans ((heap_set_far (by omega)).trans ((heap_set_far (by omega)).trans ((heap_set_far (by omega)).trans h.res))))),
     by simp [World.setCell]; exact h.size,
     (((((h.frame.setCell (p := ⟨g, 0, none⟩) (by show w.heap.size ≤ g; omega) _).setCell (p := ⟨g, 1, none⟩) (by show w.heap.size ≤ g; omega) _).setCell (p := ⟨g, 2, none⟩) (by show w.heap.size ≤ g; omega) _).setCell (p := ⟨g, 3, none⟩) (by show w.heap.size ≤ g; omega) _).setCell (p := ⟨g, 4, none⟩) (by show w.heap.size ≤ g; omega) _).setCell (p := ⟨g, 5, none⟩) (by show w.heap.size ≤ g; omega) _⟩
  have hw1 : IntKind.i64.wrap (letP k + 1) = letP k + 1 := IntWalk.i64_in _ hkr
  clear hfit he hi hp hm hb hkr HGE
  unfold frW evV at *
  generalize hF : OfW w k b = FW at *
  generalize ((splitOf (toL b)).map tx) = ws at *
  generalize ws.length = n at *
  generalize letP k = lp at *
  go_enter Tryz.func16, Tryz.ntmps16
  go_wp2
  have hX := HW.out
  have hs0 := HSZ.out _ hX
  have HNW0 : Hid (∀ w2 w3, Below (((w.alloc (.cells #[.int .u8 (k.toNat : Int), .string b] 42)).alloc (.cells #[.int .i64 0, .int .i64 0, .string ⟨#[]⟩, .string ⟨#[]⟩, .int .i64 0, .int .i64 0] 40)).alloc (.cells #[.int .i64 0, .int .i64 0, .string ⟨#[]⟩, .string ⟨#[]⟩, .int .i64 0, .int .i64 0] 40)).drew.heap.size (((w.alloc (.cells #[.int .u8 (k.toNat : Int), .string b] 42)).alloc (.cells #[.int .i64 0, .int .i64 0, .string ⟨#[]⟩, .string ⟨#[]⟩, .int .i64 0, .int .i64 0] 40)).alloc (.cells #[.int .i64 0, .int .i64 0, .string ⟨#[]⟩, .string ⟨#[]⟩, .int .i64 0, .int .i64 0] 40)).drew w2 → Below w2.heap.size w2 w3 → w3.heap[((w.alloc (.cells #[.int .u8 (k.toNat : Int), .string b] 42)).alloc (.cells #[.int .i64 0, .int .i64 0, .string ⟨#[]⟩, .string ⟨#[]⟩, .int .i64 0, .int .i64 0] 40)).heap.size]? = some (.cells #[.int .i64 0, .int .i64 0, .string ⟨#[]⟩, .string ⟨#[]⟩, .int .i64 0, .int .i64 0] 40 (0, 0))) := fun w2 w3 q2 q3 => by
    have hlt : ((w.alloc (.cells #[.int .u8 (k.toNat : Int), .string b] 42)).alloc (.cells #[.int .i64 0, .int .i64 0, .string ⟨#[]⟩, .string ⟨#[]⟩, .int .i64 0, .int .i64 0] 40)).heap.size < (((w.alloc (.cells #[.int .u8 (k.toNat : Int), .string b] 42)).alloc (.cells #[.int .i64 0, .int .i64 0, .string ⟨#[]⟩, .string ⟨#[]⟩, .int .i64 0, .int .i64 0] 40)).alloc (.cells #[.int .i64 0, .int .i64 0, .string ⟨#[]⟩, .string ⟨#[]⟩, .int .i64 0, .int .i64 0] 40)).drew.heap.size := by show _ < (((w.alloc (.cells #[.int .u8 (k.toNat : Int), .string b] 42)).alloc (.cells #[.int .i64 0, .int .i64 0, .string ⟨#[]⟩, .string ⟨#[]⟩, .int .i64 0, .int .i64 0] 40)).alloc _).heap.size; rw [size1 ((w.alloc (.cells #[.int .u8 (k.toNat : Int), .string b] 42)).alloc (.cells #[.int .i64 0, .int .i64 0, .string ⟨#[]⟩, .string ⟨#[]⟩, .int .i64 0, .int .i64 0] 40))]; omega
    exact (q3.block _ (Nat.lt_of_lt_of_le hlt q2.size)).trans ((q2.block _ hlt).trans (heap_alloc_new ((w.alloc (.cells #[.int .u8 (k.toNat : Int), .string b] 42)).alloc (.cells #[.int .i64 0, .int .i64 0, .string ⟨#[]⟩, .string ⟨#[]⟩, .int .i64 0, .int .i64 0] 40)) _))
  have HST : Hid (∀ W a b' c d e f, FW W → FW ((((((W.setCell ⟨((w.alloc (.cells #[.int .u8 (k.toNat : Int), .string b] 42)).alloc (.cells #[.int .i64 0, .int .i64 0, .string ⟨#[]⟩, .string ⟨#[]⟩, .int .i64 0, .int .i64 0] 40)).heap.size, 0, none⟩ a).setCell ⟨((w.alloc (.cells #[.int .u8 (k.toNat : Int), .string b] 42)).alloc (.cells #[.int .i64 0, .int .i64 0, .string ⟨#[]⟩, .string ⟨#[]⟩, .int .i64 0, .int .i64 0] 40)).heap.size, 1, none⟩ b').setCell ⟨((w.alloc (.cells #[.int .u8 (k.toNat : Int), .string b] 42)).alloc (.cells #[.int .i64 0, .int .i64 0, .string ⟨#[]⟩, .string ⟨#[]⟩, .int .i64 0, .int .i64 0] 40)).heap.size, 2, none⟩ c).setCell ⟨((w.alloc (.cells #[.int .u8 (k.toNat : Int), .string b] 42)).alloc (.cells #[.int .i64 0, .int .i64 0, .string ⟨#[]⟩, .string ⟨#[]⟩, .int .i64 0, .int .i64 0] 40)).heap.size, 3, none⟩ d).setCell ⟨((w.alloc (.cells #[.int .u8 (k.toNat : Int), .string b] 42)).alloc (.cells #[.int .i64 0, .int .i64 0, .string ⟨#[]⟩, .string ⟨#[]⟩, .int .i64 0, .int .i64 0] 40)).heap.size, 4, none⟩ e).setCell ⟨((w.alloc (.cells #[.int .u8 (k.toNat : Int), .string b] 42)).alloc (.cells #[.int .i64 0, .int .i64 0, .string ⟨#[]⟩, .string ⟨#[]⟩, .int .i64 0, .int .i64 0] 40)).heap.size, 5, none⟩ f)) := fun W a b' c d e f h => HS6.out _ _ _ _ _ _ _ _ hs0 h
  generalize ((w.alloc (.cells #[.int .u8 (k.toNat : Int), .string b] 42)).alloc (.cells #[.int .i64 0, .int .i64 0, .string ⟨#[]⟩, .string ⟨#[]⟩, .int .i64 0, .int .i64 0] 40)) = W0 at *
  have HNW := Lib.hid (fun w2 w3 (q2 : Below (W0.alloc (.cells #[.int .i64 0, .int .i64 0, .string ⟨#[]⟩, .string ⟨#[]⟩, .int .i64 0, .int .i64 0] 40)).drew.heap.size (W0.alloc (.cells #[.int .i64 0, .int .i64 0, .string ⟨#[]⟩, .string ⟨#[]⟩, .int .i64 0, .int .i64 0] 40)).drew w2) (q3 : Below w2.heap.size w2 w3) => (⟨HNW0.out w2 w3 q2 q3, cells6 (HNW0.out w2 w3 q2 q3)⟩ : _ ∧ _))
  have HNV := Lib.hid (fun (w2 w3 : World) (q3 : Below (w2.alloc (.cells #[.int .i64 0, .int .i64 0, .string ⟨#[]⟩, .string ⟨#[]⟩, .int .i64 0, .int .i64 0] 40)).heap.size (w2.alloc (.cells #[.int .i64 0, .int .i64 0, .string ⟨#[]⟩, .string ⟨#[]⟩, .int .i64 0, .int .i64 0] 40)) w3) => (⟨(q3.block w2.heap.size (by rw [size1]; omega)).trans (heap_alloc_new w2 _), cells6 ((q3.block w2.heap.size (by rw [size1]; omega)).trans (heap_alloc_new w2 _))⟩ : _ ∧ _))
  have hXd := HB.out _ _ hX (Below.refl _ _).drew
  have HAL : Hid (∀ W ob, FW W → FW (W.alloc ob)) := fun W ob h => HB.out _ _ h ((Below.refl _ _).alloc (Nat.le_refl _) ob)
  have HDW : Hid (∀ W, FW W → FW W.drew) := fun W h => HB.out _ _ h (Below.refl _ _).drew
  go_region_held3 (fun W => W.cell? ⟨w.heap.size, 0, none⟩ = some (.int .u8 (k.toNat : Int)) ∧ W.cell? ⟨w.heap.size, 1, none⟩ = some (.string b) ∧ FW W)
    (first | with_reducible exact HSC.out _ hXd | with_reducible exact HSC.out _ (HDW.out _ (HAL.out _ _ hX)) | with_reducible exact HSC.out _ (HST.out _ _ _ _ _ _ _ hZ) | with_reducible exact HSC.out _ hZ | with_reducible exact HSC.out _ (HAL.out _ _ hZ) | with_reducible exact HSC.out _ (HS6.out _ _ _ _ _ _ _ _ (HSZ.out _ hY) hZ) | with_reducible exact HSC.out _ hY | with_reducible exact HSC.out _ (HAL.out _ _ hY) | with_reducible exact HSC.out _ (HAL.out _ _ hXd) | assumption)
    (first | (go_at_call 32; refine (HIX.out _).mono ?_; rintro r v1 ⟨rfl, rfl⟩) | (go_at_call 33; refine (HSP.out _ (by first | with_reducible exact hXd | with_reducible exact HAL.out _ _ hXd | with_reducible exact HDW.out _ (HAL.out _ _ hX))).mono ?_; rintro r w2 ⟨a, c, rfl, hc1, hc2, hsl, h2⟩; have hY := HB.out _ _ (by first | with_reducible exact hXd | with_reducible exact HAL.out _ _ hXd | with_reducible exact HDW.out _ (HAL.out _ _ hX)) h2) | (go_at_call 31; refine (HFW.out _ a c (by first | with_reducible exact hsl | exact Sl.below hsl ((Below.refl _ _).alloc (Nat.le_refl _) _)) hc1 hc2).mono ?_; rintro r w3 ⟨rfl, h3⟩; have hZ := HB.out _ _ (by first | exact hY | exact HAL.out _ _ hY) h3; first | (have hqq : Below (w2.alloc (.cells #[.int .i64 0, .int .i64 0, .string ⟨#[]⟩, .string ⟨#[]⟩, .int .i64 0, .int .i64 0] 40)).heap.size (w2.alloc (.cells #[.int .i64 0, .int .i64 0, .string ⟨#[]⟩, .string ⟨#[]⟩, .int .i64 0, .int .i64 0] 40)) w3 := (by with_reducible exact h3); have hq := HNV.out _ _ hqq; clear hqq; obtain ⟨eb, ⟨e0, e1, e2, e3, e4, e5⟩, p0, p1, p2, p3, p4, p5⟩ := hq; clear h2 h3) | (have hqq : Below (W0.alloc (.cells #[.int .i64 0, .int .i64 0, .string ⟨#[]⟩, .string ⟨#[]⟩, .int .i64 0, .int .i64 0] 40)).drew.heap.size (W0.alloc (.cells #[.int .i64 0, .int .i64 0, .string ⟨#[]⟩, .string ⟨#[]⟩, .int .i64 0, .int .i64 0] 40)).drew w2 := (by with_reducible exact h2); have hq := HNW.out _ _ hqq h3; clear hqq; obtain ⟨eb, ⟨e0, e1, e2, e3, e4, e5⟩, p0, p1, p2, p3, p4, p5⟩ := hq; clear h2 h3) | clear h2 h3))
  all_goals (
    have hhd := ‹_ ∧ _ ∧ FW _›
    obtain ⟨-, -, hV⟩ := hhd
    first
      | (have hG : w.heap.size + 2 ≤ W0.heap.size := hs0
         have hbk : ((((((w3.setCell ⟨W0.heap.size, 0, none⟩ (.int .i64 (guessE k b).kind)).setCell ⟨W0.heap.size, 1, none⟩ (.int .i64 (guessE k b).at_)).setCell ⟨W0.heap.size, 2, none⟩ (.string (guessE k b).user)).setCell ⟨W0.heap.size, 3, none⟩ (.string (guessE k b).other)).setCell ⟨W0.heap.size, 4, none⟩ (.int .i64 (guessE k b).n)).setCell ⟨W0.heap.size, 5, none⟩ (.int .i64 (guessE k b).status)).heap[W0.heap.size]? = some (.cells #[.int .i64 (guessE k b).kind, .int .i64 (guessE k b).at_, .string (guessE k b).user, .string (guessE k b).other, .int .i64 (guessE k b).n, .int .i64 (guessE k b).status] 40 (0, 0)) := by with_reducible exact set6_at eb _ _ _ _ _ _
         clear eb e0 e1 e2 e3 e4 e5 p0 p1 p2 p3 p4 p5
         generalize ((((((w3.setCell ⟨W0.heap.size, 0, none⟩ (.int .i64 (guessE k b).kind)).setCell ⟨W0.heap.size, 1, none⟩ (.int .i64 (guessE k b).at_)).setCell ⟨W0.heap.size, 2, none⟩ (.string (guessE k b).user)).setCell ⟨W0.heap.size, 3, none⟩ (.string (guessE k b).other)).setCell ⟨W0.heap.size, 4, none⟩ (.int .i64 (guessE k b).n)).setCell ⟨W0.heap.size, 5, none⟩ (.int .i64 (guessE k b).status)) = WV at *
         generalize W0.heap.size = G at *)
      | (have hG : w.heap.size + 2 ≤ w2.heap.size := HSZ.out _ hY
         have hbk : ((((((w3.setCell ⟨w2.heap.size, 0, none⟩ (.int .i64 (guessE k b).kind)).setCell ⟨w2.heap.size, 1, none⟩ (.int .i64 (guessE k b).at_)).setCell ⟨w2.heap.size, 2, none⟩ (.string (guessE k b).user)).setCell ⟨w2.heap.size, 3, none⟩ (.string (guessE k b).other)).setCell ⟨w2.heap.size, 4, none⟩ (.int .i64 (guessE k b).n)).setCell ⟨w2.heap.size, 5, none⟩ (.int .i64 (guessE k b).status)).heap[w2.heap.size]? = some (.cells #[.int .i64 (guessE k b).kind, .int .i64 (guessE k b).at_, .string (guessE k b).user, .string (guessE k b).other, .int .i64 (guessE k b).n, .int .i64 (guessE k b).status] 40 (0, 0)) := by with_reducible exact set6_at eb _ _ _ _ _ _
         clear eb e0 e1 e2 e3 e4 e5 p0 p1 p2 p3 p4 p5
         generalize ((((((w3.setCell ⟨w2.heap.size, 0, none⟩ (.int .i64 (guessE k b).kind)).setCell ⟨w2.heap.size, 1, none⟩ (.int .i64 (guessE k b).at_)).setCell ⟨w2.heap.size, 2, none⟩ (.string (guessE k b).user)).setCell ⟨w2.heap.size, 3, none⟩ (.string (guessE k b).other)).setCell ⟨w2.heap.size, 4, none⟩ (.int .i64 (guessE k b).n)).setCell ⟨w2.heap.size, 5, none⟩ (.int .i64 (guessE k b).status)) = WV at *
         generalize w2.heap.size = G at *)
      | (have hG : w.heap.size + 2 ≤ w3.heap.size := HSZ.out _ hZ
         have hbk : (w3.alloc (.cells #[.int .i64 (guessE k b).kind, .int .i64 (guessE k b).at_, .string (guessE k b).user, .string (guessE k b).other, .int .i64 (guessE k b).n, .int .i64 (guessE k b).status] 40)).heap[w3.heap.size]? = some (.cells #[.int .i64 (guessE k b).kind, .int .i64 (guessE k b).at_, .string (guessE k b).user, .string (guessE k b).other, .int .i64 (guessE k b).n, .int .i64 (guessE k b).status] 40 (0, 0)) := heap_alloc_new w3 _
         generalize (w3.alloc (.cells #[.int .i64 (guessE k b).kind, .int .i64 (guessE k b).at_, .string (guessE k b).user, .string (guessE k b).other, .int .i64 (guessE k b).n, .int .i64 (guessE k b).status] 40)) = WV at *
         generalize w3.heap.size = G at *)
    clear HSP HIX HFW HNW HNV HNW0 HST HW HS6 HAL HDW hXd hsl)
  all_goals
    obtain ⟨⟨e0, e1, e2, e3, e4, e5⟩, p0, p1, p2, p3, p4, p5⟩ := cells6 hbk
    have HC := Lib.hid (HFR.out _ hV)
    cases hr : rightE (guessE k b) with
    | false =>
      have hof : ov = zeroE := HOV.out.trans (ofE_no (isF_no hr))
      have hif : iv = false := HIV.out.trans (isF_no hr)
      unfold frameE at HC
      rw [hr, if_neg (by decide)] at HC
      clear hr HOV HIV
      generalize guessE k b = ge at *
      go_wp2_with fail
      refine HC.out.mono ?_
      rintro r w5 ⟨rfl, h5⟩
      have hV5 := HB.out _ _ hV h5
      have hrs := HRS.out _ hV5
      have hlt := heap_lt hrs
      obtain ⟨⟨z0, z1, z2, z3, z4, z5⟩, y0, y1, y2, y3, y4, y5⟩ := cells6 hrs
      have HL := Lib.hid (set6_load hrs (.int .i64 0) (.int .i64 0) (.string ⟨#[]⟩) (.string ⟨#[]⟩) (.int .i64 0) (.int .i64 0) (.cells #[.int .u8 0, .string ⟨#[]⟩] 42))
      have HQ2 := Lib.hid (set6_alloc (HFB.out _ hV5) (G := w.heap.size + 1) (by omega) (.int .i64 0) (.int .i64 0) (.string ⟨#[]⟩) (.string ⟨#[]⟩) (.int .i64 0) (.int .i64 0) (.cells #[.int .u8 0, .string ⟨#[]⟩] 42))
      clear hV hV5 hrs h5 HC HB HSC HRS HFB HSZ
      go_wp2
      refine bodyPost_ret (v := .tuple #[.agg #[.int .i64 0, .int .i64 0, .string ⟨#[]⟩, .string ⟨#[]⟩, .int .i64 0, .int .i64 0], .bool false]) ?_ rfl ?_
      · rw [results_cellT rfl]
        simp [asAddr, Result.andThen, HL.out]
      · refine ⟨?_, HQ2.out⟩
        rw [hof, hif]; rfl
    | true =>
      have hin := HIV.out.trans (isF_neq k b hr)
      unfold frameE frK at HC
      rw [hr, if_pos rfl] at HC
      have HOT : Hid (iv = true → ov = guessE k b) := fun h => by
        rw [HOV.out]; exact ofE_yes (HIV.out.symm.trans h)
      have HOF : Hid (iv = false → ov = zeroE) := fun h => by
        rw [HOV.out]; exact ofE_no (HIV.out.symm.trans h)
      rw [dec_u8] at hin
      clear hr HOV HIV
      generalize tx (lineE (guessE k b)) = tl at *
      generalize guessE k b = ge at *
      have hlb : 0 ≤ ((letterE ge.kind).toNat : Int) ∧ ((letterE ge.kind).toNat : Int) ≤ 255 := ⟨by omega, by have := (letterE ge.kind).toNat_lt; omega⟩
      have hkb : 0 ≤ (k.toNat : Int) ∧ (k.toNat : Int) ≤ 255 := ⟨by omega, by have := k.toNat_lt; omega⟩
      generalize ((letterE ge.kind).toNat : Int) = lt at *
      go_wp2_with fail
      refine HC.out.mono ?_
      rintro r w5 ⟨rfl, h5⟩
      have hV5 := HB.out _ _ hV h5
      obtain ⟨k0, k1, _⟩ := HSC.out _ hV5
      have hrs := HRS.out _ hV5
      have hlt := heap_lt hrs
      have hlt0 : w.heap.size < w5.heap.size := by omega
      have hgl := Nat.lt_of_lt_of_le (heap_lt hbk) h5.size
      have hbk5 := (h5.block _ (heap_lt hbk)).trans hbk
      obtain ⟨⟨z0, z1, z2, z3, z4, z5⟩, y0, y1, y2, y3, y4, y5⟩ := cells6 hrs
      obtain ⟨⟨E0, E1, E2, E3, E4, E5⟩, P0, P1, P2, P3, P4, P5⟩ := cells6 hbk5
      clear hV hV5 h5 HC HB HSC HRS HSZ e0 e1 e2 e3 e4 e5 p0 p1 p2 p3 p4 p5 hbk hbk5
      go_wp2
      · rename_i g1 g2
        have h3 : iv = true := by rw [hin, g1, g2]; simp
        have HL := set6_load hrs (.int .i64 ge.kind) (.int .i64 ge.at_) (.string ge.user) (.string ge.other) (.int .i64 ge.n) (.int .i64 ge.status) (.cells #[.int .u8 (k.toNat : Int), .string tl] 42)
        have HQ2 := set6_alloc (HFB.out _ (by assumption)) (G := w.heap.size + 1) (by omega) (.int .i64 ge.kind) (.int .i64 ge.at_) (.string ge.user) (.string ge.other) (.int .i64 ge.n) (.int .i64 ge.status) (.cells #[.int .u8 (k.toNat : Int), .string tl] 42)
        refine bodyPost_ret (v := .tuple #[.agg #[.int .i64 ge.kind, .int .i64 ge.at_, .string ge.user, .string ge.other, .int .i64 ge.n, .int .i64 ge.status], .bool true]) ?_ rfl ?_
        · rw [results_cellT rfl]
          simp [asAddr, Result.andThen, HL]
        · refine ⟨?_, HQ2⟩
          rw [HOT.out h3, h3]
      · rename_i g1 g2
        have h3 : iv = false := by rw [hin, beq_eq_false_iff_ne.2 g2, Bool.and_false]
        have HL := set6_load hrs (.int .i64 0) (.int .i64 0) (.string ⟨#[]⟩) (.string ⟨#[]⟩) (.int .i64 0) (.int .i64 0) (.cells #[.int .u8 (k.toNat : Int), .string tl] 42)
        have HQ2 := set6_alloc (HFB.out _ (by assumption)) (G := w.heap.size + 1) (by omega) (.int .i64 0) (.int .i64 0) (.string ⟨#[]⟩) (.string ⟨#[]⟩) (.int .i64 0) (.int .i64 0) (.cells #[.int .u8 (k.toNat : Int), .string tl] 42)
        refine bodyPost_ret (v := .tuple #[.agg #[.int .i64 0, .int .i64 0, .string ⟨#[]⟩, .string ⟨#[]⟩, .int .i64 0, .int .i64 0], .bool false]) ?_ rfl ?_
        · rw [results_cellT rfl]
          simp [asAddr, Result.andThen, HL]
        · refine ⟨?_, HQ2⟩
          rw [HOF.out h3, h3]; rfl
      · rename_i g1
        have h3 : iv = false := by rw [hin, beq_eq_false_iff_ne.2 g1, Bool.false_and]
        have HL := set6_load hrs (.int .i64 0) (.int .i64 0) (.string ⟨#[]⟩) (.string ⟨#[]⟩) (.int .i64 0) (.int .i64 0) (.cells #[.int .u8 lt, .string tl] 42)
        have HQ2 := set6_alloc (HFB.out _ (by assumption)) (G := w.heap.size + 1) (by omega) (.int .i64 0) (.int .i64 0) (.string ⟨#[]⟩) (.string ⟨#[]⟩) (.int .i64 0) (.int .i64 0) (.cells #[.int .u8 lt, .string tl] 42)
        refine bodyPost_ret (v := .tuple #[.agg #[.int .i64 0, .int .i64 0, .string ⟨#[]⟩, .string ⟨#[]⟩, .int .i64 0, .int .i64 0], .bool false]) ?_ rfl ?_
        · rw [results_cellT rfl]
          simp [asAddr, Result.andThen, HL]
        · refine ⟨?_, HQ2⟩
          rw [HOF.out h3, h3]; rfl
end Go.Proofs.YtollhemkjnkalaaGreatDoor
