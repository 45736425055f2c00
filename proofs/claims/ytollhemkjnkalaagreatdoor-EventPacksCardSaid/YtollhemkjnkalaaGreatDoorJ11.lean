/- Layer 6: an event out of words: the walks. -/
import Derived.Test.YtollhemkjnkalaaGreatDoorJ10
namespace Go.Proofs.YtollhemkjnkalaaGreatDoor
open Go.RowKit
set_option linter.unusedVariables false
set_option maxRecDepth 100000

theorem tail_fit {L : List ByteArray} (h : ∀ s ∈ L, s.size ≤ maxLen) : ∀ s ∈ tailW L, s.size ≤ maxLen := fun s hs => by
  cases L with
  | nil => exact absurd hs (by simp [tailW])
  | cons x l => exact h s (List.mem_cons_of_mem _ hs)
set_option maxHeartbeats 4000000 in
theorem fw_0 (k : Int) (hsh : shK k = ⟨false, false, 0, 0, 0, 0⟩) (L : List ByteArray) (hf : ∀ s ∈ L, s.size ≤ maxLen) (a : Option Addr) (c : Nat) (w : World) (hs : Sl w a (strs L)) (hc : L.length ≤ c) (hm : c ≤ maxLen) :
    Calls Tryz.prog 31 #[.int .i64 k, .slice a L.length c] w fun r w' => r = .returned (evV (fromS ⟨false, false, 0, 0, 0, 0⟩ k L)) ∧ Below w.heap.size w w' := by
  have HSH := Lib.hid (fun W => shapeOf_any k W)
  rw [hsh] at HSH
  have hlow : ∀ b o, a = some ⟨b, o, none⟩ → L ≠ [] → b < w.heap.size := fun b o e hL => by
    obtain ⟨b', o', e2, h1, _⟩ := hs 0 (by cases L with | nil => exact absurd rfl hL | cons x l => simp [strs])
    cases e.symm.trans e2
    exact h1
  have HG : Hid (∀ w1 : World, Below (w.alloc (.cells #[.int .i64 0, .int .i64 0, .string ⟨#[]⟩, .string ⟨#[]⟩, .int .i64 0, .int .i64 0] 40)).heap.size (w.alloc (.cells #[.int .i64 0, .int .i64 0, .string ⟨#[]⟩, .string ⟨#[]⟩, .int .i64 0, .int .i64 0] 40)) w1 → w1.heap[w.heap.size]? = some (.cells #[.int .i64 0, .int .i64 0, .string ⟨#[]⟩, .string ⟨#[]⟩, .int .i64 0, .int .i64 0] 40 (0, 0)) ∧ w.heap.size < w1.heap.size ∧ Below w.heap.size w w1 ∧ RowAt w.heap.size ((w1.alloc (.cells #[.bool false, .bool false, .int .i64 0, .int .i64 0, .int .i64 0, .int .i64 0] 81)).alloc (.cells #[.slice a L.length c] 106)) (w1.heap.size + 1) L) := fun w1 h => by
    have hz := h.size
    rw [size1] at hz
    have hb : Below w.heap.size w w1 := ((Below.refl _ _).alloc (Nat.le_refl _) _).trans (h.mono (by rw [size1]; omega))
    refine ⟨(h.block _ (by rw [size1]; omega)).trans (heap_alloc_new w _), by omega, hb, a, c, ?_, ?_, hc, hm, hlow⟩
    · have := heap_alloc_new (w1.alloc (.cells #[.bool false, .bool false, .int .i64 0, .int .i64 0, .int .i64 0, .int .i64 0] 81)) (.cells #[.slice a L.length c] 106)
      rwa [size1] at this
    · exact Sl.below hs ((hb.alloc hb.size _).alloc (by rw [size1]; have := hb.size; omega) _)
  have HF := Lib.hid hf
  clear hsh hs hc hm hlow hf
  unfold shV at HSH
  go_enter Tryz.func31, Tryz.ntmps31
  go_wp2_with fail
  refine (HSH.out _).mono ?_
  rintro r w1 ⟨rfl, h1⟩
  obtain ⟨hR1, hlt1, hb1, hrow⟩ := HG.out _ h1
  have HN := Lib.hid (number_any' (w1.heap.size + 1) (by omega) L _ hrow HF.out)
  have hz2 : ((w1.alloc (.cells #[.bool false, .bool false, .int .i64 0, .int .i64 0, .int .i64 0, .int .i64 0] 81)).alloc (.cells #[.slice a L.length c] 106)).heap.size = w1.heap.size + 2 := by rw [size1, size1]
  have HB2 : Hid (((w1.alloc (.cells #[.bool false, .bool false, .int .i64 0, .int .i64 0, .int .i64 0, .int .i64 0] 81)).alloc (.cells #[.slice a L.length c] 106)).heap[w.heap.size]? = some (.cells #[.int .i64 0, .int .i64 0, .string ⟨#[]⟩, .string ⟨#[]⟩, .int .i64 0, .int .i64 0] 40 (0, 0)) ∧ ((w1.alloc (.cells #[.bool false, .bool false, .int .i64 0, .int .i64 0, .int .i64 0, .int .i64 0] 81)).alloc (.cells #[.slice a L.length c] 106)).heap[w1.heap.size]? = some (.cells #[.bool false, .bool false, .int .i64 0, .int .i64 0, .int .i64 0, .int .i64 0] 81 (0, 0)) ∧ Below w.heap.size w ((w1.alloc (.cells #[.bool false, .bool false, .int .i64 0, .int .i64 0, .int .i64 0, .int .i64 0] 81)).alloc (.cells #[.slice a L.length c] 106))) :=
    ⟨(Below.heap_alloc _ _ _ (by rw [size1]; omega)).trans ((Below.heap_alloc _ _ _ hlt1).trans hR1), (Below.heap_alloc _ _ _ (by rw [size1]; omega)).trans (heap_alloc_new w1 _), (hb1.alloc hb1.size _).alloc (by rw [size1]; have := hb1.size; omega) _⟩
  clear h1 hR1 hb1 hrow HG HSH
  go_wp2_with fail
  refine (HN.out).mono ?_
  rintro r w3 ⟨rfl, hr3, ho3⟩
  have hw3 : w1.heap.size + 2 ≤ w3.heap.size := by have := ho3.size; omega
  have hX3 := (ho3.block w1.heap.size (by omega) (by omega)).trans HB2.out.2.1
  have hR3 := (ho3.block w.heap.size (by omega) (by omega)).trans HB2.out.1
  have hf3 : Below w.heap.size w w3 := HB2.out.2.2.trans (ho3.below (by omega) (by omega))
  have hF : FW w ⟨false, false, 0, 0, 0, 0⟩ w1.heap.size (w1.heap.size + 1) w3.heap.size ⟨k, numW (headW L), ⟨#[]⟩, ⟨#[]⟩, 0, 0⟩ (tailW L) (w3.alloc (.cells #[.int .i64 k, .int .i64 (numW (headW L)), .string ⟨#[]⟩, .string ⟨#[]⟩, .int .i64 0, .int .i64 0] 40)) :=
    ⟨(Below.heap_alloc _ _ _ (by omega)).trans hR3, (Below.heap_alloc _ _ _ (by omega)).trans hX3, hr3.below ((Below.refl _ _).alloc (Nat.le_refl _) _), heap_alloc_new w3 _, hf3.alloc hf3.size _, by omega, by omega, by omega, by rw [size1]; omega⟩
  have HFF := Lib.hid hF
  have hl1 : w1.heap.size < w3.heap.size := by omega
  have hl2 : w.heap.size < w3.heap.size := by omega
  have hl3 : w1.heap.size + 1 < w3.heap.size := by omega
  have hn1 : ¬ w1.heap.size = w3.heap.size := by omega
  have hn2 : ¬ w3.heap.size = w1.heap.size := by omega
  have hn3 : ¬ w.heap.size = w3.heap.size := by omega
  have hn4 : ¬ w3.heap.size = w.heap.size := by omega
  obtain ⟨x0, x1, x2, x3, x4, x5⟩ := (cells6 hX3).1
  clear hF hr3 ho3 hX3 hR3 hf3 HN HB2 hz2 hw3 hlt1
  go_wp2_with fail
  refine (some_any _ _ _).mono ?_
  rintro r w4 ⟨rfl, k4⟩
  have HFF := Lib.hid (HFF.out.below k4)
  clear k4
  obtain ⟨⟨e0, e1, e2, e3, e4, e5⟩, p0, p1, p2, p3, p4, p5⟩ := cells6 HFF.out.ev
  obtain ⟨x0, x1, x2, x3, x4, x5⟩ := (cells6 HFF.out.sh).1
  obtain ⟨⟨z0, z1, z2, z3, z4, z5⟩, g0, g1, g2, g3, g4, g5⟩ := cells6 HFF.out.res
  go_wp2_with fail
  refine (some_any _ _ _).mono ?_
  rintro r w5 ⟨rfl, k5⟩
  have HFF := Lib.hid (HFF.out.below k5)
  clear k5
  obtain ⟨⟨e0, e1, e2, e3, e4, e5⟩, p0, p1, p2, p3, p4, p5⟩ := cells6 HFF.out.ev
  obtain ⟨x0, x1, x2, x3, x4, x5⟩ := (cells6 HFF.out.sh).1
  obtain ⟨⟨z0, z1, z2, z3, z4, z5⟩, g0, g1, g2, g3, g4, g5⟩ := cells6 HFF.out.res
  obtain ⟨F, hF, q1, q2⟩ := HFF.out.fin
  have HEQ : Hid (evV (fromS ⟨false, false, 0, 0, 0, 0⟩ k L) = evV ⟨k, numW (headW L), ⟨#[]⟩, ⟨#[]⟩, 0, 0⟩) := rfl
  have Q1 := Lib.hid q1
  have Q2 := Lib.hid q2
  have HFE := Lib.hid hF
  clear q1 q2 hF HFF

  go_wp2
  rw [HFE.out] at Q1 Q2
  refine bodyPost_ret (v := evV ⟨k, numW (headW L), ⟨#[]⟩, ⟨#[]⟩, 0, 0⟩) ?_ rfl ?_
  · rw [results_cell1 rfl]
    simp [asAddr, Result.andThen, Q1.out]
  · exact ⟨by rw [HEQ.out], Q2.out⟩
set_option maxHeartbeats 4000000 in
theorem fw_7 (k : Int) (hsh : shK k = ⟨true, false, 0, 0, 0, 0⟩) (L : List ByteArray) (hf : ∀ s ∈ L, s.size ≤ maxLen) (a : Option Addr) (c : Nat) (w : World) (hs : Sl w a (strs L)) (hc : L.length ≤ c) (hm : c ≤ maxLen) :
    Calls Tryz.prog 31 #[.int .i64 k, .slice a L.length c] w fun r w' => r = .returned (evV (fromS ⟨true, false, 0, 0, 0, 0⟩ k L)) ∧ Below w.heap.size w w' := by
  have HSH := Lib.hid (fun W => shapeOf_any k W)
  rw [hsh] at HSH
  have hlow : ∀ b o, a = some ⟨b, o, none⟩ → L ≠ [] → b < w.heap.size := fun b o e hL => by
    obtain ⟨b', o', e2, h1, _⟩ := hs 0 (by cases L with | nil => exact absurd rfl hL | cons x l => simp [strs])
    cases e.symm.trans e2
    exact h1
  have HG : Hid (∀ w1 : World, Below (w.alloc (.cells #[.int .i64 0, .int .i64 0, .string ⟨#[]⟩, .string ⟨#[]⟩, .int .i64 0, .int .i64 0] 40)).heap.size (w.alloc (.cells #[.int .i64 0, .int .i64 0, .string ⟨#[]⟩, .string ⟨#[]⟩, .int .i64 0, .int .i64 0] 40)) w1 → w1.heap[w.heap.size]? = some (.cells #[.int .i64 0, .int .i64 0, .string ⟨#[]⟩, .string ⟨#[]⟩, .int .i64 0, .int .i64 0] 40 (0, 0)) ∧ w.heap.size < w1.heap.size ∧ Below w.heap.size w w1 ∧ RowAt w.heap.size ((w1.alloc (.cells #[.bool true, .bool false, .int .i64 0, .int .i64 0, .int .i64 0, .int .i64 0] 81)).alloc (.cells #[.slice a L.length c] 106)) (w1.heap.size + 1) L) := fun w1 h => by
    have hz := h.size
    rw [size1] at hz
    have hb : Below w.heap.size w w1 := ((Below.refl _ _).alloc (Nat.le_refl _) _).trans (h.mono (by rw [size1]; omega))
    refine ⟨(h.block _ (by rw [size1]; omega)).trans (heap_alloc_new w _), by omega, hb, a, c, ?_, ?_, hc, hm, hlow⟩
    · have := heap_alloc_new (w1.alloc (.cells #[.bool true, .bool false, .int .i64 0, .int .i64 0, .int .i64 0, .int .i64 0] 81)) (.cells #[.slice a L.length c] 106)
      rwa [size1] at this
    · exact Sl.below hs ((hb.alloc hb.size _).alloc (by rw [size1]; have := hb.size; omega) _)
  have HF := Lib.hid hf
  clear hsh hs hc hm hlow hf
  unfold shV at HSH
  go_enter Tryz.func31, Tryz.ntmps31
  go_wp2_with fail
  refine (HSH.out _).mono ?_
  rintro r w1 ⟨rfl, h1⟩
  obtain ⟨hR1, hlt1, hb1, hrow⟩ := HG.out _ h1
  have HN := Lib.hid (number_any' (w1.heap.size + 1) (by omega) L _ hrow HF.out)
  have hz2 : ((w1.alloc (.cells #[.bool true, .bool false, .int .i64 0, .int .i64 0, .int .i64 0, .int .i64 0] 81)).alloc (.cells #[.slice a L.length c] 106)).heap.size = w1.heap.size + 2 := by rw [size1, size1]
  have HB2 : Hid (((w1.alloc (.cells #[.bool true, .bool false, .int .i64 0, .int .i64 0, .int .i64 0, .int .i64 0] 81)).alloc (.cells #[.slice a L.length c] 106)).heap[w.heap.size]? = some (.cells #[.int .i64 0, .int .i64 0, .string ⟨#[]⟩, .string ⟨#[]⟩, .int .i64 0, .int .i64 0] 40 (0, 0)) ∧ ((w1.alloc (.cells #[.bool true, .bool false, .int .i64 0, .int .i64 0, .int .i64 0, .int .i64 0] 81)).alloc (.cells #[.slice a L.length c] 106)).heap[w1.heap.size]? = some (.cells #[.bool true, .bool false, .int .i64 0, .int .i64 0, .int .i64 0, .int .i64 0] 81 (0, 0)) ∧ Below w.heap.size w ((w1.alloc (.cells #[.bool true, .bool false, .int .i64 0, .int .i64 0, .int .i64 0, .int .i64 0] 81)).alloc (.cells #[.slice a L.length c] 106))) :=
    ⟨(Below.heap_alloc _ _ _ (by rw [size1]; omega)).trans ((Below.heap_alloc _ _ _ hlt1).trans hR1), (Below.heap_alloc _ _ _ (by rw [size1]; omega)).trans (heap_alloc_new w1 _), (hb1.alloc hb1.size _).alloc (by rw [size1]; have := hb1.size; omega) _⟩
  clear h1 hR1 hb1 hrow HG HSH
  go_wp2_with fail
  refine (HN.out).mono ?_
  rintro r w3 ⟨rfl, hr3, ho3⟩
  have hw3 : w1.heap.size + 2 ≤ w3.heap.size := by have := ho3.size; omega
  have hX3 := (ho3.block w1.heap.size (by omega) (by omega)).trans HB2.out.2.1
  have hR3 := (ho3.block w.heap.size (by omega) (by omega)).trans HB2.out.1
  have hf3 : Below w.heap.size w w3 := HB2.out.2.2.trans (ho3.below (by omega) (by omega))
  have hF : FW w ⟨true, false, 0, 0, 0, 0⟩ w1.heap.size (w1.heap.size + 1) w3.heap.size ⟨k, numW (headW L), ⟨#[]⟩, ⟨#[]⟩, 0, 0⟩ (tailW L) (w3.alloc (.cells #[.int .i64 k, .int .i64 (numW (headW L)), .string ⟨#[]⟩, .string ⟨#[]⟩, .int .i64 0, .int .i64 0] 40)) :=
    ⟨(Below.heap_alloc _ _ _ (by omega)).trans hR3, (Below.heap_alloc _ _ _ (by omega)).trans hX3, hr3.below ((Below.refl _ _).alloc (Nat.le_refl _) _), heap_alloc_new w3 _, hf3.alloc hf3.size _, by omega, by omega, by omega, by rw [size1]; omega⟩
  have HFF := Lib.hid hF
  have hl1 : w1.heap.size < w3.heap.size := by omega
  have hl2 : w.heap.size < w3.heap.size := by omega
  have hl3 : w1.heap.size + 1 < w3.heap.size := by omega
  have hn1 : ¬ w1.heap.size = w3.heap.size := by omega
  have hn2 : ¬ w3.heap.size = w1.heap.size := by omega
  have hn3 : ¬ w.heap.size = w3.heap.size := by omega
  have hn4 : ¬ w3.heap.size = w.heap.size := by omega
  obtain ⟨x0, x1, x2, x3, x4, x5⟩ := (cells6 hX3).1
  clear hF hr3 ho3 hX3 hR3 hf3 HN HB2 hz2 hw3 hlt1
  go_wp2_with fail
  refine (HFF.out.text).mono ?_
  rintro r w4 ⟨rfl, k4⟩
  have HFF := Lib.hid k4
  clear k4
  obtain ⟨⟨e0, e1, e2, e3, e4, e5⟩, p0, p1, p2, p3, p4, p5⟩ := cells6 HFF.out.ev
  obtain ⟨x0, x1, x2, x3, x4, x5⟩ := (cells6 HFF.out.sh).1
  obtain ⟨⟨z0, z1, z2, z3, z4, z5⟩, g0, g1, g2, g3, g4, g5⟩ := cells6 HFF.out.res
  have HFF := Lib.hid (HFF.out.set 2 (.string (headW (tailW L))) ⟨k, numW (headW L), headW (tailW L), ⟨#[]⟩, 0, 0⟩ rfl)
  go_wp2_with fail
  refine (some_any _ _ _).mono ?_
  rintro r w5 ⟨rfl, k5⟩
  have HFF := Lib.hid (HFF.out.below k5)
  clear k5
  obtain ⟨⟨e0, e1, e2, e3, e4, e5⟩, p0, p1, p2, p3, p4, p5⟩ := cells6 HFF.out.ev
  obtain ⟨x0, x1, x2, x3, x4, x5⟩ := (cells6 HFF.out.sh).1
  obtain ⟨⟨z0, z1, z2, z3, z4, z5⟩, g0, g1, g2, g3, g4, g5⟩ := cells6 HFF.out.res
  go_wp2_with fail
  refine (some_any _ _ _).mono ?_
  rintro r w6 ⟨rfl, k6⟩
  have HFF := Lib.hid (HFF.out.below k6)
  clear k6
  obtain ⟨⟨e0, e1, e2, e3, e4, e5⟩, p0, p1, p2, p3, p4, p5⟩ := cells6 HFF.out.ev
  obtain ⟨x0, x1, x2, x3, x4, x5⟩ := (cells6 HFF.out.sh).1
  obtain ⟨⟨z0, z1, z2, z3, z4, z5⟩, g0, g1, g2, g3, g4, g5⟩ := cells6 HFF.out.res
  obtain ⟨F, hF, q1, q2⟩ := HFF.out.fin
  have HEQ : Hid (evV (fromS ⟨true, false, 0, 0, 0, 0⟩ k L) = evV ⟨k, numW (headW L), headW (tailW L), ⟨#[]⟩, 0, 0⟩) := rfl
  have Q1 := Lib.hid q1
  have Q2 := Lib.hid q2
  have HFE := Lib.hid hF
  clear q1 q2 hF HFF

  go_wp2
  rw [HFE.out] at Q1 Q2
  refine bodyPost_ret (v := evV ⟨k, numW (headW L), headW (tailW L), ⟨#[]⟩, 0, 0⟩) ?_ rfl ?_
  · rw [results_cell1 rfl]
    simp [asAddr, Result.andThen, Q1.out]
  · exact ⟨by rw [HEQ.out], Q2.out⟩
set_option maxHeartbeats 4000000 in
theorem fw_1 (k : Int) (hsh : shK k = ⟨true, false, 1, 999, 1, 4⟩) (L : List ByteArray) (hf : ∀ s ∈ L, s.size ≤ maxLen) (a : Option Addr) (c : Nat) (w : World) (hs : Sl w a (strs L)) (hc : L.length ≤ c) (hm : c ≤ maxLen) :
    Calls Tryz.prog 31 #[.int .i64 k, .slice a L.length c] w fun r w' => r = .returned (evV (fromS ⟨true, false, 1, 999, 1, 4⟩ k L)) ∧ Below w.heap.size w w' := by
  have HSH := Lib.hid (fun W => shapeOf_any k W)
  rw [hsh] at HSH
  have hlow : ∀ b o, a = some ⟨b, o, none⟩ → L ≠ [] → b < w.heap.size := fun b o e hL => by
    obtain ⟨b', o', e2, h1, _⟩ := hs 0 (by cases L with | nil => exact absurd rfl hL | cons x l => simp [strs])
    cases e.symm.trans e2
    exact h1
  have HG : Hid (∀ w1 : World, Below (w.alloc (.cells #[.int .i64 0, .int .i64 0, .string ⟨#[]⟩, .string ⟨#[]⟩, .int .i64 0, .int .i64 0] 40)).heap.size (w.alloc (.cells #[.int .i64 0, .int .i64 0, .string ⟨#[]⟩, .string ⟨#[]⟩, .int .i64 0, .int .i64 0] 40)) w1 → w1.heap[w.heap.size]? = some (.cells #[.int .i64 0, .int .i64 0, .string ⟨#[]⟩, .string ⟨#[]⟩, .int .i64 0, .int .i64 0] 40 (0, 0)) ∧ w.heap.size < w1.heap.size ∧ Below w.heap.size w w1 ∧ RowAt w.heap.size ((w1.alloc (.cells #[.bool true, .bool false, .int .i64 1, .int .i64 999, .int .i64 1, .int .i64 4] 81)).alloc (.cells #[.slice a L.length c] 106)) (w1.heap.size + 1) L) := fun w1 h => by
    have hz := h.size
    rw [size1] at hz
    have hb : Below w.heap.size w w1 := ((Below.refl _ _).alloc (Nat.le_refl _) _).trans (h.mono (by rw [size1]; omega))
    refine ⟨(h.block _ (by rw [size1]; omega)).trans (heap_alloc_new w _), by omega, hb, a, c, ?_, ?_, hc, hm, hlow⟩
    · have := heap_alloc_new (w1.alloc (.cells #[.bool true, .bool false, .int .i64 1, .int .i64 999, .int .i64 1, .int .i64 4] 81)) (.cells #[.slice a L.length c] 106)
      rwa [size1] at this
    · exact Sl.below hs ((hb.alloc hb.size _).alloc (by rw [size1]; have := hb.size; omega) _)
  have HF := Lib.hid hf
  clear hsh hs hc hm hlow hf
  unfold shV at HSH
  go_enter Tryz.func31, Tryz.ntmps31
  go_wp2_with fail
  refine (HSH.out _).mono ?_
  rintro r w1 ⟨rfl, h1⟩
  obtain ⟨hR1, hlt1, hb1, hrow⟩ := HG.out _ h1
  have HN := Lib.hid (number_any' (w1.heap.size + 1) (by omega) L _ hrow HF.out)
  have hz2 : ((w1.alloc (.cells #[.bool true, .bool false, .int .i64 1, .int .i64 999, .int .i64 1, .int .i64 4] 81)).alloc (.cells #[.slice a L.length c] 106)).heap.size = w1.heap.size + 2 := by rw [size1, size1]
  have HB2 : Hid (((w1.alloc (.cells #[.bool true, .bool false, .int .i64 1, .int .i64 999, .int .i64 1, .int .i64 4] 81)).alloc (.cells #[.slice a L.length c] 106)).heap[w.heap.size]? = some (.cells #[.int .i64 0, .int .i64 0, .string ⟨#[]⟩, .string ⟨#[]⟩, .int .i64 0, .int .i64 0] 40 (0, 0)) ∧ ((w1.alloc (.cells #[.bool true, .bool false, .int .i64 1, .int .i64 999, .int .i64 1, .int .i64 4] 81)).alloc (.cells #[.slice a L.length c] 106)).heap[w1.heap.size]? = some (.cells #[.bool true, .bool false, .int .i64 1, .int .i64 999, .int .i64 1, .int .i64 4] 81 (0, 0)) ∧ Below w.heap.size w ((w1.alloc (.cells #[.bool true, .bool false, .int .i64 1, .int .i64 999, .int .i64 1, .int .i64 4] 81)).alloc (.cells #[.slice a L.length c] 106))) :=
    ⟨(Below.heap_alloc _ _ _ (by rw [size1]; omega)).trans ((Below.heap_alloc _ _ _ hlt1).trans hR1), (Below.heap_alloc _ _ _ (by rw [size1]; omega)).trans (heap_alloc_new w1 _), (hb1.alloc hb1.size _).alloc (by rw [size1]; have := hb1.size; omega) _⟩
  clear h1 hR1 hb1 hrow HG HSH
  go_wp2_with fail
  refine (HN.out).mono ?_
  rintro r w3 ⟨rfl, hr3, ho3⟩
  have hw3 : w1.heap.size + 2 ≤ w3.heap.size := by have := ho3.size; omega
  have hX3 := (ho3.block w1.heap.size (by omega) (by omega)).trans HB2.out.2.1
  have hR3 := (ho3.block w.heap.size (by omega) (by omega)).trans HB2.out.1
  have hf3 : Below w.heap.size w w3 := HB2.out.2.2.trans (ho3.below (by omega) (by omega))
  have hF : FW w ⟨true, false, 1, 999, 1, 4⟩ w1.heap.size (w1.heap.size + 1) w3.heap.size ⟨k, numW (headW L), ⟨#[]⟩, ⟨#[]⟩, 0, 0⟩ (tailW L) (w3.alloc (.cells #[.int .i64 k, .int .i64 (numW (headW L)), .string ⟨#[]⟩, .string ⟨#[]⟩, .int .i64 0, .int .i64 0] 40)) :=
    ⟨(Below.heap_alloc _ _ _ (by omega)).trans hR3, (Below.heap_alloc _ _ _ (by omega)).trans hX3, hr3.below ((Below.refl _ _).alloc (Nat.le_refl _) _), heap_alloc_new w3 _, hf3.alloc hf3.size _, by omega, by omega, by omega, by rw [size1]; omega⟩
  have HFF := Lib.hid hF
  have hl1 : w1.heap.size < w3.heap.size := by omega
  have hl2 : w.heap.size < w3.heap.size := by omega
  have hl3 : w1.heap.size + 1 < w3.heap.size := by omega
  have hn1 : ¬ w1.heap.size = w3.heap.size := by omega
  have hn2 : ¬ w3.heap.size = w1.heap.size := by omega
  have hn3 : ¬ w.heap.size = w3.heap.size := by omega
  have hn4 : ¬ w3.heap.size = w.heap.size := by omega
  obtain ⟨x0, x1, x2, x3, x4, x5⟩ := (cells6 hX3).1
  clear hF hr3 ho3 hX3 hR3 hf3 HN HB2 hz2 hw3 hlt1
  go_wp2_with fail
  refine (HFF.out.text).mono ?_
  rintro r w4 ⟨rfl, k4⟩
  have HFF := Lib.hid k4
  clear k4
  obtain ⟨⟨e0, e1, e2, e3, e4, e5⟩, p0, p1, p2, p3, p4, p5⟩ := cells6 HFF.out.ev
  obtain ⟨x0, x1, x2, x3, x4, x5⟩ := (cells6 HFF.out.sh).1
  obtain ⟨⟨z0, z1, z2, z3, z4, z5⟩, g0, g1, g2, g3, g4, g5⟩ := cells6 HFF.out.res
  have HFF := Lib.hid (HFF.out.set 2 (.string (headW (tailW L))) ⟨k, numW (headW L), headW (tailW L), ⟨#[]⟩, 0, 0⟩ rfl)
  go_wp2_with fail
  refine (some_any _ _ _).mono ?_
  rintro r w5 ⟨rfl, k5⟩
  have HFF := Lib.hid (HFF.out.below k5)
  clear k5
  obtain ⟨⟨e0, e1, e2, e3, e4, e5⟩, p0, p1, p2, p3, p4, p5⟩ := cells6 HFF.out.ev
  obtain ⟨x0, x1, x2, x3, x4, x5⟩ := (cells6 HFF.out.sh).1
  obtain ⟨⟨z0, z1, z2, z3, z4, z5⟩, g0, g1, g2, g3, g4, g5⟩ := cells6 HFF.out.res
  go_wp2_with fail
  refine (HFF.out.number (tail_fit (tail_fit HF.out))).mono ?_
  rintro r w6 ⟨rfl, k6⟩
  have HFF := Lib.hid k6
  clear k6
  obtain ⟨⟨e0, e1, e2, e3, e4, e5⟩, p0, p1, p2, p3, p4, p5⟩ := cells6 HFF.out.ev
  obtain ⟨x0, x1, x2, x3, x4, x5⟩ := (cells6 HFF.out.sh).1
  obtain ⟨⟨z0, z1, z2, z3, z4, z5⟩, g0, g1, g2, g3, g4, g5⟩ := cells6 HFF.out.res
  have HFF := Lib.hid (HFF.out.set 4 (.int .i64 (numW (headW (tailW (tailW L))))) ⟨k, numW (headW L), headW (tailW L), ⟨#[]⟩, numW (headW (tailW (tailW L))), 0⟩ rfl)
  go_wp2_with fail
  refine (some_any _ _ _).mono ?_
  rintro r w7 ⟨rfl, k7⟩
  have HFF := Lib.hid (HFF.out.below k7)
  clear k7
  obtain ⟨⟨e0, e1, e2, e3, e4, e5⟩, p0, p1, p2, p3, p4, p5⟩ := cells6 HFF.out.ev
  obtain ⟨x0, x1, x2, x3, x4, x5⟩ := (cells6 HFF.out.sh).1
  obtain ⟨⟨z0, z1, z2, z3, z4, z5⟩, g0, g1, g2, g3, g4, g5⟩ := cells6 HFF.out.res
  go_wp2_with fail
  refine (HFF.out.number (tail_fit (tail_fit (tail_fit HF.out)))).mono ?_
  rintro r w8 ⟨rfl, k8⟩
  have HFF := Lib.hid k8
  clear k8
  obtain ⟨⟨e0, e1, e2, e3, e4, e5⟩, p0, p1, p2, p3, p4, p5⟩ := cells6 HFF.out.ev
  obtain ⟨x0, x1, x2, x3, x4, x5⟩ := (cells6 HFF.out.sh).1
  obtain ⟨⟨z0, z1, z2, z3, z4, z5⟩, g0, g1, g2, g3, g4, g5⟩ := cells6 HFF.out.res
  have HFF := Lib.hid (HFF.out.set 5 (.int .i64 (numW (headW (tailW (tailW (tailW L)))))) ⟨k, numW (headW L), headW (tailW L), ⟨#[]⟩, numW (headW (tailW (tailW L))), numW (headW (tailW (tailW (tailW L))))⟩ rfl)
  obtain ⟨F, hF, q1, q2⟩ := HFF.out.fin
  have HEQ : Hid (evV (fromS ⟨true, false, 1, 999, 1, 4⟩ k L) = evV ⟨k, numW (headW L), headW (tailW L), ⟨#[]⟩, numW (headW (tailW (tailW L))), numW (headW (tailW (tailW (tailW L))))⟩) := rfl
  have Q1 := Lib.hid q1
  have Q2 := Lib.hid q2
  have HFE := Lib.hid hF
  clear q1 q2 hF HFF

  go_wp2
  rw [HFE.out] at Q1 Q2
  refine bodyPost_ret (v := evV ⟨k, numW (headW L), headW (tailW L), ⟨#[]⟩, numW (headW (tailW (tailW L))), numW (headW (tailW (tailW (tailW L))))⟩) ?_ rfl ?_
  · rw [results_cell1 rfl]
    simp [asAddr, Result.andThen, Q1.out]
  · exact ⟨by rw [HEQ.out], Q2.out⟩
set_option maxHeartbeats 4000000 in
theorem fw_3 (k : Int) (hsh : shK k = ⟨true, false, 1, 999, 0, 0⟩) (L : List ByteArray) (hf : ∀ s ∈ L, s.size ≤ maxLen) (a : Option Addr) (c : Nat) (w : World) (hs : Sl w a (strs L)) (hc : L.length ≤ c) (hm : c ≤ maxLen) :
    Calls Tryz.prog 31 #[.int .i64 k, .slice a L.length c] w fun r w' => r = .returned (evV (fromS ⟨true, false, 1, 999, 0, 0⟩ k L)) ∧ Below w.heap.size w w' := by
  have HSH := Lib.hid (fun W => shapeOf_any k W)
  rw [hsh] at HSH
  have hlow : ∀ b o, a = some ⟨b, o, none⟩ → L ≠ [] → b < w.heap.size := fun b o e hL => by
    obtain ⟨b', o', e2, h1, _⟩ := hs 0 (by cases L with | nil => exact absurd rfl hL | cons x l => simp [strs])
    cases e.symm.trans e2
    exact h1
  have HG : Hid (∀ w1 : World, Below (w.alloc (.cells #[.int .i64 0, .int .i64 0, .string ⟨#[]⟩, .string ⟨#[]⟩, .int .i64 0, .int .i64 0] 40)).heap.size (w.alloc (.cells #[.int .i64 0, .int .i64 0, .string ⟨#[]⟩, .string ⟨#[]⟩, .int .i64 0, .int .i64 0] 40)) w1 → w1.heap[w.heap.size]? = some (.cells #[.int .i64 0, .int .i64 0, .string ⟨#[]⟩, .string ⟨#[]⟩, .int .i64 0, .int .i64 0] 40 (0, 0)) ∧ w.heap.size < w1.heap.size ∧ Below w.heap.size w w1 ∧ RowAt w.heap.size ((w1.alloc (.cells #[.bool true, .bool false, .int .i64 1, .int .i64 999, .int .i64 0, .int .i64 0] 81)).alloc (.cells #[.slice a L.length c] 106)) (w1.heap.size + 1) L) := fun w1 h => by
    have hz := h.size
    rw [size1] at hz
    have hb : Below w.heap.size w w1 := ((Below.refl _ _).alloc (Nat.le_refl _) _).trans (h.mono (by rw [size1]; omega))
    refine ⟨(h.block _ (by rw [size1]; omega)).trans (heap_alloc_new w _), by omega, hb, a, c, ?_, ?_, hc, hm, hlow⟩
    · have := heap_alloc_new (w1.alloc (.cells #[.bool true, .bool false, .int .i64 1, .int .i64 999, .int .i64 0, .int .i64 0] 81)) (.cells #[.slice a L.length c] 106)
      rwa [size1] at this
    · exact Sl.below hs ((hb.alloc hb.size _).alloc (by rw [size1]; have := hb.size; omega) _)
  have HF := Lib.hid hf
  clear hsh hs hc hm hlow hf
  unfold shV at HSH
  go_enter Tryz.func31, Tryz.ntmps31
  go_wp2_with fail
  refine (HSH.out _).mono ?_
  rintro r w1 ⟨rfl, h1⟩
  obtain ⟨hR1, hlt1, hb1, hrow⟩ := HG.out _ h1
  have HN := Lib.hid (number_any' (w1.heap.size + 1) (by omega) L _ hrow HF.out)
  have hz2 : ((w1.alloc (.cells #[.bool true, .bool false, .int .i64 1, .int .i64 999, .int .i64 0, .int .i64 0] 81)).alloc (.cells #[.slice a L.length c] 106)).heap.size = w1.heap.size + 2 := by rw [size1, size1]
  have HB2 : Hid (((w1.alloc (.cells #[.bool true, .bool false, .int .i64 1, .int .i64 999, .int .i64 0, .int .i64 0] 81)).alloc (.cells #[.slice a L.length c] 106)).heap[w.heap.size]? = some (.cells #[.int .i64 0, .int .i64 0, .string ⟨#[]⟩, .string ⟨#[]⟩, .int .i64 0, .int .i64 0] 40 (0, 0)) ∧ ((w1.alloc (.cells #[.bool true, .bool false, .int .i64 1, .int .i64 999, .int .i64 0, .int .i64 0] 81)).alloc (.cells #[.slice a L.length c] 106)).heap[w1.heap.size]? = some (.cells #[.bool true, .bool false, .int .i64 1, .int .i64 999, .int .i64 0, .int .i64 0] 81 (0, 0)) ∧ Below w.heap.size w ((w1.alloc (.cells #[.bool true, .bool false, .int .i64 1, .int .i64 999, .int .i64 0, .int .i64 0] 81)).alloc (.cells #[.slice a L.length c] 106))) :=
    ⟨(Below.heap_alloc _ _ _ (by rw [size1]; omega)).trans ((Below.heap_alloc _ _ _ hlt1).trans hR1), (Below.heap_alloc _ _ _ (by rw [size1]; omega)).trans (heap_alloc_new w1 _), (hb1.alloc hb1.size _).alloc (by rw [size1]; have := hb1.size; omega) _⟩
  clear h1 hR1 hb1 hrow HG HSH
  go_wp2_with fail
  refine (HN.out).mono ?_
  rintro r w3 ⟨rfl, hr3, ho3⟩
  have hw3 : w1.heap.size + 2 ≤ w3.heap.size := by have := ho3.size; omega
  have hX3 := (ho3.block w1.heap.size (by omega) (by omega)).trans HB2.out.2.1
  have hR3 := (ho3.block w.heap.size (by omega) (by omega)).trans HB2.out.1
  have hf3 : Below w.heap.size w w3 := HB2.out.2.2.trans (ho3.below (by omega) (by omega))
  have hF : FW w ⟨true, false, 1, 999, 0, 0⟩ w1.heap.size (w1.heap.size + 1) w3.heap.size ⟨k, numW (headW L), ⟨#[]⟩, ⟨#[]⟩, 0, 0⟩ (tailW L) (w3.alloc (.cells #[.int .i64 k, .int .i64 (numW (headW L)), .string ⟨#[]⟩, .string ⟨#[]⟩, .int .i64 0, .int .i64 0] 40)) :=
    ⟨(Below.heap_alloc _ _ _ (by omega)).trans hR3, (Below.heap_alloc _ _ _ (by omega)).trans hX3, hr3.below ((Below.refl _ _).alloc (Nat.le_refl _) _), heap_alloc_new w3 _, hf3.alloc hf3.size _, by omega, by omega, by omega, by rw [size1]; omega⟩
  have HFF := Lib.hid hF
  have hl1 : w1.heap.size < w3.heap.size := by omega
  have hl2 : w.heap.size < w3.heap.size := by omega
  have hl3 : w1.heap.size + 1 < w3.heap.size := by omega
  have hn1 : ¬ w1.heap.size = w3.heap.size := by omega
  have hn2 : ¬ w3.heap.size = w1.heap.size := by omega
  have hn3 : ¬ w.heap.size = w3.heap.size := by omega
  have hn4 : ¬ w3.heap.size = w.heap.size := by omega
  obtain ⟨x0, x1, x2, x3, x4, x5⟩ := (cells6 hX3).1
  clear hF hr3 ho3 hX3 hR3 hf3 HN HB2 hz2 hw3 hlt1
  go_wp2_with fail
  refine (HFF.out.text).mono ?_
  rintro r w4 ⟨rfl, k4⟩
  have HFF := Lib.hid k4
  clear k4
  obtain ⟨⟨e0, e1, e2, e3, e4, e5⟩, p0, p1, p2, p3, p4, p5⟩ := cells6 HFF.out.ev
  obtain ⟨x0, x1, x2, x3, x4, x5⟩ := (cells6 HFF.out.sh).1
  obtain ⟨⟨z0, z1, z2, z3, z4, z5⟩, g0, g1, g2, g3, g4, g5⟩ := cells6 HFF.out.res
  have HFF := Lib.hid (HFF.out.set 2 (.string (headW (tailW L))) ⟨k, numW (headW L), headW (tailW L), ⟨#[]⟩, 0, 0⟩ rfl)
  go_wp2_with fail
  refine (some_any _ _ _).mono ?_
  rintro r w5 ⟨rfl, k5⟩
  have HFF := Lib.hid (HFF.out.below k5)
  clear k5
  obtain ⟨⟨e0, e1, e2, e3, e4, e5⟩, p0, p1, p2, p3, p4, p5⟩ := cells6 HFF.out.ev
  obtain ⟨x0, x1, x2, x3, x4, x5⟩ := (cells6 HFF.out.sh).1
  obtain ⟨⟨z0, z1, z2, z3, z4, z5⟩, g0, g1, g2, g3, g4, g5⟩ := cells6 HFF.out.res
  go_wp2_with fail
  refine (HFF.out.number (tail_fit (tail_fit HF.out))).mono ?_
  rintro r w6 ⟨rfl, k6⟩
  have HFF := Lib.hid k6
  clear k6
  obtain ⟨⟨e0, e1, e2, e3, e4, e5⟩, p0, p1, p2, p3, p4, p5⟩ := cells6 HFF.out.ev
  obtain ⟨x0, x1, x2, x3, x4, x5⟩ := (cells6 HFF.out.sh).1
  obtain ⟨⟨z0, z1, z2, z3, z4, z5⟩, g0, g1, g2, g3, g4, g5⟩ := cells6 HFF.out.res
  have HFF := Lib.hid (HFF.out.set 4 (.int .i64 (numW (headW (tailW (tailW L))))) ⟨k, numW (headW L), headW (tailW L), ⟨#[]⟩, numW (headW (tailW (tailW L))), 0⟩ rfl)
  go_wp2_with fail
  refine (some_any _ _ _).mono ?_
  rintro r w7 ⟨rfl, k7⟩
  have HFF := Lib.hid (HFF.out.below k7)
  clear k7
  obtain ⟨⟨e0, e1, e2, e3, e4, e5⟩, p0, p1, p2, p3, p4, p5⟩ := cells6 HFF.out.ev
  obtain ⟨x0, x1, x2, x3, x4, x5⟩ := (cells6 HFF.out.sh).1
  obtain ⟨⟨z0, z1, z2, z3, z4, z5⟩, g0, g1, g2, g3, g4, g5⟩ := cells6 HFF.out.res
  obtain ⟨F, hF, q1, q2⟩ := HFF.out.fin
  have HEQ : Hid (evV (fromS ⟨true, false, 1, 999, 0, 0⟩ k L) = evV ⟨k, numW (headW L), headW (tailW L), ⟨#[]⟩, numW (headW (tailW (tailW L))), 0⟩) := rfl
  have Q1 := Lib.hid q1
  have Q2 := Lib.hid q2
  have HFE := Lib.hid hF
  clear q1 q2 hF HFF

  go_wp2
  rw [HFE.out] at Q1 Q2
  refine bodyPost_ret (v := evV ⟨k, numW (headW L), headW (tailW L), ⟨#[]⟩, numW (headW (tailW (tailW L))), 0⟩) ?_ rfl ?_
  · rw [results_cell1 rfl]
    simp [asAddr, Result.andThen, Q1.out]
  · exact ⟨by rw [HEQ.out], Q2.out⟩
set_option maxHeartbeats 4000000 in
theorem fw_4 (k : Int) (hsh : shK k = ⟨true, true, 0, 0, 0, 0⟩) (L : List ByteArray) (hf : ∀ s ∈ L, s.size ≤ maxLen) (a : Option Addr) (c : Nat) (w : World) (hs : Sl w a (strs L)) (hc : L.length ≤ c) (hm : c ≤ maxLen) :
    Calls Tryz.prog 31 #[.int .i64 k, .slice a L.length c] w fun r w' => r = .returned (evV (fromS ⟨true, true, 0, 0, 0, 0⟩ k L)) ∧ Below w.heap.size w w' := by
  have HSH := Lib.hid (fun W => shapeOf_any k W)
  rw [hsh] at HSH
  have hlow : ∀ b o, a = some ⟨b, o, none⟩ → L ≠ [] → b < w.heap.size := fun b o e hL => by
    obtain ⟨b', o', e2, h1, _⟩ := hs 0 (by cases L with | nil => exact absurd rfl hL | cons x l => simp [strs])
    cases e.symm.trans e2
    exact h1
  have HG : Hid (∀ w1 : World, Below (w.alloc (.cells #[.int .i64 0, .int .i64 0, .string ⟨#[]⟩, .string ⟨#[]⟩, .int .i64 0, .int .i64 0] 40)).heap.size (w.alloc (.cells #[.int .i64 0, .int .i64 0, .string ⟨#[]⟩, .string ⟨#[]⟩, .int .i64 0, .int .i64 0] 40)) w1 → w1.heap[w.heap.size]? = some (.cells #[.int .i64 0, .int .i64 0, .string ⟨#[]⟩, .string ⟨#[]⟩, .int .i64 0, .int .i64 0] 40 (0, 0)) ∧ w.heap.size < w1.heap.size ∧ Below w.heap.size w w1 ∧ RowAt w.heap.size ((w1.alloc (.cells #[.bool true, .bool true, .int .i64 0, .int .i64 0, .int .i64 0, .int .i64 0] 81)).alloc (.cells #[.slice a L.length c] 106)) (w1.heap.size + 1) L) := fun w1 h => by
    have hz := h.size
    rw [size1] at hz
    have hb : Below w.heap.size w w1 := ((Below.refl _ _).alloc (Nat.le_refl _) _).trans (h.mono (by rw [size1]; omega))
    refine ⟨(h.block _ (by rw [size1]; omega)).trans (heap_alloc_new w _), by omega, hb, a, c, ?_, ?_, hc, hm, hlow⟩
    · have := heap_alloc_new (w1.alloc (.cells #[.bool true, .bool true, .int .i64 0, .int .i64 0, .int .i64 0, .int .i64 0] 81)) (.cells #[.slice a L.length c] 106)
      rwa [size1] at this
    · exact Sl.below hs ((hb.alloc hb.size _).alloc (by rw [size1]; have := hb.size; omega) _)
  have HF := Lib.hid hf
  clear hsh hs hc hm hlow hf
  unfold shV at HSH
  go_enter Tryz.func31, Tryz.ntmps31
  go_wp2_with fail
  refine (HSH.out _).mono ?_
  rintro r w1 ⟨rfl, h1⟩
  obtain ⟨hR1, hlt1, hb1, hrow⟩ := HG.out _ h1
  have HN := Lib.hid (number_any' (w1.heap.size + 1) (by omega) L _ hrow HF.out)
  have hz2 : ((w1.alloc (.cells #[.bool true, .bool true, .int .i64 0, .int .i64 0, .int .i64 0, .int .i64 0] 81)).alloc (.cells #[.slice a L.length c] 106)).heap.size = w1.heap.size + 2 := by rw [size1, size1]
  have HB2 : Hid (((w1.alloc (.cells #[.bool true, .bool true, .int .i64 0, .int .i64 0, .int .i64 0, .int .i64 0] 81)).alloc (.cells #[.slice a L.length c] 106)).heap[w.heap.size]? = some (.cells #[.int .i64 0, .int .i64 0, .string ⟨#[]⟩, .string ⟨#[]⟩, .int .i64 0, .int .i64 0] 40 (0, 0)) ∧ ((w1.alloc (.cells #[.bool true, .bool true, .int .i64 0, .int .i64 0, .int .i64 0, .int .i64 0] 81)).alloc (.cells #[.slice a L.length c] 106)).heap[w1.heap.size]? = some (.cells #[.bool true, .bool true, .int .i64 0, .int .i64 0, .int .i64 0, .int .i64 0] 81 (0, 0)) ∧ Below w.heap.size w ((w1.alloc (.cells #[.bool true, .bool true, .int .i64 0, .int .i64 0, .int .i64 0, .int .i64 0] 81)).alloc (.cells #[.slice a L.length c] 106))) :=
    ⟨(Below.heap_alloc _ _ _ (by rw [size1]; omega)).trans ((Below.heap_alloc _ _ _ hlt1).trans hR1), (Below.heap_alloc _ _ _ (by rw [size1]; omega)).trans (heap_alloc_new w1 _), (hb1.alloc hb1.size _).alloc (by rw [size1]; have := hb1.size; omega) _⟩
  clear h1 hR1 hb1 hrow HG HSH
  go_wp2_with fail
  refine (HN.out).mono ?_
  rintro r w3 ⟨rfl, hr3, ho3⟩
  have hw3 : w1.heap.size + 2 ≤ w3.heap.size := by have := ho3.size; omega
  have hX3 := (ho3.block w1.heap.size (by omega) (by omega)).trans HB2.out.2.1
  have hR3 := (ho3.block w.heap.size (by omega) (by omega)).trans HB2.out.1
  have hf3 : Below w.heap.size w w3 := HB2.out.2.2.trans (ho3.below (by omega) (by omega))
  have hF : FW w ⟨true, true, 0, 0, 0, 0⟩ w1.heap.size (w1.heap.size + 1) w3.heap.size ⟨k, numW (headW L), ⟨#[]⟩, ⟨#[]⟩, 0, 0⟩ (tailW L) (w3.alloc (.cells #[.int .i64 k, .int .i64 (numW (headW L)), .string ⟨#[]⟩, .string ⟨#[]⟩, .int .i64 0, .int .i64 0] 40)) :=
    ⟨(Below.heap_alloc _ _ _ (by omega)).trans hR3, (Below.heap_alloc _ _ _ (by omega)).trans hX3, hr3.below ((Below.refl _ _).alloc (Nat.le_refl _) _), heap_alloc_new w3 _, hf3.alloc hf3.size _, by omega, by omega, by omega, by rw [size1]; omega⟩
  have HFF := Lib.hid hF
  have hl1 : w1.heap.size < w3.heap.size := by omega
  have hl2 : w.heap.size < w3.heap.size := by omega
  have hl3 : w1.heap.size + 1 < w3.heap.size := by omega
  have hn1 : ¬ w1.heap.size = w3.heap.size := by omega
  have hn2 : ¬ w3.heap.size = w1.heap.size := by omega
  have hn3 : ¬ w.heap.size = w3.heap.size := by omega
  have hn4 : ¬ w3.heap.size = w.heap.size := by omega
  obtain ⟨x0, x1, x2, x3, x4, x5⟩ := (cells6 hX3).1
  clear hF hr3 ho3 hX3 hR3 hf3 HN HB2 hz2 hw3 hlt1
  go_wp2_with fail
  refine (HFF.out.text).mono ?_
  rintro r w4 ⟨rfl, k4⟩
  have HFF := Lib.hid k4
  clear k4
  obtain ⟨⟨e0, e1, e2, e3, e4, e5⟩, p0, p1, p2, p3, p4, p5⟩ := cells6 HFF.out.ev
  obtain ⟨x0, x1, x2, x3, x4, x5⟩ := (cells6 HFF.out.sh).1
  obtain ⟨⟨z0, z1, z2, z3, z4, z5⟩, g0, g1, g2, g3, g4, g5⟩ := cells6 HFF.out.res
  have HFF := Lib.hid (HFF.out.set 2 (.string (headW (tailW L))) ⟨k, numW (headW L), headW (tailW L), ⟨#[]⟩, 0, 0⟩ rfl)
  go_wp2_with fail
  refine (HFF.out.text).mono ?_
  rintro r w5 ⟨rfl, k5⟩
  have HFF := Lib.hid k5
  clear k5
  obtain ⟨⟨e0, e1, e2, e3, e4, e5⟩, p0, p1, p2, p3, p4, p5⟩ := cells6 HFF.out.ev
  obtain ⟨x0, x1, x2, x3, x4, x5⟩ := (cells6 HFF.out.sh).1
  obtain ⟨⟨z0, z1, z2, z3, z4, z5⟩, g0, g1, g2, g3, g4, g5⟩ := cells6 HFF.out.res
  have HFF := Lib.hid (HFF.out.set 3 (.string (headW (tailW (tailW L)))) ⟨k, numW (headW L), headW (tailW L), headW (tailW (tailW L)), 0, 0⟩ rfl)
  go_wp2_with fail
  refine (some_any _ _ _).mono ?_
  rintro r w6 ⟨rfl, k6⟩
  have HFF := Lib.hid (HFF.out.below k6)
  clear k6
  obtain ⟨⟨e0, e1, e2, e3, e4, e5⟩, p0, p1, p2, p3, p4, p5⟩ := cells6 HFF.out.ev
  obtain ⟨x0, x1, x2, x3, x4, x5⟩ := (cells6 HFF.out.sh).1
  obtain ⟨⟨z0, z1, z2, z3, z4, z5⟩, g0, g1, g2, g3, g4, g5⟩ := cells6 HFF.out.res
  go_wp2_with fail
  refine (some_any _ _ _).mono ?_
  rintro r w7 ⟨rfl, k7⟩
  have HFF := Lib.hid (HFF.out.below k7)
  clear k7
  obtain ⟨⟨e0, e1, e2, e3, e4, e5⟩, p0, p1, p2, p3, p4, p5⟩ := cells6 HFF.out.ev
  obtain ⟨x0, x1, x2, x3, x4, x5⟩ := (cells6 HFF.out.sh).1
  obtain ⟨⟨z0, z1, z2, z3, z4, z5⟩, g0, g1, g2, g3, g4, g5⟩ := cells6 HFF.out.res
  obtain ⟨F, hF, q1, q2⟩ := HFF.out.fin
  have HEQ : Hid (evV (fromS ⟨true, true, 0, 0, 0, 0⟩ k L) = evV ⟨k, numW (headW L), headW (tailW L), headW (tailW (tailW L)), 0, 0⟩) := rfl
  have Q1 := Lib.hid q1
  have Q2 := Lib.hid q2
  have HFE := Lib.hid hF
  clear q1 q2 hF HFF

  go_wp2
  rw [HFE.out] at Q1 Q2
  refine bodyPost_ret (v := evV ⟨k, numW (headW L), headW (tailW L), headW (tailW (tailW L)), 0, 0⟩) ?_ rfl ?_
  · rw [results_cell1 rfl]
    simp [asAddr, Result.andThen, Q1.out]
  · exact ⟨by rw [HEQ.out], Q2.out⟩
set_option maxHeartbeats 4000000 in
theorem fw_6 (k : Int) (hsh : shK k = ⟨false, false, 0, 1099511627775, 0, 0⟩) (L : List ByteArray) (hf : ∀ s ∈ L, s.size ≤ maxLen) (a : Option Addr) (c : Nat) (w : World) (hs : Sl w a (strs L)) (hc : L.length ≤ c) (hm : c ≤ maxLen) :
    Calls Tryz.prog 31 #[.int .i64 k, .slice a L.length c] w fun r w' => r = .returned (evV (fromS ⟨false, false, 0, 1099511627775, 0, 0⟩ k L)) ∧ Below w.heap.size w w' := by
  have HSH := Lib.hid (fun W => shapeOf_any k W)
  rw [hsh] at HSH
  have hlow : ∀ b o, a = some ⟨b, o, none⟩ → L ≠ [] → b < w.heap.size := fun b o e hL => by
    obtain ⟨b', o', e2, h1, _⟩ := hs 0 (by cases L with | nil => exact absurd rfl hL | cons x l => simp [strs])
    cases e.symm.trans e2
    exact h1
  have HG : Hid (∀ w1 : World, Below (w.alloc (.cells #[.int .i64 0, .int .i64 0, .string ⟨#[]⟩, .string ⟨#[]⟩, .int .i64 0, .int .i64 0] 40)).heap.size (w.alloc (.cells #[.int .i64 0, .int .i64 0, .string ⟨#[]⟩, .string ⟨#[]⟩, .int .i64 0, .int .i64 0] 40)) w1 → w1.heap[w.heap.size]? = some (.cells #[.int .i64 0, .int .i64 0, .string ⟨#[]⟩, .string ⟨#[]⟩, .int .i64 0, .int .i64 0] 40 (0, 0)) ∧ w.heap.size < w1.heap.size ∧ Below w.heap.size w w1 ∧ RowAt w.heap.size ((w1.alloc (.cells #[.bool false, .bool false, .int .i64 0, .int .i64 1099511627775, .int .i64 0, .int .i64 0] 81)).alloc (.cells #[.slice a L.length c] 106)) (w1.heap.size + 1) L) := fun w1 h => by
    have hz := h.size
    rw [size1] at hz
    have hb : Below w.heap.size w w1 := ((Below.refl _ _).alloc (Nat.le_refl _) _).trans (h.mono (by rw [size1]; omega))
    refine ⟨(h.block _ (by rw [size1]; omega)).trans (heap_alloc_new w _), by omega, hb, a, c, ?_, ?_, hc, hm, hlow⟩
    · have := heap_alloc_new (w1.alloc (.cells #[.bool false, .bool false, .int .i64 0, .int .i64 1099511627775, .int .i64 0, .int .i64 0] 81)) (.cells #[.slice a L.length c] 106)
      rwa [size1] at this
    · exact Sl.below hs ((hb.alloc hb.size _).alloc (by rw [size1]; have := hb.size; omega) _)
  have HF := Lib.hid hf
  clear hsh hs hc hm hlow hf
  unfold shV at HSH
  go_enter Tryz.func31, Tryz.ntmps31
  go_wp2_with fail
  refine (HSH.out _).mono ?_
  rintro r w1 ⟨rfl, h1⟩
  obtain ⟨hR1, hlt1, hb1, hrow⟩ := HG.out _ h1
  have HN := Lib.hid (number_any' (w1.heap.size + 1) (by omega) L _ hrow HF.out)
  have hz2 : ((w1.alloc (.cells #[.bool false, .bool false, .int .i64 0, .int .i64 1099511627775, .int .i64 0, .int .i64 0] 81)).alloc (.cells #[.slice a L.length c] 106)).heap.size = w1.heap.size + 2 := by rw [size1, size1]
  have HB2 : Hid (((w1.alloc (.cells #[.bool false, .bool false, .int .i64 0, .int .i64 1099511627775, .int .i64 0, .int .i64 0] 81)).alloc (.cells #[.slice a L.length c] 106)).heap[w.heap.size]? = some (.cells #[.int .i64 0, .int .i64 0, .string ⟨#[]⟩, .string ⟨#[]⟩, .int .i64 0, .int .i64 0] 40 (0, 0)) ∧ ((w1.alloc (.cells #[.bool false, .bool false, .int .i64 0, .int .i64 1099511627775, .int .i64 0, .int .i64 0] 81)).alloc (.cells #[.slice a L.length c] 106)).heap[w1.heap.size]? = some (.cells #[.bool false, .bool false, .int .i64 0, .int .i64 1099511627775, .int .i64 0, .int .i64 0] 81 (0, 0)) ∧ Below w.heap.size w ((w1.alloc (.cells #[.bool false, .bool false, .int .i64 0, .int .i64 1099511627775, .int .i64 0, .int .i64 0] 81)).alloc (.cells #[.slice a L.length c] 106))) :=
    ⟨(Below.heap_alloc _ _ _ (by rw [size1]; omega)).trans ((Below.heap_alloc _ _ _ hlt1).trans hR1), (Below.heap_alloc _ _ _ (by rw [size1]; omega)).trans (heap_alloc_new w1 _), (hb1.alloc hb1.size _).alloc (by rw [size1]; have := hb1.size; omega) _⟩
  clear h1 hR1 hb1 hrow HG HSH
  go_wp2_with fail
  refine (HN.out).mono ?_
  rintro r w3 ⟨rfl, hr3, ho3⟩
  have hw3 : w1.heap.size + 2 ≤ w3.heap.size := by have := ho3.size; omega
  have hX3 := (ho3.block w1.heap.size (by omega) (by omega)).trans HB2.out.2.1
  have hR3 := (ho3.block w.heap.size (by omega) (by omega)).trans HB2.out.1
  have hf3 : Below w.heap.size w w3 := HB2.out.2.2.trans (ho3.below (by omega) (by omega))
  have hF : FW w ⟨false, false, 0, 1099511627775, 0, 0⟩ w1.heap.size (w1.heap.size + 1) w3.heap.size ⟨k, numW (headW L), ⟨#[]⟩, ⟨#[]⟩, 0, 0⟩ (tailW L) (w3.alloc (.cells #[.int .i64 k, .int .i64 (numW (headW L)), .string ⟨#[]⟩, .string ⟨#[]⟩, .int .i64 0, .int .i64 0] 40)) :=
    ⟨(Below.heap_alloc _ _ _ (by omega)).trans hR3, (Below.heap_alloc _ _ _ (by omega)).trans hX3, hr3.below ((Below.refl _ _).alloc (Nat.le_refl _) _), heap_alloc_new w3 _, hf3.alloc hf3.size _, by omega, by omega, by omega, by rw [size1]; omega⟩
  have HFF := Lib.hid hF
  have hl1 : w1.heap.size < w3.heap.size := by omega
  have hl2 : w.heap.size < w3.heap.size := by omega
  have hl3 : w1.heap.size + 1 < w3.heap.size := by omega
  have hn1 : ¬ w1.heap.size = w3.heap.size := by omega
  have hn2 : ¬ w3.heap.size = w1.heap.size := by omega
  have hn3 : ¬ w.heap.size = w3.heap.size := by omega
  have hn4 : ¬ w3.heap.size = w.heap.size := by omega
  obtain ⟨x0, x1, x2, x3, x4, x5⟩ := (cells6 hX3).1
  clear hF hr3 ho3 hX3 hR3 hf3 HN HB2 hz2 hw3 hlt1
  go_wp2_with fail
  refine (some_any _ _ _).mono ?_
  rintro r w4 ⟨rfl, k4⟩
  have HFF := Lib.hid (HFF.out.below k4)
  clear k4
  obtain ⟨⟨e0, e1, e2, e3, e4, e5⟩, p0, p1, p2, p3, p4, p5⟩ := cells6 HFF.out.ev
  obtain ⟨x0, x1, x2, x3, x4, x5⟩ := (cells6 HFF.out.sh).1
  obtain ⟨⟨z0, z1, z2, z3, z4, z5⟩, g0, g1, g2, g3, g4, g5⟩ := cells6 HFF.out.res
  go_wp2_with fail
  refine (HFF.out.number (tail_fit HF.out)).mono ?_
  rintro r w5 ⟨rfl, k5⟩
  have HFF := Lib.hid k5
  clear k5
  obtain ⟨⟨e0, e1, e2, e3, e4, e5⟩, p0, p1, p2, p3, p4, p5⟩ := cells6 HFF.out.ev
  obtain ⟨x0, x1, x2, x3, x4, x5⟩ := (cells6 HFF.out.sh).1
  obtain ⟨⟨z0, z1, z2, z3, z4, z5⟩, g0, g1, g2, g3, g4, g5⟩ := cells6 HFF.out.res
  have HFF := Lib.hid (HFF.out.set 4 (.int .i64 (numW (headW (tailW L)))) ⟨k, numW (headW L), ⟨#[]⟩, ⟨#[]⟩, numW (headW (tailW L)), 0⟩ rfl)
  go_wp2_with fail
  refine (some_any _ _ _).mono ?_
  rintro r w6 ⟨rfl, k6⟩
  have HFF := Lib.hid (HFF.out.below k6)
  clear k6
  obtain ⟨⟨e0, e1, e2, e3, e4, e5⟩, p0, p1, p2, p3, p4, p5⟩ := cells6 HFF.out.ev
  obtain ⟨x0, x1, x2, x3, x4, x5⟩ := (cells6 HFF.out.sh).1
  obtain ⟨⟨z0, z1, z2, z3, z4, z5⟩, g0, g1, g2, g3, g4, g5⟩ := cells6 HFF.out.res
  obtain ⟨F, hF, q1, q2⟩ := HFF.out.fin
  have HEQ : Hid (evV (fromS ⟨false, false, 0, 1099511627775, 0, 0⟩ k L) = evV ⟨k, numW (headW L), ⟨#[]⟩, ⟨#[]⟩, numW (headW (tailW L)), 0⟩) := rfl
  have Q1 := Lib.hid q1
  have Q2 := Lib.hid q2
  have HFE := Lib.hid hF
  clear q1 q2 hF HFF

  go_wp2
  rw [HFE.out] at Q1 Q2
  refine bodyPost_ret (v := evV ⟨k, numW (headW L), ⟨#[]⟩, ⟨#[]⟩, numW (headW (tailW L)), 0⟩) ?_ rfl ?_
  · rw [results_cell1 rfl]
    simp [asAddr, Result.andThen, Q1.out]
  · exact ⟨by rw [HEQ.out], Q2.out⟩
end Go.Proofs.YtollhemkjnkalaaGreatDoor
