/- Layer 6: the frame of an event that may be. -/
import Derived.Test.YtollhemkjnkalaaGreatDoorJ6

namespace Go.Proofs.YtollhemkjnkalaaGreatDoor
open Go.RowKit
set_option linter.unusedVariables false
set_option maxRecDepth 100000


theorem dec_coarse (n : Int) : (tx (decOf n)).size ≤ 1099511627777 := by
  rw [tx_size]
  by_cases h : n < 0 ∨ 1099511627776 < n
  · rw [decOf_out n h]; simp
  · obtain ⟨m, rfl⟩ : ∃ m : Nat, n = m := ⟨n.toNat, by omega⟩
    rw [decOf_in m (by omega)]
    have := dec_out_len m
    omega
theorem isN_len {s : ByteArray} (h : isN s = true) : s.size ≤ 12 := by
  unfold isN nm.isName at h
  have : s.data.toList.length = s.size := by simp
  rw [this] at h
  simp at h
  exact h.1.2
theorem right_len' {e : EvM} (h : rightE e = true) : ((shK e.kind).user = true → e.user.size ≤ 12) ∧ ((shK e.kind).other = true → e.other.size ≤ 12) ∧ isK e.kind = true := by
  unfold rightE at h
  simp only [Bool.and_eq_true] at h
  obtain ⟨h0, _, h1, h2, _, _⟩ := h
  refine ⟨fun hu => ?_, fun ho => ?_, h0⟩
  · rw [hu] at h1; exact isN_len h1
  · rw [ho] at h2; exact isN_len h2
theorem words_fit {e : EvM} (h : rightE e = true) : Fits (wordsE e) ∧ lsum (wordsE e) ≤ 140737488355328 ∧ (wordsE e).length ≤ 140737488355328 := by
  obtain ⟨h1, h2, _⟩ := right_len' h
  have d1 := dec_coarse e.at_
  have d2 := dec_coarse e.n
  have d3 := dec_coarse e.status
  unfold wordsE wordsS Fits maxLen
  generalize shK e.kind = s at *
  obtain ⟨u, o, n0, n1, s0, s1⟩ := s
  dsimp only at *
  by_cases q1 : 0 < n1 <;> by_cases q2 : 0 < s1 <;> cases u <;> cases o <;> simp [q1, q2, lsum] at * <;> omega
theorem letter_at (d : Nat) (h : d < 7) (W : World) : (Instr.index 9 (.string ⟨#[111, 99, 120, 103, 114, 104, 101]⟩) (.int .i64 (d : Int))).run Tryz.prog W = .ok (.int .u8 ((letterE ((d : Int) + 1)).toNat : Int)) W := by
  have e := run_index_string (P := Tryz.prog) W 9 ⟨#[111, 99, 120, 103, 114, 104, 101]⟩ .i64 (d : Int) Tryz.underlying9
  have hs : (⟨#[111, 99, 120, 103, 114, 104, 101]⟩ : ByteArray).size = 7 := rfl
  rw [dif_pos (by rw [hs]; omega)] at e
  refine e.trans ?_
  have hc : d = 0 ∨ d = 1 ∨ d = 2 ∨ d = 3 ∨ d = 4 ∨ d = 5 ∨ d = 6 := by omega
  rcases hc with rfl | rfl | rfl | rfl | rfl | rfl | rfl <;> rfl
structure FrV (w : World) (e : EvM) (W : World) : Prop where
  ev : W.heap[w.heap.size]? = some (.cells #[.int .i64 e.kind, .int .i64 e.at_, .string e.user, .string e.other, .int .i64 e.n, .int .i64 e.status] 40 (0, 0))
  frame : Below w.heap.size w W
theorem FrW.v {w W : World} {e : EvM} (h : FrW w e W) : FrV w e W := ⟨h.ev, h.frame⟩
theorem FrV.set {w W : World} {e : EvM} (h : FrV w e W) (x y : Value) : FrV w e ((W.setCell ⟨w.heap.size + 1, 0, none⟩ x).setCell ⟨w.heap.size + 1, 1, none⟩ y) :=
  ⟨(heap_set_far (by omega)).trans ((heap_set_far (by omega)).trans h.ev), (h.frame.setCell (p := ⟨w.heap.size + 1, 0, none⟩) (by show w.heap.size ≤ w.heap.size + 1; omega) _).setCell (p := ⟨w.heap.size + 1, 1, none⟩) (by show w.heap.size ≤ w.heap.size + 1; omega) _⟩
set_option maxHeartbeats 4000000 in
theorem frame_yes (d : Nat) (hd : d < 7) (e : EvM) (hk : e.kind = (d : Int) + 1) (he : EFits e) (hi : EInts e) (hr : rightE e = true) (w : World) (hp : Pow10 w) : Calls Tryz.prog 15 #[evV e] w fun r w' => r = .returned (.tuple #[frK (letterE ((d : Int) + 1)) (lineE e), .bool true]) ∧ Below w.heap.size w w' := by
  have HR := Lib.hid (fun W => right_any e he W)
  rw [hr] at HR
  obtain ⟨hf, hls, hln⟩ := words_fit hr
  have HWD := Lib.hid (fun W (h : FrW w e W) => ewords_any e (right_len' hr).2.2 hi W (hp.below h.frame))
  have HLN := Lib.hid (fun W a c (hs : Sl W a (strs (wordsE e))) (hc : (wordsE e).length ≤ c) => line_any a c (wordsE e) W hs hf hc hls hln)
  have HW := Lib.hid (FrW.new w e)
  have HB := Lib.hid (fun W W' (h : FrW w e W) (k : Below W.heap.size W W') => h.below k)
  have HV := Lib.hid (fun W (h : FrW w e W) => h.v)
  have HST := Lib.hid (fun W (h : FrV w e W) x y => h.set x y)
  have HSC : Hid (∀ W, FrV w e W → W.cell? ⟨w.heap.size, 0, none⟩ = some (.int .i64 ((d : Int) + 1)) ∧ W.cell? ⟨w.heap.size, 1, none⟩ = some (.int .i64 e.at_) ∧ W.cell? ⟨w.heap.size, 2, none⟩ = some (.string e.user) ∧ W.cell? ⟨w.heap.size, 3, none⟩ = some (.string e.other) ∧ W.cell? ⟨w.heap.size, 4, none⟩ = some (.int .i64 e.n) ∧ W.cell? ⟨w.heap.size, 5, none⟩ = some (.int .i64 e.status) ∧ FrV w e W) := fun W h => by
    obtain ⟨q0, q1, q2, q3, q4, q5⟩ := (cells6 h.ev).1
    rw [hk] at q0
    exact ⟨q0, q1, q2, q3, q4, q5, h⟩
  have HPR : Hid (∀ W, (W.cell? ⟨w.heap.size, 0, none⟩ = some (.int .i64 ((d : Int) + 1)) ∧ W.cell? ⟨w.heap.size, 1, none⟩ = some (.int .i64 e.at_) ∧ W.cell? ⟨w.heap.size, 2, none⟩ = some (.string e.user) ∧ W.cell? ⟨w.heap.size, 3, none⟩ = some (.string e.other) ∧ W.cell? ⟨w.heap.size, 4, none⟩ = some (.int .i64 e.n) ∧ W.cell? ⟨w.heap.size, 5, none⟩ = some (.int .i64 e.status) ∧ FrV w e W) → FrV w e W) := fun W h => h.2.2.2.2.2.2
  have HRS := Lib.hid (fun W (h : FrW w e W) => h.res)
  have hix := letter_at d hd
  have hw1 : IntKind.i64.wrap ((d : Int) + 1 - 1) = (d : Int) := by rw [IntWalk.i64_in _ (by omega)]; omega
  have hw2 : IntKind.i64.wrap (d : Int) = (d : Int) := IntWalk.i64_in _ (by omega)
  have HLE : Hid (tx (lineOf ((wordsE e).map toL)) = tx (lineE e)) := rfl
  unfold GivesWords at HWD
  unfold frK evV at *
  rw [hk] at HR HWD HW ⊢
  clear hp hf hls hln he hi hr
  have HVF := Lib.hid (fun W (h : FrV w e W) => h.frame)
  generalize hV : FrV w e = FV at *
  generalize hF : FrW w e = FW at *
  generalize (wordsE e).length = n at *
  rw [HLE.out] at HLN
  clear HLE
  generalize tx (lineE e) = tl at *
  go_enter Tryz.func15, Tryz.ntmps15
  go_wp2_with fail
  refine (HR.out _).mono ?_
  rintro r w1 ⟨rfl, h1⟩
  have hX := HB.out _ _ HW.out h1
  have hXd := HB.out _ _ hX (Below.refl _ w1).drew
  have hXv := HV.out _ hXd
  clear h1 HW HR
  obtain ⟨x0, x1, x2, x3, x4, x5, _⟩ := HSC.out _ (HV.out _ hX)
  go_wp2_with fail
  go_region_held3 (fun W => W.cell? ⟨w.heap.size, 0, none⟩ = some (.int .i64 ((d : Int) + 1)) ∧ W.cell? ⟨w.heap.size, 1, none⟩ = some (.int .i64 e.at_) ∧ W.cell? ⟨w.heap.size, 2, none⟩ = some (.string e.user) ∧ W.cell? ⟨w.heap.size, 3, none⟩ = some (.string e.other) ∧ W.cell? ⟨w.heap.size, 4, none⟩ = some (.int .i64 e.n) ∧ W.cell? ⟨w.heap.size, 5, none⟩ = some (.int .i64 e.status) ∧ FV W)
    (first | exact HSC.out _ hXv | exact HSC.out _ (HST.out _ (by assumption) _ _) | exact HSC.out _ (HST.out _ (HPR.out _ (by assumption)) _ _) | exact HSC.out _ (by assumption) | assumption)
    (first | (go_at_call 30; refine (HWD.out _ hXd).mono ?_; rintro r w2 ⟨a, c, rfl, hc, hsl, h2⟩; have hY := HB.out _ _ hXd h2; have hYv := HV.out _ hY) | (go_at_call 29; refine (HLN.out _ a c hsl hc).mono ?_; rintro r w3 ⟨rfl, h3⟩; have hZ := HB.out _ _ hY h3; have hZv := HV.out _ hZ; obtain ⟨⟨z0, z1⟩, f0, f1⟩ := cells2 (HRS.out _ hZ)))
  all_goals
    have HL := Lib.hid (loadFr2 (x := .int .u8 ((letterE ((d : Int) + 1)).toNat : Int)) (y := .string tl) (HRS.out _ hZ))
    have HQ := Lib.hid (HVF.out _ (HST.out _ hZv (.int .u8 ((letterE ((d : Int) + 1)).toNat : Int)) (.string tl)))
    go_wp2
    refine bodyPost_ret (v := .tuple #[.agg #[.int .u8 ((letterE ((d : Int) + 1)).toNat : Int), .string tl], .bool true]) ?_ rfl ?_
    · rw [results_cellT rfl]
      simp [asAddr, Result.andThen, HL.out]
    · exact ⟨rfl, HQ.out⟩
theorem frame_any (e : EvM) (he : EFits e) (hi : EInts e) (w : World) (hp : Pow10 w) : Calls Tryz.prog 15 #[evV e] w fun r w' => r = .returned (.tuple #[frameE e, .bool (rightE e)]) ∧ Below w.heap.size w w' := by
  cases hr : rightE e with
  | false =>
    have := frame_no e he hr w
    unfold frameE
    rw [hr]
    exact this
  | true =>
    have hk := (right_len' hr).2.2
    unfold isK at hk
    simp at hk
    obtain ⟨d, hd⟩ : ∃ d : Nat, e.kind = (d : Int) + 1 := ⟨(e.kind - 1).toNat, by omega⟩
    have := frame_yes d (by omega) e hd he hi hr w hp
    unfold frameE
    rw [hr, hd]
    exact this
end Go.Proofs.YtollhemkjnkalaaGreatDoor
