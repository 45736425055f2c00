/- Layer 6: the frame of an event, in the document's own way. -/
import Derived.Test.YtollhemkjnkalaaGreatDoorJ7
namespace Go.Proofs.YtollhemkjnkalaaGreatDoor
open Go.RowKit
set_option linter.unusedVariables false
set_option maxRecDepth 100000

theorem infoRf2 : (Tryz.prog.info? 61).map (·.size) = some 2 := by kernel_rfl
theorem loadRf {W : World} {g : Nat} {a b : Value} {t : TypeId} (h : W.heap[g]? = some (.cells #[a, b] t (0, 0))) :
    (loadVar 61 ⟨g, 0, none⟩).run Tryz.prog W = .ok (.agg #[a, b]) W :=
  run_loadVar_mid (P := Tryz.prog) W g 0 61 [a, b] _ (fun j v hv => by
    rw [Nat.zero_add, cell_of_row _ _ _ _ _ (0, 0) h]
    simpa using hv) Tryz.underlying61 rfl infoRf2
/-- two cells, just stored -/
theorem loadRf2 {W : World} {g : Nat} {a b x y : Value} {t : TypeId} (h : W.heap[g]? = some (.cells #[a, b] t (0, 0))) :
    (loadVar 61 ⟨g, 0, none⟩).run Tryz.prog ((W.setCell ⟨g, 0, none⟩ x).setCell ⟨g, 1, none⟩ y) = .ok (.agg #[x, y]) ((W.setCell ⟨g, 0, none⟩ x).setCell ⟨g, 1, none⟩ y) :=
  loadRf (heap_setCell_at (heap_setCell_at h 0 x) 1 y)
/-- the event in its box, a result's block that is still empty; all that was there is as it was -/
structure RfW (w : World) (e : EvM) (W : World) : Prop where
  ev : W.heap[w.heap.size]? = some (.cells #[.int .i64 e.kind, .int .i64 e.at_, .string e.user, .string e.other, .int .i64 e.n, .int .i64 e.status] 29 (0, 0))
  res : W.heap[w.heap.size + 1]? = some (.cells #[.int .u8 0, .string ⟨#[]⟩] 61 (0, 0))
  size : w.heap.size + 2 ≤ W.heap.size
  frame : Below w.heap.size w W
theorem RfW.below {w W W' : World} {e : EvM} (h : RfW w e W) (k : Below W.heap.size W W') : RfW w e W' :=
  ⟨(k.block _ (by have := h.size; omega)).trans h.ev, (k.block _ (by have := h.size; omega)).trans h.res, Nat.le_trans h.size k.size, h.frame.trans (k.mono h.frame.size)⟩
theorem RfW.new (w : World) (e : EvM) : RfW w e ((w.alloc (.cells #[.int .i64 e.kind, .int .i64 e.at_, .string e.user, .string e.other, .int .i64 e.n, .int .i64 e.status] 29)).alloc (.cells #[.int .u8 0, .string ⟨#[]⟩] 61)) := by
  refine ⟨(Below.heap_alloc _ _ w.heap.size (by rw [size1]; omega)).trans (heap_alloc_new w _), ?_, by rw [size1, size1]; omega, ((Below.refl _ _).alloc (Nat.le_refl _) _).alloc (by rw [size1]; omega) _⟩
  have := heap_alloc_new (w.alloc (.cells #[.int .i64 e.kind, .int .i64 e.at_, .string e.user, .string e.other, .int .i64 e.n, .int .i64 e.status] 29)) (.cells #[.int .u8 0, .string ⟨#[]⟩] 61)
  rwa [size1] at this
set_option maxHeartbeats 2000000 in
theorem refFrame_no (e : EvM) (he : EFits e) (hr : rightE e = false) (w : World) : Calls Tryz.prog 22 #[evV e] w fun r w' => r = .returned (.tuple #[.agg #[.int .u8 0, .string ⟨#[]⟩], .bool false]) ∧ Below w.heap.size w w' := by
  have HR := Lib.hid (fun W => refRight_any e he W)
  rw [hr] at HR
  have HW := Lib.hid (RfW.new w e)
  have HB := Lib.hid (fun W W' (h : RfW w e W) (k : Below W.heap.size W W') => h.below k)
  unfold evV at *
  go_enter Tryz.func22, Tryz.ntmps22
  go_wp2_with fail
  refine (HR.out _).mono ?_
  rintro r w1 ⟨rfl, h1⟩
  have hw := HB.out _ _ HW.out h1
  obtain ⟨⟨z0, z1⟩, f0, f1⟩ := cells2 hw.res
  have HL := Lib.hid (loadRf2 (x := .int .u8 0) (y := .string ⟨#[]⟩) hw.res)
  have HQ : Hid (Below w.heap.size w ((w1.setCell ⟨w.heap.size + 1, 0, none⟩ (.int .u8 0)).setCell ⟨w.heap.size + 1, 1, none⟩ (.string ⟨#[]⟩))) := (hw.frame.setCell (p := ⟨w.heap.size + 1, 0, none⟩) (by show w.heap.size ≤ w.heap.size + 1; omega) _).setCell (p := ⟨w.heap.size + 1, 1, none⟩) (by show w.heap.size ≤ w.heap.size + 1; omega) _
  clear h1 hw HW HB
  go_wp2
  refine bodyPost_ret (v := .tuple #[.agg #[.int .u8 0, .string ⟨#[]⟩], .bool false]) ?_ rfl ?_
  · rw [results_cellT rfl]
    simp [asAddr, Result.andThen, HL.out]
  · exact ⟨rfl, HQ.out⟩
set_option maxHeartbeats 4000000 in
theorem refFrame_1 (e : EvM) (hk : e.kind = 1) (he : EFits e) (hi : EInts e) (hr : rightE e = true) (w : World) : Calls Tryz.prog 22 #[evV e] w fun r w' => r = .returned (.tuple #[frK (letterE 1) (lineE e), .bool true]) ∧ Below w.heap.size w w' := by
  have HR := Lib.hid (fun W => refRight_any e he W)
  rw [hr] at HR
  obtain ⟨hf, hls, hln⟩ := words_fit hr
  have hwe : wordsE e = [tx (decOf e.at_), e.user, tx (decOf e.n), tx (decOf e.status)] := by unfold wordsE; rw [hk]; rfl
  have HLE : Hid (tx (lineOf (([tx (decOf e.at_), e.user, tx (decOf e.n), tx (decOf e.status)] : List ByteArray).map toL)) = tx (lineE e)) := by unfold Hid lineE; rw [hwe]
  rw [hwe] at hf hls
  have HLN : Hid (∀ (W : World), Calls Tryz.prog 45 #[.slice (some ⟨W.heap.size, 0, none⟩) 4 4] (W.alloc (.cells #[.string (tx (decOf e.at_)), .string (e.user), .string (tx (decOf e.n)), .string (tx (decOf e.status))] 9)) fun r w' => r = .returned (.string (tx (lineOf (([tx (decOf e.at_), e.user, tx (decOf e.n), tx (decOf e.status)] : List ByteArray).map toL)))) ∧ (W.alloc (.cells #[.string (tx (decOf e.at_)), .string (e.user), .string (tx (decOf e.n)), .string (tx (decOf e.status))] 9)) = w') := fun W => refLine_any (some ⟨W.heap.size, 0, none⟩) 4 [tx (decOf e.at_), e.user, tx (decOf e.n), tx (decOf e.status)] (W.alloc (.cells #[.string (tx (decOf e.at_)), .string (e.user), .string (tx (decOf e.n)), .string (tx (decOf e.status))] 9)) (sl_lit _ _ _) hf hls
  rw [HLE.out] at HLN
  have HDA := Lib.hid (fun W => refDec_any e.at_ hi.at_.1 hi.at_.2 W)
  have HDN := Lib.hid (fun W => refDec_any e.n hi.n.1 hi.n.2 W)
  have HDS := Lib.hid (fun W => refDec_any e.status hi.status.1 hi.status.2 W)
  have HW := Lib.hid (RfW.new w e)
  have HB := Lib.hid (fun W W' (h : RfW w e W) (k : Below W.heap.size W W') => h.below k)
  have HEC : Hid (∀ W, RfW w e W → W.cell? ⟨w.heap.size, 0, none⟩ = some (.int .i64 1) ∧ W.cell? ⟨w.heap.size, 1, none⟩ = some (.int .i64 e.at_) ∧ W.cell? ⟨w.heap.size, 2, none⟩ = some (.string e.user) ∧ W.cell? ⟨w.heap.size, 3, none⟩ = some (.string e.other) ∧ W.cell? ⟨w.heap.size, 4, none⟩ = some (.int .i64 e.n) ∧ W.cell? ⟨w.heap.size, 5, none⟩ = some (.int .i64 e.status)) := fun W h => by
    have := (cells6 h.ev).1
    rw [hk] at this
    exact this
  have hlt : (letterE 1).toNat = 111 := rfl
  unfold frK evV at *
  rw [hk] at HR HW ⊢
  rw [hlt]
  clear hf hls hln he hi hr hwe HLE hlt
  generalize hV : RfW w e = FW at *
  generalize tx (lineE e) = tl at *
  generalize tx (decOf e.at_) = ta at *
  generalize tx (decOf e.n) = tn at *
  generalize tx (decOf e.status) = ts at *
  go_enter Tryz.func22, Tryz.ntmps22
  go_wp2_with fail
  refine (HR.out _).mono ?_
  rintro r w1 ⟨rfl, h1⟩
  have h1' := HB.out _ _ HW.out h1
  obtain ⟨x0, x1, x2, x3, x4, x5⟩ := HEC.out _ h1'
  go_wp2_with fail
  refine (HDA.out _).mono ?_
  rintro r w2 ⟨rfl, h2⟩
  have h2' := HB.out _ _ h1' h2
  obtain ⟨x0, x1, x2, x3, x4, x5⟩ := HEC.out _ h2'
  go_wp2_with fail
  refine (HDN.out _).mono ?_
  rintro r w3 ⟨rfl, h3⟩
  have h3' := HB.out _ _ h2' h3
  obtain ⟨x0, x1, x2, x3, x4, x5⟩ := HEC.out _ h3'
  go_wp2_with fail
  refine (HDS.out _).mono ?_
  rintro r w4 ⟨rfl, h4⟩
  have h4' := HB.out _ _ h3' h4
  have h5' := HB.out _ _ h4' ((Below.refl _ _).alloc (Nat.le_refl _) (.cells #[.string (ta), .string (e.user), .string (tn), .string (ts)] 9))
  obtain ⟨x0, x1, x2, x3, x4, x5⟩ := HEC.out _ h4'
  clear h1 h2 h3 h4 h1' h2' h3'
  subst hV
  obtain ⟨⟨z0, z1⟩, f0, f1⟩ := cells2 h4'.res
  have hsz := h4'.size
  have hsz1 : w.heap.size + 1 < w4.heap.size := by omega
  have hq0 := heap_setCell_at (heap_setCell_at h4'.res 0 (.int .u8 111)) 1 (.string tl)
  have HL := Lib.hid (loadRf ((Below.heap_alloc _ (.cells #[.string (ta), .string (e.user), .string (tn), .string (ts)] 9) (w.heap.size + 1) (Array.getElem?_eq_some_iff.1 hq0).1).trans hq0))
  have hq1 := (h4'.frame.setCell (p := ⟨w.heap.size + 1, 0, none⟩) (by show w.heap.size ≤ w.heap.size + 1; omega) (.int .u8 111)).setCell (p := ⟨w.heap.size + 1, 1, none⟩) (by show w.heap.size ≤ w.heap.size + 1; omega) (.string tl)
  have HQ := Lib.hid (hq1.alloc hq1.size (.cells #[.string (ta), .string (e.user), .string (tn), .string (ts)] 9))
  clear hq0 hq1 h5'
  go_wp2_with fail
  refine (HLN.out _).mono ?_
  rintro r w5 ⟨rfl, rfl⟩
  go_wp2
  refine bodyPost_ret (v := .tuple #[.agg #[.int .u8 111, .string tl], .bool true]) ?_ rfl ?_
  · rw [results_cellT rfl]
    simp [asAddr, Result.andThen, HL.out]
  · exact ⟨rfl, HQ.out⟩
set_option maxHeartbeats 4000000 in
theorem refFrame_2 (e : EvM) (hk : e.kind = 2) (he : EFits e) (hi : EInts e) (hr : rightE e = true) (w : World) : Calls Tryz.prog 22 #[evV e] w fun r w' => r = .returned (.tuple #[frK (letterE 2) (lineE e), .bool true]) ∧ Below w.heap.size w w' := by
  have HR := Lib.hid (fun W => refRight_any e he W)
  rw [hr] at HR
  obtain ⟨hf, hls, hln⟩ := words_fit hr
  have hwe : wordsE e = [tx (decOf e.at_), e.user, tx (decOf e.n), tx (decOf e.status)] := by unfold wordsE; rw [hk]; rfl
  have HLE : Hid (tx (lineOf (([tx (decOf e.at_), e.user, tx (decOf e.n), tx (decOf e.status)] : List ByteArray).map toL)) = tx (lineE e)) := by unfold Hid lineE; rw [hwe]
  rw [hwe] at hf hls
  have HLN : Hid (∀ (W : World), Calls Tryz.prog 45 #[.slice (some ⟨W.heap.size, 0, none⟩) 4 4] (W.alloc (.cells #[.string (tx (decOf e.at_)), .string (e.user), .string (tx (decOf e.n)), .string (tx (decOf e.status))] 9)) fun r w' => r = .returned (.string (tx (lineOf (([tx (decOf e.at_), e.user, tx (decOf e.n), tx (decOf e.status)] : List ByteArray).map toL)))) ∧ (W.alloc (.cells #[.string (tx (decOf e.at_)), .string (e.user), .string (tx (decOf e.n)), .string (tx (decOf e.status))] 9)) = w') := fun W => refLine_any (some ⟨W.heap.size, 0, none⟩) 4 [tx (decOf e.at_), e.user, tx (decOf e.n), tx (decOf e.status)] (W.alloc (.cells #[.string (tx (decOf e.at_)), .string (e.user), .string (tx (decOf e.n)), .string (tx (decOf e.status))] 9)) (sl_lit _ _ _) hf hls
  rw [HLE.out] at HLN
  have HDA := Lib.hid (fun W => refDec_any e.at_ hi.at_.1 hi.at_.2 W)
  have HDN := Lib.hid (fun W => refDec_any e.n hi.n.1 hi.n.2 W)
  have HDS := Lib.hid (fun W => refDec_any e.status hi.status.1 hi.status.2 W)
  have HW := Lib.hid (RfW.new w e)
  have HB := Lib.hid (fun W W' (h : RfW w e W) (k : Below W.heap.size W W') => h.below k)
  have HEC : Hid (∀ W, RfW w e W → W.cell? ⟨w.heap.size, 0, none⟩ = some (.int .i64 2) ∧ W.cell? ⟨w.heap.size, 1, none⟩ = some (.int .i64 e.at_) ∧ W.cell? ⟨w.heap.size, 2, none⟩ = some (.string e.user) ∧ W.cell? ⟨w.heap.size, 3, none⟩ = some (.string e.other) ∧ W.cell? ⟨w.heap.size, 4, none⟩ = some (.int .i64 e.n) ∧ W.cell? ⟨w.heap.size, 5, none⟩ = some (.int .i64 e.status)) := fun W h => by
    have := (cells6 h.ev).1
    rw [hk] at this
    exact this
  have hlt : (letterE 2).toNat = 99 := rfl
  unfold frK evV at *
  rw [hk] at HR HW ⊢
  rw [hlt]
  clear hf hls hln he hi hr hwe HLE hlt
  generalize hV : RfW w e = FW at *
  generalize tx (lineE e) = tl at *
  generalize tx (decOf e.at_) = ta at *
  generalize tx (decOf e.n) = tn at *
  generalize tx (decOf e.status) = ts at *
  go_enter Tryz.func22, Tryz.ntmps22
  go_wp2_with fail
  refine (HR.out _).mono ?_
  rintro r w1 ⟨rfl, h1⟩
  have h1' := HB.out _ _ HW.out h1
  obtain ⟨x0, x1, x2, x3, x4, x5⟩ := HEC.out _ h1'
  go_wp2_with fail
  refine (HDA.out _).mono ?_
  rintro r w2 ⟨rfl, h2⟩
  have h2' := HB.out _ _ h1' h2
  obtain ⟨x0, x1, x2, x3, x4, x5⟩ := HEC.out _ h2'
  go_wp2_with fail
  refine (HDN.out _).mono ?_
  rintro r w3 ⟨rfl, h3⟩
  have h3' := HB.out _ _ h2' h3
  obtain ⟨x0, x1, x2, x3, x4, x5⟩ := HEC.out _ h3'
  go_wp2_with fail
  refine (HDS.out _).mono ?_
  rintro r w4 ⟨rfl, h4⟩
  have h4' := HB.out _ _ h3' h4
  have h5' := HB.out _ _ h4' ((Below.refl _ _).alloc (Nat.le_refl _) (.cells #[.string (ta), .string (e.user), .string (tn), .string (ts)] 9))
  obtain ⟨x0, x1, x2, x3, x4, x5⟩ := HEC.out _ h4'
  clear h1 h2 h3 h4 h1' h2' h3'
  subst hV
  obtain ⟨⟨z0, z1⟩, f0, f1⟩ := cells2 h4'.res
  have hsz := h4'.size
  have hsz1 : w.heap.size + 1 < w4.heap.size := by omega
  have hq0 := heap_setCell_at (heap_setCell_at h4'.res 0 (.int .u8 99)) 1 (.string tl)
  have HL := Lib.hid (loadRf ((Below.heap_alloc _ (.cells #[.string (ta), .string (e.user), .string (tn), .string (ts)] 9) (w.heap.size + 1) (Array.getElem?_eq_some_iff.1 hq0).1).trans hq0))
  have hq1 := (h4'.frame.setCell (p := ⟨w.heap.size + 1, 0, none⟩) (by show w.heap.size ≤ w.heap.size + 1; omega) (.int .u8 99)).setCell (p := ⟨w.heap.size + 1, 1, none⟩) (by show w.heap.size ≤ w.heap.size + 1; omega) (.string tl)
  have HQ := Lib.hid (hq1.alloc hq1.size (.cells #[.string (ta), .string (e.user), .string (tn), .string (ts)] 9))
  clear hq0 hq1 h5'
  go_wp2_with fail
  refine (HLN.out _).mono ?_
  rintro r w5 ⟨rfl, rfl⟩
  go_wp2
  refine bodyPost_ret (v := .tuple #[.agg #[.int .u8 99, .string tl], .bool true]) ?_ rfl ?_
  · rw [results_cellT rfl]
    simp [asAddr, Result.andThen, HL.out]
  · exact ⟨rfl, HQ.out⟩
set_option maxHeartbeats 4000000 in
theorem refFrame_3 (e : EvM) (hk : e.kind = 3) (he : EFits e) (hi : EInts e) (hr : rightE e = true) (w : World) : Calls Tryz.prog 22 #[evV e] w fun r w' => r = .returned (.tuple #[frK (letterE 3) (lineE e), .bool true]) ∧ Below w.heap.size w w' := by
  have HR := Lib.hid (fun W => refRight_any e he W)
  rw [hr] at HR
  obtain ⟨hf, hls, hln⟩ := words_fit hr
  have hwe : wordsE e = [tx (decOf e.at_), e.user, tx (decOf e.n)] := by unfold wordsE; rw [hk]; rfl
  have HLE : Hid (tx (lineOf (([tx (decOf e.at_), e.user, tx (decOf e.n)] : List ByteArray).map toL)) = tx (lineE e)) := by unfold Hid lineE; rw [hwe]
  rw [hwe] at hf hls
  have HLN : Hid (∀ (W : World), Calls Tryz.prog 45 #[.slice (some ⟨W.heap.size, 0, none⟩) 3 3] (W.alloc (.cells #[.string (tx (decOf e.at_)), .string (e.user), .string (tx (decOf e.n))] 9)) fun r w' => r = .returned (.string (tx (lineOf (([tx (decOf e.at_), e.user, tx (decOf e.n)] : List ByteArray).map toL)))) ∧ (W.alloc (.cells #[.string (tx (decOf e.at_)), .string (e.user), .string (tx (decOf e.n))] 9)) = w') := fun W => refLine_any (some ⟨W.heap.size, 0, none⟩) 3 [tx (decOf e.at_), e.user, tx (decOf e.n)] (W.alloc (.cells #[.string (tx (decOf e.at_)), .string (e.user), .string (tx (decOf e.n))] 9)) (sl_lit _ _ _) hf hls
  rw [HLE.out] at HLN
  have HDA := Lib.hid (fun W => refDec_any e.at_ hi.at_.1 hi.at_.2 W)
  have HDN := Lib.hid (fun W => refDec_any e.n hi.n.1 hi.n.2 W)
  have HDS := Lib.hid (fun W => refDec_any e.status hi.status.1 hi.status.2 W)
  have HW := Lib.hid (RfW.new w e)
  have HB := Lib.hid (fun W W' (h : RfW w e W) (k : Below W.heap.size W W') => h.below k)
  have HEC : Hid (∀ W, RfW w e W → W.cell? ⟨w.heap.size, 0, none⟩ = some (.int .i64 3) ∧ W.cell? ⟨w.heap.size, 1, none⟩ = some (.int .i64 e.at_) ∧ W.cell? ⟨w.heap.size, 2, none⟩ = some (.string e.user) ∧ W.cell? ⟨w.heap.size, 3, none⟩ = some (.string e.other) ∧ W.cell? ⟨w.heap.size, 4, none⟩ = some (.int .i64 e.n) ∧ W.cell? ⟨w.heap.size, 5, none⟩ = some (.int .i64 e.status)) := fun W h => by
    have := (cells6 h.ev).1
    rw [hk] at this
    exact this
  have hlt : (letterE 3).toNat = 120 := rfl
  unfold frK evV at *
  rw [hk] at HR HW ⊢
  rw [hlt]
  clear hf hls hln he hi hr hwe HLE hlt
  generalize hV : RfW w e = FW at *
  generalize tx (lineE e) = tl at *
  generalize tx (decOf e.at_) = ta at *
  generalize tx (decOf e.n) = tn at *
  generalize tx (decOf e.status) = ts at *
  go_enter Tryz.func22, Tryz.ntmps22
  go_wp2_with fail
  refine (HR.out _).mono ?_
  rintro r w1 ⟨rfl, h1⟩
  have h1' := HB.out _ _ HW.out h1
  obtain ⟨x0, x1, x2, x3, x4, x5⟩ := HEC.out _ h1'
  go_wp2_with fail
  refine (HDA.out _).mono ?_
  rintro r w2 ⟨rfl, h2⟩
  have h2' := HB.out _ _ h1' h2
  obtain ⟨x0, x1, x2, x3, x4, x5⟩ := HEC.out _ h2'
  go_wp2_with fail
  refine (HDN.out _).mono ?_
  rintro r w3 ⟨rfl, h3⟩
  have h3' := HB.out _ _ h2' h3
  obtain ⟨x0, x1, x2, x3, x4, x5⟩ := HEC.out _ h3'
  go_wp2_with fail
  refine (HDS.out _).mono ?_
  rintro r w4 ⟨rfl, h4⟩
  have h4' := HB.out _ _ h3' h4
  have h5' := HB.out _ _ h4' ((Below.refl _ _).alloc (Nat.le_refl _) (.cells #[.string (ta), .string (e.user), .string (tn)] 9))
  obtain ⟨x0, x1, x2, x3, x4, x5⟩ := HEC.out _ h4'
  clear h1 h2 h3 h4 h1' h2' h3'
  subst hV
  obtain ⟨⟨z0, z1⟩, f0, f1⟩ := cells2 h4'.res
  have hsz := h4'.size
  have hsz1 : w.heap.size + 1 < w4.heap.size := by omega
  have hq0 := heap_setCell_at (heap_setCell_at h4'.res 0 (.int .u8 120)) 1 (.string tl)
  have HL := Lib.hid (loadRf ((Below.heap_alloc _ (.cells #[.string (ta), .string (e.user), .string (tn)] 9) (w.heap.size + 1) (Array.getElem?_eq_some_iff.1 hq0).1).trans hq0))
  have hq1 := (h4'.frame.setCell (p := ⟨w.heap.size + 1, 0, none⟩) (by show w.heap.size ≤ w.heap.size + 1; omega) (.int .u8 120)).setCell (p := ⟨w.heap.size + 1, 1, none⟩) (by show w.heap.size ≤ w.heap.size + 1; omega) (.string tl)
  have HQ := Lib.hid (hq1.alloc hq1.size (.cells #[.string (ta), .string (e.user), .string (tn)] 9))
  clear hq0 hq1 h5'
  go_wp2_with fail
  refine (HLN.out _).mono ?_
  rintro r w5 ⟨rfl, rfl⟩
  go_wp2
  refine bodyPost_ret (v := .tuple #[.agg #[.int .u8 120, .string tl], .bool true]) ?_ rfl ?_
  · rw [results_cellT rfl]
    simp [asAddr, Result.andThen, HL.out]
  · exact ⟨rfl, HQ.out⟩
set_option maxHeartbeats 4000000 in
theorem refFrame_4 (e : EvM) (hk : e.kind = 4) (he : EFits e) (hi : EInts e) (hr : rightE e = true) (w : World) : Calls Tryz.prog 22 #[evV e] w fun r w' => r = .returned (.tuple #[frK (letterE 4) (lineE e), .bool true]) ∧ Below w.heap.size w w' := by
  have HR := Lib.hid (fun W => refRight_any e he W)
  rw [hr] at HR
  obtain ⟨hf, hls, hln⟩ := words_fit hr
  have hwe : wordsE e = [tx (decOf e.at_), e.user, e.other] := by unfold wordsE; rw [hk]; rfl
  have HLE : Hid (tx (lineOf (([tx (decOf e.at_), e.user, e.other] : List ByteArray).map toL)) = tx (lineE e)) := by unfold Hid lineE; rw [hwe]
  rw [hwe] at hf hls
  have HLN : Hid (∀ (W : World), Calls Tryz.prog 45 #[.slice (some ⟨W.heap.size, 0, none⟩) 3 3] (W.alloc (.cells #[.string (tx (decOf e.at_)), .string (e.user), .string (e.other)] 9)) fun r w' => r = .returned (.string (tx (lineOf (([tx (decOf e.at_), e.user, e.other] : List ByteArray).map toL)))) ∧ (W.alloc (.cells #[.string (tx (decOf e.at_)), .string (e.user), .string (e.other)] 9)) = w') := fun W => refLine_any (some ⟨W.heap.size, 0, none⟩) 3 [tx (decOf e.at_), e.user, e.other] (W.alloc (.cells #[.string (tx (decOf e.at_)), .string (e.user), .string (e.other)] 9)) (sl_lit _ _ _) hf hls
  rw [HLE.out] at HLN
  have HDA := Lib.hid (fun W => refDec_any e.at_ hi.at_.1 hi.at_.2 W)
  have HDN := Lib.hid (fun W => refDec_any e.n hi.n.1 hi.n.2 W)
  have HDS := Lib.hid (fun W => refDec_any e.status hi.status.1 hi.status.2 W)
  have HW := Lib.hid (RfW.new w e)
  have HB := Lib.hid (fun W W' (h : RfW w e W) (k : Below W.heap.size W W') => h.below k)
  have HEC : Hid (∀ W, RfW w e W → W.cell? ⟨w.heap.size, 0, none⟩ = some (.int .i64 4) ∧ W.cell? ⟨w.heap.size, 1, none⟩ = some (.int .i64 e.at_) ∧ W.cell? ⟨w.heap.size, 2, none⟩ = some (.string e.user) ∧ W.cell? ⟨w.heap.size, 3, none⟩ = some (.string e.other) ∧ W.cell? ⟨w.heap.size, 4, none⟩ = some (.int .i64 e.n) ∧ W.cell? ⟨w.heap.size, 5, none⟩ = some (.int .i64 e.status)) := fun W h => by
    have := (cells6 h.ev).1
    rw [hk] at this
    exact this
  have hlt : (letterE 4).toNat = 103 := rfl
  unfold frK evV at *
  rw [hk] at HR HW ⊢
  rw [hlt]
  clear hf hls hln he hi hr hwe HLE hlt
  generalize hV : RfW w e = FW at *
  generalize tx (lineE e) = tl at *
  generalize tx (decOf e.at_) = ta at *
  generalize tx (decOf e.n) = tn at *
  generalize tx (decOf e.status) = ts at *
  go_enter Tryz.func22, Tryz.ntmps22
  go_wp2_with fail
  refine (HR.out _).mono ?_
  rintro r w1 ⟨rfl, h1⟩
  have h1' := HB.out _ _ HW.out h1
  obtain ⟨x0, x1, x2, x3, x4, x5⟩ := HEC.out _ h1'
  go_wp2_with fail
  refine (HDA.out _).mono ?_
  rintro r w2 ⟨rfl, h2⟩
  have h2' := HB.out _ _ h1' h2
  obtain ⟨x0, x1, x2, x3, x4, x5⟩ := HEC.out _ h2'
  go_wp2_with fail
  refine (HDN.out _).mono ?_
  rintro r w3 ⟨rfl, h3⟩
  have h3' := HB.out _ _ h2' h3
  obtain ⟨x0, x1, x2, x3, x4, x5⟩ := HEC.out _ h3'
  go_wp2_with fail
  refine (HDS.out _).mono ?_
  rintro r w4 ⟨rfl, h4⟩
  have h4' := HB.out _ _ h3' h4
  have h5' := HB.out _ _ h4' ((Below.refl _ _).alloc (Nat.le_refl _) (.cells #[.string (ta), .string (e.user), .string (e.other)] 9))
  obtain ⟨x0, x1, x2, x3, x4, x5⟩ := HEC.out _ h4'
  clear h1 h2 h3 h4 h1' h2' h3'
  subst hV
  obtain ⟨⟨z0, z1⟩, f0, f1⟩ := cells2 h4'.res
  have hsz := h4'.size
  have hsz1 : w.heap.size + 1 < w4.heap.size := by omega
  have hq0 := heap_setCell_at (heap_setCell_at h4'.res 0 (.int .u8 103)) 1 (.string tl)
  have HL := Lib.hid (loadRf ((Below.heap_alloc _ (.cells #[.string (ta), .string (e.user), .string (e.other)] 9) (w.heap.size + 1) (Array.getElem?_eq_some_iff.1 hq0).1).trans hq0))
  have hq1 := (h4'.frame.setCell (p := ⟨w.heap.size + 1, 0, none⟩) (by show w.heap.size ≤ w.heap.size + 1; omega) (.int .u8 103)).setCell (p := ⟨w.heap.size + 1, 1, none⟩) (by show w.heap.size ≤ w.heap.size + 1; omega) (.string tl)
  have HQ := Lib.hid (hq1.alloc hq1.size (.cells #[.string (ta), .string (e.user), .string (e.other)] 9))
  clear hq0 hq1 h5'
  go_wp2_with fail
  refine (HLN.out _).mono ?_
  rintro r w5 ⟨rfl, rfl⟩
  go_wp2
  refine bodyPost_ret (v := .tuple #[.agg #[.int .u8 103, .string tl], .bool true]) ?_ rfl ?_
  · rw [results_cellT rfl]
    simp [asAddr, Result.andThen, HL.out]
  · exact ⟨rfl, HQ.out⟩
set_option maxHeartbeats 4000000 in
theorem refFrame_5 (e : EvM) (hk : e.kind = 5) (he : EFits e) (hi : EInts e) (hr : rightE e = true) (w : World) : Calls Tryz.prog 22 #[evV e] w fun r w' => r = .returned (.tuple #[frK (letterE 5) (lineE e), .bool true]) ∧ Below w.heap.size w w' := by
  have HR := Lib.hid (fun W => refRight_any e he W)
  rw [hr] at HR
  obtain ⟨hf, hls, hln⟩ := words_fit hr
  have hwe : wordsE e = [tx (decOf e.at_), e.user, e.other] := by unfold wordsE; rw [hk]; rfl
  have HLE : Hid (tx (lineOf (([tx (decOf e.at_), e.user, e.other] : List ByteArray).map toL)) = tx (lineE e)) := by unfold Hid lineE; rw [hwe]
  rw [hwe] at hf hls
  have HLN : Hid (∀ (W : World), Calls Tryz.prog 45 #[.slice (some ⟨W.heap.size, 0, none⟩) 3 3] (W.alloc (.cells #[.string (tx (decOf e.at_)), .string (e.user), .string (e.other)] 9)) fun r w' => r = .returned (.string (tx (lineOf (([tx (decOf e.at_), e.user, e.other] : List ByteArray).map toL)))) ∧ (W.alloc (.cells #[.string (tx (decOf e.at_)), .string (e.user), .string (e.other)] 9)) = w') := fun W => refLine_any (some ⟨W.heap.size, 0, none⟩) 3 [tx (decOf e.at_), e.user, e.other] (W.alloc (.cells #[.string (tx (decOf e.at_)), .string (e.user), .string (e.other)] 9)) (sl_lit _ _ _) hf hls
  rw [HLE.out] at HLN
  have HDA := Lib.hid (fun W => refDec_any e.at_ hi.at_.1 hi.at_.2 W)
  have HDN := Lib.hid (fun W => refDec_any e.n hi.n.1 hi.n.2 W)
  have HDS := Lib.hid (fun W => refDec_any e.status hi.status.1 hi.status.2 W)
  have HW := Lib.hid (RfW.new w e)
  have HB := Lib.hid (fun W W' (h : RfW w e W) (k : Below W.heap.size W W') => h.below k)
  have HEC : Hid (∀ W, RfW w e W → W.cell? ⟨w.heap.size, 0, none⟩ = some (.int .i64 5) ∧ W.cell? ⟨w.heap.size, 1, none⟩ = some (.int .i64 e.at_) ∧ W.cell? ⟨w.heap.size, 2, none⟩ = some (.string e.user) ∧ W.cell? ⟨w.heap.size, 3, none⟩ = some (.string e.other) ∧ W.cell? ⟨w.heap.size, 4, none⟩ = some (.int .i64 e.n) ∧ W.cell? ⟨w.heap.size, 5, none⟩ = some (.int .i64 e.status)) := fun W h => by
    have := (cells6 h.ev).1
    rw [hk] at this
    exact this
  have hlt : (letterE 5).toNat = 114 := rfl
  unfold frK evV at *
  rw [hk] at HR HW ⊢
  rw [hlt]
  clear hf hls hln he hi hr hwe HLE hlt
  generalize hV : RfW w e = FW at *
  generalize tx (lineE e) = tl at *
  generalize tx (decOf e.at_) = ta at *
  generalize tx (decOf e.n) = tn at *
  generalize tx (decOf e.status) = ts at *
  go_enter Tryz.func22, Tryz.ntmps22
  go_wp2_with fail
  refine (HR.out _).mono ?_
  rintro r w1 ⟨rfl, h1⟩
  have h1' := HB.out _ _ HW.out h1
  obtain ⟨x0, x1, x2, x3, x4, x5⟩ := HEC.out _ h1'
  go_wp2_with fail
  refine (HDA.out _).mono ?_
  rintro r w2 ⟨rfl, h2⟩
  have h2' := HB.out _ _ h1' h2
  obtain ⟨x0, x1, x2, x3, x4, x5⟩ := HEC.out _ h2'
  go_wp2_with fail
  refine (HDN.out _).mono ?_
  rintro r w3 ⟨rfl, h3⟩
  have h3' := HB.out _ _ h2' h3
  obtain ⟨x0, x1, x2, x3, x4, x5⟩ := HEC.out _ h3'
  go_wp2_with fail
  refine (HDS.out _).mono ?_
  rintro r w4 ⟨rfl, h4⟩
  have h4' := HB.out _ _ h3' h4
  have h5' := HB.out _ _ h4' ((Below.refl _ _).alloc (Nat.le_refl _) (.cells #[.string (ta), .string (e.user), .string (e.other)] 9))
  obtain ⟨x0, x1, x2, x3, x4, x5⟩ := HEC.out _ h4'
  clear h1 h2 h3 h4 h1' h2' h3'
  subst hV
  obtain ⟨⟨z0, z1⟩, f0, f1⟩ := cells2 h4'.res
  have hsz := h4'.size
  have hsz1 : w.heap.size + 1 < w4.heap.size := by omega
  have hq0 := heap_setCell_at (heap_setCell_at h4'.res 0 (.int .u8 114)) 1 (.string tl)
  have HL := Lib.hid (loadRf ((Below.heap_alloc _ (.cells #[.string (ta), .string (e.user), .string (e.other)] 9) (w.heap.size + 1) (Array.getElem?_eq_some_iff.1 hq0).1).trans hq0))
  have hq1 := (h4'.frame.setCell (p := ⟨w.heap.size + 1, 0, none⟩) (by show w.heap.size ≤ w.heap.size + 1; omega) (.int .u8 114)).setCell (p := ⟨w.heap.size + 1, 1, none⟩) (by show w.heap.size ≤ w.heap.size + 1; omega) (.string tl)
  have HQ := Lib.hid (hq1.alloc hq1.size (.cells #[.string (ta), .string (e.user), .string (e.other)] 9))
  clear hq0 hq1 h5'
  go_wp2_with fail
  refine (HLN.out _).mono ?_
  rintro r w5 ⟨rfl, rfl⟩
  go_wp2
  refine bodyPost_ret (v := .tuple #[.agg #[.int .u8 114, .string tl], .bool true]) ?_ rfl ?_
  · rw [results_cellT rfl]
    simp [asAddr, Result.andThen, HL.out]
  · exact ⟨rfl, HQ.out⟩
set_option maxHeartbeats 4000000 in
theorem refFrame_6 (e : EvM) (hk : e.kind = 6) (he : EFits e) (hi : EInts e) (hr : rightE e = true) (w : World) : Calls Tryz.prog 22 #[evV e] w fun r w' => r = .returned (.tuple #[frK (letterE 6) (lineE e), .bool true]) ∧ Below w.heap.size w w' := by
  have HR := Lib.hid (fun W => refRight_any e he W)
  rw [hr] at HR
  obtain ⟨hf, hls, hln⟩ := words_fit hr
  have hwe : wordsE e = [tx (decOf e.at_), tx (decOf e.n)] := by unfold wordsE; rw [hk]; rfl
  have HLE : Hid (tx (lineOf (([tx (decOf e.at_), tx (decOf e.n)] : List ByteArray).map toL)) = tx (lineE e)) := by unfold Hid lineE; rw [hwe]
  rw [hwe] at hf hls
  have HLN : Hid (∀ (W : World), Calls Tryz.prog 45 #[.slice (some ⟨W.heap.size, 0, none⟩) 2 2] (W.alloc (.cells #[.string (tx (decOf e.at_)), .string (tx (decOf e.n))] 9)) fun r w' => r = .returned (.string (tx (lineOf (([tx (decOf e.at_), tx (decOf e.n)] : List ByteArray).map toL)))) ∧ (W.alloc (.cells #[.string (tx (decOf e.at_)), .string (tx (decOf e.n))] 9)) = w') := fun W => refLine_any (some ⟨W.heap.size, 0, none⟩) 2 [tx (decOf e.at_), tx (decOf e.n)] (W.alloc (.cells #[.string (tx (decOf e.at_)), .string (tx (decOf e.n))] 9)) (sl_lit _ _ _) hf hls
  rw [HLE.out] at HLN
  have HDA := Lib.hid (fun W => refDec_any e.at_ hi.at_.1 hi.at_.2 W)
  have HDN := Lib.hid (fun W => refDec_any e.n hi.n.1 hi.n.2 W)
  have HDS := Lib.hid (fun W => refDec_any e.status hi.status.1 hi.status.2 W)
  have HW := Lib.hid (RfW.new w e)
  have HB := Lib.hid (fun W W' (h : RfW w e W) (k : Below W.heap.size W W') => h.below k)
  have HEC : Hid (∀ W, RfW w e W → W.cell? ⟨w.heap.size, 0, none⟩ = some (.int .i64 6) ∧ W.cell? ⟨w.heap.size, 1, none⟩ = some (.int .i64 e.at_) ∧ W.cell? ⟨w.heap.size, 2, none⟩ = some (.string e.user) ∧ W.cell? ⟨w.heap.size, 3, none⟩ = some (.string e.other) ∧ W.cell? ⟨w.heap.size, 4, none⟩ = some (.int .i64 e.n) ∧ W.cell? ⟨w.heap.size, 5, none⟩ = some (.int .i64 e.status)) := fun W h => by
    have := (cells6 h.ev).1
    rw [hk] at this
    exact this
  have hlt : (letterE 6).toNat = 104 := rfl
  unfold frK evV at *
  rw [hk] at HR HW ⊢
  rw [hlt]
  clear hf hls hln he hi hr hwe HLE hlt
  generalize hV : RfW w e = FW at *
  generalize tx (lineE e) = tl at *
  generalize tx (decOf e.at_) = ta at *
  generalize tx (decOf e.n) = tn at *
  generalize tx (decOf e.status) = ts at *
  go_enter Tryz.func22, Tryz.ntmps22
  go_wp2_with fail
  refine (HR.out _).mono ?_
  rintro r w1 ⟨rfl, h1⟩
  have h1' := HB.out _ _ HW.out h1
  obtain ⟨x0, x1, x2, x3, x4, x5⟩ := HEC.out _ h1'
  go_wp2_with fail
  refine (HDA.out _).mono ?_
  rintro r w2 ⟨rfl, h2⟩
  have h2' := HB.out _ _ h1' h2
  obtain ⟨x0, x1, x2, x3, x4, x5⟩ := HEC.out _ h2'
  go_wp2_with fail
  refine (HDN.out _).mono ?_
  rintro r w3 ⟨rfl, h3⟩
  have h3' := HB.out _ _ h2' h3
  obtain ⟨x0, x1, x2, x3, x4, x5⟩ := HEC.out _ h3'
  go_wp2_with fail
  refine (HDS.out _).mono ?_
  rintro r w4 ⟨rfl, h4⟩
  have h4' := HB.out _ _ h3' h4
  have h5' := HB.out _ _ h4' ((Below.refl _ _).alloc (Nat.le_refl _) (.cells #[.string (ta), .string (tn)] 9))
  obtain ⟨x0, x1, x2, x3, x4, x5⟩ := HEC.out _ h4'
  clear h1 h2 h3 h4 h1' h2' h3'
  subst hV
  obtain ⟨⟨z0, z1⟩, f0, f1⟩ := cells2 h4'.res
  have hsz := h4'.size
  have hsz1 : w.heap.size + 1 < w4.heap.size := by omega
  have hq0 := heap_setCell_at (heap_setCell_at h4'.res 0 (.int .u8 104)) 1 (.string tl)
  have HL := Lib.hid (loadRf ((Below.heap_alloc _ (.cells #[.string (ta), .string (tn)] 9) (w.heap.size + 1) (Array.getElem?_eq_some_iff.1 hq0).1).trans hq0))
  have hq1 := (h4'.frame.setCell (p := ⟨w.heap.size + 1, 0, none⟩) (by show w.heap.size ≤ w.heap.size + 1; omega) (.int .u8 104)).setCell (p := ⟨w.heap.size + 1, 1, none⟩) (by show w.heap.size ≤ w.heap.size + 1; omega) (.string tl)
  have HQ := Lib.hid (hq1.alloc hq1.size (.cells #[.string (ta), .string (tn)] 9))
  clear hq0 hq1 h5'
  go_wp2_with fail
  refine (HLN.out _).mono ?_
  rintro r w5 ⟨rfl, rfl⟩
  go_wp2
  refine bodyPost_ret (v := .tuple #[.agg #[.int .u8 104, .string tl], .bool true]) ?_ rfl ?_
  · rw [results_cellT rfl]
    simp [asAddr, Result.andThen, HL.out]
  · exact ⟨rfl, HQ.out⟩
set_option maxHeartbeats 4000000 in
theorem refFrame_7 (e : EvM) (hk : e.kind = 7) (he : EFits e) (hi : EInts e) (hr : rightE e = true) (w : World) : Calls Tryz.prog 22 #[evV e] w fun r w' => r = .returned (.tuple #[frK (letterE 7) (lineE e), .bool true]) ∧ Below w.heap.size w w' := by
  have HR := Lib.hid (fun W => refRight_any e he W)
  rw [hr] at HR
  obtain ⟨hf, hls, hln⟩ := words_fit hr
  have hwe : wordsE e = [tx (decOf e.at_), e.user] := by unfold wordsE; rw [hk]; rfl
  have HLE : Hid (tx (lineOf (([tx (decOf e.at_), e.user] : List ByteArray).map toL)) = tx (lineE e)) := by unfold Hid lineE; rw [hwe]
  rw [hwe] at hf hls
  have HLN : Hid (∀ (W : World), Calls Tryz.prog 45 #[.slice (some ⟨W.heap.size, 0, none⟩) 2 2] (W.alloc (.cells #[.string (tx (decOf e.at_)), .string (e.user)] 9)) fun r w' => r = .returned (.string (tx (lineOf (([tx (decOf e.at_), e.user] : List ByteArray).map toL)))) ∧ (W.alloc (.cells #[.string (tx (decOf e.at_)), .string (e.user)] 9)) = w') := fun W => refLine_any (some ⟨W.heap.size, 0, none⟩) 2 [tx (decOf e.at_), e.user] (W.alloc (.cells #[.string (tx (decOf e.at_)), .string (e.user)] 9)) (sl_lit _ _ _) hf hls
  rw [HLE.out] at HLN
  have HDA := Lib.hid (fun W => refDec_any e.at_ hi.at_.1 hi.at_.2 W)
  have HDN := Lib.hid (fun W => refDec_any e.n hi.n.1 hi.n.2 W)
  have HDS := Lib.hid (fun W => refDec_any e.status hi.status.1 hi.status.2 W)
  have HW := Lib.hid (RfW.new w e)
  have HB := Lib.hid (fun W W' (h : RfW w e W) (k : Below W.heap.size W W') => h.below k)
  have HEC : Hid (∀ W, RfW w e W → W.cell? ⟨w.heap.size, 0, none⟩ = some (.int .i64 7) ∧ W.cell? ⟨w.heap.size, 1, none⟩ = some (.int .i64 e.at_) ∧ W.cell? ⟨w.heap.size, 2, none⟩ = some (.string e.user) ∧ W.cell? ⟨w.heap.size, 3, none⟩ = some (.string e.other) ∧ W.cell? ⟨w.heap.size, 4, none⟩ = some (.int .i64 e.n) ∧ W.cell? ⟨w.heap.size, 5, none⟩ = some (.int .i64 e.status)) := fun W h => by
    have := (cells6 h.ev).1
    rw [hk] at this
    exact this
  have hlt : (letterE 7).toNat = 101 := rfl
  unfold frK evV at *
  rw [hk] at HR HW ⊢
  rw [hlt]
  clear hf hls hln he hi hr hwe HLE hlt
  generalize hV : RfW w e = FW at *
  generalize tx (lineE e) = tl at *
  generalize tx (decOf e.at_) = ta at *
  generalize tx (decOf e.n) = tn at *
  generalize tx (decOf e.status) = ts at *
  go_enter Tryz.func22, Tryz.ntmps22
  go_wp2_with fail
  refine (HR.out _).mono ?_
  rintro r w1 ⟨rfl, h1⟩
  have h1' := HB.out _ _ HW.out h1
  obtain ⟨x0, x1, x2, x3, x4, x5⟩ := HEC.out _ h1'
  go_wp2_with fail
  refine (HDA.out _).mono ?_
  rintro r w2 ⟨rfl, h2⟩
  have h2' := HB.out _ _ h1' h2
  obtain ⟨x0, x1, x2, x3, x4, x5⟩ := HEC.out _ h2'
  go_wp2_with fail
  refine (HDN.out _).mono ?_
  rintro r w3 ⟨rfl, h3⟩
  have h3' := HB.out _ _ h2' h3
  obtain ⟨x0, x1, x2, x3, x4, x5⟩ := HEC.out _ h3'
  go_wp2_with fail
  refine (HDS.out _).mono ?_
  rintro r w4 ⟨rfl, h4⟩
  have h4' := HB.out _ _ h3' h4
  have h5' := HB.out _ _ h4' ((Below.refl _ _).alloc (Nat.le_refl _) (.cells #[.string (ta), .string (e.user)] 9))
  obtain ⟨x0, x1, x2, x3, x4, x5⟩ := HEC.out _ h4'
  clear h1 h2 h3 h4 h1' h2' h3'
  subst hV
  obtain ⟨⟨z0, z1⟩, f0, f1⟩ := cells2 h4'.res
  have hsz := h4'.size
  have hsz1 : w.heap.size + 1 < w4.heap.size := by omega
  have hq0 := heap_setCell_at (heap_setCell_at h4'.res 0 (.int .u8 101)) 1 (.string tl)
  have HL := Lib.hid (loadRf ((Below.heap_alloc _ (.cells #[.string (ta), .string (e.user)] 9) (w.heap.size + 1) (Array.getElem?_eq_some_iff.1 hq0).1).trans hq0))
  have hq1 := (h4'.frame.setCell (p := ⟨w.heap.size + 1, 0, none⟩) (by show w.heap.size ≤ w.heap.size + 1; omega) (.int .u8 101)).setCell (p := ⟨w.heap.size + 1, 1, none⟩) (by show w.heap.size ≤ w.heap.size + 1; omega) (.string tl)
  have HQ := Lib.hid (hq1.alloc hq1.size (.cells #[.string (ta), .string (e.user)] 9))
  clear hq0 hq1 h5'
  go_wp2_with fail
  refine (HLN.out _).mono ?_
  rintro r w5 ⟨rfl, rfl⟩
  go_wp2
  refine bodyPost_ret (v := .tuple #[.agg #[.int .u8 101, .string tl], .bool true]) ?_ rfl ?_
  · rw [results_cellT rfl]
    simp [asAddr, Result.andThen, HL.out]
  · exact ⟨rfl, HQ.out⟩
theorem refFrame_any (e : EvM) (he : EFits e) (hi : EInts e) (w : World) : Calls Tryz.prog 22 #[evV e] w fun r w' => r = .returned (.tuple #[frameE e, .bool (rightE e)]) ∧ Below w.heap.size w w' := by
  cases hr : rightE e with
  | false =>
    have := refFrame_no e he hr w
    unfold frameE
    rw [hr]
    exact this
  | true =>
    have hk := (right_len' hr).2.2
    unfold isK at hk
    simp at hk
    have hcase : e.kind = 1 ∨ e.kind = 2 ∨ e.kind = 3 ∨ e.kind = 4 ∨ e.kind = 5 ∨ e.kind = 6 ∨ e.kind = 7 := by omega
    unfold frameE
    rw [hr]
    rcases hcase with h | h | h | h | h | h | h
    · rw [h]; exact refFrame_1 e h he hi hr w
    · rw [h]; exact refFrame_2 e h he hi hr w
    · rw [h]; exact refFrame_3 e h he hi hr w
    · rw [h]; exact refFrame_4 e h he hi hr w
    · rw [h]; exact refFrame_5 e h he hi hr w
    · rw [h]; exact refFrame_6 e h he hi hr w
    · rw [h]; exact refFrame_7 e h he hi hr w
end Go.Proofs.YtollhemkjnkalaaGreatDoor
