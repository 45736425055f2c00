/- Layer 5's laws: Does, the document's disk behind an op. -/
import Derived.Test.YtammmhbkfdmbfaaT8
import Derived.Test.YtammmhbkfdmbfaaT9
import Derived.Test.YtammmhbkfdmbfaaT13
namespace Go.Proofs.Ytammmhbkfdmbfaa
open Go.RowKit
set_option linter.unusedVariables false

theorem readD_L (d : DiskM) (n : Nm) (x : Int) : (readD d n x).L = d.L := by unfold readD; split <;> rfl
/-- a disk that is told in the result's block, and something is made behind it -/
theorem fin_resA {W w : World} {g : Nat} (hres : W.heap[g]? = some (.cells #[.slice none 0 0, .int .i64 0, .int .i64 0, .int .i64 0, .int .i64 0, .bool false] 30 (0, 0))) (hframe : Below w.heap.size w W) (hg : w.heap.size ≤ g) (a0 x : Option Addr) (cx : Nat) (B : Nat) (D : DiskM) {L0 : List FileM} (hr : FiSl W x D.L) (hor : x = a0 ∧ D.L = L0 ∨ ∀ b o, x = some ⟨b, o, none⟩ → B ≤ b) (ob : Obj) :
    ∃ F, F = ((((((W.setCell ⟨g, 0, none⟩ (.slice x D.L.length cx)).setCell ⟨g, 1, none⟩ (.int .i64 D.limit)).setCell ⟨g, 2, none⟩ (.int .i64 D.fuse)).setCell ⟨g, 3, none⟩ (.int .i64 D.ops)).setCell ⟨g, 4, none⟩ (.int .i64 D.reads)).setCell ⟨g, 5, none⟩ (.bool D.down)).alloc ob ∧
      (loadVar 30 ⟨g, 0, none⟩).run Try.prog F = .ok (.agg #[.slice x D.L.length cx, .int .i64 D.limit, .int .i64 D.fuse, .int .i64 D.ops, .int .i64 D.reads, .bool D.down]) F ∧
      RefAt B a0 L0 F (.agg #[.slice x D.L.length cx, .int .i64 D.limit, .int .i64 D.fuse, .int .i64 D.ops, .int .i64 D.reads, .bool D.down]) D ∧ Below w.heap.size w F := by
  have h6 := heap_setCell_at (heap_setCell_at (heap_setCell_at (heap_setCell_at (heap_setCell_at (heap_setCell_at hres 0 (.slice x D.L.length cx)) 1 (.int .i64 D.limit)) 2 (.int .i64 D.fuse)) 3 (.int .i64 D.ops)) 4 (.int .i64 D.reads)) 5 (.bool D.down)
  obtain ⟨hlt, _⟩ := Array.getElem?_eq_some_iff.1 h6
  have h7 := (Below.heap_alloc _ ob g hlt).trans h6
  have hb : Below w.heap.size w ((((((W.setCell ⟨g, 0, none⟩ (.slice x D.L.length cx)).setCell ⟨g, 1, none⟩ (.int .i64 D.limit)).setCell ⟨g, 2, none⟩ (.int .i64 D.fuse)).setCell ⟨g, 3, none⟩ (.int .i64 D.ops)).setCell ⟨g, 4, none⟩ (.int .i64 D.reads)).setCell ⟨g, 5, none⟩ (.bool D.down)) := hframe.trans (below_set6 (Below.refl _ _) hg _ _ _ _ _ _)
  refine ⟨_, rfl, loadD h7, ⟨x, cx, rfl, (hr.res hres _ _ _ _ _ _).below ((Below.refl _ _).alloc (Nat.le_refl _) ob), hor⟩, hb.alloc (by exact hb.size) ob⟩
set_option maxRecDepth 100000 in
set_option maxHeartbeats 4000000 in
theorem refDoes_any (o : OpM) (a : Option Addr) (c : Nat) (d : DiskM) (w : World) (ha : o.a.length ≤ 140737488351232) (hb : o.b.length ≤ 140737488351232) (hn : o.n ≤ 9223372036854775807) (h : FiSl w a d.L) (hl : d.L.length ≤ 1000000) (hok : Ok d)
    (keep : List Int) (ka : Option Addr) (kc : Nat) (hkc : keep.length ≤ kc) (hkm : kc ≤ maxLen) (hks : Sl w ka (intV keep)) :
    Calls Try.prog 16 #[refV a c d, opV o, .slice ka keep.length kc] w fun e w' => ∃ v, e = .returned (.tuple #[v, .int .i64 (stepM d o keep).2]) ∧ RefAt w.heap.size a d.L w' v (stepM d o keep).1 ∧ Below w.heap.size w w' := by
  have HBE := Lib.hid (fun W W' (hx : By w a c d o W) (k : Below W.heap.size W W') => hx.below k)
  have HAL := Lib.hid (fun W ob (hx : By w a c d o W) => hx.alloc ob)
  have HLD := Lib.hid (fun (W : World) a b c d e f => loadD (heap_alloc_new W (.cells #[a, b, c, d, e, f] 30)))
  have HRB := Lib.hid (fun W (hx : By w a c d o W) => hx.res)
  have HFR := Lib.hid (fun W (hx : By w a c d o W) => hx.frame)
  have HSI := Lib.hid (fun W (hx : By w a c d o W) => hx.size)
  have HFW := Lib.hid (fun (w' : World) (k : Below w.heap.size w w') => h.below k)
  have HBY : Hid (By w a c d o _) := Below.refl _ _
  have hcase : (0 ≤ o.kind ∧ o.kind < 5) ∨ o.kind = 5 ∨ o.kind = 6 ∨ o.kind = 7 ∨ (o.kind < 0 ∨ 7 < o.kind) := by omega
  rcases hcase with hk | hk | hk | hk | hk
  · rw [stepM_do hk.1 hk.2]
    have HDO : Hid (∀ W, By w a c d o W → Calls Try.prog 43 #[refV a c d, opV o] W fun e w' => ∃ v, e = .returned (.tuple #[v, .int .i64 (doM d o).2]) ∧ RefAt W.heap.size a d.L w' v (doM d o).1 ∧ Below W.heap.size W w') := fun W hx => refDo_any o hk a c d W ha hb (h.below hx.frame) hl hok
    obtain ⟨h0, h5⟩ := hk
    clear hok hks hkc hkm ha hb hn h hl HFW HLD
    generalize (doM d o).2 = Y at *
    generalize (doM d o).1 = D at *
    unfold refV opV at *
    generalize hBYn : By w a c d o = BY at *
    clear hBYn
    generalize o.kind = kd at *
    go_enter Try.func16, Try.ntmps16
    go_wp2_with fail
    refine (HDO.out _ HBY.out).mono ?_
    rintro e w1 ⟨v, rfl, ⟨a1, c1, rfl, q1, q2⟩, hB⟩
    have hX := HBE.out _ _ HBY.out hB
    clear hB
    unfold refV
    obtain ⟨⟨z0, z1, z2, z3, z4, z5⟩, g0, g1, g2, g3, g4, g5⟩ := cells6 (HRB.out _ hX)
    obtain ⟨F, hF, r1, r2, r3⟩ := fin_res (w := w) (g := w.heap.size + 2) (HRB.out _ hX) (HFR.out _ hX) (by omega) a a1 c1 w.heap.size D q1 (q2.imp id (fun hq b i e => by have := hq b i e; have := HSI.out _ HBY.out; omega))
    have HF := Lib.hid hF
    have Q1 := Lib.hid r1
    have Q2 := Lib.hid r2
    have Q3 := Lib.hid r3
    clear hF r1 r2 r3 q1 q2 hX
    go_wp2
    rw [HF.out] at Q1 Q2 Q3
    refine bodyPost_ret (v := .tuple #[.agg #[.slice a1 D.L.length c1, .int .i64 D.limit, .int .i64 D.fuse, .int .i64 D.ops, .int .i64 D.reads, .bool D.down], .int .i64 Y]) ?_ rfl ?_
    · rw [results_cell_pair rfl]
      simp [asAddr, Result.andThen, Q1.out]
    · exact ⟨_, rfl, Q2.out, Q3.out⟩
  · rw [stepM_read hk]
    have HRD : Hid (∀ W, By w a c d o W → Calls Try.prog 21 #[refV a c d, .string (tx o.a), .int .i64 o.n] W fun e w' => e = .returned (.tuple #[refV a c (readD d o.a o.n), .string (tx (readT d o.a o.n)), .int .i64 (readE d o.a o.n)]) ∧ Below W.heap.size W w') := fun W hx => refRead_any o.a ha o.n hn a c d W (h.below hx.frame) hl hok.fit
    have HFI : Hid (∀ W, By w a c d o W → FiSl W a (readD d o.a o.n).L) := fun W hx => by rw [readD_L]; exact h.below hx.frame
    clear hok hks hkc hkm ha hb hn h hl HFW HLD
    have HDL : Hid ((readD d o.a o.n).L = d.L) := readD_L _ _ _
    generalize readE d o.a o.n = Y at *
    generalize readD d o.a o.n = D at *
    generalize readT d o.a o.n = T at *
    unfold refV opV at *
    rw [hk] at HBY ⊢
    generalize hBYn : By w a c d o = BY at *
    clear hBYn
    go_enter Try.func16, Try.ntmps16
    go_wp2_with fail
    refine (HRD.out _ HBY.out).mono ?_
    rintro e w1 ⟨rfl, hB⟩
    have hX1 := HBE.out _ _ HBY.out hB
    clear hB
    have q1 := HFI.out _ hX1
    have q2 : a = a ∧ D.L = d.L ∨ ∀ b o, a = some ⟨b, o, none⟩ → w.heap.size ≤ b := .inl ⟨rfl, HDL.out⟩
    obtain ⟨⟨z0, z1, z2, z3, z4, z5⟩, g0, g1, g2, g3, g4, g5⟩ := cells6 (HRB.out _ hX1)
    obtain ⟨F, hF, r1, r2, r3⟩ := fin_resA (w := w) (g := w.heap.size + 2) (HRB.out _ hX1) (HFR.out _ hX1) (by omega) a a c w.heap.size D q1 q2 (.cells #[.slice a D.L.length c, .int .i64 D.limit, .int .i64 D.fuse, .int .i64 D.ops, .int .i64 D.reads, .bool D.down] 30)
    have hsz : w.heap.size + 2 < w1.heap.size := by have := HSI.out _ hX1; omega
    have HF := Lib.hid hF
    have Q1 := Lib.hid r1
    have Q2 := Lib.hid r2
    have Q3 := Lib.hid r3
    clear hF r1 r2 r3 q1 q2 hX1
    go_wp2
    rw [HF.out] at Q1 Q2 Q3
    refine bodyPost_ret (v := .tuple #[.agg #[.slice a D.L.length c, .int .i64 D.limit, .int .i64 D.fuse, .int .i64 D.ops, .int .i64 D.reads, .bool D.down], .int .i64 Y]) ?_ rfl ?_
    · rw [results_cell_pair rfl]
      simp [asAddr, Result.andThen, Q1.out]
    · exact ⟨_, rfl, Q2.out, Q3.out⟩
  · rw [stepM_fuse hk]
    unfold refV opV at *
    rw [hk]
    clear hok hks hkc hkm ha hb hn h hl HBY HBE HAL HRB HFR HSI
    go_enter Try.func16, Try.ntmps16
    go_wp2
    refine bodyPost_ret (v := .tuple #[.agg #[.slice a d.L.length c, .int .i64 d.limit, .int .i64 (max o.n (-1)), .int .i64 d.ops, .int .i64 d.reads, .bool d.down], .int .i64 0]) ?_ rfl ?_
    · rw [results_cell_pair rfl]
      have := HLD.out ((w.alloc (.cells #[.slice a d.L.length c, .int .i64 d.limit, .int .i64 (max o.n (-1)), .int .i64 d.ops, .int .i64 d.reads, .bool d.down] 30)).alloc (.cells #[.int .i64 6, .string (tx o.a), .string (tx o.b), .int .i64 o.n] 34)) (.slice a d.L.length c) (.int .i64 d.limit) (.int .i64 (max o.n (-1))) (.int .i64 d.ops) (.int .i64 d.reads) (.bool d.down)
      rw [size1, size1] at this
      simp [asAddr, Result.andThen, this]
    · refine ⟨_, rfl, ⟨a, c, rfl, HFW.out _ ?_, .inl ⟨rfl, rfl⟩⟩, ?_⟩
      all_goals exact (((Below.refl _ _).alloc (Nat.le_refl _) _).alloc (by rw [size1]; omega) _).alloc (by rw [size1, size1]; omega) _
  · rw [stepM_crash hk]
    have HCR : Hid (∀ W, By w a c d o W → Calls Try.prog 44 #[refV a c d, .slice ka keep.length kc] W fun e w' => ∃ v, e = .returned v ∧ RefAt W.heap.size a d.L w' v (crashM d keep) ∧ Below W.heap.size W w') := fun W hx => refCrash_any keep ka kc hkc hkm a c d W (Out.of_sl (Sl.below hks hx.frame) (fun b i e hb => hb)) (h.below hx.frame) hl hok.fit
    clear hok hks hkc hkm ha hb hn h hl HFW HLD
    generalize keep.length = K at *
    show Calls _ _ _ _ fun e w' => ∃ v, e = .returned (.tuple #[v, .int .i64 0]) ∧ RefAt w.heap.size a d.L w' v (crashM d keep) ∧ Below w.heap.size w w'
    generalize crashM d keep = D at *
    unfold refV opV at *
    rw [hk] at HBY ⊢
    generalize hBYn : By w a c d o = BY at *
    clear hBYn
    go_enter Try.func16, Try.ntmps16
    go_wp2_with fail
    refine (HCR.out _ HBY.out).mono ?_
    rintro e w1 ⟨v, rfl, ⟨a1, c1, rfl, q1, q2⟩, hB⟩
    have hX := HBE.out _ _ HBY.out hB
    clear hB
    unfold refV
    obtain ⟨⟨z0, z1, z2, z3, z4, z5⟩, g0, g1, g2, g3, g4, g5⟩ := cells6 (HRB.out _ hX)
    obtain ⟨F, hF, r1, r2, r3⟩ := fin_res (w := w) (g := w.heap.size + 2) (HRB.out _ hX) (HFR.out _ hX) (by omega) a a1 c1 w.heap.size D q1 (q2.imp id (fun hq b i e => by have := hq b i e; have := HSI.out _ HBY.out; omega))
    have HF := Lib.hid hF
    have Q1 := Lib.hid r1
    have Q2 := Lib.hid r2
    have Q3 := Lib.hid r3
    clear hF r1 r2 r3 q1 q2 hX
    go_wp2
    rw [HF.out] at Q1 Q2 Q3
    refine bodyPost_ret (v := .tuple #[.agg #[.slice a1 D.L.length c1, .int .i64 D.limit, .int .i64 D.fuse, .int .i64 D.ops, .int .i64 D.reads, .bool D.down], .int .i64 0]) ?_ rfl ?_
    · rw [results_cell_pair rfl]
      simp [asAddr, Result.andThen, Q1.out]
    · exact ⟨_, rfl, Q2.out, Q3.out⟩
  · rw [stepM_not hk]
    unfold refV opV at *
    clear hok hks hkc hkm ha hb hn h hl HBY HBE HAL HRB HFR HSI
    have k5 : (o.kind == 5) = false := by simp; omega
    have k6 : (o.kind == 6) = false := by simp; omega
    have k7 : (o.kind == 7) = false := by simp; omega
    rcases hk with hk | hk
    · have hk0 : ¬ 0 ≤ o.kind := by omega
      go_enter Try.func16, Try.ntmps16
      go_wp2
      refine bodyPost_ret (v := .tuple #[.agg #[.slice a d.L.length c, .int .i64 d.limit, .int .i64 (d.fuse), .int .i64 d.ops, .int .i64 d.reads, .bool d.down], .int .i64 0]) ?_ rfl ?_
      · rw [results_cell_pair rfl]
        have := HLD.out ((w.alloc (.cells #[.slice a d.L.length c, .int .i64 d.limit, .int .i64 (d.fuse), .int .i64 d.ops, .int .i64 d.reads, .bool d.down] 30)).alloc (.cells #[.int .i64 o.kind, .string (tx o.a), .string (tx o.b), .int .i64 o.n] 34)) (.slice a d.L.length c) (.int .i64 d.limit) (.int .i64 (d.fuse)) (.int .i64 d.ops) (.int .i64 d.reads) (.bool d.down)
        rw [size1, size1] at this
        simp [asAddr, Result.andThen, this]
      · refine ⟨_, rfl, ⟨a, c, rfl, HFW.out _ ?_, .inl ⟨rfl, rfl⟩⟩, ?_⟩
        all_goals exact (((Below.refl _ _).alloc (Nat.le_refl _) _).alloc (by rw [size1]; omega) _).alloc (by rw [size1, size1]; omega) _
    · have hk0 : 0 ≤ o.kind := by omega
      have hk5 : ¬ o.kind < 5 := by omega
      go_enter Try.func16, Try.ntmps16
      go_wp2
      refine bodyPost_ret (v := .tuple #[.agg #[.slice a d.L.length c, .int .i64 d.limit, .int .i64 (d.fuse), .int .i64 d.ops, .int .i64 d.reads, .bool d.down], .int .i64 0]) ?_ rfl ?_
      · rw [results_cell_pair rfl]
        have := HLD.out ((w.alloc (.cells #[.slice a d.L.length c, .int .i64 d.limit, .int .i64 (d.fuse), .int .i64 d.ops, .int .i64 d.reads, .bool d.down] 30)).alloc (.cells #[.int .i64 o.kind, .string (tx o.a), .string (tx o.b), .int .i64 o.n] 34)) (.slice a d.L.length c) (.int .i64 d.limit) (.int .i64 (d.fuse)) (.int .i64 d.ops) (.int .i64 d.reads) (.bool d.down)
        rw [size1, size1] at this
        simp [asAddr, Result.andThen, this]
      · refine ⟨_, rfl, ⟨a, c, rfl, HFW.out _ ?_, .inl ⟨rfl, rfl⟩⟩, ?_⟩
        all_goals exact (((Below.refl _ _).alloc (Nat.le_refl _) _).alloc (by rw [size1]; omega) _).alloc (by rw [size1, size1]; omega) _
end Go.Proofs.Ytammmhbkfdmbfaa
