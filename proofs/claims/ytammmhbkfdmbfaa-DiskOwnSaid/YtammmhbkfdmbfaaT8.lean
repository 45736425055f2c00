/- Contracts of the document's own words of layer 5: what is read of a file. -/
import Derived.Test.YtammmhbkfdmbfaaT6
import Derived.Laws.DeepStrings4
namespace Go.Proofs.Ytammmhbkfdmbfaa
open Go.RowKit
set_option linter.unusedVariables false

theorem results_cell_two {fn : Func} {p u v : Tmp} {ty : TypeId} (h : fn.results = #[.cell p ty, .tmp u, .tmp v]) (tmps : Array Value) (P : Program) (w : World) :
    (results fn tmps).run P w = ((asAddr (tmps.getD p undef)).run P w).andThen fun a w₁ => ((loadVar ty a).run P w₁).andThen fun x w₂ => .ok (.tuple #[x, tmps.getD u undef, tmps.getD v undef]) w₂ := by
  simp only [results, h]
  simp [Sem.run_bind, Result.andThen]
  try (split <;> simp)
  all_goals try (split <;> simp)
/-- the disk in its box, and a result's block; all that was there is as it was -/
def Bz (w : World) (a : Option Addr) (c : Nat) (d : DiskM) (W : World) : Prop :=
  Below (w.heap.size + 2) ((w.alloc (.cells #[.slice a d.L.length c, .int .i64 d.limit, .int .i64 d.fuse, .int .i64 d.ops, .int .i64 d.reads, .bool d.down] 30)).alloc (.cells #[.slice none 0 0, .int .i64 0, .int .i64 0, .int .i64 0, .int .i64 0, .bool false] 30)) W
section
variable {w W W' : World} {a : Option Addr} {c : Nat} {d : DiskM}
theorem Bz.size (h : Bz w a c d W) : w.heap.size + 2 ≤ W.heap.size := by
  have := Below.size h
  rw [size1, size1] at this
  omega
theorem Bz.below (h : Bz w a c d W) (k : Below W.heap.size W W') : Bz w a c d W' := Below.trans h (k.mono h.size)
theorem Bz.frame (h : Bz w a c d W) : Below w.heap.size w W :=
  (((Below.refl w.heap.size w).alloc (Nat.le_refl _) _).alloc (by rw [size1]; omega) _).trans (Below.mono h (by omega))
theorem Bz.dblk (h : Bz w a c d W) : W.heap[w.heap.size]? = some (.cells #[.slice a d.L.length c, .int .i64 d.limit, .int .i64 d.fuse, .int .i64 d.ops, .int .i64 d.reads, .bool d.down] 30 (0, 0)) :=
  (Below.block h w.heap.size (by omega)).trans ((Below.heap_alloc _ _ w.heap.size (by rw [size1]; omega)).trans (heap_alloc_new w _))
theorem Bz.res (h : Bz w a c d W) : W.heap[w.heap.size + 1]? = some (.cells #[.slice none 0 0, .int .i64 0, .int .i64 0, .int .i64 0, .int .i64 0, .bool false] 30 (0, 0)) :=
  (Below.block h (w.heap.size + 1) (by omega)).trans (alloc2_at w _ _)
theorem cells6 {g : Nat} {a b c d e f : Value} {t : TypeId} (h : W.heap[g]? = some (.cells #[a, b, c, d, e, f] t (0, 0))) : (W.cell? ⟨g, 0, none⟩ = some a ∧ W.cell? ⟨g, 1, none⟩ = some b ∧ W.cell? ⟨g, 2, none⟩ = some c ∧ W.cell? ⟨g, 3, none⟩ = some d ∧ W.cell? ⟨g, 4, none⟩ = some e ∧ W.cell? ⟨g, 5, none⟩ = some f) ∧
    (W.frozen? ⟨g, 0, none⟩ = false ∧ W.frozen? ⟨g, 1, none⟩ = false ∧ W.frozen? ⟨g, 2, none⟩ = false ∧ W.frozen? ⟨g, 3, none⟩ = false ∧ W.frozen? ⟨g, 4, none⟩ = false ∧ W.frozen? ⟨g, 5, none⟩ = false) :=
  ⟨⟨cell_of_row _ _ 0 _ _ _ h, cell_of_row _ _ 1 _ _ _ h, cell_of_row _ _ 2 _ _ _ h, cell_of_row _ _ 3 _ _ _ h, cell_of_row _ _ 4 _ _ _ h, cell_of_row _ _ 5 _ _ _ h⟩,
   frozen_of_row _ _ 0 _ _ h, frozen_of_row _ _ 1 _ _ h, frozen_of_row _ _ 2 _ _ h, frozen_of_row _ _ 3 _ _ h, frozen_of_row _ _ 4 _ _ h, frozen_of_row _ _ 5 _ _ h⟩
end

theorem toL_extract (s : ByteArray) (a b : Nat) : toL (s.extract a b) = ((toL s).drop a).take (b - a) := by
  unfold toL
  rw [ByteArray.data_extract, Array.toList_extract, List.extract_eq_take_drop]
theorem read_text (bb : Nm) (j : Nat) : tx ((bb.drop j).take 64) = (tx bb).extract j (min (j + 64) (tx bb).size) := by
  apply toL_inj
  rw [toL_tx, toL_extract, toL_tx, tx_size]
  rcases Nat.le_total (j + 64) bb.length with h | h
  · rw [Nat.min_eq_left h, Nat.add_sub_cancel_left]
  · rw [Nat.min_eq_right h, List.take_of_length_le (by rw [List.length_drop]; omega), List.take_of_length_le (by rw [List.length_drop]; exact Nat.le_refl _)]
theorem slice_two (s : ByteArray) (a b : Nat) (h1 : a ≤ b) (h2 : b ≤ s.size) (W : World) : (Instr.slice 9 (.string s) (some (.int .i64 (a : Int))) (some (.int .i64 (b : Int))) none).run Try.prog W = .ok (.string (s.extract a b)) W := by
  rw [run_slice_string_if W 9 s .i64 .i64 a b Try.underlying9, if_pos (by omega), if_pos (by omega)]
  simp
theorem slice_int (s : ByteArray) (a b : Int) (x y : Nat) (ha : a = x) (hb : b = y) (h1 : x ≤ y) (h2 : y ≤ s.size) (W : World) : (Instr.slice 9 (.string s) (some (.int .i64 a)) (some (.int .i64 b)) none).run Try.prog W = .ok (.string (s.extract x y)) W := by
  subst ha hb; exact slice_two s x y h1 h2 W
theorem slice_from (s : ByteArray) (a : Nat) (h : a ≤ s.size) (W : World) : (Instr.slice 9 (.string s) (some (.int .i64 (a : Int))) none none).run Try.prog W = .ok (.string (s.extract a s.size)) W := by
  rw [run_slice_string_from_if W 9 s .i64 a Try.underlying9, if_pos (by omega)]
  simp
theorem tuple3 {a b c a' b' c' : Value} (h1 : a = a') (h2 : b = b') (h3 : c = c') : (Value.tuple #[a, b, c]) = .tuple #[a', b', c'] := by rw [h1, h2, h3]
set_option maxRecDepth 100000 in
set_option maxHeartbeats 2000000 in
theorem refRead_any (n : Nm) (hn : n.length ≤ 140737488351232) (x : Int) (hx : x ≤ 9223372036854775807) (a : Option Addr) (c : Nat) (d : DiskM) (w : World) (h : FiSl w a d.L) (hl : d.L.length ≤ 1000000) (hf : FitM d.L) :
    Calls Try.prog 21 #[refV a c d, .string (tx n), .int .i64 x] w fun e w' => e = .returned (.tuple #[refV a c (readD d n x), .string (tx (readT d n x)), .int .i64 (readE d n x)]) ∧ Below w.heap.size w w' := by
  have HAT := Lib.hid (fun W (hx : Bz w a c d W) => at_any n a c d W (h.below hx.frame) hl)
  have HBZ : Hid (Bz w a c d _) := Below.refl _ _
  have HC := Lib.hid (fun W (hx : Bz w a c d W) => (⟨cells6 hx.dblk, cells6 hx.res⟩ : _ ∧ _))
  have HLO := Lib.hid (fun W (hx : Bz w a c d W) x0 x1 x2 x3 x4 x5 => load6 hx.res x0 x1 x2 x3 x4 x5)
  have HKE := Lib.hid (fun W (hx : Bz w a c d W) x0 x1 x2 x3 x4 x5 => below_set6 (B := w.heap.size) hx.frame (g := w.heap.size + 1) (by omega) x0 x1 x2 x3 x4 x5)
  have HLO1 := Lib.hid (fun W (hx : Bz w a c d W) v x0 x1 x2 x3 x4 x5 => load6 ((heap_set_far (g := w.heap.size) (i := 4) (v := v) (b := w.heap.size + 1) (by omega)).trans hx.res) x0 x1 x2 x3 x4 x5)
  have HKE1 := Lib.hid (fun W (hx : Bz w a c d W) v x0 x1 x2 x3 x4 x5 => (hx.frame.setCell (p := ⟨w.heap.size, 4, none⟩) (Nat.le_refl _) v).trans (below_set6 (B := w.heap.size) (Below.refl _ (W.setCell ⟨w.heap.size, 4, none⟩ v)) (g := w.heap.size + 1) (by omega) x0 x1 x2 x3 x4 x5))
  have HBE := Lib.hid (fun W W' (hx : Bz w a c d W) (k : Below W.heap.size W W') => hx.below k)
  have HLD := Lib.hid (fun (W : World) a b c d e f => loadD (heap_alloc_new W (.cells #[a, b, c, d, e, f] 30)))
  cases hd : d.down with
  | true =>
    have hE : readE d n x = 50 := by unfold readE; rw [hd]; rfl
    have hD : readD d n x = d := by unfold readD; rw [hE]; rfl
    have hT : readT d n x = [] := by unfold readT; rw [hE]; rfl
    rw [hE, hD, hT]
    unfold refV
    rw [hd]
    clear hE hD hT h hf HC HLO HKE HLO1 HKE1 HBE HAT HBZ
    go_enter Try.func21, Try.ntmps21
    go_wp2
    refine bodyPost_ret (v := .tuple #[.agg #[.slice a d.L.length c, .int .i64 d.limit, .int .i64 d.fuse, .int .i64 d.ops, .int .i64 d.reads, .bool true], .string ⟨#[]⟩, .int .i64 50]) ?_ rfl ?_
    · rw [results_cell_two rfl]
      have := HLD.out (w.alloc (.cells #[.slice a d.L.length c, .int .i64 d.limit, .int .i64 d.fuse, .int .i64 d.ops, .int .i64 d.reads, .bool true] 30)) (.slice a d.L.length c) (.int .i64 d.limit) (.int .i64 d.fuse) (.int .i64 d.ops) (.int .i64 d.reads) (.bool true)
      rw [size1] at this
      simp [asAddr, Result.andThen, this]
    · exact ⟨rfl, ((Below.refl _ _).alloc (Nat.le_refl _) _).alloc (by rw [size1]; omega) _⟩
  | false =>
    cases hh : hasL d.L n with
    | false =>
      have hE : readE d n x = 51 := by unfold readE; rw [hd, getL_none.2 hh]; rfl
      have hD : readD d n x = d := by unfold readD; rw [hE]; rfl
      have hT : readT d n x = [] := by unfold readT; rw [hE]; rfl
      have hA : atI d.L n = -1 := atI_no hh
      rw [hE, hD, hT]
      rw [hA] at HAT
      unfold refV at *
      generalize hBZ : Bz w a c d = BZ at *
      rw [hd] at HBZ HC HAT ⊢
      clear hE hD hT h hf hA
      go_enter Try.func21, Try.ntmps21
      go_wp2_with fail
      refine (HAT.out _ HBZ.out).mono ?_
      rintro e w1 ⟨rfl, hB⟩
      have hz := HBE.out _ _ HBZ.out hB
      have HZ := Lib.hid hz
      obtain ⟨⟨⟨x0, x1, x2, x3, x4, x5⟩, f0, f1, f2, f3, f4, f5⟩, ⟨z0, z1, z2, z3, z4, z5⟩, g0, g1, g2, g3, g4, g5⟩ := HC.out _ hz
      clear hB hz
      go_wp2
      refine bodyPost_ret (v := .tuple #[.agg #[.slice a d.L.length c, .int .i64 d.limit, .int .i64 d.fuse, .int .i64 d.ops, .int .i64 d.reads, .bool false], .string ⟨#[]⟩, .int .i64 51]) ?_ rfl ?_
      · rw [results_cell_two rfl]
        simp [asAddr, Result.andThen, HLO.out _ HZ.out]
      · exact ⟨rfl, HKE.out _ HZ.out _ _ _ _ _ _⟩
    | true =>
      obtain ⟨k, hkl, hat, hget⟩ := atI_has hh
      have hFit := hf _ (List.getElem_mem hkl)
      obtain ⟨fb, fo, hfa, hfb, _⟩ := h.at hkl
      have HFC : Hid (∀ W, Bz w a c d W → W.cell? ⟨fb, fo + k * 3, none⟩ = some (.string (tx d.L[k].name)) ∧ W.cell? ⟨fb, fo + k * 3 + 1, none⟩ = some (.string (tx d.L[k].safe)) ∧ W.cell? ⟨fb, fo + k * 3 + 2, none⟩ = some (.string (tx d.L[k].loose))) := fun W hx => by
        obtain ⟨b', o', e, _, h1, h2, h3⟩ := (h.below hx.frame).at hkl
        cases hfa.symm.trans e
        exact ⟨h1, h2, h3⟩
      have HBY : Hid (∀ W, Calls Try.prog 27 #[.agg #[.string (tx d.L[k].name), .string (tx d.L[k].safe), .string (tx d.L[k].loose)]] W fun e w' => e = .returned (.string (tx d.L[k].bytes)) ∧ Below W.heap.size W w') := fun W => refBytes_any _ ⟨hFit.2.1, hFit.2.2⟩ W
      rw [hat] at HAT
      subst hfa
      have hbz : (tx d.L[k].bytes).size ≤ 200000000000 := by rw [tx_size]; simp only [FileM.bytes, List.length_append]; omega
      have hEE : readE d n x = if x < 0 ∨ (d.L[k].bytes.length : Int) < x then 1 else 0 := by unfold readE; rw [hd, hget]; rfl
      have hTT : readT d n x = if readE d n x ≠ 0 then [] else (d.L[k].bytes.drop x.toNat).take 64 := by unfold readT; rw [hget]
      have hDD : readD d n x = if readE d n x ≠ 0 then d else { d with reads := IntKind.i64.wrap (d.reads + 1) } := rfl
      rw [← tx_size] at hEE
      have HTX : Hid (0 ≤ x → tx ((d.L[k].bytes.drop x.toNat).take 64) = (tx d.L[k].bytes).extract x.toNat (min (x.toNat + 64) (tx d.L[k].bytes).size)) := fun _ => read_text _ _
      clear hget hat hh hf hFit h
      unfold refV at *
      generalize hBZ : Bz w (some ⟨fb, fo, none⟩) c d = BZ at *
      generalize d.L[k].bytes = bb at *
      generalize d.L[k].name = m0 at *
      generalize d.L[k].safe = m1 at *
      generalize d.L[k].loose = m2 at *
      generalize tx m0 = y0 at *
      generalize tx m1 = y1 at *
      generalize tx m2 = y2 at *
      rw [hd] at HBZ HC HAT
      by_cases hb1 : x < 0
      · have hE : readE d n x = 1 := by rw [hEE, if_pos (.inl hb1)]
        have hD : readD d n x = d := by rw [hDD, hE]; rfl
        have hT : readT d n x = [] := by rw [hTT, hE]; rfl
        rw [hE, hD, hT, hd]
        clear hE hD hT hEE hTT hDD
        go_enter Try.func21, Try.ntmps21
        go_wp2_with fail
        refine (HAT.out _ HBZ.out).mono ?_
        rintro e w1 ⟨rfl, hB⟩
        have hz := HBE.out _ _ HBZ.out hB
        obtain ⟨c0, c1, c2⟩ := HFC.out _ hz
        obtain ⟨⟨⟨x0, x1, x2, x3, x4, x5⟩, _⟩, _⟩ := HC.out _ hz
        have HZ1 := Lib.hid hz
        clear hB hz
        go_wp2_with fail
        refine (HBY.out _).mono ?_
        rintro e w2 ⟨rfl, hB⟩
        clear x0 x1 x2 x3 x4 x5 c0 c1 c2
        have hz := HBE.out _ _ HZ1.out hB
        have HZ := Lib.hid hz
        obtain ⟨⟨⟨x0, x1, x2, x3, x4, x5⟩, f0, f1, f2, f3, f4, f5⟩, ⟨z0, z1, z2, z3, z4, z5⟩, g0, g1, g2, g3, g4, g5⟩ := HC.out _ hz
        clear hB hz
        go_wp2
        refine bodyPost_ret (v := .tuple #[.agg #[.slice (some ⟨fb, fo, none⟩) d.L.length c, .int .i64 d.limit, .int .i64 d.fuse, .int .i64 d.ops, .int .i64 d.reads, .bool false], .string ⟨#[]⟩, .int .i64 1]) ?_ rfl ?_
        · rw [results_cell_two rfl]
          simp [asAddr, Result.andThen, HLO.out _ HZ.out]
        · exact ⟨rfl, HKE.out _ HZ.out _ _ _ _ _ _⟩
      by_cases hb2 : ((tx bb).size : Int) < x
      · have hE : readE d n x = 1 := by rw [hEE, if_pos (.inr hb2)]
        have hD : readD d n x = d := by rw [hDD, hE]; rfl
        have hT : readT d n x = [] := by rw [hTT, hE]; rfl
        rw [hE, hD, hT, hd]
        generalize tx bb = T at *
        clear hE hD hT hEE hTT hDD
        go_enter Try.func21, Try.ntmps21
        go_wp2_with fail
        refine (HAT.out _ HBZ.out).mono ?_
        rintro e w1 ⟨rfl, hB⟩
        have hz := HBE.out _ _ HBZ.out hB
        obtain ⟨c0, c1, c2⟩ := HFC.out _ hz
        obtain ⟨⟨⟨x0, x1, x2, x3, x4, x5⟩, _⟩, _⟩ := HC.out _ hz
        have HZ1 := Lib.hid hz
        clear hB hz
        go_wp2_with fail
        refine (HBY.out _).mono ?_
        rintro e w2 ⟨rfl, hB⟩
        clear x0 x1 x2 x3 x4 x5 c0 c1 c2
        have hz := HBE.out _ _ HZ1.out hB
        have HZ := Lib.hid hz
        obtain ⟨⟨⟨x0, x1, x2, x3, x4, x5⟩, f0, f1, f2, f3, f4, f5⟩, ⟨z0, z1, z2, z3, z4, z5⟩, g0, g1, g2, g3, g4, g5⟩ := HC.out _ hz
        clear hB hz
        go_wp2
        refine bodyPost_ret (v := .tuple #[.agg #[.slice (some ⟨fb, fo, none⟩) d.L.length c, .int .i64 d.limit, .int .i64 d.fuse, .int .i64 d.ops, .int .i64 d.reads, .bool false], .string ⟨#[]⟩, .int .i64 1]) ?_ rfl ?_
        · rw [results_cell_two rfl]
          simp [asAddr, Result.andThen, HLO.out _ HZ.out]
        · exact ⟨rfl, HKE.out _ HZ.out _ _ _ _ _ _⟩
      have hE : readE d n x = 0 := by rw [hEE, if_neg (by omega)]
      have hD : readD d n x = { d with reads := IntKind.i64.wrap (d.reads + 1) } := by rw [hDD, hE]; rfl
      have hT : readT d n x = (bb.drop x.toNat).take 64 := by rw [hTT, hE]; rfl
      rw [hE, hD, hT, HTX.out (by omega), hd]
      clear hE hD hT hEE hTT hDD HTX
      generalize tx bb = T at *
      obtain ⟨j, rfl⟩ : ∃ j : Nat, x = j := ⟨x.toNat, by omega⟩
      rw [Int.toNat_natCast]
      have hjz : j ≤ T.size := by omega
      generalize hrd : IntKind.i64.wrap (d.reads + 1) = rd at *
      by_cases h64 : j + 64 < T.size
      · rw [show min (j + 64) T.size = j + 64 by omega]
        have hsl := slice_int T (j : Int) ((j : Int) + 64) j (j + 64) rfl (by omega) (by omega) (by omega)
        generalize T.extract j (j + 64) = E at *
        have hgt : 64 < (T.size : Int) - j := by omega
        go_enter Try.func21, Try.ntmps21
        go_wp2_with fail
        refine (HAT.out _ HBZ.out).mono ?_
        rintro e w1 ⟨rfl, hB⟩
        have hz := HBE.out _ _ HBZ.out hB
        obtain ⟨c0, c1, c2⟩ := HFC.out _ hz
        obtain ⟨⟨⟨x0, x1, x2, x3, x4, x5⟩, _⟩, _⟩ := HC.out _ hz
        have HZ1 := Lib.hid hz
        clear hB hz
        go_wp2_with fail
        refine (HBY.out _).mono ?_
        rintro e w2 ⟨rfl, hB⟩
        clear x0 x1 x2 x3 x4 x5 c0 c1 c2
        have hz := HBE.out _ _ HZ1.out hB
        have HZ := Lib.hid hz
        obtain ⟨⟨⟨x0, x1, x2, x3, x4, x5⟩, f0, f1, f2, f3, f4, f5⟩, ⟨z0, z1, z2, z3, z4, z5⟩, g0, g1, g2, g3, g4, g5⟩ := HC.out _ hz
        clear hB hz
        go_wp2
        go_region
        all_goals
          go_wp2
          refine bodyPost_ret (v := .tuple #[.agg #[.slice (some ⟨fb, fo, none⟩) d.L.length c, .int .i64 d.limit, .int .i64 d.fuse, .int .i64 d.ops, .int .i64 rd, .bool false], .string E, .int .i64 0]) ?_ rfl ?_
          · rw [results_cell_two rfl]
            have hld := HLO1.out _ (HBE.out _ _ HZ.out (Below.refl w2.heap.size w2).drew) (.int .i64 rd) (.slice (some ⟨fb, fo, none⟩) d.L.length c) (.int .i64 d.limit) (.int .i64 d.fuse) (.int .i64 d.ops) (.int .i64 rd) (.bool false)
            simp only [World.setCell_drew] at hld
            simp [asAddr, Result.andThen, hld]
          · exact ⟨rfl, Below.drew (HKE1.out _ HZ.out (.int .i64 rd) (.slice (some ⟨fb, fo, none⟩) d.L.length c) (.int .i64 d.limit) (.int .i64 d.fuse) (.int .i64 d.ops) (.int .i64 rd) (.bool false))⟩
      · rw [show min (j + 64) T.size = T.size by omega]
        have hsl := slice_from T j (by omega)
        generalize T.extract j T.size = E at *
        have hgt : ¬ 64 < (T.size : Int) - j := by omega
        go_enter Try.func21, Try.ntmps21
        go_wp2_with fail
        refine (HAT.out _ HBZ.out).mono ?_
        rintro e w1 ⟨rfl, hB⟩
        have hz := HBE.out _ _ HBZ.out hB
        obtain ⟨c0, c1, c2⟩ := HFC.out _ hz
        obtain ⟨⟨⟨x0, x1, x2, x3, x4, x5⟩, _⟩, _⟩ := HC.out _ hz
        have HZ1 := Lib.hid hz
        clear hB hz
        go_wp2_with fail
        refine (HBY.out _).mono ?_
        rintro e w2 ⟨rfl, hB⟩
        clear x0 x1 x2 x3 x4 x5 c0 c1 c2
        have hz := HBE.out _ _ HZ1.out hB
        have HZ := Lib.hid hz
        obtain ⟨⟨⟨x0, x1, x2, x3, x4, x5⟩, f0, f1, f2, f3, f4, f5⟩, ⟨z0, z1, z2, z3, z4, z5⟩, g0, g1, g2, g3, g4, g5⟩ := HC.out _ hz
        clear hB hz
        go_wp2
        go_region
        all_goals
          go_wp2
          refine bodyPost_ret (v := .tuple #[.agg #[.slice (some ⟨fb, fo, none⟩) d.L.length c, .int .i64 d.limit, .int .i64 d.fuse, .int .i64 d.ops, .int .i64 rd, .bool false], .string E, .int .i64 0]) ?_ rfl ?_
          · rw [results_cell_two rfl]
            have hld := HLO1.out _ (HBE.out _ _ HZ.out (Below.refl w2.heap.size w2).drew) (.int .i64 rd) (.slice (some ⟨fb, fo, none⟩) d.L.length c) (.int .i64 d.limit) (.int .i64 d.fuse) (.int .i64 d.ops) (.int .i64 rd) (.bool false)
            simp only [World.setCell_drew] at hld
            simp [asAddr, Result.andThen, hld]
          · exact ⟨rfl, Below.drew (HKE1.out _ HZ.out (.int .i64 rd) (.slice (some ⟨fb, fo, none⟩) d.L.length c) (.int .i64 d.limit) (.int .i64 d.fuse) (.int .i64 d.ops) (.int .i64 rd) (.bool false))⟩
end Go.Proofs.Ytammmhbkfdmbfaa
