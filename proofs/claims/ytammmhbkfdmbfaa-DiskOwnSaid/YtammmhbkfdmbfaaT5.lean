/- Contracts of the document's own words of layer 5: a new disk; why an op is not done. -/
import Derived.Test.YtammmhbkfdmbfaaT4
import Derived.Test.YtammmhbkfdmbfaaU3
import Derived.BigRegion
namespace Go.Proofs.Ytammmhbkfdmbfaa
open Go.RowKit
set_option linter.unusedVariables false

theorem results_cell_one {fn : Func} {p : Tmp} {ty : TypeId} (h : fn.results = #[.cell p ty]) (tmps : Array Value) (P : Program) (w : World) :
    (results fn tmps).run P w = ((asAddr (tmps.getD p undef)).run P w).andThen fun a w₁ => (loadVar ty a).run P w₁ := by
  simp only [results, h]
  simp [Sem.run_bind, Result.andThen]
theorem infoRef : (Try.prog.info? 30).map (·.size) = some 6 := by kernel_rfl
theorem there6 {W : World} {g : Nat} {a b c d e f : Value} {t : TypeId} (h : W.heap[g]? = some (.cells #[a, b, c, d, e, f] t (0, 0))) : W.there g 0 6 := fun j hj => by
  rw [Nat.zero_add]
  refine ⟨?_, frozen_of_row _ _ _ _ _ h⟩
  rw [cell_of_row _ _ _ _ _ (0, 0) h, Array.getElem?_eq_getElem (by simpa using hj)]
  rfl
/-- a whole disk, read from where it lies -/
theorem loadD {W : World} {g : Nat} {a b c d e f : Value} {t : TypeId} (h : W.heap[g]? = some (.cells #[a, b, c, d, e, f] t (0, 0))) :
    (loadVar 30 ⟨g, 0, none⟩).run Try.prog W = .ok (.agg #[a, b, c, d, e, f]) W :=
  run_loadVar_mid (P := Try.prog) W g 0 30 [a, b, c, d, e, f] _ (fun j v hv => by
    rw [Nat.zero_add, cell_of_row _ _ _ _ _ (0, 0) h]
    simpa using hv) Try.underlying30 rfl infoRef
/-- the document's disk, as it lies: its row is the one that was given, or stands behind B -/
def RefAt (B : Nat) (a0 : Option Addr) (L0 : List FileM) (w : World) (v : Value) (d : DiskM) : Prop := ∃ a c, v = refV a c d ∧ FiSl w a d.L ∧ (a = a0 ∧ d.L = L0 ∨ ∀ b o, a = some ⟨b, o, none⟩ → B ≤ b)
theorem RefAt.below {B : Nat} {a0 : Option Addr} {L0 : List FileM} {w w' : World} {v : Value} {d : DiskM} (h : RefAt B a0 L0 w v d) (k : Below w.heap.size w w') : RefAt B a0 L0 w' v d := by
  obtain ⟨a, c, h1, h2, h3⟩ := h
  exact ⟨a, c, h1, h2.below k, h3⟩
set_option maxHeartbeats 1000000 in
theorem refNew_any (n : Int) (w : World) : Calls Try.prog 14 #[.int .i64 n] w fun e w' => ∃ v, e = .returned v ∧ RefAt w.heap.size none [] w' v (newM n) ∧ Below w.heap.size w w' := by
  have hE : newM n = ⟨[], min (max n 0) 1073741824, -1, 0, 0, false⟩ := rfl
  obtain ⟨m, hm⟩ : ∃ m, m = min (max n 0) 1073741824 := ⟨_, rfl⟩
  have HRV : Hid (refV none 0 (newM n) = .agg #[.slice none 0 0, .int .i64 m, .int .i64 (-1), .int .i64 0, .int .i64 0, .bool false]) := by unfold Hid; rw [hE, hm]; rfl
  have HFI : Hid (∀ W, FiSl W none (newM n).L) := fun W => Sl.nil _ _
  have HNL : Hid ((newM n).L = []) := rfl
  clear hE
  generalize newM n = D at *
  have hcase : n < 0 ∨ (0 ≤ n ∧ 1073741824 < n) ∨ (0 ≤ n ∧ n ≤ 1073741824) := by omega
  have HLD := Lib.hid (fun a b c d e f => loadD (heap_alloc_new w (.cells #[a, b, c, d, e, f] 30)))
  have HBB := Lib.hid (fun o => (Below.refl w.heap.size w).alloc (Nat.le_refl _) o)
  rcases hcase with h1 | ⟨h1, h2⟩ | ⟨h1, h2⟩
  · obtain rfl : m = 0 := by omega
    clear hm
    go_enter Try.func14, Try.ntmps14
    go_wp2
    refine bodyPost_ret (v := refV none 0 D) ?_ rfl ?_
    · rw [results_cell_one rfl, HRV.out]
      simp [asAddr, Result.andThen, HLD.out]
    · refine ⟨_, rfl, ⟨none, 0, rfl, HFI.out _, .inl ⟨rfl, HNL.out⟩⟩, ?_⟩
      exact HBB.out _
  · obtain rfl : m = 1073741824 := by omega
    have h3 : ¬ n < 0 := by omega
    clear hm
    go_enter Try.func14, Try.ntmps14
    go_wp2
    refine bodyPost_ret (v := refV none 0 D) ?_ rfl ?_
    · rw [results_cell_one rfl, HRV.out]
      simp [asAddr, Result.andThen, HLD.out]
    · refine ⟨_, rfl, ⟨none, 0, rfl, HFI.out _, .inl ⟨rfl, HNL.out⟩⟩, ?_⟩
      exact HBB.out _
  · obtain rfl : m = n := by omega
    have h3 : ¬ m < 0 := by omega
    have h4 : ¬ 1073741824 < m := by omega
    clear hm
    go_enter Try.func14, Try.ntmps14
    go_wp2
    refine bodyPost_ret (v := refV none 0 D) ?_ rfl ?_
    · rw [results_cell_one rfl, HRV.out]
      simp [asAddr, Result.andThen, HLD.out]
    · refine ⟨_, rfl, ⟨none, 0, rfl, HFI.out _, .inl ⟨rfl, HNL.out⟩⟩, ?_⟩
      exact HBB.out _

/-! ### Why -/
/-- the disk and the op in their boxes; all that was there is as it was -/
def Bx (w : World) (a : Option Addr) (c : Nat) (d : DiskM) (o : OpM) (W : World) : Prop :=
  Below (w.heap.size + 2) ((w.alloc (.cells #[.slice a d.L.length c, .int .i64 d.limit, .int .i64 d.fuse, .int .i64 d.ops, .int .i64 d.reads, .bool d.down] 30)).alloc (.cells #[.int .i64 o.kind, .string (tx o.a), .string (tx o.b), .int .i64 o.n] 34)) W
section
variable {w W W' : World} {a : Option Addr} {c : Nat} {d : DiskM} {o : OpM}
theorem Bx.size (h : Bx w a c d o W) : w.heap.size + 2 ≤ W.heap.size := by
  have := Below.size h
  rw [size1, size1] at this
  omega
theorem Bx.below (h : Bx w a c d o W) (k : Below W.heap.size W W') : Bx w a c d o W' := Below.trans h (k.mono h.size)
theorem Bx.drew (h : Bx w a c d o W) : Bx w a c d o W.drew := h.below (Below.refl _ _).drew
theorem Bx.frame (h : Bx w a c d o W) : Below w.heap.size w W :=
  (((Below.refl w.heap.size w).alloc (Nat.le_refl _) _).alloc (by rw [size1]; omega) _).trans (Below.mono h (by omega))
theorem Bx.disk (h : Bx w a c d o W) : W.cell? ⟨w.heap.size, 0, none⟩ = some (.slice a d.L.length c) ∧ W.cell? ⟨w.heap.size, 1, none⟩ = some (.int .i64 d.limit) ∧ W.cell? ⟨w.heap.size, 2, none⟩ = some (.int .i64 d.fuse) ∧ W.cell? ⟨w.heap.size, 3, none⟩ = some (.int .i64 d.ops) ∧ W.cell? ⟨w.heap.size, 4, none⟩ = some (.int .i64 d.reads) ∧ W.cell? ⟨w.heap.size, 5, none⟩ = some (.bool d.down) := by
  have hb := (Below.block h w.heap.size (by omega)).trans ((Below.heap_alloc _ _ w.heap.size (by rw [size1]; omega)).trans (heap_alloc_new w _))
  exact ⟨cell_of_row _ _ 0 _ _ _ hb, cell_of_row _ _ 1 _ _ _ hb, cell_of_row _ _ 2 _ _ _ hb, cell_of_row _ _ 3 _ _ _ hb, cell_of_row _ _ 4 _ _ _ hb, cell_of_row _ _ 5 _ _ _ hb⟩
theorem alloc2_at (w : World) (A B : Obj) : ((w.alloc A).alloc B).heap[w.heap.size + 1]? = some B := by
  have := heap_alloc_new (w.alloc A) B
  rwa [size1] at this
theorem Bx.op (h : Bx w a c d o W) : W.cell? ⟨w.heap.size + 1, 0, none⟩ = some (.int .i64 o.kind) ∧ W.cell? ⟨w.heap.size + 1, 1, none⟩ = some (.string (tx o.a)) ∧ W.cell? ⟨w.heap.size + 1, 2, none⟩ = some (.string (tx o.b)) ∧ W.cell? ⟨w.heap.size + 1, 3, none⟩ = some (.int .i64 o.n) := by
  have hb := (Below.block h (w.heap.size + 1) (by omega)).trans (alloc2_at w _ _)
  exact ⟨cell_of_row _ _ 0 _ _ _ hb, cell_of_row _ _ 1 _ _ _ hb, cell_of_row _ _ 2 _ _ _ hb, cell_of_row _ _ 3 _ _ _ hb⟩
end
theorem atI_pos {L : List FileM} {n : Nm} : hasL L n = true → 0 ≤ atI L n := fun h => by
  obtain ⟨k, _, e, _⟩ := atI_has h
  omega

set_option maxRecDepth 100000 in
set_option maxHeartbeats 4000000 in
theorem why_any (o : OpM) (a : Option Addr) (c : Nat) (d : DiskM) (w : World) (ha : o.a.length ≤ 140737488351232) (hb : o.b.length ≤ 140737488351232) (h : FiSl w a d.L) (hl : d.L.length ≤ 1000000) (hu : usedL d.L ≤ 1000000000000000000) :
    Calls Try.prog 60 #[refV a c d, opV o] w fun e w' => e = .returned (.int .i64 (whyM d o)) ∧ Below w.heap.size w w' := by
  have HAT := Lib.hid (fun W (hx : Bx w a c d o W) => at_any o.a a c d W (h.below hx.frame) hl)
  have HUS := Lib.hid (fun W (hx : Bx w a c d o W) => refUsed_any a c d W (h.below hx.frame) hl hu)
  have HRA := Lib.hid (fun W => refRight_any (tx o.a) W (by rw [tx_size]; unfold maxLen; omega))
  have HRB := Lib.hid (fun W => refRight_any (tx o.b) W (by rw [tx_size]; unfold maxLen; omega))
  rw [toL_tx] at HRA HRB
  have HBX : Hid (Bx w a c d o ((w.alloc (.cells #[.slice a d.L.length c, .int .i64 d.limit, .int .i64 d.fuse, .int .i64 d.ops, .int .i64 d.reads, .bool d.down] 30)).alloc (.cells #[.int .i64 o.kind, .string (tx o.a), .string (tx o.b), .int .i64 o.n] 34))) := Below.refl _ _
  have HDK := Lib.hid (fun W (hx : Bx w a c d o W) => hx.disk)
  have HOK := Lib.hid (fun W (hx : Bx w a c d o W) => hx.op)
  have HFR := Lib.hid (fun W (hx : Bx w a c d o W) => hx.frame)
  have HBE := Lib.hid (fun W W' (hx : Bx w a c d o W) (k : Below W.heap.size W W') => hx.below k)
  have HDR := Lib.hid (fun W n (hx : Bx w a c d o W) => hx.below (W' := World.drewN W n) (Drew.below (show Drew W (W.drewN n) from ⟨n, rfl⟩) _))
  have HDW := Lib.hid (fun W (hx : Bx w a c d o W) => hx.drew)
  have HWY : Hid (whyM d o = if o.kind = 0 ∧ (hasL d.L o.a = true ∨ rightN o.a = false) then 51 else if o.kind ≠ 0 ∧ hasL d.L o.a = false then 51 else if o.kind = 1 ∧ d.limit < (usedL d.L : Int) + o.b.length then 52 else if o.kind = 3 ∧ rightN o.b = false then 51 else 0) := rfl
  have hAI : (hasL d.L o.a = true ∧ 0 ≤ atI d.L o.a) ∨ (hasL d.L o.a = false ∧ atI d.L o.a = -1) := by
    cases hh : hasL d.L o.a with
    | true => exact .inl ⟨rfl, atI_pos hh⟩
    | false => exact .inr ⟨rfl, atI_no hh⟩
  have zb : (tx o.b).size = o.b.length := tx_size _
  rw [← zb] at HWY
  have hz : (tx o.b).size ≤ 140737488351232 := by omega
  unfold refV opV at *
  generalize hBX : Bx w a c d o = BX at *
  generalize whyM d o = WY at *
  generalize hasL d.L o.a = hs at *
  generalize atI d.L o.a = ai at *
  generalize rightN o.a = ra at *
  generalize rightN o.b = rb at *
  generalize usedL d.L = U at *
  generalize d.L.length = N at *
  generalize d.limit = li at *
  generalize d.fuse = fu at *
  generalize d.ops = op at *
  generalize d.reads = re at *
  generalize d.down = dn at *
  generalize tx o.a = xa at *
  generalize tx o.b = xb at *
  generalize o.kind = kd at *
  generalize o.n = xn at *
  clear h zb ha hb hBX hl
  by_cases hk0 : kd = 0
  · subst hk0
    go_enter Try.func60, Try.ntmps60
    go_wp2_with fail
    refine (HAT.out _ HBX.out).mono ?_
    rintro e w1 ⟨rfl, hB⟩
    have HX := Lib.hid (HBE.out _ _ HBX.out hB)
    clear hB
    obtain ⟨x0, x1, x2, x3, x4, x5⟩ := HDK.out _ HX.out
    obtain ⟨y0, y1, y2, y3⟩ := HOK.out _ HX.out
    rcases hAI with ⟨h1, h2⟩ | ⟨h1, rfl⟩
    · subst h1
      go_wp2
      go_ret
      exact ⟨retI (by rw [HWY.out]; simp), HFR.out _ HX.out⟩
    · subst h1
      go_wp2_with fail
      refine (HRA.out _).mono ?_
      rintro e w2 ⟨rfl, rfl⟩
      cases ra
      · go_wp2
        go_ret
        exact ⟨retI (by rw [HWY.out]; simp), HFR.out _ HX.out⟩
      · go_wp2
        go_quiet (fail)
        go_wp2
        go_ret
        exact ⟨retI (by rw [HWY.out]; simp), HFR.out _ (HDR.out _ _ HX.out)⟩
  have hk0b : (kd == 0) = false := by simpa using hk0
  rcases hAI with ⟨rfl, hai⟩ | ⟨rfl, rfl⟩
  · by_cases hk1 : kd = 1
    · subst hk1
      by_cases hfull : li < (U : Int) + xb.size
      · have hw1 : IntKind.i64.wrap ((U : Int) + (xb.size : Int)) = (U : Int) + (xb.size : Int) := IntWalk.i64_in _ (by omega)
        go_enter Try.func60, Try.ntmps60
        go_wp2_with fail
        refine (HAT.out _ HBX.out).mono ?_
        rintro e w1 ⟨rfl, hB⟩
        have hX := HBE.out _ _ HBX.out hB
        clear hB
        have HX := Lib.hid hX
        obtain ⟨x0, x1, x2, x3, x4, x5⟩ := HDK.out _ HX.out
        obtain ⟨y0, y1, y2, y3⟩ := HOK.out _ HX.out
        go_wp2_with fail
        have hL : Hid (∀ W, BX W → W.cell? ⟨w.heap.size, 0, none⟩ = some (.slice a N c) ∧ W.cell? ⟨w.heap.size, 1, none⟩ = some (.int .i64 li) ∧ W.cell? ⟨w.heap.size, 2, none⟩ = some (.int .i64 fu) ∧ W.cell? ⟨w.heap.size, 3, none⟩ = some (.int .i64 op) ∧ W.cell? ⟨w.heap.size, 4, none⟩ = some (.int .i64 re) ∧ W.cell? ⟨w.heap.size, 5, none⟩ = some (.bool dn) ∧ W.cell? ⟨w.heap.size + 1, 0, none⟩ = some (.int .i64 1) ∧ W.cell? ⟨w.heap.size + 1, 2, none⟩ = some (.string xb) ∧ BX W) := fun W h => ⟨(HDK.out W h).1, (HDK.out W h).2.1, (HDK.out W h).2.2.1, (HDK.out W h).2.2.2.1, (HDK.out W h).2.2.2.2.1, (HDK.out W h).2.2.2.2.2, (HOK.out W h).1, (HOK.out W h).2.2.1, h⟩
        go_region_held3 (fun W => W.cell? ⟨w.heap.size, 0, none⟩ = some (.slice a N c) ∧ W.cell? ⟨w.heap.size, 1, none⟩ = some (.int .i64 li) ∧ W.cell? ⟨w.heap.size, 2, none⟩ = some (.int .i64 fu) ∧ W.cell? ⟨w.heap.size, 3, none⟩ = some (.int .i64 op) ∧ W.cell? ⟨w.heap.size, 4, none⟩ = some (.int .i64 re) ∧ W.cell? ⟨w.heap.size, 5, none⟩ = some (.bool dn) ∧ W.cell? ⟨w.heap.size + 1, 0, none⟩ = some (.int .i64 1) ∧ W.cell? ⟨w.heap.size + 1, 2, none⟩ = some (.string xb) ∧ BX W)
          (first | exact hL.out _ (HDW.out _ hX) | exact hL.out _ (HBE.out _ _ (HDW.out _ hX) (by assumption)) | assumption)
          (first | (go_at_call 42; refine (HUS.out _ (HDW.out _ hX)).mono ?_; rintro e w3 ⟨rfl, hB⟩))
        all_goals
          have HX3 := Lib.hid ((show _ ∧ _ ∧ _ ∧ _ ∧ _ ∧ _ ∧ _ ∧ _ ∧ BX _ by assumption).2.2.2.2.2.2.2.2)
          obtain ⟨z0, z1, z2, z3⟩ := HOK.out _ HX3.out
          go_wp2
          go_ret
          exact ⟨retI (by rw [HWY.out]; simp [hfull]), HFR.out _ HX3.out⟩
      · have hw1 : IntKind.i64.wrap ((U : Int) + (xb.size : Int)) = (U : Int) + (xb.size : Int) := IntWalk.i64_in _ (by omega)
        go_enter Try.func60, Try.ntmps60
        go_wp2_with fail
        refine (HAT.out _ HBX.out).mono ?_
        rintro e w1 ⟨rfl, hB⟩
        have hX := HBE.out _ _ HBX.out hB
        clear hB
        have HX := Lib.hid hX
        obtain ⟨x0, x1, x2, x3, x4, x5⟩ := HDK.out _ HX.out
        obtain ⟨y0, y1, y2, y3⟩ := HOK.out _ HX.out
        go_wp2_with fail
        have hL : Hid (∀ W, BX W → W.cell? ⟨w.heap.size, 0, none⟩ = some (.slice a N c) ∧ W.cell? ⟨w.heap.size, 1, none⟩ = some (.int .i64 li) ∧ W.cell? ⟨w.heap.size, 2, none⟩ = some (.int .i64 fu) ∧ W.cell? ⟨w.heap.size, 3, none⟩ = some (.int .i64 op) ∧ W.cell? ⟨w.heap.size, 4, none⟩ = some (.int .i64 re) ∧ W.cell? ⟨w.heap.size, 5, none⟩ = some (.bool dn) ∧ W.cell? ⟨w.heap.size + 1, 0, none⟩ = some (.int .i64 1) ∧ W.cell? ⟨w.heap.size + 1, 2, none⟩ = some (.string xb) ∧ BX W) := fun W h => ⟨(HDK.out W h).1, (HDK.out W h).2.1, (HDK.out W h).2.2.1, (HDK.out W h).2.2.2.1, (HDK.out W h).2.2.2.2.1, (HDK.out W h).2.2.2.2.2, (HOK.out W h).1, (HOK.out W h).2.2.1, h⟩
        go_region_held3 (fun W => W.cell? ⟨w.heap.size, 0, none⟩ = some (.slice a N c) ∧ W.cell? ⟨w.heap.size, 1, none⟩ = some (.int .i64 li) ∧ W.cell? ⟨w.heap.size, 2, none⟩ = some (.int .i64 fu) ∧ W.cell? ⟨w.heap.size, 3, none⟩ = some (.int .i64 op) ∧ W.cell? ⟨w.heap.size, 4, none⟩ = some (.int .i64 re) ∧ W.cell? ⟨w.heap.size, 5, none⟩ = some (.bool dn) ∧ W.cell? ⟨w.heap.size + 1, 0, none⟩ = some (.int .i64 1) ∧ W.cell? ⟨w.heap.size + 1, 2, none⟩ = some (.string xb) ∧ BX W)
          (first | exact hL.out _ (HDW.out _ hX) | exact hL.out _ (HBE.out _ _ (HDW.out _ hX) (by assumption)) | assumption)
          (first | (go_at_call 42; refine (HUS.out _ (HDW.out _ hX)).mono ?_; rintro e w3 ⟨rfl, hB⟩))
        all_goals
          have HX3 := Lib.hid ((show _ ∧ _ ∧ _ ∧ _ ∧ _ ∧ _ ∧ _ ∧ _ ∧ BX _ by assumption).2.2.2.2.2.2.2.2)
          obtain ⟨z0, z1, z2, z3⟩ := HOK.out _ HX3.out
          go_wp2
          go_ret
          exact ⟨retI (by rw [HWY.out]; simp; omega), HFR.out _ HX3.out⟩
    · have hk1b : (kd == 1) = false := by simpa using hk1
      by_cases hk3 : kd = 3
      · subst hk3
        go_enter Try.func60, Try.ntmps60
        go_wp2_with fail
        refine (HAT.out _ HBX.out).mono ?_
        rintro e w1 ⟨rfl, hB⟩
        have HX := Lib.hid (HBE.out _ _ HBX.out hB)
        clear hB
        obtain ⟨x0, x1, x2, x3, x4, x5⟩ := HDK.out _ HX.out
        obtain ⟨y0, y1, y2, y3⟩ := HOK.out _ HX.out
        go_wp2
        go_quiet (fail)
        go_wp2_with fail
        refine (HRB.out _).mono ?_
        rintro e w2 ⟨rfl, rfl⟩
        cases rb
        · go_wp2
          go_ret
          exact ⟨retI (by rw [HWY.out]; simp), HFR.out _ (HDR.out _ _ HX.out)⟩
        · go_wp2
          go_ret
          exact ⟨retI (by rw [HWY.out]; simp), HFR.out _ (HDR.out _ _ HX.out)⟩
      · have hk3b : (kd == 3) = false := by simpa using hk3
        have hd1 : decide (kd = 1) = false := by simpa using hk1
        go_enter Try.func60, Try.ntmps60
        go_wp2_with fail
        refine (HAT.out _ HBX.out).mono ?_
        rintro e w1 ⟨rfl, hB⟩
        have HX := Lib.hid (HBE.out _ _ HBX.out hB)
        clear hB
        obtain ⟨x0, x1, x2, x3, x4, x5⟩ := HDK.out _ HX.out
        obtain ⟨y0, y1, y2, y3⟩ := HOK.out _ HX.out
        go_wp2
        go_quiet (fail)
        go_wp2
        go_ret
        exact ⟨retI (by rw [HWY.out]; simp [hk0, hk1, hk3]), HFR.out _ (HDR.out _ _ HX.out)⟩
  · go_enter Try.func60, Try.ntmps60
    go_wp2_with fail
    refine (HAT.out _ HBX.out).mono ?_
    rintro e w1 ⟨rfl, hB⟩
    have HX := Lib.hid (HBE.out _ _ HBX.out hB)
    clear hB
    obtain ⟨x0, x1, x2, x3, x4, x5⟩ := HDK.out _ HX.out
    obtain ⟨y0, y1, y2, y3⟩ := HOK.out _ HX.out
    go_wp2
    go_ret
    exact ⟨retI (by rw [HWY.out]; simp [hk0]), HFR.out _ HX.out⟩
end Go.Proofs.Ytammmhbkfdmbfaa
