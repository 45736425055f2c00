/- Contracts of the document's own words of layer 5: an op that is done. -/
import Derived.Test.YtammmhbkfdmbfaaT5
namespace Go.Proofs.Ytammmhbkfdmbfaa
open Go.RowKit
set_option linter.unusedVariables false

/-- the disk and the op in their boxes, and a result's block; all that was there is as it was -/
def By (w : World) (a : Option Addr) (c : Nat) (d : DiskM) (o : OpM) (W : World) : Prop :=
  Below (w.heap.size + 3) (((w.alloc (.cells #[.slice a d.L.length c, .int .i64 d.limit, .int .i64 d.fuse, .int .i64 d.ops, .int .i64 d.reads, .bool d.down] 30)).alloc (.cells #[.int .i64 o.kind, .string (tx o.a), .string (tx o.b), .int .i64 o.n] 34)).alloc (.cells #[.slice none 0 0, .int .i64 0, .int .i64 0, .int .i64 0, .int .i64 0, .bool false] 30)) W
section
variable {w W W' : World} {a : Option Addr} {c : Nat} {d : DiskM} {o : OpM}
theorem By.size (h : By w a c d o W) : w.heap.size + 3 ≤ W.heap.size := by
  have := Below.size h
  rw [size1, size1, size1] at this
  omega
theorem By.below (h : By w a c d o W) (k : Below W.heap.size W W') : By w a c d o W' := Below.trans h (k.mono h.size)
theorem By.drew (h : By w a c d o W) : By w a c d o W.drew := h.below (Below.refl _ _).drew
theorem By.alloc (h : By w a c d o W) (ob : Obj) : By w a c d o (W.alloc ob) := h.below ((Below.refl _ _).alloc (Nat.le_refl _) ob)
theorem By.bx (h : By w a c d o W) : Bx w a c d o W := ((Below.refl (w.heap.size + 2) _).alloc (by rw [size1, size1]; omega) _).trans (Below.mono h (by omega))
theorem By.frame (h : By w a c d o W) : Below w.heap.size w W := h.bx.frame
theorem By.res (h : By w a c d o W) : W.heap[w.heap.size + 2]? = some (.cells #[.slice none 0 0, .int .i64 0, .int .i64 0, .int .i64 0, .int .i64 0, .bool false] 30 (0, 0)) := by
  refine (Below.block h (w.heap.size + 2) (by omega)).trans ?_
  have := heap_alloc_new ((w.alloc (.cells #[.slice a d.L.length c, .int .i64 d.limit, .int .i64 d.fuse, .int .i64 d.ops, .int .i64 d.reads, .bool d.down] 30)).alloc (.cells #[.int .i64 o.kind, .string (tx o.a), .string (tx o.b), .int .i64 o.n] 34)) (.cells #[.slice none 0 0, .int .i64 0, .int .i64 0, .int .i64 0, .int .i64 0, .bool false] 30)
  rw [size1, size1] at this
  exact this
theorem By.dfree (h : By w a c d o W) (i : Nat) : W.frozen? ⟨w.heap.size, i, none⟩ = false := by
  have hb := (Below.block h.bx w.heap.size (by omega)).trans ((Below.heap_alloc _ _ w.heap.size (by rw [size1]; omega)).trans (heap_alloc_new w _))
  exact frozen_of_row _ _ i _ _ hb
theorem By.rfree (h : By w a c d o W) (i : Nat) : W.frozen? ⟨w.heap.size + 2, i, none⟩ = false := frozen_of_row _ _ i _ _ h.res
theorem By.rcells (h : By w a c d o W) : W.cell? ⟨w.heap.size + 2, 0, none⟩ = some (.slice none 0 0) ∧ W.cell? ⟨w.heap.size + 2, 1, none⟩ = some (.int .i64 0) ∧ W.cell? ⟨w.heap.size + 2, 2, none⟩ = some (.int .i64 0) ∧ W.cell? ⟨w.heap.size + 2, 3, none⟩ = some (.int .i64 0) ∧ W.cell? ⟨w.heap.size + 2, 4, none⟩ = some (.int .i64 0) ∧ W.cell? ⟨w.heap.size + 2, 5, none⟩ = some (.bool false) :=
  ⟨cell_of_row _ _ 0 _ _ _ h.res, cell_of_row _ _ 1 _ _ _ h.res, cell_of_row _ _ 2 _ _ _ h.res, cell_of_row _ _ 3 _ _ _ h.res, cell_of_row _ _ 4 _ _ _ h.res, cell_of_row _ _ 5 _ _ _ h.res⟩
end
/-- a whole disk, read from where it was just stored -/
theorem load6 {W : World} {g : Nat} {a' b' c' d' e' f' : Value} {t : TypeId} (h : W.heap[g]? = some (.cells #[a', b', c', d', e', f'] t (0, 0))) (a b c d e f : Value) :
    (loadVar 30 ⟨g, 0, none⟩).run Try.prog ((((((W.setCell ⟨g, 0, none⟩ a).setCell ⟨g, 1, none⟩ b).setCell ⟨g, 2, none⟩ c).setCell ⟨g, 3, none⟩ d).setCell ⟨g, 4, none⟩ e).setCell ⟨g, 5, none⟩ f)
      = .ok (.agg #[a, b, c, d, e, f]) ((((((W.setCell ⟨g, 0, none⟩ a).setCell ⟨g, 1, none⟩ b).setCell ⟨g, 2, none⟩ c).setCell ⟨g, 3, none⟩ d).setCell ⟨g, 4, none⟩ e).setCell ⟨g, 5, none⟩ f) :=
  run_loadVar_mid (P := Try.prog) (W.setCells g 0 [a, b, c, d, e, f]) g 0 30 [a, b, c, d, e, f] _ (World.rangeAt_setCells_same _ _ _ _ (there6 h)) Try.underlying30 rfl infoRef
theorem below_set6 {B : Nat} {w W : World} {g : Nat} (h : Below B w W) (hg : B ≤ g) (a b c d e f : Value) :
    Below B w ((((((W.setCell ⟨g, 0, none⟩ a).setCell ⟨g, 1, none⟩ b).setCell ⟨g, 2, none⟩ c).setCell ⟨g, 3, none⟩ d).setCell ⟨g, 4, none⟩ e).setCell ⟨g, 5, none⟩ f) :=
  (((((h.setCell (p := ⟨g, 0, none⟩) hg a).setCell (p := ⟨g, 1, none⟩) hg b).setCell (p := ⟨g, 2, none⟩) hg c).setCell (p := ⟨g, 3, none⟩) hg d).setCell (p := ⟨g, 4, none⟩) hg e).setCell (p := ⟨g, 5, none⟩) hg f
theorem FiSl.high {w w' : World} {B : Nat} {a : Option Addr} {L : List FileM} (h : FiSl w a L) (hlow : ∀ b o, a = some ⟨b, o, none⟩ → b < w.heap.size ∧ ∀ i, w'.cell? ⟨b, i, none⟩ = w.cell? ⟨b, i, none⟩) (hs : w.heap.size ≤ w'.heap.size) : FiSl w' a L := fun k hk => by
  obtain ⟨b, off, e, h1, h2⟩ := h k hk
  obtain ⟨_, h3⟩ := hlow b off e
  exact ⟨b, off, e, Nat.lt_of_lt_of_le h1 hs, (h3 _).trans h2⟩
/-- stores into other blocks leave a row of files as it is -/
theorem FiSl.set {w : World} {a : Option Addr} {L : List FileM} (h : FiSl w a L) (g i : Nat) (v : Value) (hg : ∀ b o, a = some ⟨b, o, none⟩ → b ≠ g) : FiSl (w.setCell ⟨g, i, none⟩ v) a L := fun k hk => by
  obtain ⟨b, off, e, h1, h2⟩ := h k hk
  refine ⟨b, off, e, by simp [World.setCell]; exact h1, ?_⟩
  have hne := hg b off e
  rw [← h2]
  unfold World.cell?
  rw [Below.heap_setCell _ _ _ _ (by exact hne)]
theorem FiSl.set6 {W : World} {x : Option Addr} {L : List FileM} (h : FiSl W x L) (g : Nat) (hg : ∀ b o, x = some ⟨b, o, none⟩ → b ≠ g) (a b c d e f : Value) :
    FiSl ((((((W.setCell ⟨g, 0, none⟩ a).setCell ⟨g, 1, none⟩ b).setCell ⟨g, 2, none⟩ c).setCell ⟨g, 3, none⟩ d).setCell ⟨g, 4, none⟩ e).setCell ⟨g, 5, none⟩ f) x L :=
  (((((h.set g 0 a hg).set g 1 b hg).set g 2 c hg).set g 3 d hg).set g 4 e hg).set g 5 f hg
theorem heap_set_far {w : World} {b g i : Nat} {v : Value} (h : b ≠ g) : (w.setCell ⟨g, i, none⟩ v).heap[b]? = w.heap[b]? := Below.heap_setCell _ _ _ _ h

theorem own_fi_low {w : World} {B e : Nat} {v : Value} {L : List FileM} (h : w.ownsRow B e 3 v L.length (fiC L)) : ∃ a c, v = .slice a L.length c ∧ FiSl w a L ∧ ∀ b o, a = some ⟨b, o, none⟩ → B ≤ b := by
  obtain ⟨a, c, h1, _, _, h2, h3, _⟩ := own_fi h
  exact ⟨a, c, h1, h2, h3⟩
/-- the end of an op that is done: the row of files in the disk's box, the disk in the result's block -/
theorem By.fin {w W : World} {a : Option Addr} {c : Nat} {d : DiskM} {o : OpM} (h : By w a c d o W) (x : Option Addr) (cx : Nat) (L : List FileM) (hs : FiSl W x L) (hx : ∀ b i, x = some ⟨b, i, none⟩ → w.heap.size + 3 ≤ b) :
    (loadVar 30 ⟨w.heap.size + 2, 0, none⟩).run Try.prog (((((((W.setCell ⟨w.heap.size, 0, none⟩ (.slice x L.length cx)).setCell ⟨w.heap.size + 2, 0, none⟩ (.slice x L.length cx)).setCell ⟨w.heap.size + 2, 1, none⟩ (.int .i64 d.limit)).setCell ⟨w.heap.size + 2, 2, none⟩ (.int .i64 d.fuse)).setCell ⟨w.heap.size + 2, 3, none⟩ (.int .i64 d.ops)).setCell ⟨w.heap.size + 2, 4, none⟩ (.int .i64 d.reads)).setCell ⟨w.heap.size + 2, 5, none⟩ (.bool d.down))
      = .ok (.agg #[.slice x L.length cx, .int .i64 d.limit, .int .i64 d.fuse, .int .i64 d.ops, .int .i64 d.reads, .bool d.down]) (((((((W.setCell ⟨w.heap.size, 0, none⟩ (.slice x L.length cx)).setCell ⟨w.heap.size + 2, 0, none⟩ (.slice x L.length cx)).setCell ⟨w.heap.size + 2, 1, none⟩ (.int .i64 d.limit)).setCell ⟨w.heap.size + 2, 2, none⟩ (.int .i64 d.fuse)).setCell ⟨w.heap.size + 2, 3, none⟩ (.int .i64 d.ops)).setCell ⟨w.heap.size + 2, 4, none⟩ (.int .i64 d.reads)).setCell ⟨w.heap.size + 2, 5, none⟩ (.bool d.down)) ∧
    RefAt w.heap.size a d.L (((((((W.setCell ⟨w.heap.size, 0, none⟩ (.slice x L.length cx)).setCell ⟨w.heap.size + 2, 0, none⟩ (.slice x L.length cx)).setCell ⟨w.heap.size + 2, 1, none⟩ (.int .i64 d.limit)).setCell ⟨w.heap.size + 2, 2, none⟩ (.int .i64 d.fuse)).setCell ⟨w.heap.size + 2, 3, none⟩ (.int .i64 d.ops)).setCell ⟨w.heap.size + 2, 4, none⟩ (.int .i64 d.reads)).setCell ⟨w.heap.size + 2, 5, none⟩ (.bool d.down)) (.agg #[.slice x L.length cx, .int .i64 d.limit, .int .i64 d.fuse, .int .i64 d.ops, .int .i64 d.reads, .bool d.down]) { d with L := L } ∧
    Below w.heap.size w (((((((W.setCell ⟨w.heap.size, 0, none⟩ (.slice x L.length cx)).setCell ⟨w.heap.size + 2, 0, none⟩ (.slice x L.length cx)).setCell ⟨w.heap.size + 2, 1, none⟩ (.int .i64 d.limit)).setCell ⟨w.heap.size + 2, 2, none⟩ (.int .i64 d.fuse)).setCell ⟨w.heap.size + 2, 3, none⟩ (.int .i64 d.ops)).setCell ⟨w.heap.size + 2, 4, none⟩ (.int .i64 d.reads)).setCell ⟨w.heap.size + 2, 5, none⟩ (.bool d.down)) := by
  have h1 : (W.setCell ⟨w.heap.size, 0, none⟩ (.slice x L.length cx)).heap[w.heap.size + 2]? = some (.cells #[.slice none 0 0, .int .i64 0, .int .i64 0, .int .i64 0, .int .i64 0, .bool false] 30 (0, 0)) := (heap_set_far (by omega)).trans h.res
  refine ⟨load6 h1 _ _ _ _ _ _, ⟨x, cx, rfl, ?_, .inr fun b i e => by have := hx b i e; omega⟩, ?_⟩
  · exact (hs.set _ _ _ (fun b i e => by have := hx b i e; omega)).set6 _ (fun b i e => by have := hx b i e; omega) _ _ _ _ _ _
  · exact (h.frame.setCell (p := ⟨w.heap.size, 0, none⟩) (Nat.le_refl _) _).trans (below_set6 (Below.refl _ _) (by omega) _ _ _ _ _ _)

set_option maxRecDepth 100000 in
set_option maxHeartbeats 4000000 in
theorem does0_any (o : OpM) (hk : o.kind = 0) (a : Option Addr) (c : Nat) (d : DiskM) (w : World) (ha : o.a.length ≤ 20) (h : FiSl w a d.L) (hl : d.L.length ≤ 1000000) (hf : FitM d.L) :
    Calls Try.prog 61 #[refV a c d, opV o] w fun e w' => ∃ v, e = .returned v ∧ RefAt w.heap.size a d.L w' v { d with L := doesL d.L o } ∧ Below w.heap.size w w' := by
  have hDL : doesL d.L o = putL d.L ⟨o.a, [], []⟩ := by unfold doesL; rw [if_pos hk]
  rw [hDL]
  have HPUT : Hid (∀ W, By w a c d o W → Calls Try.prog 65 #[.slice a d.L.length c, .agg #[.string (tx o.a), .string ⟨#[]⟩, .string ⟨#[]⟩]] W fun e w' => ∃ v, e = .returned v ∧ w'.ownsRow W.heap.size 54 3 v (putL d.L ⟨o.a, [], []⟩).length (fiC (putL d.L ⟨o.a, [], []⟩)) ∧ Below W.heap.size W w') :=
    fun W hx => put_any ⟨o.a, [], []⟩ a c d.L W (h.below hx.frame) hl (by simp only; omega) (fun g hg => (hf g hg).1)
  have HBY : Hid (By w a c d o _) := Below.refl _ _
  have HFI := Lib.hid (fun W (hx : By w a c d o W) => hx.fin)
  have HDK := Lib.hid (fun W (hx : By w a c d o W) => hx.bx.disk)
  have HRC := Lib.hid (fun W (hx : By w a c d o W) => hx.rcells)
  have HDF := Lib.hid (fun W (hx : By w a c d o W) => hx.dfree)
  have HRF := Lib.hid (fun W (hx : By w a c d o W) => hx.rfree)
  have HSI := Lib.hid (fun W (hx : By w a c d o W) => hx.size)
  have HBE := Lib.hid (fun W W' (hx : By w a c d o W) (k : Below W.heap.size W W') => hx.below k)
  unfold refV opV at *
  generalize hBY : By w a c d o = BY at *
  generalize putL d.L ⟨o.a, [], []⟩ = L2 at *
  generalize d.L.length = N at *
  generalize tx o.a = xa at *
  generalize tx o.b = xb at *
  generalize o.n = xn at *
  rw [hk] at HBY ⊢
  clear hBY h hl hf ha hDL hk
  go_enter Try.func61, Try.ntmps61
  go_wp2_with fail
  refine (HPUT.out _ HBY.out).mono ?_
  rintro e w1 ⟨v1, rfl, hown, hB⟩
  have hy := HBE.out _ _ HBY.out hB
  obtain ⟨a1, c1, rfl, hsl, hlow⟩ := own_fi_low hown
  have HF1 := Lib.hid (HFI.out _ hy a1 c1 L2 hsl (fun b i e => Nat.le_trans (HSI.out _ HBY.out) (hlow b i e)))
  obtain ⟨x0, x1, x2, x3, x4, x5⟩ := HDK.out _ hy
  obtain ⟨z0, z1, z2, z3, z4, z5⟩ := HRC.out _ hy
  have f0 := HDF.out _ hy 0
  have g0 := HRF.out _ hy 0
  have g1 := HRF.out _ hy 1
  have g2 := HRF.out _ hy 2
  have g3 := HRF.out _ hy 3
  have g4 := HRF.out _ hy 4
  have g5 := HRF.out _ hy 5
  clear hown hB hy hsl hlow
  go_wp2
  refine bodyPost_ret (v := .agg #[.slice a1 L2.length c1, .int .i64 d.limit, .int .i64 d.fuse, .int .i64 d.ops, .int .i64 d.reads, .bool d.down]) ?_ rfl ?_
  · rw [results_cell_one rfl]
    simp [asAddr, Result.andThen, HF1.out.1]
  · exact ⟨_, rfl, HF1.out.2.1, HF1.out.2.2⟩
end Go.Proofs.Ytammmhbkfdmbfaa
