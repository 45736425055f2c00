/- Contracts of the document's own words of layer 5: an op that is done, of whatever kind; Do. -/
import Derived.Test.YtammmhbkfdmbfaaT10
import Derived.Test.YtammmhbkfdmbfaaT12
namespace Go.Proofs.Ytammmhbkfdmbfaa
open Go.RowKit
set_option linter.unusedVariables false

theorem right_len {n : Nm} (h : rightN n = true) : n.length ≤ 20 := by
  unfold rightN at h
  simp at h
  exact h.1.2
theorem Ok.fit {d : DiskM} (h : Ok d) : FitM d.L := fun f hf => by
  have h1 := right_len (h.names f hf)
  have h2 := used_le hf
  have h3 := h.room
  have h4 := h.most
  have h5 : f.bytes.length = f.safe.length + f.loose.length := by simp [FileM.bytes]
  exact ⟨by omega, by omega, by omega⟩
theorem Ok.used {d : DiskM} (h : Ok d) : usedL d.L ≤ 1000000000000000000 := by
  have h3 := h.room
  have h4 := h.most
  omega
theorem does_all (o : OpM) (hk : 0 ≤ o.kind ∧ o.kind < 5) (a : Option Addr) (c : Nat) (d : DiskM) (w : World) (ha : o.a.length ≤ 140737488351232) (hb : o.b.length ≤ 140737488351232) (h : FiSl w a d.L) (hl : d.L.length ≤ 1000000) (hf : FitM d.L) (hw : whyM d o = 0) :
    Calls Try.prog 61 #[refV a c d, opV o] w fun e w' => ∃ v, e = .returned v ∧ RefAt w.heap.size a d.L w' v { d with L := doesL d.L o } ∧ Below w.heap.size w w' := by
  obtain ⟨w0, w1, w2, w3⟩ := why_zero hw
  have hcase : o.kind = 0 ∨ o.kind = 1 ∨ o.kind = 2 ∨ o.kind = 3 ∨ o.kind = 4 := by omega
  rcases hcase with e | e | e | e | e
  · exact does0_any o e a c d w (right_len (w0 e).2) h hl hf
  · obtain ⟨f, hg⟩ := w1 (by omega)
    exact does1_any o e a c d w ha h hl hf hb (hasL_get hg)
  · obtain ⟨f, hg⟩ := w1 (by omega)
    exact does2_any o e a c d w ha h hl hf hb (hasL_get hg)
  · obtain ⟨f, hg⟩ := w1 (by omega)
    exact does3_any o e a c d w ha h hl hf (right_len (w3 e)) (hasL_get hg)
  · obtain ⟨f, hg⟩ := w1 (by omega)
    exact does4_any o e a c d w ha h hl hf (hasL_get hg)

theorem results_cell_pair {fn : Func} {p u : Tmp} {ty : TypeId} (h : fn.results = #[.cell p ty, .tmp u]) (tmps : Array Value) (P : Program) (w : World) :
    (results fn tmps).run P w = ((asAddr (tmps.getD p undef)).run P w).andThen fun a w₁ => ((loadVar ty a).run P w₁).andThen fun x w₂ => .ok (.tuple #[x, tmps.getD u undef]) w₂ := by
  simp only [results, h]
  simp [Sem.run_bind, Result.andThen]
  try (split <;> simp)
  all_goals try (split <;> simp)
theorem res_no_text {W : World} {g o : Nat} {T : ByteArray} {t : TypeId} (h : W.heap[g]? = some (.cells #[.slice none 0 0, .int .i64 0, .int .i64 0, .int .i64 0, .int .i64 0, .bool false] t (0, 0))) (e : W.cell? ⟨g, o, none⟩ = some (.string T)) : False := by
  have hc := cells6 h
  match o, e with
  | 0, e => rw [hc.1.1] at e; cases e
  | 1, e => rw [hc.1.2.1] at e; cases e
  | 2, e => rw [hc.1.2.2.1] at e; cases e
  | 3, e => rw [hc.1.2.2.2.1] at e; cases e
  | 4, e => rw [hc.1.2.2.2.2.1] at e; cases e
  | 5, e => rw [hc.1.2.2.2.2.2] at e; cases e
  | n + 6, e =>
    unfold World.cell? at e
    simp [h] at e
/-- a row of files stays where another block is written that held no texts -/
theorem FiSl.res {W : World} {x : Option Addr} {L : List FileM} (hs : FiSl W x L) {g : Nat} {t : TypeId} (h : W.heap[g]? = some (.cells #[.slice none 0 0, .int .i64 0, .int .i64 0, .int .i64 0, .int .i64 0, .bool false] t (0, 0))) (a b c d e f : Value) :
    FiSl ((((((W.setCell ⟨g, 0, none⟩ a).setCell ⟨g, 1, none⟩ b).setCell ⟨g, 2, none⟩ c).setCell ⟨g, 3, none⟩ d).setCell ⟨g, 4, none⟩ e).setCell ⟨g, 5, none⟩ f) x L := by
  cases L with
  | nil => intro k hk; exact absurd hk (by simp [fiC])
  | cons y L =>
    refine hs.set6 g (fun b' o' e' => ?_) a b c d e f
    rintro rfl
    obtain ⟨b, off, e2, _, h1, _⟩ := hs.at (k := 0) (by simp)
    cases e'.symm.trans e2
    exact res_no_text h h1
/-- a disk that is told in the result's block -/
theorem fin_res {W w : World} {g : Nat} (hres : W.heap[g]? = some (.cells #[.slice none 0 0, .int .i64 0, .int .i64 0, .int .i64 0, .int .i64 0, .bool false] 30 (0, 0))) (hframe : Below w.heap.size w W) (hg : w.heap.size ≤ g) (a0 x : Option Addr) (cx : Nat) (B : Nat) (D : DiskM) {L0 : List FileM} (hr : FiSl W x D.L) (hor : x = a0 ∧ D.L = L0 ∨ ∀ b o, x = some ⟨b, o, none⟩ → B ≤ b) :
    ∃ F, F = ((((((W.setCell ⟨g, 0, none⟩ (.slice x D.L.length cx)).setCell ⟨g, 1, none⟩ (.int .i64 D.limit)).setCell ⟨g, 2, none⟩ (.int .i64 D.fuse)).setCell ⟨g, 3, none⟩ (.int .i64 D.ops)).setCell ⟨g, 4, none⟩ (.int .i64 D.reads)).setCell ⟨g, 5, none⟩ (.bool D.down)) ∧
      (loadVar 30 ⟨g, 0, none⟩).run Try.prog F = .ok (.agg #[.slice x D.L.length cx, .int .i64 D.limit, .int .i64 D.fuse, .int .i64 D.ops, .int .i64 D.reads, .bool D.down]) F ∧
      RefAt B a0 L0 F (.agg #[.slice x D.L.length cx, .int .i64 D.limit, .int .i64 D.fuse, .int .i64 D.ops, .int .i64 D.reads, .bool D.down]) D ∧ Below w.heap.size w F :=
  ⟨_, rfl, load6 hres _ _ _ _ _ _, ⟨x, cx, rfl, hr.res hres _ _ _ _ _ _, hor⟩, hframe.trans (below_set6 (Below.refl _ _) hg _ _ _ _ _ _)⟩
theorem doM_down {d : DiskM} {o : OpM} (h : d.down = true) : doM d o = (d, 50) := by unfold doM; rw [if_pos h]
theorem doM_why {d : DiskM} {o : OpM} (h : d.down = false) (hw : whyM d o ≠ 0) : doM d o = (d, whyM d o) := by unfold doM; rw [if_neg (by simp [h]), if_pos hw]
theorem doM_fuse {d : DiskM} {o : OpM} (h : d.down = false) (hw : whyM d o = 0) (hf : d.fuse = 0) : doM d o = ({ d with down := true }, 50) := by unfold doM; rw [if_neg (by simp [h]), if_neg (by simp [hw]), if_pos hf]
theorem doM_next {d : DiskM} {o : OpM} (h : d.down = false) (hw : whyM d o = 0) (hf : d.fuse ≠ 0) : doM d o = (d.next o, 0) := by unfold doM; rw [if_neg (by simp [h]), if_neg (by simp [hw]), if_neg hf]

set_option maxRecDepth 100000 in
set_option maxHeartbeats 4000000 in
theorem refDo_any (o : OpM) (hk : 0 ≤ o.kind ∧ o.kind < 5) (a : Option Addr) (c : Nat) (d : DiskM) (w : World) (ha : o.a.length ≤ 140737488351232) (hb : o.b.length ≤ 140737488351232) (h : FiSl w a d.L) (hl : d.L.length ≤ 1000000) (hok : Ok d) :
    Calls Try.prog 43 #[refV a c d, opV o] w fun e w' => ∃ v, e = .returned (.tuple #[v, .int .i64 (doM d o).2]) ∧ RefAt w.heap.size a d.L w' v (doM d o).1 ∧ Below w.heap.size w w' := by
  have HBE := Lib.hid (fun W W' (hx : By w a c d o W) (k : Below W.heap.size W W') => hx.below k)
  have HLD := Lib.hid (fun (W : World) a b c d e f => loadD (heap_alloc_new W (.cells #[a, b, c, d, e, f] 30)))
  have HDB := Lib.hid (fun W (hx : By w a c d o W) => cells6 hx.dblk)
  have HRB := Lib.hid (fun W (hx : By w a c d o W) => hx.res)
  have HOP := Lib.hid (fun W (hx : By w a c d o W) => hx.bx.op)
  have HFR := Lib.hid (fun W (hx : By w a c d o W) => hx.frame)
  have HFI := Lib.hid (fun W (hx : By w a c d o W) => h.below hx.frame)
  have HSI := Lib.hid (fun W (hx : By w a c d o W) => hx.size)
  cases hd : d.down with
  | true =>
    rw [doM_down hd]
    have HFW := Lib.hid (fun (w' : World) (k : Below w.heap.size w w') => h.below k)
    unfold refV opV
    rw [hd]
    clear hok hb ha hl HBE HDB HRB HOP HFR HFI HSI
    go_enter Try.func43, Try.ntmps43
    go_wp2
    refine bodyPost_ret (v := .tuple #[.agg #[.slice a d.L.length c, .int .i64 d.limit, .int .i64 d.fuse, .int .i64 d.ops, .int .i64 d.reads, .bool true], .int .i64 50]) ?_ rfl ?_
    · rw [results_cell_pair rfl]
      have := HLD.out ((w.alloc (.cells #[.slice a d.L.length c, .int .i64 d.limit, .int .i64 d.fuse, .int .i64 d.ops, .int .i64 d.reads, .bool true] 30)).alloc (.cells #[.int .i64 o.kind, .string (tx o.a), .string (tx o.b), .int .i64 o.n] 34)) (.slice a d.L.length c) (.int .i64 d.limit) (.int .i64 d.fuse) (.int .i64 d.ops) (.int .i64 d.reads) (.bool true)
      rw [size1, size1] at this
      simp [asAddr, Result.andThen, this]
    · refine ⟨_, rfl, ⟨a, c, by unfold refV; rw [hd], HFW.out _ ?_, .inl ⟨rfl, rfl⟩⟩, ?_⟩
      all_goals exact (((Below.refl _ _).alloc (Nat.le_refl _) _).alloc (by rw [size1]; omega) _).alloc (by rw [size1, size1]; omega) _
  | false =>
    have HWHY : Hid (∀ W, By w a c d o W → Calls Try.prog 60 #[refV a c d, opV o] W fun e w' => e = .returned (.int .i64 (whyM d o)) ∧ Below W.heap.size W w') := fun W hx => why_any o a c d W ha hb (h.below hx.frame) hl hok.used
    have HBY : Hid (By w a c d o _) := Below.refl _ _
    have hfu := hok.fuse
    obtain ⟨y, hy⟩ : ∃ y, y = whyM d o := ⟨_, rfl⟩
    by_cases hy0 : whyM d o = 0
    · by_cases hf0 : d.fuse = 0
      · rw [doM_fuse hd hy0 hf0]
        rw [hy0] at HWHY
        unfold refV opV at *
        rw [hd, hf0] at HWHY HBY ⊢
        rw [hf0, hd] at HDB
        have HFIN := Lib.hid (fun W (hx : By w a c d o W) => fin_res (w := w) (g := w.heap.size + 2) ((heap_set_far (b := w.heap.size + 2) (g := w.heap.size) (i := 5) (v := .bool true) (by omega)).trans hx.res) (hx.frame.setCell (p := ⟨w.heap.size, 5, none⟩) (Nat.le_refl _) _) (by omega) a a c w.heap.size { d with down := true } (h.below (hx.frame.setCell (p := ⟨w.heap.size, 5, none⟩) (Nat.le_refl _) _)) (.inl ⟨rfl, rfl⟩))
        dsimp only at HFIN
        rw [hf0] at HFIN
        generalize hBYn : By w a c d o = BY at *
        clear hok hBYn
        go_enter Try.func43, Try.ntmps43
        go_wp2_with fail
        refine (HWHY.out _ HBY.out).mono ?_
        rintro e w1 ⟨rfl, hB⟩
        have hX := HBE.out _ _ HBY.out hB
        clear hB
        obtain ⟨⟨x0, x1, x2, x3, x4, x5⟩, f0, f1, f2, f3, f4, f5⟩ := HDB.out _ hX
        obtain ⟨⟨z0, z1, z2, z3, z4, z5⟩, g0, g1, g2, g3, g4, g5⟩ := cells6 (HRB.out _ hX)
        obtain ⟨F, hF, q1, q2, q3⟩ := HFIN.out _ hX
        have HF := Lib.hid hF
        have Q1 := Lib.hid q1
        have Q2 := Lib.hid q2
        have Q3 := Lib.hid q3
        clear hF q1 q2 q3 hX
        go_wp2
        rw [HF.out] at Q1 Q2 Q3
        refine bodyPost_ret (v := .tuple #[.agg #[.slice a d.L.length c, .int .i64 d.limit, .int .i64 0, .int .i64 d.ops, .int .i64 d.reads, .bool true], .int .i64 50]) ?_ rfl ?_
        · rw [results_cell_pair rfl]
          simp [asAddr, Result.andThen, Q1.out]
        · exact ⟨_, rfl, Q2.out, Q3.out⟩
      · rw [doM_next hd hy0 hf0]
        have HDO : Hid (∀ W fu op, FiSl W a d.L → Calls Try.prog 61 #[.agg #[.slice a d.L.length c, .int .i64 d.limit, .int .i64 fu, .int .i64 op, .int .i64 d.reads, .bool false], opV o] W fun e w' => ∃ a2 c2, e = .returned (.agg #[.slice a2 (doesL d.L o).length c2, .int .i64 d.limit, .int .i64 fu, .int .i64 op, .int .i64 d.reads, .bool false]) ∧ FiSl w' a2 (doesL d.L o) ∧ (a2 = a ∧ doesL d.L o = d.L ∨ ∀ b o, a2 = some ⟨b, o, none⟩ → W.heap.size ≤ b) ∧ Below W.heap.size W w') := fun W fu op hs => by
          have h1 := does_all o hk a c { d with fuse := fu, ops := op } W ha hb hs hl hok.fit hy0
          unfold refV at h1
          dsimp only at h1
          rw [hd] at h1
          refine h1.mono ?_
          rintro e w' ⟨v, rfl, ⟨a2, c2, rfl, q1, q2⟩, q3⟩
          refine ⟨a2, c2, ?_, q1, q2, q3⟩
          unfold refV
          rfl
        rw [hy0] at HWHY
        unfold refV opV at *
        rw [hd] at HWHY HBY ⊢ HDB
        by_cases hpos : 0 < d.fuse
        · have HNX : Hid (d.next o = { d with L := doesL d.L o, fuse := d.fuse - 1, ops := IntKind.i64.wrap (d.ops + 1) }) := by unfold Hid DiskM.next; rw [if_pos hpos]
          have hw1 : IntKind.i64.wrap (d.fuse - 1) = d.fuse - 1 := IntWalk.i64_in _ (by omega)
          have hf0b : (d.fuse == 0) = false := by simpa using hf0
          have HFS : Hid (∀ (W : World) (fu op : Int), By w a c d o W → FiSl ((W.setCell ⟨w.heap.size, 2, none⟩ (.int .i64 fu)).setCell ⟨w.heap.size, 3, none⟩ (.int .i64 op)) a d.L ∧ Below w.heap.size w ((W.setCell ⟨w.heap.size, 2, none⟩ (.int .i64 fu)).setCell ⟨w.heap.size, 3, none⟩ (.int .i64 op)) ∧ w.heap.size + 3 ≤ (((W.setCell ⟨w.heap.size, 2, none⟩ (.int .i64 fu)).setCell ⟨w.heap.size, 3, none⟩ (.int .i64 op))).heap.size ∧ (((W.setCell ⟨w.heap.size, 2, none⟩ (.int .i64 fu)).setCell ⟨w.heap.size, 3, none⟩ (.int .i64 op))).heap[w.heap.size + 2]? = some (.cells #[.slice none 0 0, .int .i64 0, .int .i64 0, .int .i64 0, .int .i64 0, .bool false] 30 (0, 0))) := fun W fu op hx => ⟨h.below ((hx.frame.setCell (p := ⟨w.heap.size, 2, none⟩) (Nat.le_refl _) _).setCell (p := ⟨w.heap.size, 3, none⟩) (Nat.le_refl _) _), ((hx.frame.setCell (p := ⟨w.heap.size, 2, none⟩) (Nat.le_refl _) _).setCell (p := ⟨w.heap.size, 3, none⟩) (Nat.le_refl _) _), (by have := hx.size; simp [World.setCell]; exact this), (heap_set_far (by omega)).trans ((heap_set_far (by omega)).trans hx.res)⟩
          generalize hBYn : By w a c d o = BY at *
          clear hok hBYn
          generalize d.next o = DN at *
          generalize hOP : IntKind.i64.wrap (d.ops + 1) = OP at *
          go_enter Try.func43, Try.ntmps43
          go_wp2_with fail
          refine (HWHY.out _ HBY.out).mono ?_
          rintro e w1 ⟨rfl, hB⟩
          have hX := HBE.out _ _ HBY.out hB
          clear hB
          obtain ⟨⟨x0, x1, x2, x3, x4, x5⟩, f0, f1, f2, f3, f4, f5⟩ := HDB.out _ hX
          obtain ⟨y0, y1, y2, y3⟩ := HOP.out _ hX
          have HS := Lib.hid (HFS.out w1 (d.fuse - 1) OP hX)
          clear hX
          go_wp2_with fail
          refine (HDO.out _ _ _ HS.out.1).mono ?_
          rintro e w2 ⟨a2, c2, rfl, q1, q2, q3⟩
          have hres := (q3.block (w.heap.size + 2) (by have := HS.out.2.2.1; omega)).trans HS.out.2.2.2
          obtain ⟨F, hF, r1, r2, r3⟩ := fin_res (w := w) (g := w.heap.size + 2) hres (HS.out.2.1.trans (q3.mono (by have := HS.out.2.2.1; omega))) (by omega) a a2 c2 w.heap.size { d with L := doesL d.L o, fuse := d.fuse - 1, ops := OP } q1 (q2.imp id (fun hq b o e => by have := hq b o e; have := HS.out.2.2.1; omega))
          dsimp only at hF r1 r2 r3
          rw [hd] at hF r1 r2
          have HF := Lib.hid hF
          have Q1 := Lib.hid r1
          have Q2 := Lib.hid r2
          have Q3 := Lib.hid r3
          clear x0 x1 x2 x3 x4 x5 f0 f1 f2 f3 f4 f5 y0 y1 y2 y3
          obtain ⟨⟨z0, z1, z2, z3, z4, z5⟩, g0, g1, g2, g3, g4, g5⟩ := cells6 hres
          clear hF r1 r2 r3 q1 q2 q3 hres HS HFS
          generalize doesL d.L o = L2 at *
          go_wp2
          rw [HF.out] at Q1 Q2 Q3
          refine bodyPost_ret (v := .tuple #[.agg #[.slice a2 L2.length c2, .int .i64 d.limit, .int .i64 (d.fuse - 1), .int .i64 OP, .int .i64 d.reads, .bool false], .int .i64 0]) ?_ rfl ?_
          · rw [results_cell_pair rfl]
            simp [asAddr, Result.andThen, Q1.out]
          · refine ⟨_, rfl, ?_, Q3.out⟩
            rw [HNX.out, hd]
            exact Q2.out
        · have HNX : Hid (d.next o = { d with L := doesL d.L o, fuse := d.fuse, ops := IntKind.i64.wrap (d.ops + 1) }) := by unfold Hid DiskM.next; rw [if_neg hpos]
          have hw1 : True := trivial
          have hf0b : (d.fuse == 0) = false := by simpa using hf0
          have HFS : Hid (∀ (W : World) (fu op : Int), By w a c d o W → FiSl (W.setCell ⟨w.heap.size, 3, none⟩ (.int .i64 op)) a d.L ∧ Below w.heap.size w (W.setCell ⟨w.heap.size, 3, none⟩ (.int .i64 op)) ∧ w.heap.size + 3 ≤ ((W.setCell ⟨w.heap.size, 3, none⟩ (.int .i64 op))).heap.size ∧ ((W.setCell ⟨w.heap.size, 3, none⟩ (.int .i64 op))).heap[w.heap.size + 2]? = some (.cells #[.slice none 0 0, .int .i64 0, .int .i64 0, .int .i64 0, .int .i64 0, .bool false] 30 (0, 0))) := fun W fu op hx => ⟨h.below (hx.frame.setCell (p := ⟨w.heap.size, 3, none⟩) (Nat.le_refl _) _), (hx.frame.setCell (p := ⟨w.heap.size, 3, none⟩) (Nat.le_refl _) _), (by have := hx.size; simp [World.setCell]; exact this), (heap_set_far (by omega)).trans hx.res⟩
          generalize hBYn : By w a c d o = BY at *
          clear hok hBYn
          generalize d.next o = DN at *
          generalize hOP : IntKind.i64.wrap (d.ops + 1) = OP at *
          go_enter Try.func43, Try.ntmps43
          go_wp2_with fail
          refine (HWHY.out _ HBY.out).mono ?_
          rintro e w1 ⟨rfl, hB⟩
          have hX := HBE.out _ _ HBY.out hB
          clear hB
          obtain ⟨⟨x0, x1, x2, x3, x4, x5⟩, f0, f1, f2, f3, f4, f5⟩ := HDB.out _ hX
          obtain ⟨y0, y1, y2, y3⟩ := HOP.out _ hX
          have HS := Lib.hid (HFS.out w1 (d.fuse) OP hX)
          clear hX
          go_wp2_with fail
          refine (HDO.out _ _ _ HS.out.1).mono ?_
          rintro e w2 ⟨a2, c2, rfl, q1, q2, q3⟩
          have hres := (q3.block (w.heap.size + 2) (by have := HS.out.2.2.1; omega)).trans HS.out.2.2.2
          obtain ⟨F, hF, r1, r2, r3⟩ := fin_res (w := w) (g := w.heap.size + 2) hres (HS.out.2.1.trans (q3.mono (by have := HS.out.2.2.1; omega))) (by omega) a a2 c2 w.heap.size { d with L := doesL d.L o, fuse := d.fuse, ops := OP } q1 (q2.imp id (fun hq b o e => by have := hq b o e; have := HS.out.2.2.1; omega))
          dsimp only at hF r1 r2 r3
          rw [hd] at hF r1 r2
          have HF := Lib.hid hF
          have Q1 := Lib.hid r1
          have Q2 := Lib.hid r2
          have Q3 := Lib.hid r3
          clear x0 x1 x2 x3 x4 x5 f0 f1 f2 f3 f4 f5 y0 y1 y2 y3
          obtain ⟨⟨z0, z1, z2, z3, z4, z5⟩, g0, g1, g2, g3, g4, g5⟩ := cells6 hres
          clear hF r1 r2 r3 q1 q2 q3 hres HS HFS
          generalize doesL d.L o = L2 at *
          go_wp2
          rw [HF.out] at Q1 Q2 Q3
          refine bodyPost_ret (v := .tuple #[.agg #[.slice a2 L2.length c2, .int .i64 d.limit, .int .i64 (d.fuse), .int .i64 OP, .int .i64 d.reads, .bool false], .int .i64 0]) ?_ rfl ?_
          · rw [results_cell_pair rfl]
            simp [asAddr, Result.andThen, Q1.out]
          · refine ⟨_, rfl, ?_, Q3.out⟩
            rw [HNX.out, hd]
            exact Q2.out
    · rw [doM_why hd hy0]
      have hyb : (whyM d o == 0) = false := by simpa using hy0
      have HFIN := Lib.hid (fun W (hx : By w a c d o W) => fin_res (w := w) (g := w.heap.size + 2) hx.res hx.frame (by omega) a a c w.heap.size d (h.below hx.frame) (.inl ⟨rfl, rfl⟩))
      unfold refV opV at *
      rw [hd] at HWHY HBY ⊢ HDB HFIN
      generalize hBYn : By w a c d o = BY at *
      clear hok hBYn hy
      generalize whyM d o = Y at *
      go_enter Try.func43, Try.ntmps43
      go_wp2_with fail
      refine (HWHY.out _ HBY.out).mono ?_
      rintro e w1 ⟨rfl, hB⟩
      have hX := HBE.out _ _ HBY.out hB
      clear hB
      obtain ⟨⟨x0, x1, x2, x3, x4, x5⟩, f0, f1, f2, f3, f4, f5⟩ := HDB.out _ hX
      obtain ⟨⟨z0, z1, z2, z3, z4, z5⟩, g0, g1, g2, g3, g4, g5⟩ := cells6 (HRB.out _ hX)
      obtain ⟨F, hF, q1, q2, q3⟩ := HFIN.out _ hX
      have HF := Lib.hid hF
      have Q1 := Lib.hid q1
      have Q2 := Lib.hid q2
      have Q3 := Lib.hid q3
      clear hF q1 q2 q3 hX
      go_wp2
      rw [HF.out] at Q1 Q2 Q3
      refine bodyPost_ret (v := .tuple #[.agg #[.slice a d.L.length c, .int .i64 d.limit, .int .i64 d.fuse, .int .i64 d.ops, .int .i64 d.reads, .bool false], .int .i64 Y]) ?_ rfl ?_
      · rw [results_cell_pair rfl]
        simp [asAddr, Result.andThen, Q1.out]
      · exact ⟨_, rfl, Q2.out, Q3.out⟩
end Go.Proofs.Ytammmhbkfdmbfaa
