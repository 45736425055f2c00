/- Layer 5's laws: made. -/
import Derived.Test.YtammmhbkfdmbfaaU6
import Derived.BigRegion
namespace Go.Proofs.Ytammmhbkfdmbfaa
open Go.RowKit
set_option linter.unusedVariables false

def runM (d : DiskM) (l : List OpM) (keep : List Int) : DiskM := l.foldl (fun d o => (stepM d o keep).1) d
theorem runM_snoc (d : DiskM) (l : List OpM) (keep : List Int) (k : Nat) (h : k < l.length) : runM d (l.take (k + 1)) keep = (stepM (runM d (l.take k) keep) l[k] keep).1 := by
  unfold runM
  rw [List.take_add_one, List.getElem?_eq_getElem h, List.foldl_append]
  rfl
theorem runM_len (n : Int) (l : List OpM) (keep : List Int) : (runM (newM n) l keep).L.length ≤ l.length := by
  have : ∀ (l : List OpM) (d : DiskM), (runM d l keep).L.length ≤ d.L.length + l.length := by
    intro l
    induction l with
    | nil => intro d; exact Nat.le_refl _
    | cons o l ih =>
      intro d
      have h1 := ih (stepM d o keep).1
      have h2 := step_len d o keep
      simp only [runM, List.foldl_cons, List.length_cons] at h1 ⊢
      omega
  have := this l (newM n)
  simpa [newM] using this
theorem runM_ok (n : Int) (l : List OpM) (hf : FitO l) (keep : List Int) : Ok (runM (newM n) l keep) := by
  have : ∀ (l : List OpM), FitO l → ∀ d, Ok d → Ok (runM d l keep) := by
    intro l
    induction l with
    | nil => intro _ d hd; exact hd
    | cons o l ih =>
      intro hf d hd
      exact ih (fun o' ho => hf o' (List.mem_cons_of_mem _ ho)) _ (hd.step o (hf o (by simp)).2.2 keep)
  exact this l hf _ (Ok.new n)
variable {X Y : Nat → Prop} {w0 w1 w w' : World} {p : Nat} {d e : DiskM} {a : Option Addr}
theorem Duo.lower (h : Duo X w1 w p d e a) (hb : Below w0.heap.size w0 w1) (he : e.L = []) : Duo (fun i => X i ∨ (w0.heap.size ≤ i ∧ i < w1.heap.size)) w0 w p d e a := by
  obtain ⟨S, hS, h1, h2, h3⟩ := h.ex
  have hz := hb.size
  refine ⟨⟨S, hS, fun i hi => by have := h1 i hi; omega, fun b o ea hne => absurd he hne, fun i hi hs => ?_⟩, h.row, h.ok, h.oke, fun i hi => ?_, hb.trans (h.below.mono hz)⟩
  · rcases hi with hi | hi
    · exact h3 i hi hs
    · have := h1 i hs; omega
  · rcases hi with hi | hi
    · have := h.box i hi; omega
    · have := h.below.size; omega
/-- a disk of the document's in its box -/
def BoxD (w : World) (g : Nat) (a : Option Addr) (c : Nat) (d : DiskM) : Prop := w.heap[g]? = some (.cells #[.slice a d.L.length c, .int .i64 d.limit, .int .i64 d.fuse, .int .i64 d.ops, .int .i64 d.reads, .bool d.down] 30 (0, 0))
theorem BoxD.set {w : World} {g : Nat} {a a' : Option Addr} {c c' : Nat} {d d' : DiskM} (h : BoxD w g a c d) : BoxD ((((((w.setCell ⟨g, 0, none⟩ (.slice a' d'.L.length c')).setCell ⟨g, 1, none⟩ (.int .i64 d'.limit)).setCell ⟨g, 2, none⟩ (.int .i64 d'.fuse)).setCell ⟨g, 3, none⟩ (.int .i64 d'.ops)).setCell ⟨g, 4, none⟩ (.int .i64 d'.reads)).setCell ⟨g, 5, none⟩ (.bool d'.down)) g a' c' d' :=
  heap_setCell_at (heap_setCell_at (heap_setCell_at (heap_setCell_at (heap_setCell_at (heap_setCell_at h 0 (.slice a' d'.L.length c')) 1 (.int .i64 d'.limit)) 2 (.int .i64 d'.fuse)) 3 (.int .i64 d'.ops)) 4 (.int .i64 d'.reads)) 5 (.bool d'.down)
theorem set6_far {w : World} {b g : Nat} (h : b ≠ g) (x0 x1 x2 x3 x4 x5 : Value) : ((((((w.setCell ⟨g, 0, none⟩ x0).setCell ⟨g, 1, none⟩ x1).setCell ⟨g, 2, none⟩ x2).setCell ⟨g, 3, none⟩ x3).setCell ⟨g, 4, none⟩ x4).setCell ⟨g, 5, none⟩ x5).heap[b]? = w.heap[b]? :=
  (heap_set_far h).trans ((heap_set_far h).trans ((heap_set_far h).trans ((heap_set_far h).trans ((heap_set_far h).trans (heap_set_far h)))))
theorem Duo.set6 (h : Duo X w0 w p d e a) {g : Nat} (hg : X g) (x0 x1 x2 x3 x4 x5 : Value) : Duo X w0 ((((((w.setCell ⟨g, 0, none⟩ x0).setCell ⟨g, 1, none⟩ x1).setCell ⟨g, 2, none⟩ x2).setCell ⟨g, 3, none⟩ x3).setCell ⟨g, 4, none⟩ x4).setCell ⟨g, 5, none⟩ x5) p d e a :=
  (((((h.set hg 0 x0).set hg 1 x1).set hg 2 x2).set hg 3 x3).set hg 4 x4).set hg 5 x5
theorem results_tmp_cell {fn : Func} {p u : Tmp} {ty : TypeId} (h : fn.results = #[.tmp u, .cell p ty]) (tmps : Array Value) (P : Program) (w : World) :
    (results fn tmps).run P w = ((asAddr (tmps.getD p undef)).run P w).andThen fun a w₁ => ((loadVar ty a).run P w₁).andThen fun x w₂ => .ok (.tuple #[tmps.getD u undef, x]) w₂ := by
  simp only [results, h]
  simp [Sem.run_bind, Result.andThen]
  try (split <;> simp)
  all_goals try (split <;> simp)

theorem cells4 {g : Nat} {a b c d : Value} {t : TypeId} {W : World} (h : W.heap[g]? = some (.cells #[a, b, c, d] t (0, 0))) : W.cell? ⟨g, 0, none⟩ = some a ∧ W.cell? ⟨g, 1, none⟩ = some b ∧ W.cell? ⟨g, 2, none⟩ = some c ∧ W.cell? ⟨g, 3, none⟩ = some d :=
  ⟨cell_of_row _ _ 0 _ _ _ h, cell_of_row _ _ 1 _ _ _ h, cell_of_row _ _ 2 _ _ _ h, cell_of_row _ _ 3 _ _ _ h⟩
/-- a result's block, still empty -/
def ZeroB (w : World) (g : Nat) : Prop := w.heap[g]? = some (.cells #[.slice none 0 0, .int .i64 0, .int .i64 0, .int .i64 0, .int .i64 0, .bool false] 30 (0, 0))
/-- a result's block and a box -/
def RG (r g : Nat) (i : Nat) : Prop := i = r ∨ i = g
set_option maxRecDepth 100000 in
set_option maxHeartbeats 4000000 in
theorem made_any (w : World) (n : Int) (a : Option Addr) (c : Nat) (l : List OpM) (hs : OpSl w a l) (hf : FitO l) (h60 : l.length ≤ 60) (ka : Option Addr) (kc : Nat) (keep : List Int) (hks : Sl w ka (intV keep)) (hkl : keep.length ≤ kc) (hkm : kc ≤ maxLen) :
    Calls Try.prog 19 #[.int .i64 n, .slice a l.length c, .slice ka keep.length kc] w fun r w' => ∃ p a' c', r = .returned (.tuple #[.pointer (some ⟨p, 0, none⟩), refV a' c' (runM (newM n) l keep)]) ∧ Duo (fun _ => False) w w' p (runM (newM n) l keep) (runM (newM n) l keep) a' := by
  have HS := Lib.hid hs
  have HF := Lib.hid hf
  have HKS := Lib.hid hks
  have HKL := Lib.hid hkl
  have HKM := Lib.hid hkm
  have HRS := Lib.hid (runM_snoc (newM n) l keep)
  have HRL : Hid (∀ k, (runM (newM n) (l.take k) keep).L.length ≤ 60) := fun k => by
    have h1 := runM_len n (l.take k) keep
    rw [List.length_take] at h1
    omega
  have HRT : Hid (runM (newM n) (l.take l.length) keep = runM (newM n) l keep) := by unfold Hid; rw [List.take_length]
  have HNEW : Hid (∀ W, Calls Try.prog 13 #[.int .i64 n] W fun r w1 => ∃ p, r = .returned (.pointer (some ⟨p, 0, none⟩)) ∧ Calls Try.prog 14 #[.int .i64 n] w1 fun r w' => ∃ a c, r = .returned (refV a c (newM n)) ∧ Duo (fun _ => False) W w' p (newM n) (newM n) a ∧ Below w1.heap.size w1 w') := fun W => duo_new n W
  obtain ⟨N, hN⟩ : ∃ N, N = l.length := ⟨_, rfl⟩
  have HN := Lib.hid hN
  rw [← hN] at HRT h60 ⊢
  obtain ⟨M, hM⟩ : ∃ M, M = keep.length := ⟨_, rfl⟩
  have HM := Lib.hid hM
  rw [← hM] at ⊢
  clear hN hM hs hf hks hkl hkm
  generalize runM (newM n) l keep = END at *
  go_enter Try.func19, Try.ntmps19
  go_wp2_with fail
  refine (HNEW.out _).mono ?_
  rintro r w1 ⟨p, rfl, HC1⟩
  go_wp2_with fail
  refine HC1.mono ?_
  rintro r w2 ⟨a0, c0, rfl, hD, _⟩
  have hbR : Below w.heap.size w (w.alloc (.cells #[.slice none 0 0, .int .i64 0, .int .i64 0, .int .i64 0, .int .i64 0, .bool false] 30)) := (Below.refl _ _).alloc (Nat.le_refl _) _
  have HD0 : Hid (Duo (RG w.heap.size w2.heap.size) w (w2.alloc (.cells #[.slice a0 (newM n).L.length c0, .int .i64 (newM n).limit, .int .i64 (newM n).fuse, .int .i64 (newM n).ops, .int .i64 (newM n).reads, .bool (newM n).down] 30)) p (newM n) (newM n) a0) :=
    ((hD.lower hbR rfl).alloc _).mono (fun i hi => by
      rcases hi with hi | hi
      · left; right; rw [size1]; omega
      · right; exact hi)
  have HB0 : Hid (BoxD (w2.alloc (.cells #[.slice a0 (newM n).L.length c0, .int .i64 (newM n).limit, .int .i64 (newM n).fuse, .int .i64 (newM n).ops, .int .i64 (newM n).reads, .bool (newM n).down] 30)) w2.heap.size a0 c0 (newM n)) := heap_alloc_new _ _
  have hz2 := hD.below.size
  rw [size1] at hz2
  have HZ0 : Hid (ZeroB (w2.alloc (.cells #[.slice a0 (newM n).L.length c0, .int .i64 (newM n).limit, .int .i64 (newM n).fuse, .int .i64 (newM n).ops, .int .i64 (newM n).reads, .bool (newM n).down] 30)) w.heap.size) :=
    (Below.heap_alloc _ _ _ (by omega)).trans ((hD.below.block w.heap.size (by rw [size1]; omega)).trans (heap_alloc_new w _))
  have hG : w.heap.size < w2.heap.size := by omega
  clear hD hbR hz2 HC1
  have HDM : Hid (newM n = runM (newM n) (l.take 0) keep) := rfl
  unfold refV
  generalize newM n = D0 at *
  go_wp2
  generalize w2.heap.size = G at *
  generalize (w2.alloc (.cells #[.slice a0 D0.L.length c0, .int .i64 D0.limit, .int .i64 D0.fuse, .int .i64 D0.ops, .int .i64 D0.reads, .bool D0.down] 30)) = W0 at *
  go_loopw [18] (fun i wr => ∃ (k : Nat) (D : DiskM) (a1 : Option Addr) (c1 : Nat), k ≤ N ∧ i = .int .i64 k ∧ Hid (D = runM D0 (l.take k) keep) ∧ Hid (Duo (RG w.heap.size G) w wr p D D a1) ∧ Hid (BoxD wr G a1 c1 D) ∧ Hid (ZeroB wr w.heap.size)) (fun i _ => N - (intOf i).toNat)
  case atStart => exact ⟨0, D0, a0, c0, by omega, rfl, HDM, HD0, HB0, HZ0⟩
  case round =>
    obtain ⟨k, D, a1, c1, hk, rfl, HDK, HDU, HBX, HZR⟩ := hrel
    by_cases hlt : k < N
    · have hkl : k < l.length := by have := HN.out; omega
      obtain ⟨b, off, rfl, hbl, hc0, hc1, hc2, hc3⟩ := (HS.out.below HDU.out.below).at hkl
      obtain ⟨f1, f2, f3⟩ := HF.out _ (List.getElem_mem hkl)
      have hlen : D.L.length ≤ 1000000 := by rw [HDK.out]; have := HRL.out k; omega
      have HDO := Lib.hid (fun ob => (HDU.out.alloc ob).do_ l[k] (by unfold maxLen; omega) (by unfold maxLen; omega) f3 keep ka kc HKL.out HKM.out hlen HKS.out)
      have HDS := Lib.hid (fun W X d' (h : Duo X w W p d' D a1) => h.does_ c1 l[k] f1 f2 f3 keep ka kc HKL.out HKM.out hlen HKS.out)
      rw [← HM.out] at HDO HDS
      have HST := Lib.hid (HRS.out k hkl)
      rw [← HDK.out] at HST
      have HOV : Hid (opV l[k] = .agg #[.int .i64 l[k].kind, .string (tx l[k].a), .string (tx l[k].b), .int .i64 l[k].n]) := rfl
      rw [HOV.out] at HDO HDS
      clear f1 f2 f3 HOV hlen
      generalize (stepM D l[k] keep) = ST at *
      generalize l[k].kind = v0 at *
      generalize tx l[k].a = v1 at *
      generalize tx l[k].b = v2 at *
      generalize l[k].n = v3 at *
      have hGr : G < wr.heap.size := (HDU.out.box G (.inr rfl)).2
      have hRr : w.heap.size < wr.heap.size := (HDU.out.box _ (.inl rfl)).2
      have HG1 : Hid (∀ ob, (wr.alloc ob).heap[G]? = wr.heap[G]?) := fun ob => Below.heap_alloc _ _ _ hGr
      have HR1 : Hid (∀ ob, (wr.alloc ob).heap[w.heap.size]? = wr.heap[w.heap.size]?) := fun ob => Below.heap_alloc _ _ _ hRr
      unfold refV at HDS
      go_wp2_with fail
      refine (HDO.out _).mono ?_
      rintro r w1 ⟨rfl, h1, hk1⟩
      have hop := (hk1 _ (.inr rfl)).trans (heap_alloc_new wr _)
      have hbx : BoxD w1 G a1 c1 D := (hk1 G (.inl (.inr rfl))).trans ((HG1.out _).trans HBX.out)
      have hzr : ZeroB w1 w.heap.size := (hk1 w.heap.size (.inl (.inl rfl))).trans ((HR1.out _).trans HZR.out)
      have HBX1 := Lib.hid hbx
      have HZR1 := Lib.hid hzr
      have H1 := Lib.hid h1
      obtain ⟨y0, y1, y2, y3⟩ := cells4 hop
      obtain ⟨⟨x0, x1, x2, x3, x4, x5⟩, e0, e1, e2, e3, e4, e5⟩ := cells6 hbx
      have hopl : wr.heap.size < w1.heap.size := (Array.getElem?_eq_some_iff.1 hop).1
      have hz1 : G < w1.heap.size := by omega
      clear hk1 h1 hbx hzr hop HDO HBX HZR HDU HG1 HR1 hc0 hc1 hc2 hc3
      go_wp2_with fail
      refine (HDS.out _ _ _ H1.out).mono ?_
      rintro r w3 ⟨a2, c2, rfl, h3, hB3⟩
      have hbx : BoxD w3 G a1 c1 D := (hB3.block G hz1).trans HBX1.out
      have HBX3 := Lib.hid (hbx.set (a' := a2) (c' := c2) (d' := ST.1))
      have HZR3 : Hid (ZeroB ((((((w3.setCell ⟨G, 0, none⟩ (.slice a2 ST.1.L.length c2)).setCell ⟨G, 1, none⟩ (.int .i64 ST.1.limit)).setCell ⟨G, 2, none⟩ (.int .i64 ST.1.fuse)).setCell ⟨G, 3, none⟩ (.int .i64 ST.1.ops)).setCell ⟨G, 4, none⟩ (.int .i64 ST.1.reads)).setCell ⟨G, 5, none⟩ (.bool ST.1.down)) w.heap.size) := (set6_far (by omega) _ _ _ _ _ _).trans ((hB3.block _ (by omega)).trans HZR1.out)
      have HDU3 := Lib.hid (((h3.set6 (g := G) (.inl (.inr rfl)) (.slice a2 ST.1.L.length c2) (.int .i64 ST.1.limit) (.int .i64 ST.1.fuse) (.int .i64 ST.1.ops) (.int .i64 ST.1.reads) (.bool ST.1.down))).mono (Y := RG w.heap.size G) (fun i hi => .inl hi))
      clear x0 x1 x2 x3 x4 x5 e0 e1 e2 e3 e4 e5 y0 y1 y2 y3
      obtain ⟨⟨x0, x1, x2, x3, x4, x5⟩, e0, e1, e2, e3, e4, e5⟩ := cells6 hbx
      clear hbx h3 hB3 H1 HDS HBX1 HZR1
      go_wp2
      go_roundw
      case rel => exact ⟨k + 1, ST.1, a2, c2, by omega, by go_num, HST.out.symm, HDU3, HBX3, HZR3⟩
      case measure => simp [intOf]; omega
    · obtain rfl : k = N := by omega
      obtain rfl : D = END := by have := HDK.out; have := HRT.out; rw [HDK.out, HRT.out]
      obtain ⟨⟨x0, x1, x2, x3, x4, x5⟩, e0, e1, e2, e3, e4, e5⟩ := cells6 HBX.out
      obtain ⟨⟨z0, z1, z2, z3, z4, z5⟩, g0, g1, g2, g3, g4, g5⟩ := cells6 HZR.out
      go_wp2
      go_region
      have HF6 := Lib.hid (((HDU.out.set6 (g := w.heap.size) (.inl rfl) (.slice a1 D.L.length c1) (.int .i64 D.limit) (.int .i64 D.fuse) (.int .i64 D.ops) (.int .i64 D.reads) (.bool D.down))).mono (Y := fun _ => False) (fun i hi => hi.elim))
      have HLD1 := Lib.hid (load6 (W := wr.drew) HZR.out (.slice a1 D.L.length c1) (.int .i64 D.limit) (.int .i64 D.fuse) (.int .i64 D.ops) (.int .i64 D.reads) (.bool D.down))
      simp only [World.setCell_drew] at HLD1
      all_goals
        go_wp2
        refine bodyPost_ret (v := .tuple #[.pointer (some ⟨p, 0, none⟩), .agg #[.slice a1 D.L.length c1, .int .i64 D.limit, .int .i64 D.fuse, .int .i64 D.ops, .int .i64 D.reads, .bool D.down]]) ?_ rfl ?_
        · rw [results_tmp_cell rfl]
          simp [asAddr, Result.andThen, HLD1.out]
        · exact ⟨p, a1, c1, rfl, HF6.out.below_ (Below.refl _ _).drew⟩
end Go.Proofs.Ytammmhbkfdmbfaa
