/- Contracts of layer 5: Sync, Delete, Rename, Create, Append. -/
import Derived.Test.YtammmhbkfdmbfaaS9
import Derived.Deep.RegionHeld3
namespace Go.Proofs.Ytammmhbkfdmbfaa
open Go.RowKit
set_option linter.unusedVariables false

/-- what an op keeps beside its calls: its boxes, the disk, and all that was there -/
structure OpK (w : World) (p : Nat) (S : Nat → Prop) (d : DiskM) (xs : List (Nat × Value)) (w' : World) : Prop where
  box : ∀ x ∈ xs, w'.cell? ⟨x.1, 0, none⟩ = some x.2 ∧ ¬ S x.1
  disk : DiskAt w' p S d
  below : Below w.heap.size w w'
theorem OpK.step {w W W' : World} {p : Nat} {S : Nat → Prop} {d : DiskM} {xs : List (Nat × Value)} (h : OpK w p S d xs W) (k : Below W.heap.size W W') : OpK w p S d xs W' :=
  ⟨fun x hx => ⟨(k.cell (p := ⟨x.1, 0, none⟩) (World.block_lt_of_cell? W _ (h.box x hx).1)).trans (h.box x hx).1, (h.box x hx).2⟩, h.disk.below k, h.below.trans (k.mono h.below.size)⟩
theorem OpK.drew {w W : World} {p : Nat} {S : Nat → Prop} {d : DiskM} {xs : List (Nat × Value)} (h : OpK w p S d xs W) : OpK w p S d xs W.drew := h.step ((Below.refl _ _).drew)
theorem OpK.two {w W : World} {p g1 g2 : Nat} {v1 v2 : Value} {S : Nat → Prop} {d : DiskM} (h : OpK w p S d [(g1, v1), (g2, v2)] W) : W.cell? ⟨g1, 0, none⟩ = some v1 ∧ W.cell? ⟨g2, 0, none⟩ = some v2 ∧ OpK w p S d [(g1, v1), (g2, v2)] W :=
  ⟨(h.box (g1, v1) (by simp)).1, (h.box (g2, v2) (by simp)).1, h⟩
theorem OpK.three {w W : World} {p g1 g2 g3 : Nat} {v1 v2 v3 : Value} {S : Nat → Prop} {d : DiskM} (h : OpK w p S d [(g1, v1), (g2, v2), (g3, v3)] W) :
    W.cell? ⟨g1, 0, none⟩ = some v1 ∧ W.cell? ⟨g2, 0, none⟩ = some v2 ∧ W.cell? ⟨g3, 0, none⟩ = some v3 ∧ OpK w p S d [(g1, v1), (g2, v2), (g3, v3)] W :=
  ⟨(h.box (g1, v1) (by simp)).1, (h.box (g2, v2) (by simp)).1, (h.box (g3, v3) (by simp)).1, h⟩
/-- the boxes -/
def BoxK (xs : List (Nat × Value)) (w' : World) : Prop := ∀ x ∈ xs, w'.cell? ⟨x.1, 0, none⟩ = some x.2
theorem BoxK.two {W : World} {g1 g2 : Nat} {v1 v2 : Value} (h : BoxK [(g1, v1), (g2, v2)] W) : W.cell? ⟨g1, 0, none⟩ = some v1 ∧ W.cell? ⟨g2, 0, none⟩ = some v2 := ⟨h (g1, v1) (by simp), h (g2, v2) (by simp)⟩
theorem BoxK.three {W : World} {g1 g2 g3 : Nat} {v1 v2 v3 : Value} (h : BoxK [(g1, v1), (g2, v2), (g3, v3)] W) : W.cell? ⟨g1, 0, none⟩ = some v1 ∧ W.cell? ⟨g2, 0, none⟩ = some v2 ∧ W.cell? ⟨g3, 0, none⟩ = some v3 := ⟨h (g1, v1) (by simp), h (g2, v2) (by simp), h (g3, v3) (by simp)⟩
theorem OpK.boxes {w W : World} {p : Nat} {S : Nat → Prop} {d : DiskM} {xs : List (Nat × Value)} (h : OpK w p S d xs W) : BoxK xs W := fun x hx => (h.box x hx).1
theorem OpK.kept {w W W' : World} {p : Nat} {S : Nat → Prop} {d : DiskM} {xs : List (Nat × Value)} (h : OpK w p S d xs W) (k : Kept S W W') : BoxK xs W' := fun x hx =>
  (World.cell?_of_block (a := ⟨x.1, 0, none⟩) (k.block x.1 (World.block_lt_of_cell? W _ (h.box x hx).1) (h.box x hx).2)).trans (h.box x hx).1
theorem OpK.new2 (w : World) (p : Nat) (S : Nat → Prop) (d : DiskM) (h : DiskAt w p S d) (v1 v2 : Value) (t1 t2 : TypeId) : OpK w p S d [(w.heap.size, v1), (w.heap.size + 1, v2)] ((w.alloc (.cells #[v1] t1)).alloc (.cells #[v2] t2)) := by
  have hB : Below w.heap.size w ((w.alloc (.cells #[v1] t1)).alloc (.cells #[v2] t2)) := ((Below.refl _ w).alloc (Nat.le_refl _) _).alloc (by simp) _
  refine ⟨fun x hx => ?_, h.below hB, hB⟩
  simp only [List.mem_cons, List.not_mem_nil, or_false] at hx
  rcases hx with rfl | rfl
  · refine ⟨?_, fun e => by have := h.lt _ e; simp only at this; omega⟩
    rw [World.cell?_alloc_lt _ _ _ (by simp), cell_of_row _ _ 0 _ _ (0, 0) (heap_alloc_new w _)]; rfl
  · refine ⟨?_, fun e => by have := h.lt _ e; simp only at this; omega⟩
    have := heap_alloc_new (w.alloc (.cells #[v1] t1)) (.cells #[v2] t2)
    rw [size1] at this
    rw [cell_of_row _ _ 0 _ _ (0, 0) this]; rfl
theorem OpK.new3 (w : World) (p : Nat) (S : Nat → Prop) (d : DiskM) (h : DiskAt w p S d) (v1 v2 v3 : Value) (t1 t2 t3 : TypeId) :
    OpK w p S d [(w.heap.size, v1), (w.heap.size + 1, v2), (w.heap.size + 2, v3)] (((w.alloc (.cells #[v1] t1)).alloc (.cells #[v2] t2)).alloc (.cells #[v3] t3)) := by
  have h2 := (OpK.new2 w p S d h v1 v2 t1 t2).step ((Below.refl _ _).alloc (Nat.le_refl _) (.cells #[v3] t3))
  refine ⟨fun x hx => ?_, h2.disk, h2.below⟩
  simp only [List.mem_cons, List.not_mem_nil, or_false] at hx
  rcases hx with rfl | rfl | rfl
  · exact h2.box _ (by simp)
  · exact h2.box (w.heap.size + 1, v2) (by simp)
  · refine ⟨?_, fun e => by have := h.lt _ e; simp only at this; omega⟩
    have := heap_alloc_new ((w.alloc (.cells #[v1] t1)).alloc (.cells #[v2] t2)) (.cells #[v3] t3)
    rw [size1, size1] at this
    rw [cell_of_row _ _ 0 _ _ (0, 0) this]; rfl
/-- back to the world ahead of the op -/
theorem OpK.back {w W w' : World} {p : Nat} {S : Nat → Prop} {d d' : DiskM} {xs : List (Nat × Value)} (h : OpK w p S d xs W) (h1 : DiskAt w' p (Grow S W w') d') (h2 : Kept S W w') : DiskAt w' p (Grow S w w') d' ∧ Kept S w w' := by
  have hs := h.below.size
  refine ⟨h1.mono (fun i hi => ?_) (fun i hi => ?_), (Kept.of_below h.below S).trans h2 (fun _ _ e => e)⟩
  · rcases hi with hi | hi
    · exact .inl hi
    · exact .inr ⟨by omega, hi.2⟩
  · rcases hi with hi | hi
    · exact h1.lt i (.inl hi)
    · exact hi.2

theorem why_2 (d : DiskM) (o : OpM) (h : o.kind = 2) : whyM d o = if hasL d.L o.a = true then 0 else 51 := by
  unfold whyM
  rw [if_neg (by rw [h]; simp), h]
  cases hasL d.L o.a <;> simp
theorem why_4 (d : DiskM) (o : OpM) (h : o.kind = 4) : whyM d o = if hasL d.L o.a = true then 0 else 51 := by
  unfold whyM
  rw [if_neg (by rw [h]; simp), h]
  cases hasL d.L o.a <;> simp
theorem ok_len {d : DiskM} (h : Ok d) {f : FileM} (hf : f ∈ d.L) : f.bytes.length ≤ 10000000000 := by
  have := used_le hf
  have := h.room
  have := h.most
  omega

theorem DiskAt.of {w : World} {p b : Nat} {S : Nat → Prop} {m : Meta} {F : List (FileM × Value)} {d : DiskM} (h : DiskRaw w p b S m F) (e : m = d.meta_) (hp : (F.map (·.1)).Perm d.L) : DiskAt w p S d := by subst e; exact ⟨b, F, h, hp⟩
theorem used_0 {L : List FileM} {o : OpM} (hk : o.kind = 0) (h : hasL L o.a = false) : usedL (doesL L o) = usedL L := by
  unfold doesL
  rw [if_pos hk, usedL_put, wo_none h]
  simp [FileM.bytes]
theorem used_1 {L : List FileM} (hr : Rise L) {o : OpM} (hk : o.kind = 1) {f : FileM} (h : getL L o.a = some f) : usedL (doesL L o) = usedL L + o.b.length ∧ doesL L o = putL L ⟨f.name, f.safe, f.loose ++ o.b⟩ := by
  have e : doesL L o = putL L ⟨f.name, f.safe, f.loose ++ o.b⟩ := by
    unfold doesL
    rw [if_neg (by omega), h]
    dsimp only
    rw [if_pos hk]
  refine ⟨?_, e⟩
  have hu := used_wo hr h
  obtain ⟨_, m2⟩ := getL_some h
  rw [e, usedL_put]
  simp only [m2]
  simp only [FileM.bytes, List.length_append] at hu ⊢
  omega
theorem used_2 {L : List FileM} (hr : Rise L) {o : OpM} (hk : o.kind = 2) {f : FileM} (h : getL L o.a = some f) : usedL (doesL L o) = usedL L ∧ doesL L o = putL L ⟨f.name, f.safe ++ f.loose, []⟩ := by
  have e : doesL L o = putL L ⟨f.name, f.safe ++ f.loose, []⟩ := by
    unfold doesL
    rw [if_neg (by omega), h]
    dsimp only
    rw [if_neg (by omega), if_pos hk]
  refine ⟨?_, e⟩
  have hu := used_wo hr h
  obtain ⟨_, m2⟩ := getL_some h
  rw [e, usedL_put]
  simp only [m2]
  simp only [FileM.bytes, List.length_append, List.length_nil] at hu ⊢
  omega
theorem size_wo {L : List FileM} (hr : Rise L) (n : Nm) : usedL L = usedL (wo L n) + sizeN L n := by
  unfold sizeN
  cases h : getL L n with
  | none => rw [wo_none (getL_none.1 h)]; rfl
  | some f => exact used_wo hr h
theorem used_3 {L : List FileM} (hr : Rise L) {o : OpM} (hk : o.kind = 3) {f : FileM} (h : getL L o.a = some f) : (usedL (doesL L o) : Int) = usedL L - sizeN (wo L o.a) o.b ∧ doesL L o = putL (wo L o.a) ⟨o.b, f.safe, f.loose⟩ := by
  have e : doesL L o = putL (wo L o.a) ⟨o.b, f.safe, f.loose⟩ := by
    unfold doesL
    rw [if_neg (by omega), h]
    dsimp only
    rw [if_neg (by omega), if_neg (by omega), if_pos hk]
  refine ⟨?_, e⟩
  have hu := used_wo hr h
  have hv := size_wo (rise_wo hr o.a) o.b
  rw [e, usedL_put]
  simp only [FileM.bytes, List.length_append] at hu ⊢
  omega
theorem used_4 {L : List FileM} (hr : Rise L) {o : OpM} (hk : o.kind = 4) {f : FileM} (h : getL L o.a = some f) : (usedL (doesL L o) : Int) = usedL L - sizeN L o.a ∧ doesL L o = wo L o.a := by
  have e : doesL L o = wo L o.a := by
    unfold doesL
    rw [if_neg (by omega), h]
    dsimp only
    rw [if_neg (by omega), if_neg (by omega), if_neg (by omega), if_pos hk]
  refine ⟨?_, e⟩
  have hv := size_wo hr o.a
  rw [e]
  omega

/-- a done op's disk -/
theorem op_sync (s : ByteArray) (hs : s.size ≤ maxLen) (o : OpM) (hk : o.kind = 2) (ha : o.a = toL s) (own : Int) (w W : World) (p g1 g2 : Nat) (S : Nat → Prop) (d : DiskM) (hok : Ok d) (hl : d.L.length ≤ 1000000) (how : own = whyM d o)
    (h : OpK w p S d [(g1, pt p), (g2, .string s)] W) :
    Calls Try.prog 50 #[pt p, .int .i64 own, .func (.func 56) #[] #[pt g1, pt g2]] W fun e w' => e = .returned (.int .i64 (doM d o).2) ∧ DiskAt w' p (Grow S w w') (doM d o).1 ∧ Kept S w w' ∧ BoxK [(g1, pt p), (g2, .string s)] w' := by
  rw [doM_op, ← how]
  refine (op_any 56 _ own W p S d (d.next o) h.disk hok.fuse (enters_of Try.func56 (by kernel_rfl) rfl) (fun h0 b F W1 hr hp hk1 hz => ?_)).mono (fun e w' ⟨e1, e2, e3⟩ => ⟨e1, (h.back e2 e3).1, (h.back e2 e3).2, h.kept e3⟩)
  rw [h0] at how
  obtain ⟨f, hf⟩ := (why_zero how.symm).2.1 (by omega)
  rw [ha] at hf
  obtain ⟨m1, m2⟩ := getL_some hf
  have b1 := h.box (g1, pt p) (by simp)
  have b2 := h.box (g2, .string s) (by simp)
  have sp : S p := hr.sp
  have c1 := hk1.cell b1.1 (fun e => b1.2 (by rw [e]; exact sp))
  have c2 := hk1.cell b2.1 (fun e => b2.2 (by rw [e]; exact sp))
  refine (sync1 s hs W1 p b g1 g2 S _ F d.L hr hp c1 c2 b1.2 b2.2 f hf (ok_len hok m1) (by rw [perm_len hp]; exact hl)).mono ?_
  rintro e w' ⟨rfl, v, k1, k2⟩
  have hf' : getL d.L o.a = some f := by rw [ha]; exact hf
  obtain ⟨u1, u2⟩ := used_2 hok.rise hk hf'
  refine ⟨rfl, DiskAt.of k1 ?_ ?_, k2⟩
  · simp only [DiskM.meta_, DiskM.next, u1]
  · show (_ : List FileM).Perm (doesL d.L o)
    rw [u2]
    have := perm_put hp ⟨f.name, f.safe ++ f.loose, []⟩ v
    simp only [m2] at this ⊢
    exact this

set_option maxHeartbeats 1000000 in
theorem sync_any (s : ByteArray) (hs : s.size ≤ maxLen) (o : OpM) (hk : o.kind = 2) (ha : o.a = toL s) (w : World) (p : Nat) (S : Nat → Prop) (d : DiskM) (hok : Ok d) (hl : d.L.length ≤ 1000000) (h : DiskAt w p S d) :
    Calls Try.prog 39 #[pt p, .string s] w fun e w' => e = .returned (.int .i64 (doM d o).2) ∧ DiskAt w' p (Grow S w w') (doM d o).1 ∧ Kept S w w' := by
  have hwhy := why_2 d o hk
  rw [ha] at hwhy
  have HK := Lib.hid (OpK.new2 w p S d h (pt p) (.string s) 26 9)
  have HH := Lib.hid (fun W (h : OpK w p S d [(w.heap.size, pt p), (w.heap.size + 1, .string s)] W) => has_any s hs W p S d h.disk)
  have HN := Lib.hid (fun W => named_any (hasL d.L (toL s)) W)
  rw [← hwhy] at HN
  generalize hasL d.L (toL s) = hb at *
  generalize hwo : whyM d o = own at *
  have HO : Hid (∀ W, OpK w p S d [(w.heap.size, pt p), (w.heap.size + 1, .string s)] W → Calls Try.prog 50 #[pt p, .int .i64 own, .func (.func 56) #[] #[pt w.heap.size, pt (w.heap.size + 1)]] W fun e w' => e = .returned (.int .i64 (doM d o).2) ∧ DiskAt w' p (Grow S w w') (doM d o).1 ∧ Kept S w w' ∧ BoxK [(w.heap.size, pt p), (w.heap.size + 1, .string s)] w') :=
    fun W h1 => op_sync s hs o hk ha own w W p w.heap.size (w.heap.size + 1) S d hok hl hwo.symm h1
  clear h hwo hwhy
  generalize (doM d o).1 = d' at *
  generalize (doM d o).2 = er at *
  go_enter Try.func39, Try.ntmps39
  go_wp2
  generalize (w.alloc (.cells #[pt p] 26)).alloc (.cells #[.string s] 9) = W at *
  go_region_held3 (fun w' => w'.cell? ⟨w.heap.size, 0, none⟩ = some (pt p) ∧ w'.cell? ⟨w.heap.size + 1, 0, none⟩ = some (.string s))
    (first | assumption | exact BoxK.two (by assumption) | exact HK.out.drew.boxes.two)
    (first | (go_at_call 52; refine (HH.out _ HK.out.drew).mono ?_; rintro e w3 ⟨rfl, hB3⟩; have HK3 := Lib.hid (HK.out.drew.step hB3); have hx3 := HK3.out.boxes) | (go_at_call 51; refine (HN.out _).mono ?_; rintro e w4 ⟨rfl, rfl⟩) | (go_at_call 50; refine (HO.out _ HK3.out).mono ?_; rintro e w5 ⟨rfl, hD5, hK5, hx5⟩))
  all_goals
    go_wp2
    go_ret
    exact ⟨rfl, by assumption, by assumption⟩
end Go.Proofs.Ytammmhbkfdmbfaa
