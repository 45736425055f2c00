/- Layer 5's laws: Same. -/
import Derived.Test.YtammmhbkfdmbfaaU9
import Derived.BigRegion
namespace Go.Proofs.Ytammmhbkfdmbfaa
open Go.RowKit
set_option linter.unusedVariables false

variable {K X : Nat → Prop} {w0 w w' : World} {p : Nat} {d e : DiskM} {a : Option Addr}
/-- whatever is called on the program's disk alone, in its own blocks; with all that stays -/
theorem Duo.stepF (h : Duo X w0 w p d e a) {f : FuncId} {args : Array Value} {r : Value} {P : DiskM → Prop}
    (hc : ∀ K, (∀ i, K i → w0.heap.size ≤ i) → (∀ i, X i → ¬ K i) → Liv K w w p d → Calls Try.prog f args w fun r' w' => r' = .returned r ∧ ∃ d', P d' ∧ Liv K w w' p d') :
    Calls Try.prog f args w fun r' w' => r' = .returned r ∧ ∃ d', P d' ∧ Duo X w0 w' p d' e a ∧ Below w0.heap.size w w' ∧ ∀ i, X i → w'.heap[i]? = w.heap[i]? := by
  obtain ⟨S, hS, h1, h2, h3⟩ := h.ex
  have hL : Liv (fun i => S i ∨ w.heap.size ≤ i) w w p d := ⟨fun i hi => .inr hi, ⟨S, hS, fun i hi => .inl hi⟩, Kept.refl _ _, h.ok⟩
  have hKB : ∀ i, (S i ∨ w.heap.size ≤ i) → w0.heap.size ≤ i := fun i hi => by
    rcases hi with hi | hi
    · exact h1 i hi
    · have := h.below.size; omega
  refine (hc _ hKB (fun i hi hx => by
    rcases hx with hx | hx
    · exact h3 i hi hx
    · have := (h.box i hi).2; omega) hL).mono ?_
  rintro r w' ⟨rfl, d', hp, hL'⟩
  obtain ⟨T, hT, hTK⟩ := hL'.ex
  have hlow : Below w0.heap.size w w' := hL'.kept.below h.below.size hKB
  refine ⟨rfl, d', hp, ⟨⟨T, hT, fun i hi => hKB i (hTK i hi), fun b o' ea hne => ⟨fun ht => ?_, (h2 b o' ea hne).2⟩, fun i hi ht => ?_⟩, ?_, hL'.ok, h.oke, fun i hi => ⟨(h.box i hi).1, Nat.lt_of_lt_of_le (h.box i hi).2 hL'.kept.size⟩, h.below.trans hlow⟩, hlow, fun i hi => ?_⟩
  · rcases hTK b ht with hx | hx
    · exact (h2 b o' ea hne).1 hx
    · subst ea
      have := h.row.lt hne
      omega
  · rcases hTK i ht with hx | hx
    · exact h3 i hi hx
    · have := (h.box i hi).2; omega
  · intro k hk
    obtain ⟨b, off, ea, q1, q2⟩ := h.row k hk
    have hne : e.L ≠ [] := fun hx => by rw [hx] at hk; exact absurd hk (by simp [fiC])
    refine ⟨b, off, ea, Nat.lt_of_lt_of_le q1 hL'.kept.size, hL'.kept.cell q2 (fun hx => ?_)⟩
    rcases hx with hx | hx
    · exact (h2 b off ea hne).1 hx
    · omega
  · exact hL'.kept.block i (h.box i hi).2 (fun hx => by
      rcases hx with hx | hx
      · exact h3 i hi hx
      · have := (h.box i hi).2; omega)
/-- what a call that only makes memory has made is apart, too -/
theorem Duo.grow (h : Duo X w0 w p d e a) (k : Below w.heap.size w w') : Duo (fun i => X i ∨ (w.heap.size ≤ i ∧ i < w'.heap.size)) w0 w' p d e a := by
  obtain ⟨S, hS, h1, h2, h3⟩ := h.ex
  refine ⟨⟨S, hS.below k, h1, fun b o ea hL => ⟨(h2 b o ea hL).1, fun hx => ?_⟩, fun i hi hs => ?_⟩, h.row.below k, h.ok, h.oke, fun i hi => ?_, h.below.trans (k.mono h.below.size)⟩
  · rcases hx with hx | hx
    · exact (h2 b o ea hL).2 hx
    · subst ea
      have := h.row.lt hL
      omega
  · rcases hi with hi | hi
    · exact h3 i hi hs
    · have := hS.lt i hs
      omega
  · rcases hi with hi | hi
    · have := h.box i hi
      have := k.size
      omega
    · have := h.below.size
      omega
theorem DiskAt.far {S : Nat → Prop} {B : Nat} (hS : DiskAt w p S d) (hb : Below B w w') (hk : ∀ i, S i → w'.heap[i]? = w.heap[i]?) : DiskAt w' p S d :=
  hS.kept (T := fun i => ¬ S i) ⟨hb.os, hb.tape, hb.output, hb.size, fun i _ hT => hk i (Classical.not_not.1 hT)⟩ (fun i hi h => h hi)
theorem Sl.far {xs : List Value} {na : Option Addr} (h : Sl w na xs) (hs : w.heap.size ≤ w'.heap.size) (hk : ∀ b o, na = some ⟨b, o, none⟩ → b < w.heap.size → w'.heap[b]? = w.heap[b]?) : Sl w' na xs := fun j hj => by
  obtain ⟨b, off, ea, q1, q2⟩ := h j hj
  refine ⟨b, off, ea, Nat.lt_of_lt_of_le q1 hs, ?_⟩
  rw [← q2]
  unfold World.cell?
  rw [hk b off ea q1]
/-- a crash that keeps what a row apart says -/
theorem Duo.crashX (h : Duo X w0 w p d e a) (keep : List Int) (g n : Nat) (hn : n = keep.length) (hg : X g) (xs : Array Value) (hxs : xs.toList = intV keep) (t : TypeId) (hb : w.heap[g]? = some (.cells xs t (0, 0))) (hkm : keep.length ≤ maxLen) (hl : d.L.length ≤ 1000000) :
    Calls Try.prog 28 #[pt p, .slice (some ⟨g, 0, none⟩) n n] w fun r w' => r = .returned (.tuple #[]) ∧ ∃ d', d' = crashM d keep ∧ Duo X w0 w' p d' e a ∧ Below w0.heap.size w w' ∧ ∀ i, X i → w'.heap[i]? = w.heap[i]? := by
  subst hn
  refine h.stepF fun K hK hX hL => (liv_crash keep _ _ (Nat.le_refl _) hkm hL hl (fun S hS _ j hj => ?_)).mono fun r w' ⟨h1, h2⟩ => ⟨h1, _, rfl, h2⟩
  refine ⟨g, 0, rfl, (h.box g hg).2, fun hx => hX g hg (hS g hx).1, ?_⟩
  have hj2 : j < xs.toList.length := by rw [hxs]; exact hj
  rw [Nat.zero_add, cell_of_row _ _ j _ _ _ hb]
  rw [Array.getElem?_eq_getElem (by simpa using hj2)]
  congr 1
  have : xs.toList[j] = (intV keep)[j] := by simp only [hxs]
  rw [← this]; simp
theorem Duo.bytesX (h : Duo X w0 w p d e a) (n : Nm) (hn : n.length ≤ 140737488351232) (hd : d.down = false) :
    Calls Try.prog 31 #[pt p, .string (tx n)] w fun r w' => r = .returned (.tuple #[.string (tx (textL d.L n)), .bool (hasL d.L n)]) ∧ ∃ d', (∃ rd, d' = { d with reads := rd }) ∧ Duo X w0 w' p d' e a ∧ Below w0.heap.size w w' ∧ ∀ i, X i → w'.heap[i]? = w.heap[i]? :=
  h.stepF fun K hK _ hL => (bytes_any n hn hd hL).mono fun r w' ⟨h1, rd, h2⟩ => ⟨h1, _, ⟨rd, rfl⟩, h2⟩
def full : List Int := [1073741824, 1073741824, 1073741824, 1073741824, 1073741824, 1073741824, 1073741824, 1073741824, 1073741824, 1073741824, 1073741824, 1073741824]
/-- a crash that keeps all -/
theorem crash_full : ∀ (L : List FileM) (keep : List Int), L.length ≤ keep.length → (∀ x ∈ keep, x = 1073741824) → (∀ f ∈ L, f.loose.length ≤ 1073741824) → ∀ k (hk : k < L.length), ∃ h : k < (crashL L keep).length, (crashL L keep)[k].bytes = L[k].bytes
  | f :: r, x :: ks, hl, hx, hf, 0, _ => by
    by_cases h0 : f.loose = []
    · have e : crashL (f :: r) (x :: ks) = f :: crashL r (x :: ks) := by rw [crashL, if_pos h0]
      simp only [e]
      exact ⟨by simp, rfl⟩
    · have e : crashL (f :: r) (x :: ks) = settleF f x :: crashL r ks := by rw [crashL, if_neg h0]; rfl
      simp only [e]
      refine ⟨by simp, ?_⟩
      have h1 := hx x (by simp)
      have h2 := hf f (by simp)
      have : kept x f.loose.length = f.loose.length := by unfold kept; omega
      simp [settleF, FileM.bytes, this]
  | f :: r, x :: ks, hl, hx, hf, k + 1, hk => by
    by_cases h0 : f.loose = []
    · have e : crashL (f :: r) (x :: ks) = f :: crashL r (x :: ks) := by rw [crashL, if_pos h0]
      simp only [e]
      obtain ⟨q, h1⟩ := crash_full r (x :: ks) (by simp at hl ⊢; omega) hx (fun g hg => hf g (List.mem_cons_of_mem _ hg)) k (by simpa using hk)
      exact ⟨by simpa using q, by simpa using h1⟩
    · have e : crashL (f :: r) (x :: ks) = settleF f x :: crashL r ks := by rw [crashL, if_neg h0]; rfl
      simp only [e]
      obtain ⟨q, h1⟩ := crash_full r ks (by simpa using hl) (fun y hy => hx y (List.mem_cons_of_mem _ hy)) (fun g hg => hf g (List.mem_cons_of_mem _ hg)) k (by simpa using hk)
      exact ⟨by simpa using q, by simpa using h1⟩
  | f :: r, [], hl, _, _, _, _ => by simp at hl
/-- what the copy that keeps all tells of a file -/
theorem full_told {d : DiskM} (h : Ok d) {k : Nat} (hk : k < d.L.length) : hasL (crashM d full).L d.L[k].name = true ∧ (d.L.length ≤ 12 → textL (crashM d full).L d.L[k].name = d.L[k].bytes) ∧ (textL (crashM d full).L d.L[k].name).length ≤ 1073741824 := by
  obtain ⟨q, m, h1, h2, h3, h4⟩ := crash_get d.L full k hk
  obtain ⟨t1, _, _, t4⟩ := (h.crash full).told (k := k) q
  have e : (crashM d full).L[k].name = d.L[k].name := h2
  rw [e] at t1 t4
  refine ⟨t1, fun h12 => ?_, ?_⟩
  · rw [t4]
    obtain ⟨_, h5⟩ := crash_full d.L full h12 (by decide) (fun f hf => by
      have u1 := used_le hf
      have u2 := h.room
      have u3 := h.most
      have u4 : f.bytes.length = f.safe.length + f.loose.length := by simp [FileM.bytes]
      omega) k hk
    exact h5
  · have u1 := text_used (L := (crashM d full).L) d.L[k].name
    have u2 := (h.crash full).room
    have u3 := (h.crash full).most
    omega
set_option maxRecDepth 100000 in
set_option maxHeartbeats 8000000 in
theorem same_any (w : World) (c : Nat) (h : Duo X w0 w p d d a) (hl : d.L.length ≤ 60) :
    Calls Try.prog 15 #[pt p, refV a c d] w fun r w' => r = .returned (.int .i64 0) ∧ Duo X w0 w' p d d a ∧ ∀ i, X i → w'.heap[i]? = w.heap[i]? := by
  have HALC := Lib.hid (fun ob => h.alloc ob)
  have hbx := Lib.hid (fun ob => heap_alloc_new w ob)
  have HKA := Lib.hid (fun ob i (hi : X i) => Below.heap_alloc w ob i (h.box i hi).2)
  have HOK := Lib.hid h.ok
  unfold refV
  clear h
  go_enter Try.func15, Try.ntmps15
  go_wp2_with fail
  have h1 := HALC.out (.cells #[.slice a d.L.length c, .int .i64 d.limit, .int .i64 d.fuse, .int .i64 d.ops, .int .i64 d.reads, .bool d.down] 30)
  have HB1 : Hid (BoxD (w.alloc (.cells #[.slice a d.L.length c, .int .i64 d.limit, .int .i64 d.fuse, .int .i64 d.ops, .int .i64 d.reads, .bool d.down] 30)) w.heap.size a c d) := hbx.out _
  have HK1 := Lib.hid (HKA.out (.cells #[.slice a d.L.length c, .int .i64 d.limit, .int .i64 d.fuse, .int .i64 d.ops, .int .i64 d.reads, .bool d.down] 30))
  clear HALC hbx HKA
  generalize w.heap.size = B at *
  generalize (w.alloc (.cells #[.slice a d.L.length c, .int .i64 d.limit, .int .i64 d.fuse, .int .i64 d.ops, .int .i64 d.reads, .bool d.down] 30)) = W1 at *
  obtain ⟨S, hS, hS1, hS2, hS3⟩ := h1.ex
  refine (copy_any W1 p S d HOK.out (by omega) hS).mono ?_
  rintro e w2 ⟨q, T, rfl, hT, hT1, hb2⟩
  -- the copy's side: the law's boxes and the disk's own blocks are to stay
  have HQ : Hid (Duo (fun i => (X i ∨ i = B) ∨ S i) w0 w2 q d d a) :=
    ⟨⟨T, hT, fun i hi => by have := hT1 i hi; have := h1.below.size; omega, fun b o ea hne => ⟨fun ht => by have := hT1 b ht; subst ea; have := h1.row.lt hne; omega, fun hx => by
        rcases hx with hx | hx
        · exact (hS2 b o ea hne).2 hx
        · exact (hS2 b o ea hne).1 hx⟩, fun i hi ht => by
        have := hT1 i ht
        rcases hi with hi | hi
        · have := (h1.box i hi).2; omega
        · have := hS.lt i hi; omega⟩, h1.row.below hb2, h1.ok, h1.oke, fun i hi => by
        have := hb2.size
        rcases hi with hi | hi
        · have := h1.box i hi; omega
        · have := hS1 i hi; have := hS.lt i hi; omega, h1.below.trans (hb2.mono h1.below.size)⟩
  have HEND : Hid (∀ W d', Duo (fun i => (X i ∨ i = B) ∨ S i) w0 W q d' d a → DiskAt W p S d → Duo X w0 W p d d a) := fun W d' hd hs =>
    ⟨⟨S, hs, hS1, fun b o ea hne => ⟨(hS2 b o ea hne).1, fun hx => (hS2 b o ea hne).2 (.inl hx)⟩, fun i hi => hS3 i (.inl hi)⟩, hd.row, h1.ok, h1.ok, fun i hi => hd.box i (.inl (.inl hi)), hd.below⟩
  have HDK : Hid (∀ W, Below w2.heap.size w2 W → DiskAt W p S d) := fun W hb => (hS.below hb2).below hb
  have hb2' : BoxD w2 B a c d := (hb2.block B ((h1.box B (.inr rfl)).2)).trans HB1.out
  have HBX := Lib.hid (fun W (hb : Below w2.heap.size w2 W) => (cells6 ((hb.block B (Nat.lt_of_lt_of_le (h1.box B (.inr rfl)).2 hb2.size)).trans hb2')).1)
  have HK2 : Hid (∀ W, Below w2.heap.size w2 W → ∀ i, X i → W.heap[i]? = w.heap[i]?) := fun W hb i hi => (hb.block i (Nat.lt_of_lt_of_le (h1.box i (.inl hi)).2 hb2.size)).trans ((hb2.block i (h1.box i (.inl hi)).2).trans (HK1.out i hi))
  have HRW := Lib.hid (fun W (hb : Below w2.heap.size w2 W) => (h1.row.below hb2).below hb)
  have HBL : Hid (∀ W, Below w2.heap.size w2 W → BoxD W B a c d) := fun W hb => (hb.block B (Nat.lt_of_lt_of_le (h1.box B (.inr rfl)).2 hb2.size)).trans hb2'
  clear h1 hS hS1 hS2 hS3 hT hT1 hb2 hb2' HB1 HK1
  have HB2 : Hid (Below w2.heap.size w2 w2.drew) := (Below.refl _ _).drew
  have HDN := Lib.hid (fun W (hb : Below w2.heap.size w2 W) => down_any W p S d (HDK.out _ hb))
  have HUS := Lib.hid (fun W (hb : Below w2.heap.size w2 W) => used_any W p S d (HDK.out _ hb))
  have HLI := Lib.hid (fun W (hb : Below w2.heap.size w2 W) => limit_any W p S d (HDK.out _ hb))
  have HOP := Lib.hid (fun W (hb : Below w2.heap.size w2 W) => ops_any W p S d (HDK.out _ hb))
  have HRU := Lib.hid (fun W (hb : Below w2.heap.size w2 W) => refUsed_any a c d W (HRW.out _ hb) (by omega) HOK.out.used)
  have HFL := Lib.hid (fun W (hb : Below w2.heap.size w2 W) => files_any W p S d HOK.out (by omega) (HDK.out _ hb))
  have HTD := Lib.hid (fun k (hk : k < d.L.length) => full_told HOK.out hk)
  have HCRX := Lib.hid (fun (Y : Nat → Prop) W (hd : Duo Y w0 W q d d a) g (hg : Y g) hb => hd.crashX full g 12 rfl hg #[.int .i64 1073741824, .int .i64 1073741824, .int .i64 1073741824, .int .i64 1073741824, .int .i64 1073741824, .int .i64 1073741824, .int .i64 1073741824, .int .i64 1073741824, .int .i64 1073741824, .int .i64 1073741824, .int .i64 1073741824, .int .i64 1073741824] rfl 3 hb (by unfold maxLen full; decide) (by omega))
  unfold refV at HRU
  go_wp2_with fail
  refine wp_region_held_drew (S := (fun W => W.cell? ⟨B, 0, none⟩ = some (.slice a d.L.length c) ∧ W.cell? ⟨B, 1, none⟩ = some (.int .i64 d.limit) ∧ W.cell? ⟨B, 2, none⟩ = some (.int .i64 d.fuse) ∧ W.cell? ⟨B, 3, none⟩ = some (.int .i64 d.ops) ∧ W.cell? ⟨B, 4, none⟩ = some (.int .i64 d.reads) ∧ W.cell? ⟨B, 5, none⟩ = some (.bool d.down))) (by kernel_rfl) ?_ (fun hHeld => ?_)
  · exact HBX.out _ HB2.out
  refine wpAnyH_take (i := 0) (oi := ⟨some 19, _, _, _, _, _⟩) (v := ?_) rfl (by kernel_rfl) (by kernel_rfl) (by kernel_rfl) (fun _ _ _ h => h) (Or.inl ⟨by rfl, ?_⟩) (by assumption) ?_
  rotate_left
  · (intro wS hSw; (try dsimp only at hSw); (go_simp) <;> (with_reducible rfl))
  (try simp only [Act.put, List.setIfInBounds_toArray, List.set_cons_zero, List.set_cons_succ])
  refine wpAnyH_take (i := 2) (oi := ⟨some 21, _, _, _, _, _⟩) (v := ?_) rfl (by kernel_rfl) (by kernel_rfl) (by kernel_rfl) (fun _ _ _ h => h) (Or.inl ⟨by rfl, ?_⟩) (by assumption) ?_
  rotate_left
  · (intro wS hSw; (try dsimp only at hSw); (go_simp) <;> (with_reducible rfl))
  (try simp only [Act.put, List.setIfInBounds_toArray, List.set_cons_zero, List.set_cons_succ])
  refine wpAnyH_take (i := 3) (oi := ⟨some 22, _, _, _, _, _⟩) (v := ?_) rfl (by kernel_rfl) (by kernel_rfl) (by kernel_rfl) (fun _ _ _ h => h) (Or.inl ⟨by rfl, ?_⟩) (by assumption) ?_
  rotate_left
  · (intro wS hSw; (try dsimp only at hSw); (go_simp) <;> (with_reducible rfl))
  (try simp only [Act.put, List.setIfInBounds_toArray, List.set_cons_zero, List.set_cons_succ])
  refine wpAnyH_ready (rs := [1]) (by kernel_rfl) (by simp) ?_
  refine AllReadyH.cons (o := ⟨some 20, _, _, _, _, _⟩) rfl (fun K hK => ?_) AllReadyH.nil
  go_simp
  refine (HDN.out _ HB2.out).mono ?_
  rintro e w3 ⟨rfl, rfl⟩
  go_wp2_with fail
  refine hK.out _ _ ?_ (fun hH1 => ?_)
  · exact HBX.out _ HB2.out
  clear hK K
  (try simp only [Act.put, List.setIfInBounds_toArray, List.set_cons_zero, List.set_cons_succ])
  refine wpAnyH_take (i := 4) (oi := ⟨some 23, _, _, _, _, _⟩) (v := ?_) rfl (by kernel_rfl) (by kernel_rfl) (by kernel_rfl) (fun _ _ _ h => h) (Or.inl ⟨by rfl, ?_⟩) (by assumption) ?_
  rotate_left
  · (intro wS hSw; (try dsimp only at hSw); (go_simp) <;> (with_reducible rfl))
  (try simp only [Act.put, List.setIfInBounds_toArray, List.set_cons_zero, List.set_cons_succ])
  refine wpAnyH_take (i := 5) (oi := ⟨some 24, _, _, _, _, _⟩) (v := ?_) rfl (by kernel_rfl) (by kernel_rfl) (by kernel_rfl) (fun _ _ _ h => h) (Or.inl ⟨by rfl, ?_⟩) (by assumption) ?_
  rotate_left
  · (intro wS hSw; (try dsimp only at hSw); (go_simp) <;> (with_reducible rfl))
  (try simp only [Act.put, List.setIfInBounds_toArray, List.set_cons_zero, List.set_cons_succ])
  refine wpAnyH_take (i := 6) (oi := ⟨some 25, _, _, _, _, _⟩) (v := ?_) rfl (by kernel_rfl) (by kernel_rfl) (by kernel_rfl) (fun _ _ _ h => h) (Or.inl ⟨by rfl, ?_⟩) (by assumption) ?_
  rotate_left
  · (intro wS hSw; (try dsimp only at hSw); (go_simp) <;> (with_reducible rfl))
  (try simp only [Act.put, List.setIfInBounds_toArray, List.set_cons_zero, List.set_cons_succ])
  refine wpAnyH_take (i := 8) (oi := ⟨some 27, _, _, _, _, _⟩) (v := ?_) rfl (by kernel_rfl) (by kernel_rfl) (by kernel_rfl) (fun _ _ _ h => h) (Or.inl ⟨by rfl, ?_⟩) (by assumption) ?_
  rotate_left
  · (intro wS hSw; (try dsimp only at hSw); (go_simp) <;> (with_reducible rfl))
  (try simp only [Act.put, List.setIfInBounds_toArray, List.set_cons_zero, List.set_cons_succ])
  refine wpAnyH_ready (rs := [7]) (by kernel_rfl) (by simp) ?_
  refine AllReadyH.cons (o := ⟨some 26, _, _, _, _, _⟩) rfl (fun K hK => ?_) AllReadyH.nil
  go_simp
  refine (HUS.out _ HB2.out).mono ?_
  rintro e w4 ⟨rfl, rfl⟩
  go_wp2_with fail
  refine hK.out _ _ ?_ (fun hH7 => ?_)
  · exact HBX.out _ HB2.out
  clear hK K
  (try simp only [Act.put, List.setIfInBounds_toArray, List.set_cons_zero, List.set_cons_succ])
  refine wpAnyH_ready (rs := [9]) (by kernel_rfl) (by simp) ?_
  refine AllReadyH.cons (o := ⟨some 28, _, _, _, _, _⟩) rfl (fun K hK => ?_) AllReadyH.nil
  go_simp
  refine (HRU.out _ HB2.out).mono ?_
  rintro e w5 ⟨rfl, h5⟩
  have HB5 : Hid (Below w2.heap.size w2 w5) := HB2.out.trans (h5.mono HB2.out.size)
  clear h5
  go_wp2_with fail
  refine hK.out _ _ ?_ (fun hH9 => ?_)
  · exact HBX.out _ HB5.out
  clear hK K
  (try simp only [Act.put, List.setIfInBounds_toArray, List.set_cons_zero, List.set_cons_succ])
  refine wpAnyH_take (i := 10) (oi := ⟨some 29, _, _, _, _, _⟩) (v := ?_) rfl (by kernel_rfl) (by kernel_rfl) (by kernel_rfl) (fun _ _ _ h => h) (Or.inl ⟨by rfl, ?_⟩) (by assumption) ?_
  rotate_left
  · (intro wS hSw; (try dsimp only at hSw); (go_simp) <;> (with_reducible rfl))
  (try simp only [Act.put, List.setIfInBounds_toArray, List.set_cons_zero, List.set_cons_succ])
  refine wpAnyH_take (i := 11) (oi := ⟨some 30, _, _, _, _, _⟩) (v := ?_) rfl (by kernel_rfl) (by kernel_rfl) (by kernel_rfl) (fun _ _ _ h => h) (Or.inl ⟨by rfl, ?_⟩) (by assumption) ?_
  rotate_left
  · (intro wS hSw; (try dsimp only at hSw); (go_simp) <;> (with_reducible rfl))
  (try simp only [Act.put, List.setIfInBounds_toArray, List.set_cons_zero, List.set_cons_succ])
  refine wpAnyH_take (i := 12) (oi := ⟨some 31, _, _, _, _, _⟩) (v := ?_) rfl (by kernel_rfl) (by kernel_rfl) (by kernel_rfl) (fun _ _ _ h => h) (Or.inl ⟨by rfl, ?_⟩) (by assumption) ?_
  rotate_left
  · (intro wS hSw; (try dsimp only at hSw); (go_simp) <;> (with_reducible rfl))
  (try simp only [Act.put, List.setIfInBounds_toArray, List.set_cons_zero, List.set_cons_succ])
  refine wpAnyH_take (i := 13) (oi := ⟨some 32, _, _, _, _, _⟩) (v := ?_) rfl (by kernel_rfl) (by kernel_rfl) (by kernel_rfl) (fun _ _ _ h => h) (Or.inl ⟨by rfl, ?_⟩) (by assumption) ?_
  rotate_left
  · (intro wS hSw; (try dsimp only at hSw); (go_simp) <;> (with_reducible rfl))
  (try simp only [Act.put, List.setIfInBounds_toArray, List.set_cons_zero, List.set_cons_succ])
  refine wpAnyH_take (i := 15) (oi := ⟨some 34, _, _, _, _, _⟩) (v := ?_) rfl (by kernel_rfl) (by kernel_rfl) (by kernel_rfl) (fun _ _ _ h => h) (Or.inl ⟨by rfl, ?_⟩) (by assumption) ?_
  rotate_left
  · (intro wS hSw; (try dsimp only at hSw); (go_simp) <;> (with_reducible rfl))
  (try simp only [Act.put, List.setIfInBounds_toArray, List.set_cons_zero, List.set_cons_succ])
  refine wpAnyH_take (i := 16) (oi := ⟨some 35, _, _, _, _, _⟩) (v := ?_) rfl (by kernel_rfl) (by kernel_rfl) (by kernel_rfl) (fun _ _ _ h => h) (Or.inl ⟨by rfl, ?_⟩) (by assumption) ?_
  rotate_left
  · (intro wS hSw; (try dsimp only at hSw); (go_simp) <;> (with_reducible rfl))
  (try simp only [Act.put, List.setIfInBounds_toArray, List.set_cons_zero, List.set_cons_succ])
  refine wpAnyH_ready (rs := [14]) (by kernel_rfl) (by simp) ?_
  refine AllReadyH.cons (o := ⟨some 33, _, _, _, _, _⟩) rfl (fun K hK => ?_) AllReadyH.nil
  go_simp
  refine (HLI.out _ HB5.out).mono ?_
  rintro e w6 ⟨rfl, rfl⟩
  go_wp2_with fail
  refine hK.out _ _ ?_ (fun hH14 => ?_)
  · exact HBX.out _ HB5.out
  clear hK K
  (try simp only [Act.put, List.setIfInBounds_toArray, List.set_cons_zero, List.set_cons_succ])
  refine wpAnyH_take (i := 17) (oi := ⟨some 36, _, _, _, _, _⟩) (v := ?_) rfl (by kernel_rfl) (by kernel_rfl) (by kernel_rfl) (fun _ _ _ h => h) (Or.inl ⟨by rfl, ?_⟩) (by assumption) ?_
  rotate_left
  · (intro wS hSw; (try dsimp only at hSw); (go_simp) <;> (with_reducible rfl))
  (try simp only [Act.put, List.setIfInBounds_toArray, List.set_cons_zero, List.set_cons_succ])
  refine wpAnyH_take (i := 18) (oi := ⟨some 37, _, _, _, _, _⟩) (v := ?_) rfl (by kernel_rfl) (by kernel_rfl) (by kernel_rfl) (fun _ _ _ h => h) (Or.inl ⟨by rfl, ?_⟩) (by assumption) ?_
  rotate_left
  · (intro wS hSw; (try dsimp only at hSw); (go_simp) <;> (with_reducible rfl))
  (try simp only [Act.put, List.setIfInBounds_toArray, List.set_cons_zero, List.set_cons_succ])
  refine wpAnyH_take (i := 19) (oi := ⟨some 38, _, _, _, _, _⟩) (v := ?_) rfl (by kernel_rfl) (by kernel_rfl) (by kernel_rfl) (fun _ _ _ h => h) (Or.inl ⟨by rfl, ?_⟩) (by assumption) ?_
  rotate_left
  · (intro wS hSw; (try dsimp only at hSw); (go_simp) <;> (with_reducible rfl))
  (try simp only [Act.put, List.setIfInBounds_toArray, List.set_cons_zero, List.set_cons_succ])
  refine wpAnyH_take (i := 20) (oi := ⟨some 39, _, _, _, _, _⟩) (v := ?_) rfl (by kernel_rfl) (by kernel_rfl) (by kernel_rfl) (fun _ _ _ h => h) (Or.inl ⟨by rfl, ?_⟩) (by assumption) ?_
  rotate_left
  · (intro wS hSw; (try dsimp only at hSw); (go_simp) <;> (with_reducible rfl))
  (try simp only [Act.put, List.setIfInBounds_toArray, List.set_cons_zero, List.set_cons_succ])
  refine wpAnyH_take (i := 22) (oi := ⟨some 41, _, _, _, _, _⟩) (v := ?_) rfl (by kernel_rfl) (by kernel_rfl) (by kernel_rfl) (fun _ _ _ h => h) (Or.inl ⟨by rfl, ?_⟩) (by assumption) ?_
  rotate_left
  · (intro wS hSw; (try dsimp only at hSw); (go_simp) <;> (with_reducible rfl))
  (try simp only [Act.put, List.setIfInBounds_toArray, List.set_cons_zero, List.set_cons_succ])
  refine wpAnyH_take (i := 23) (oi := ⟨some 42, _, _, _, _, _⟩) (v := ?_) rfl (by kernel_rfl) (by kernel_rfl) (by kernel_rfl) (fun _ _ _ h => h) (Or.inl ⟨by rfl, ?_⟩) (by assumption) ?_
  rotate_left
  · (intro wS hSw; (try dsimp only at hSw); (go_simp) <;> (with_reducible rfl))
  (try simp only [Act.put, List.setIfInBounds_toArray, List.set_cons_zero, List.set_cons_succ])
  refine wpAnyH_ready (rs := [21]) (by kernel_rfl) (by simp) ?_
  refine AllReadyH.cons (o := ⟨some 40, _, _, _, _, _⟩) rfl (fun K hK => ?_) AllReadyH.nil
  go_simp
  refine (HOP.out _ HB5.out).mono ?_
  rintro e w7 ⟨rfl, rfl⟩
  go_wp2_with fail
  refine hK.out _ _ ?_ (fun hH21 => ?_)
  · exact HBX.out _ HB5.out
  clear hK K
  (try simp only [Act.put, List.setIfInBounds_toArray, List.set_cons_zero, List.set_cons_succ])
  refine wpAnyH_take (i := 24) (oi := ⟨some 43, _, _, _, _, _⟩) (v := ?_) rfl (by kernel_rfl) (by kernel_rfl) (by kernel_rfl) (fun _ _ _ h => h) (Or.inl ⟨by rfl, ?_⟩) (by assumption) ?_
  rotate_left
  · (intro wS hSw; (try dsimp only at hSw); (go_simp) <;> (with_reducible rfl))
  (try simp only [Act.put, List.setIfInBounds_toArray, List.set_cons_zero, List.set_cons_succ])
  refine wpAnyH_take (i := 25) (oi := ⟨some 44, _, _, _, _, _⟩) (v := ?_) rfl (by kernel_rfl) (by kernel_rfl) (by kernel_rfl) (fun _ _ _ h => h) (Or.inl ⟨by rfl, ?_⟩) (by assumption) ?_
  rotate_left
  · (intro wS hSw; (try dsimp only at hSw); (go_simp) <;> (with_reducible rfl))
  (try simp only [Act.put, List.setIfInBounds_toArray, List.set_cons_zero, List.set_cons_succ])
  refine wpAnyH_done (by kernel_rfl) ?_ _
  have HQ5 := Lib.hid (fun ob => (HQ.out.below_ HB5.out).alloc ob)
  have HB5A := Lib.hid (fun ob => HB5.out.alloc HB5.out.size ob)
  have HNG := Lib.hid (fun ob => heap_alloc_new w7 ob)
  clear HQ HDN HUS HLI HOP HRU HRW HB2
  go_wp2_with fail
  have HOB1 := HQ5.out (.cells #[.int .i64 1073741824, .int .i64 1073741824, .int .i64 1073741824, .int .i64 1073741824, .int .i64 1073741824, .int .i64 1073741824, .int .i64 1073741824, .int .i64 1073741824, .int .i64 1073741824, .int .i64 1073741824, .int .i64 1073741824, .int .i64 1073741824] 3)
  have HOB2 := HB5A.out (.cells #[.int .i64 1073741824, .int .i64 1073741824, .int .i64 1073741824, .int .i64 1073741824, .int .i64 1073741824, .int .i64 1073741824, .int .i64 1073741824, .int .i64 1073741824, .int .i64 1073741824, .int .i64 1073741824, .int .i64 1073741824, .int .i64 1073741824] 3)
  refine (HCRX.out _ _ HOB1 w7.heap.size (.inr rfl) (HNG.out _)).mono ?_
  rintro e w8 ⟨rfl, d8, rfl, h8, hb8, hk8⟩
  have hS8 := (HDK.out _ HOB2).far hb8 (fun i hi => hk8 i (.inl (.inr hi)))
  have hB8 : BoxD w8 B a c d := (hk8 B (.inl (.inl (.inr rfl)))).trans (HBL.out _ HOB2)
  have hX8 : ∀ i, X i → w8.heap[i]? = w.heap[i]? := fun i hi => (hk8 i (.inl (.inl (.inl hi)))).trans (HK2.out _ HOB2 i hi)
  have HDX : Hid ((crashM d full).down = false) := rfl
  clear HOB1 HOB2 HQ5 HB5A HNG HB5 HBX HDK HK2 HBL HCRX hk8 hb8 HFL
  generalize crashM d full = DX at *
  have HFL := Lib.hid (files_any w8 p S d HOK.out (by omega) hS8)
  go_wp2_with fail
  refine (HFL.out).mono ?_
  rintro e w9 ⟨v, rfl, hown, h9⟩
  obtain ⟨na, nc, rfl, _, _, hsl, hlow, _⟩ := own_slice hown
  have hd9 := h8.grow h9
  have hS9 := hS8.below h9
  have hB9 : BoxD w9 B a c d := (h9.block B (h8.box B (.inl (.inl (.inr rfl)))).2).trans hB8
  have hX9 : ∀ i, X i → w9.heap[i]? = w.heap[i]? := fun i hi => (h9.block i (h8.box i (.inl (.inl (.inl hi)))).2).trans (hX8 i hi)
  have hnl : ∀ b o, na = some ⟨b, o, none⟩ → b < w9.heap.size → (((fun i => (((X i ∨ i = B) ∨ S i) ∨ i = w7.heap.size) ∨ (w8.heap.size ≤ i ∧ i < w9.heap.size)) b)) := fun b o ea hlt => .inr ⟨hlow b o ea, hlt⟩
  obtain ⟨XX, hXX⟩ : ∃ XX : Nat → Prop, XX = (fun i => (((X i ∨ i = B) ∨ S i) ∨ i = w7.heap.size) ∨ (w8.heap.size ≤ i ∧ i < w9.heap.size)) := ⟨_, rfl⟩
  rw [← hXX] at hd9 hnl
  have HXB : Hid (∀ i, (X i ∨ i = B) ∨ S i → XX i) := fun i hi => by rw [hXX]; exact .inl (.inl hi)
  have HBS := Lib.hid (fun W (hb : Below w0.heap.size w9 W) (hk : ∀ i, XX i → W.heap[i]? = w9.heap[i]?) => (show (Sl W na (nameV d.L) ∧ BoxD W B a c d ∧ DiskAt W p S d ∧ ∀ i, X i → W.heap[i]? = w.heap[i]?) from ⟨Sl.far hsl hb.size (fun b o ea hlt => hk b (hnl b o ea hlt)), (hk B (HXB.out _ (.inl (.inr rfl)))).trans hB9, hS9.far hb (fun i hi => hk i (HXB.out _ (.inr hi))), fun i hi => (hk i (HXB.out _ (.inl (.inl hi)))).trans (hX9 i hi)⟩))
  have HD9 := Lib.hid hd9
  have hx0 := (cells6 hB9).1.1
  have hz0 := hd9.below.size
  clear h8 hS8 hB8 hX8 hown h9 hsl hlow hd9 hS9 hB9 hX9 hnl hXX HFL
  have HDA : Hid (∃ rd, DX = { DX with reads := rd }) := ⟨DX.reads, rfl⟩
  obtain ⟨Q, hQ⟩ : ∃ Q, Q = d.L.length := ⟨_, rfl⟩
  have HQ := Lib.hid hQ
  rw [← hQ] at hx0 hl
  try rw [← hQ]
  clear hQ
  go_wp2
  go_loopw [6, 65] (fun nn i wr => ∃ (k : Nat) (D' : DiskM), k ≤ Q ∧ i = .int .i64 k ∧ nn = .int .i64 0 ∧ Hid (∃ rd, D' = { DX with reads := rd }) ∧ Hid (Duo XX w0 wr q D' d a) ∧ Hid (Below w0.heap.size w9 wr) ∧ Hid (∀ i, XX i → wr.heap[i]? = w9.heap[i]?)) (fun _ i _ => Q - (intOf i).toNat)
  case atStart => exact ⟨0, DX, by omega, rfl, rfl, HDA, HD9, Below.refl _ _, fun i _ => rfl⟩
  case round =>
    obtain ⟨k, D', hk, rfl, rfl, HRD, HDU, HBW, HKW⟩ := hrel
    obtain ⟨hnm, hbx, hdd, hxx⟩ := HBS.out _ HBW.out HKW.out
    have HXX := Lib.hid hxx
    have HDD := Lib.hid hdd
    by_cases hlt : k < Q
    · have hkl : k < d.L.length := by have := HQ.out; omega
      obtain ⟨nb, no, rfl, hnb, hcn⟩ := name_at hkl hnm
      obtain ⟨fb, fo, rfl, hfb, c0, c1, c2'⟩ := HDU.out.row.at hkl
      obtain ⟨t1, t2, t3⟩ := HTD.out k hkl
      obtain ⟨u1, u2, u3, _⟩ := HOK.out.told hkl
      have hDL : D'.L = DX.L := by obtain ⟨rd, hrd⟩ := HRD.out; rw [hrd]
      have hDD : D'.down = false := by obtain ⟨rd, hrd⟩ := HRD.out; rw [hrd]; exact HDX.out
      have hnm := right_len (HOK.out.names _ (List.getElem_mem hkl))
      have hfit := HOK.out.fit _ (List.getElem_mem hkl)
      have hnz : (tx d.L[k].name).size ≤ maxLen := by rw [tx_size]; unfold maxLen; omega
      have HBY := Lib.hid (fun ob => (HDU.out.alloc ob).bytesX d.L[k].name (by omega) hDD)
      rw [hDL, t1] at HBY
      have HSZ := Lib.hid (fun W (hs : DiskAt W p S d) => size_any (tx d.L[k].name) hnz W p S d hs)
      have HLO := Lib.hid (fun W (hs : DiskAt W p S d) => loose_any (tx d.L[k].name) hnz W p S d hs)
      rw [toL_tx] at HSZ HLO
      rw [u1, u2] at HSZ
      rw [u3] at HLO
      have HRB := Lib.hid (fun W => refBytes_any d.L[k] ⟨hfit.2.1, hfit.2.2⟩ W)
      unfold fV at HRB
      have zb : Hid ((tx d.L[k].bytes).size = d.L[k].bytes.length) := tx_size _
      have zl : Hid ((tx d.L[k].loose).size = d.L[k].loose.length) := tx_size _
      rw [← zb.out] at HSZ
      rw [← zl.out] at HLO
      have HCB : Hid (∀ ob, (wr.alloc ob).heap[wr.heap.size]? = some ob) := fun ob => heap_alloc_new _ _
      have HT12 : Hid (Q ≤ 12 → tx (textL DX.L d.L[k].name) = tx d.L[k].bytes) := fun h12 => by rw [t2 (by have := HQ.out; omega)]
      have HAX : Hid (∀ ob, Below w0.heap.size wr (wr.alloc ob)) := fun ob => (Below.refl _ _).alloc HDU.out.below.size ob
      have HKX : Hid (∀ ob i, XX i → (wr.alloc ob).heap[i]? = wr.heap[i]?) := fun ob i hi => Below.heap_alloc _ _ _ (HDU.out.box i hi).2
      have HRD2 : Hid (∀ (D2 : DiskM) (rd : Int), D2 = { L := DX.L, limit := D'.limit, fuse := D'.fuse, ops := D'.ops, reads := rd, down := D'.down } → ∃ rd, D2 = { DX with reads := rd }) := fun D2 rd e => by
        obtain ⟨r', hr'⟩ := HRD.out
        exact ⟨rd, by rw [e, hr']⟩
      obtain ⟨x0, _⟩ := (cells6 hbx).1
      rw [← HQ.out] at x0
      clear t1 t2 t3 u1 u2 u3 hnm hfit hnz zb zl hDL hDD hbx hdd hxx
      generalize tx (textL DX.L d.L[k].name) = T at *
      generalize tx d.L[k].bytes = fbs at *
      generalize tx d.L[k].name = f0 at *
      generalize tx d.L[k].safe = f1 at *
      generalize tx d.L[k].loose = f2 at *
      go_wp2_with fail
      refine (HBY.out _).mono ?_
      rintro e w10 ⟨rfl, d10, ⟨rd10, hd10⟩, h10, hb10, hk10⟩
      have HRD10 := Lib.hid (HRD2.out d10 rd10 hd10)
      have hbw10 : Below w0.heap.size w9 w10 := (HBW.out.trans (HAX.out _)).trans hb10
      have hkw10 : ∀ i, XX i → w10.heap[i]? = w9.heap[i]? := fun i hi => (hk10 i (.inl hi)).trans ((HKX.out _ i hi).trans (HKW.out i hi))
      obtain ⟨_, hbx10, hdd10, _⟩ := HBS.out _ hbw10 hkw10
      have hfc := (hk10 _ (.inr rfl)).trans (HCB.out _)
      have HCC := Lib.hid (fun W (hb : Below w10.heap.size w10 W) => (cells3 ((hb.block wr.heap.size (h10.box _ (.inr rfl)).2).trans hfc)).1)
      have HBC := Lib.hid (fun W (hb : Below w10.heap.size w10 W) => (cells6 ((hb.block B (h10.box B (.inl (HXB.out _ (.inl (.inr rfl))))).2).trans hbx10)).1.1)
      have HDC := Lib.hid (fun W (hb : Below w10.heap.size w10 W) => hdd10.below hb)
      have HRR := Lib.hid (fun W (hb : Below w10.heap.size w10 W) => (show (Duo XX w0 W q d10 d (some ⟨fb, fo, none⟩) ∧ Below w0.heap.size w9 W ∧ ∀ i, XX i → W.heap[i]? = w9.heap[i]?) from ⟨(h10.below_ hb).mono (fun i hi => .inl hi), hbw10.trans (hb.mono h10.below.size), fun i hi => (hb.block i (h10.box i (.inl hi)).2).trans (hkw10 i hi)⟩))
      rw [← HQ.out] at HBC
      clear h10 hb10 hk10 hbw10 hkw10 hbx10 hdd10 hfc HBY HCB hd10 c0 c1 c2' hcn x0 HAX HKX HRD2
      generalize wr.heap.size = H at *
      have HS10 := Lib.hid (HDC.out _ (Below.refl _ _))
      go_wp2_with fail
      refine (HSZ.out _ HS10.out).mono ?_
      rintro e w11 ⟨rfl, h11⟩
      have HB11 : Hid (Below w10.heap.size w10 w11.drew) := h11.drew
      clear h11 HS10
      have HSS : Hid (∀ W, Below w10.heap.size w10 W → W.cell? ⟨B, 0, none⟩ = some (.slice (some ⟨fb, fo, none⟩) Q c) ∧ W.cell? ⟨H, 0, none⟩ = some (.string f0) ∧ W.cell? ⟨H, 1, none⟩ = some (.string f1) ∧ W.cell? ⟨H, 2, none⟩ = some (.string f2)) := fun W hb => ⟨HBC.out _ hb, HCC.out _ hb⟩
      by_cases h12 : Q ≤ 12
      · obtain rfl : T = fbs := HT12.out h12
        have hd1 : decide ((Q : Int) ≤ 12) = true := decide_eq_true (by omega)
        have hd2 : decide (Q ≤ 12) = true := decide_eq_true h12
        go_wp2_with fail
        refine wp_region_held_drew (S := (fun W => W.cell? ⟨B, 0, none⟩ = some (.slice (some ⟨fb, fo, none⟩) Q c) ∧ W.cell? ⟨H, 0, none⟩ = some (.string f0) ∧ W.cell? ⟨H, 1, none⟩ = some (.string f1) ∧ W.cell? ⟨H, 2, none⟩ = some (.string f2))) (by kernel_rfl) ?_ (fun hHeld => ?_)
        · exact HSS.out _ HB11.out
        refine wpAnyH_take (i := 0) (oi := ⟨some 87, _, _, _, _, _⟩) (v := ?_) rfl (by kernel_rfl) (by kernel_rfl) (by kernel_rfl) (fun _ _ _ h => h) (Or.inl ⟨by rfl, ?_⟩) (by assumption) ?_
        rotate_left
        · (intro wS hSw; (try dsimp only at hSw); (go_simp) <;> (with_reducible rfl))
        (try simp only [Act.put, List.setIfInBounds_toArray, List.set_cons_zero, List.set_cons_succ])
        refine wpAnyH_take (i := 1) (oi := ⟨some 88, _, _, _, _, _⟩) (v := ?_) rfl (by kernel_rfl) (by kernel_rfl) (by kernel_rfl) (fun _ _ _ h => h) (Or.inl ⟨by rfl, ?_⟩) (by assumption) ?_
        rotate_left
        · (intro wS hSw; (try dsimp only at hSw); (go_simp) <;> (with_reducible rfl))
        (try simp only [Act.put, List.setIfInBounds_toArray, List.set_cons_zero, List.set_cons_succ])
        refine wpAnyH_take (i := 2) (oi := ⟨some 89, _, _, _, _, _⟩) (v := ?_) rfl (by kernel_rfl) (by kernel_rfl) (by kernel_rfl) (fun _ _ _ h => h) (Or.inl ⟨by rfl, ?_⟩) (by assumption) ?_
        rotate_left
        · (intro wS hSw; (try dsimp only at hSw); (go_simp) <;> (with_reducible rfl))
        (try simp only [Act.put, List.setIfInBounds_toArray, List.set_cons_zero, List.set_cons_succ])
        refine wpAnyH_take (i := 3) (oi := ⟨some 90, _, _, _, _, _⟩) (v := ?_) rfl (by kernel_rfl) (by kernel_rfl) (by kernel_rfl) (fun _ _ _ h => h) (Or.inl ⟨by rfl, ?_⟩) (by assumption) ?_
        rotate_left
        · (intro wS hSw; (try dsimp only at hSw); (go_simp) <;> (with_reducible rfl))
        (try simp only [Act.put, List.setIfInBounds_toArray, List.set_cons_zero, List.set_cons_succ])
        refine wpAnyH_take (i := 4) (oi := ⟨some 91, _, _, _, _, _⟩) (v := ?_) rfl (by kernel_rfl) (by kernel_rfl) (by kernel_rfl) (fun _ _ _ h => h) (Or.inl ⟨by rfl, ?_⟩) (by assumption) ?_
        rotate_left
        · (intro wS hSw; (try dsimp only at hSw); (go_simp) <;> (with_reducible rfl))
        (try simp only [Act.put, List.setIfInBounds_toArray, List.set_cons_zero, List.set_cons_succ])
        refine wpAnyH_take (i := 5) (oi := ⟨some 92, _, _, _, _, _⟩) (v := ?_) rfl (by kernel_rfl) (by kernel_rfl) (by kernel_rfl) (fun _ _ _ h => h) (Or.inl ⟨by rfl, ?_⟩) (by assumption) ?_
        rotate_left
        · (intro wS hSw; (try dsimp only at hSw); (go_simp) <;> (with_reducible rfl))
        (try simp only [Act.put, List.setIfInBounds_toArray, List.set_cons_zero, List.set_cons_succ])
        refine wpAnyH_take (i := 6) (oi := ⟨some 93, _, _, _, _, _⟩) (v := ?_) rfl (by kernel_rfl) (by kernel_rfl) (by kernel_rfl) (fun _ _ _ h => h) (Or.inl ⟨by rfl, ?_⟩) (by assumption) ?_
        rotate_left
        · (intro wS hSw; (try dsimp only at hSw); (go_simp) <;> (with_reducible rfl))
        (try simp only [Act.put, List.setIfInBounds_toArray, List.set_cons_zero, List.set_cons_succ])
        refine wpAnyH_ready (rs := [7]) (by kernel_rfl) (by simp) ?_
        refine AllReadyH.cons (o := ⟨some 94, _, _, _, _, _⟩) rfl (fun K hK => ?_) AllReadyH.nil
        go_simp
        refine (HRB.out _).mono ?_
        rintro e w12 ⟨rfl, h12'⟩
        have HB12 : Hid (Below w10.heap.size w10 w12) := HB11.out.trans (h12'.mono HB11.out.size)
        clear h12'
        go_wp2_with fail
        refine hK.out _ _ ?_ (fun hH7 => ?_)
        · exact HSS.out _ HB12.out
        clear hK K
        (try simp only [Act.put, List.setIfInBounds_toArray, List.set_cons_zero, List.set_cons_succ])
        refine wpAnyH_take (i := 8) (oi := ⟨some 95, _, _, _, _, _⟩) (v := ?_) rfl (by kernel_rfl) (by kernel_rfl) (by kernel_rfl) (fun _ _ _ h => h) (Or.inl ⟨by rfl, ?_⟩) (by assumption) ?_
        rotate_left
        · (intro wS hSw; (try dsimp only at hSw); (go_simp) <;> (with_reducible rfl))
        (try simp only [Act.put, List.setIfInBounds_toArray, List.set_cons_zero, List.set_cons_succ])
        refine wpAnyH_take (i := 9) (oi := ⟨some 96, _, _, _, _, _⟩) (v := ?_) rfl (by kernel_rfl) (by kernel_rfl) (by kernel_rfl) (fun _ _ _ h => h) (Or.inl ⟨by rfl, ?_⟩) (by assumption) ?_
        rotate_left
        · (intro wS hSw; (try dsimp only at hSw); (go_simp) <;> (with_reducible rfl))
        (try simp only [Act.put, List.setIfInBounds_toArray, List.set_cons_zero, List.set_cons_succ])
        refine wpAnyH_take (i := 10) (oi := ⟨some 97, _, _, _, _, _⟩) (v := ?_) rfl (by kernel_rfl) (by kernel_rfl) (by kernel_rfl) (fun _ _ _ h => h) (Or.inl ⟨by rfl, ?_⟩) (by assumption) ?_
        rotate_left
        · (intro wS hSw; (try dsimp only at hSw); (go_simp) <;> (with_reducible rfl))
        (try simp only [Act.put, List.setIfInBounds_toArray, List.set_cons_zero, List.set_cons_succ])
        refine wpAnyH_take (i := 11) (oi := ⟨some 98, _, _, _, _, _⟩) (v := ?_) rfl (by kernel_rfl) (by kernel_rfl) (by kernel_rfl) (fun _ _ _ h => h) (Or.inl ⟨by rfl, ?_⟩) (by assumption) ?_
        rotate_left
        · (intro wS hSw; (try dsimp only at hSw); (go_simp) <;> (with_reducible rfl))
        (try simp only [Act.put, List.setIfInBounds_toArray, List.set_cons_zero, List.set_cons_succ])
        refine wpAnyH_take (i := 12) (oi := ⟨some 99, _, _, _, _, _⟩) (v := ?_) rfl (by kernel_rfl) (by kernel_rfl) (by kernel_rfl) (fun _ _ _ h => h) (Or.inl ⟨by rfl, ?_⟩) (by assumption) ?_
        rotate_left
        · (intro wS hSw; (try dsimp only at hSw); (go_simp) <;> (with_reducible rfl))
        (try simp only [Act.put, List.setIfInBounds_toArray, List.set_cons_zero, List.set_cons_succ])
        refine wpAnyH_take (i := 13) (oi := ⟨some 100, _, _, _, _, _⟩) (v := ?_) rfl (by kernel_rfl) (by kernel_rfl) (by kernel_rfl) (fun _ _ _ h => h) (Or.inl ⟨by rfl, ?_⟩) (by assumption) ?_
        rotate_left
        · (intro wS hSw; (try dsimp only at hSw); (go_simp) <;> (with_reducible rfl))
        (try simp only [Act.put, List.setIfInBounds_toArray, List.set_cons_zero, List.set_cons_succ])
        refine wpAnyH_take (i := 14) (oi := ⟨some 101, _, _, _, _, _⟩) (v := ?_) rfl (by kernel_rfl) (by kernel_rfl) (by kernel_rfl) (fun _ _ _ h => h) (Or.inl ⟨by rfl, ?_⟩) (by assumption) ?_
        rotate_left
        · (intro wS hSw; (try dsimp only at hSw); (go_simp) <;> (with_reducible rfl))
        (try simp only [Act.put, List.setIfInBounds_toArray, List.set_cons_zero, List.set_cons_succ])
        refine wpAnyH_take (i := 15) (oi := ⟨some 102, _, _, _, _, _⟩) (v := ?_) rfl (by kernel_rfl) (by kernel_rfl) (by kernel_rfl) (fun _ _ _ h => h) (Or.inl ⟨by rfl, ?_⟩) (by assumption) ?_
        rotate_left
        · (intro wS hSw; (try dsimp only at hSw); (go_simp) <;> (with_reducible rfl))
        (try simp only [Act.put, List.setIfInBounds_toArray, List.set_cons_zero, List.set_cons_succ])
        refine wpAnyH_take (i := 16) (oi := ⟨some 103, _, _, _, _, _⟩) (v := ?_) rfl (by kernel_rfl) (by kernel_rfl) (by kernel_rfl) (fun _ _ _ h => h) (Or.inl ⟨by rfl, ?_⟩) (by assumption) ?_
        rotate_left
        · (intro wS hSw; (try dsimp only at hSw); (go_simp) <;> (with_reducible rfl))
        (try simp only [Act.put, List.setIfInBounds_toArray, List.set_cons_zero, List.set_cons_succ])
        refine wpAnyH_take (i := 17) (oi := ⟨some 104, _, _, _, _, _⟩) (v := ?_) rfl (by kernel_rfl) (by kernel_rfl) (by kernel_rfl) (fun _ _ _ h => h) (Or.inl ⟨by rfl, ?_⟩) (by assumption) ?_
        rotate_left
        · (intro wS hSw; (try dsimp only at hSw); (go_simp) <;> (with_reducible rfl))
        (try simp only [Act.put, List.setIfInBounds_toArray, List.set_cons_zero, List.set_cons_succ])
        refine wpAnyH_take (i := 19) (oi := ⟨some 106, _, _, _, _, _⟩) (v := ?_) rfl (by kernel_rfl) (by kernel_rfl) (by kernel_rfl) (fun _ _ _ h => h) (Or.inl ⟨by rfl, ?_⟩) (by assumption) ?_
        rotate_left
        · (intro wS hSw; (try dsimp only at hSw); (go_simp) <;> (with_reducible rfl))
        (try simp only [Act.put, List.setIfInBounds_toArray, List.set_cons_zero, List.set_cons_succ])
        refine wpAnyH_take (i := 20) (oi := ⟨some 107, _, _, _, _, _⟩) (v := ?_) rfl (by kernel_rfl) (by kernel_rfl) (by kernel_rfl) (fun _ _ _ h => h) (Or.inl ⟨by rfl, ?_⟩) (by assumption) ?_
        rotate_left
        · (intro wS hSw; (try dsimp only at hSw); (go_simp) <;> (with_reducible rfl))
        (try simp only [Act.put, List.setIfInBounds_toArray, List.set_cons_zero, List.set_cons_succ])
        refine wpAnyH_take (i := 21) (oi := ⟨some 108, _, _, _, _, _⟩) (v := ?_) rfl (by kernel_rfl) (by kernel_rfl) (by kernel_rfl) (fun _ _ _ h => h) (Or.inl ⟨by rfl, ?_⟩) (by assumption) ?_
        rotate_left
        · (intro wS hSw; (try dsimp only at hSw); (go_simp) <;> (with_reducible rfl))
        (try simp only [Act.put, List.setIfInBounds_toArray, List.set_cons_zero, List.set_cons_succ])
        refine wpAnyH_ready (rs := [18]) (by kernel_rfl) (by simp) ?_
        refine AllReadyH.cons (o := ⟨some 105, _, _, _, _, _⟩) rfl (fun K hK => ?_) AllReadyH.nil
        go_simp
        refine (HLO.out _ (HDC.out _ HB12.out)).mono ?_
        rintro e w13 ⟨rfl, h13⟩
        have HB13 : Hid (Below w10.heap.size w10 w13) := HB12.out.trans (h13.mono HB12.out.size)
        clear h13
        go_wp2_with fail
        refine hK.out _ _ ?_ (fun hH18 => ?_)
        · exact HSS.out _ HB13.out
        clear hK K
        (try simp only [Act.put, List.setIfInBounds_toArray, List.set_cons_zero, List.set_cons_succ])
        refine wpAnyH_take (i := 22) (oi := ⟨some 109, _, _, _, _, _⟩) (v := ?_) rfl (by kernel_rfl) (by kernel_rfl) (by kernel_rfl) (fun _ _ _ h => h) (Or.inl ⟨by rfl, ?_⟩) (by assumption) ?_
        rotate_left
        · (intro wS hSw; (try dsimp only at hSw); (go_simp) <;> (with_reducible rfl))
        (try simp only [Act.put, List.setIfInBounds_toArray, List.set_cons_zero, List.set_cons_succ])
        refine wpAnyH_take (i := 23) (oi := ⟨some 110, _, _, _, _, _⟩) (v := ?_) rfl (by kernel_rfl) (by kernel_rfl) (by kernel_rfl) (fun _ _ _ h => h) (Or.inl ⟨by rfl, ?_⟩) (by assumption) ?_
        rotate_left
        · (intro wS hSw; (try dsimp only at hSw); (go_simp) <;> (with_reducible rfl))
        (try simp only [Act.put, List.setIfInBounds_toArray, List.set_cons_zero, List.set_cons_succ])
        refine wpAnyH_take (i := 24) (oi := ⟨some 111, _, _, _, _, _⟩) (v := ?_) rfl (by kernel_rfl) (by kernel_rfl) (by kernel_rfl) (fun _ _ _ h => h) (Or.inl ⟨by rfl, ?_⟩) (by assumption) ?_
        rotate_left
        · (intro wS hSw; (try dsimp only at hSw); (go_simp) <;> (with_reducible rfl))
        (try simp only [Act.put, List.setIfInBounds_toArray, List.set_cons_zero, List.set_cons_succ])
        refine wpAnyH_take (i := 25) (oi := ⟨some 112, _, _, _, _, _⟩) (v := ?_) rfl (by kernel_rfl) (by kernel_rfl) (by kernel_rfl) (fun _ _ _ h => h) (Or.inl ⟨by rfl, ?_⟩) (by assumption) ?_
        rotate_left
        · (intro wS hSw; (try dsimp only at hSw); (go_simp) <;> (with_reducible rfl))
        (try simp only [Act.put, List.setIfInBounds_toArray, List.set_cons_zero, List.set_cons_succ])
        refine wpAnyH_take (i := 26) (oi := ⟨some 113, _, _, _, _, _⟩) (v := ?_) rfl (by kernel_rfl) (by kernel_rfl) (by kernel_rfl) (fun _ _ _ h => h) (Or.inl ⟨by rfl, ?_⟩) (by assumption) ?_
        rotate_left
        · (intro wS hSw; (try dsimp only at hSw); (go_simp) <;> (with_reducible rfl))
        (try simp only [Act.put, List.setIfInBounds_toArray, List.set_cons_zero, List.set_cons_succ])
        refine wpAnyH_take (i := 27) (oi := ⟨some 114, _, _, _, _, _⟩) (v := ?_) rfl (by kernel_rfl) (by kernel_rfl) (by kernel_rfl) (fun _ _ _ h => h) (Or.inl ⟨by rfl, ?_⟩) (by assumption) ?_
        rotate_left
        · (intro wS hSw; (try dsimp only at hSw); (go_simp) <;> (with_reducible rfl))
        (try simp only [Act.put, List.setIfInBounds_toArray, List.set_cons_zero, List.set_cons_succ])
        refine wpAnyH_take (i := 28) (oi := ⟨some 115, _, _, _, _, _⟩) (v := ?_) rfl (by kernel_rfl) (by kernel_rfl) (by kernel_rfl) (fun _ _ _ h => h) (Or.inl ⟨by rfl, ?_⟩) (by assumption) ?_
        rotate_left
        · (intro wS hSw; (try dsimp only at hSw); (go_simp) <;> (with_reducible rfl))
        (try simp only [Act.put, List.setIfInBounds_toArray, List.set_cons_zero, List.set_cons_succ])
        refine wpAnyH_take (i := 29) (oi := ⟨some 116, _, _, _, _, _⟩) (v := ?_) rfl (by kernel_rfl) (by kernel_rfl) (by kernel_rfl) (fun _ _ _ h => h) (Or.inl ⟨by rfl, ?_⟩) (by assumption) ?_
        rotate_left
        · (intro wS hSw; (try dsimp only at hSw); (go_simp) <;> (with_reducible rfl))
        (try simp only [Act.put, List.setIfInBounds_toArray, List.set_cons_zero, List.set_cons_succ])
        refine wpAnyH_take (i := 30) (oi := ⟨some 117, _, _, _, _, _⟩) (v := ?_) rfl (by kernel_rfl) (by kernel_rfl) (by kernel_rfl) (fun _ _ _ h => h) (Or.inl ⟨by rfl, ?_⟩) (by assumption) ?_
        rotate_left
        · (intro wS hSw; (try dsimp only at hSw); (go_simp) <;> (with_reducible rfl))
        (try simp only [Act.put, List.setIfInBounds_toArray, List.set_cons_zero, List.set_cons_succ])
        refine wpAnyH_take (i := 31) (oi := ⟨some 118, _, _, _, _, _⟩) (v := ?_) rfl (by kernel_rfl) (by kernel_rfl) (by kernel_rfl) (fun _ _ _ h => h) (Or.inl ⟨by rfl, ?_⟩) (by assumption) ?_
        rotate_left
        · (intro wS hSw; (try dsimp only at hSw); (go_simp) <;> (with_reducible rfl))
        (try simp only [Act.put, List.setIfInBounds_toArray, List.set_cons_zero, List.set_cons_succ])
        refine wpAnyH_take (i := 32) (oi := ⟨some 119, _, _, _, _, _⟩) (v := ?_) rfl (by kernel_rfl) (by kernel_rfl) (by kernel_rfl) (fun _ _ _ h => h) (Or.inl ⟨by rfl, ?_⟩) (by assumption) ?_
        rotate_left
        · (intro wS hSw; (try dsimp only at hSw); (go_simp) <;> (with_reducible rfl))
        (try simp only [Act.put, List.setIfInBounds_toArray, List.set_cons_zero, List.set_cons_succ])
        refine wpAnyH_take (i := 33) (oi := ⟨some 120, _, _, _, _, _⟩) (v := ?_) rfl (by kernel_rfl) (by kernel_rfl) (by kernel_rfl) (fun _ _ _ h => h) (Or.inl ⟨by rfl, ?_⟩) (by assumption) ?_
        rotate_left
        · (intro wS hSw; (try dsimp only at hSw); (go_simp) <;> (with_reducible rfl))
        (try simp only [Act.put, List.setIfInBounds_toArray, List.set_cons_zero, List.set_cons_succ])
        refine wpAnyH_take (i := 34) (oi := ⟨some 121, _, _, _, _, _⟩) (v := ?_) rfl (by kernel_rfl) (by kernel_rfl) (by kernel_rfl) (fun _ _ _ h => h) (Or.inl ⟨by rfl, ?_⟩) (by assumption) ?_
        rotate_left
        · (intro wS hSw; (try dsimp only at hSw); (go_simp) <;> (with_reducible rfl))
        (try simp only [Act.put, List.setIfInBounds_toArray, List.set_cons_zero, List.set_cons_succ])
        refine wpAnyH_ready (rs := [35]) (by kernel_rfl) (by simp) ?_
        refine AllReadyH.cons (o := ⟨some 122, _, _, _, _, _⟩) rfl (fun K hK => ?_) AllReadyH.nil
        go_simp
        refine (HRB.out _).mono ?_
        rintro e w14 ⟨rfl, h14⟩
        have HB14 : Hid (Below w10.heap.size w10 w14) := HB13.out.trans (h14.mono HB13.out.size)
        clear h14
        go_wp2_with fail
        refine hK.out _ _ ?_ (fun hH35 => ?_)
        · exact HSS.out _ HB14.out
        clear hK K
        (try simp only [Act.put, List.setIfInBounds_toArray, List.set_cons_zero, List.set_cons_succ])
        refine wpAnyH_take (i := 36) (oi := ⟨some 123, _, _, _, _, _⟩) (v := ?_) rfl (by kernel_rfl) (by kernel_rfl) (by kernel_rfl) (fun _ _ _ h => h) (Or.inl ⟨by rfl, ?_⟩) (by assumption) ?_
        rotate_left
        · (intro wS hSw; (try dsimp only at hSw); (go_simp) <;> (with_reducible rfl))
        (try simp only [Act.put, List.setIfInBounds_toArray, List.set_cons_zero, List.set_cons_succ])
        refine wpAnyH_take (i := 37) (oi := ⟨some 124, _, _, _, _, _⟩) (v := ?_) rfl (by kernel_rfl) (by kernel_rfl) (by kernel_rfl) (fun _ _ _ h => h) (Or.inl ⟨by rfl, ?_⟩) (by assumption) ?_
        rotate_left
        · (intro wS hSw; (try dsimp only at hSw); (go_simp) <;> (with_reducible rfl))
        (try simp only [Act.put, List.setIfInBounds_toArray, List.set_cons_zero, List.set_cons_succ])
        refine wpAnyH_take (i := 38) (oi := ⟨some 125, _, _, _, _, _⟩) (v := ?_) rfl (by kernel_rfl) (by kernel_rfl) (by kernel_rfl) (fun _ _ _ h => h) (Or.inl ⟨by rfl, ?_⟩) (by assumption) ?_
        rotate_left
        · (intro wS hSw; (try dsimp only at hSw); (go_simp) <;> (with_reducible rfl))
        (try simp only [Act.put, List.setIfInBounds_toArray, List.set_cons_zero, List.set_cons_succ])
        refine wpAnyH_take (i := 39) (oi := ⟨some 126, _, _, _, _, _⟩) (v := ?_) rfl (by kernel_rfl) (by kernel_rfl) (by kernel_rfl) (fun _ _ _ h => h) (Or.inl ⟨by rfl, ?_⟩) (by assumption) ?_
        rotate_left
        · (intro wS hSw; (try dsimp only at hSw); (go_simp) <;> (with_reducible rfl))
        (try simp only [Act.put, List.setIfInBounds_toArray, List.set_cons_zero, List.set_cons_succ])
        refine wpAnyH_done (by kernel_rfl) ?_ _
        all_goals
          go_wp2
          go_roundw
          case rel => exact ⟨k + 1, d10, by omega, by go_num, rfl, HRD10, (HRR.out _ HB14.out).1, (HRR.out _ HB14.out).2.1, (HRR.out _ HB14.out).2.2⟩
          case measure => simp [intOf]; omega
      · have hd1 : decide ((Q : Int) ≤ 12) = false := decide_eq_false (by omega)
        have hd2 : decide (Q ≤ 12) = false := decide_eq_false h12
        go_wp2_with fail
        refine wp_region_held_drew (S := (fun W => W.cell? ⟨B, 0, none⟩ = some (.slice (some ⟨fb, fo, none⟩) Q c) ∧ W.cell? ⟨H, 0, none⟩ = some (.string f0) ∧ W.cell? ⟨H, 1, none⟩ = some (.string f1) ∧ W.cell? ⟨H, 2, none⟩ = some (.string f2))) (by kernel_rfl) ?_ (fun hHeld => ?_)
        · exact HSS.out _ HB11.out
        refine wpAnyH_take (i := 0) (oi := ⟨some 87, _, _, _, _, _⟩) (v := ?_) rfl (by kernel_rfl) (by kernel_rfl) (by kernel_rfl) (fun _ _ _ h => h) (Or.inl ⟨by rfl, ?_⟩) (by assumption) ?_
        rotate_left
        · (intro wS hSw; (try dsimp only at hSw); (go_simp) <;> (with_reducible rfl))
        (try simp only [Act.put, List.setIfInBounds_toArray, List.set_cons_zero, List.set_cons_succ])
        refine wpAnyH_take (i := 1) (oi := ⟨some 88, _, _, _, _, _⟩) (v := ?_) rfl (by kernel_rfl) (by kernel_rfl) (by kernel_rfl) (fun _ _ _ h => h) (Or.inl ⟨by rfl, ?_⟩) (by assumption) ?_
        rotate_left
        · (intro wS hSw; (try dsimp only at hSw); (go_simp) <;> (with_reducible rfl))
        (try simp only [Act.put, List.setIfInBounds_toArray, List.set_cons_zero, List.set_cons_succ])
        refine wpAnyH_take (i := 2) (oi := ⟨some 89, _, _, _, _, _⟩) (v := ?_) rfl (by kernel_rfl) (by kernel_rfl) (by kernel_rfl) (fun _ _ _ h => h) (Or.inl ⟨by rfl, ?_⟩) (by assumption) ?_
        rotate_left
        · (intro wS hSw; (try dsimp only at hSw); (go_simp) <;> (with_reducible rfl))
        (try simp only [Act.put, List.setIfInBounds_toArray, List.set_cons_zero, List.set_cons_succ])
        refine wpAnyH_take (i := 3) (oi := ⟨some 90, _, _, _, _, _⟩) (v := ?_) rfl (by kernel_rfl) (by kernel_rfl) (by kernel_rfl) (fun _ _ _ h => h) (Or.inl ⟨by rfl, ?_⟩) (by assumption) ?_
        rotate_left
        · (intro wS hSw; (try dsimp only at hSw); (go_simp) <;> (with_reducible rfl))
        (try simp only [Act.put, List.setIfInBounds_toArray, List.set_cons_zero, List.set_cons_succ])
        refine wpAnyH_take (i := 4) (oi := ⟨some 91, _, _, _, _, _⟩) (v := ?_) rfl (by kernel_rfl) (by kernel_rfl) (by kernel_rfl) (fun _ _ _ h => h) (Or.inl ⟨by rfl, ?_⟩) (by assumption) ?_
        rotate_left
        · (intro wS hSw; (try dsimp only at hSw); (go_simp) <;> (with_reducible rfl))
        (try simp only [Act.put, List.setIfInBounds_toArray, List.set_cons_zero, List.set_cons_succ])
        refine wpAnyH_take (i := 5) (oi := ⟨some 92, _, _, _, _, _⟩) (v := ?_) rfl (by kernel_rfl) (by kernel_rfl) (by kernel_rfl) (fun _ _ _ h => h) (Or.inl ⟨by rfl, ?_⟩) (by assumption) ?_
        rotate_left
        · (intro wS hSw; (try dsimp only at hSw); (go_simp) <;> (with_reducible rfl))
        (try simp only [Act.put, List.setIfInBounds_toArray, List.set_cons_zero, List.set_cons_succ])
        refine wpAnyH_take (i := 6) (oi := ⟨some 93, _, _, _, _, _⟩) (v := ?_) rfl (by kernel_rfl) (by kernel_rfl) (by kernel_rfl) (fun _ _ _ h => h) (Or.inl ⟨by rfl, ?_⟩) (by assumption) ?_
        rotate_left
        · (intro wS hSw; (try dsimp only at hSw); (go_simp) <;> (with_reducible rfl))
        (try simp only [Act.put, List.setIfInBounds_toArray, List.set_cons_zero, List.set_cons_succ])
        refine wpAnyH_ready (rs := [7]) (by kernel_rfl) (by simp) ?_
        refine AllReadyH.cons (o := ⟨some 94, _, _, _, _, _⟩) rfl (fun K hK => ?_) AllReadyH.nil
        go_simp
        refine (HRB.out _).mono ?_
        rintro e w12 ⟨rfl, h12'⟩
        have HB12 : Hid (Below w10.heap.size w10 w12) := HB11.out.trans (h12'.mono HB11.out.size)
        clear h12'
        go_wp2_with fail
        refine hK.out _ _ ?_ (fun hH7 => ?_)
        · exact HSS.out _ HB12.out
        clear hK K
        (try simp only [Act.put, List.setIfInBounds_toArray, List.set_cons_zero, List.set_cons_succ])
        refine wpAnyH_take (i := 8) (oi := ⟨some 95, _, _, _, _, _⟩) (v := ?_) rfl (by kernel_rfl) (by kernel_rfl) (by kernel_rfl) (fun _ _ _ h => h) (Or.inl ⟨by rfl, ?_⟩) (by assumption) ?_
        rotate_left
        · (intro wS hSw; (try dsimp only at hSw); (go_simp) <;> (with_reducible rfl))
        (try simp only [Act.put, List.setIfInBounds_toArray, List.set_cons_zero, List.set_cons_succ])
        refine wpAnyH_take (i := 9) (oi := ⟨some 96, _, _, _, _, _⟩) (v := ?_) rfl (by kernel_rfl) (by kernel_rfl) (by kernel_rfl) (fun _ _ _ h => h) (Or.inl ⟨by rfl, ?_⟩) (by assumption) ?_
        rotate_left
        · (intro wS hSw; (try dsimp only at hSw); (go_simp) <;> (with_reducible rfl))
        (try simp only [Act.put, List.setIfInBounds_toArray, List.set_cons_zero, List.set_cons_succ])
        refine wpAnyH_take (i := 10) (oi := ⟨some 97, _, _, _, _, _⟩) (v := ?_) rfl (by kernel_rfl) (by kernel_rfl) (by kernel_rfl) (fun _ _ _ h => h) (Or.inl ⟨by rfl, ?_⟩) (by assumption) ?_
        rotate_left
        · (intro wS hSw; (try dsimp only at hSw); (go_simp) <;> (with_reducible rfl))
        (try simp only [Act.put, List.setIfInBounds_toArray, List.set_cons_zero, List.set_cons_succ])
        refine wpAnyH_take (i := 11) (oi := ⟨some 98, _, _, _, _, _⟩) (v := ?_) rfl (by kernel_rfl) (by kernel_rfl) (by kernel_rfl) (fun _ _ _ h => h) (Or.inl ⟨by rfl, ?_⟩) (by assumption) ?_
        rotate_left
        · (intro wS hSw; (try dsimp only at hSw); (go_simp) <;> (with_reducible rfl))
        (try simp only [Act.put, List.setIfInBounds_toArray, List.set_cons_zero, List.set_cons_succ])
        refine wpAnyH_take (i := 12) (oi := ⟨some 99, _, _, _, _, _⟩) (v := ?_) rfl (by kernel_rfl) (by kernel_rfl) (by kernel_rfl) (fun _ _ _ h => h) (Or.inl ⟨by rfl, ?_⟩) (by assumption) ?_
        rotate_left
        · (intro wS hSw; (try dsimp only at hSw); (go_simp) <;> (with_reducible rfl))
        (try simp only [Act.put, List.setIfInBounds_toArray, List.set_cons_zero, List.set_cons_succ])
        refine wpAnyH_take (i := 13) (oi := ⟨some 100, _, _, _, _, _⟩) (v := ?_) rfl (by kernel_rfl) (by kernel_rfl) (by kernel_rfl) (fun _ _ _ h => h) (Or.inl ⟨by rfl, ?_⟩) (by assumption) ?_
        rotate_left
        · (intro wS hSw; (try dsimp only at hSw); (go_simp) <;> (with_reducible rfl))
        (try simp only [Act.put, List.setIfInBounds_toArray, List.set_cons_zero, List.set_cons_succ])
        refine wpAnyH_take (i := 14) (oi := ⟨some 101, _, _, _, _, _⟩) (v := ?_) rfl (by kernel_rfl) (by kernel_rfl) (by kernel_rfl) (fun _ _ _ h => h) (Or.inl ⟨by rfl, ?_⟩) (by assumption) ?_
        rotate_left
        · (intro wS hSw; (try dsimp only at hSw); (go_simp) <;> (with_reducible rfl))
        (try simp only [Act.put, List.setIfInBounds_toArray, List.set_cons_zero, List.set_cons_succ])
        refine wpAnyH_take (i := 15) (oi := ⟨some 102, _, _, _, _, _⟩) (v := ?_) rfl (by kernel_rfl) (by kernel_rfl) (by kernel_rfl) (fun _ _ _ h => h) (Or.inl ⟨by rfl, ?_⟩) (by assumption) ?_
        rotate_left
        · (intro wS hSw; (try dsimp only at hSw); (go_simp) <;> (with_reducible rfl))
        (try simp only [Act.put, List.setIfInBounds_toArray, List.set_cons_zero, List.set_cons_succ])
        refine wpAnyH_take (i := 16) (oi := ⟨some 103, _, _, _, _, _⟩) (v := ?_) rfl (by kernel_rfl) (by kernel_rfl) (by kernel_rfl) (fun _ _ _ h => h) (Or.inl ⟨by rfl, ?_⟩) (by assumption) ?_
        rotate_left
        · (intro wS hSw; (try dsimp only at hSw); (go_simp) <;> (with_reducible rfl))
        (try simp only [Act.put, List.setIfInBounds_toArray, List.set_cons_zero, List.set_cons_succ])
        refine wpAnyH_take (i := 17) (oi := ⟨some 104, _, _, _, _, _⟩) (v := ?_) rfl (by kernel_rfl) (by kernel_rfl) (by kernel_rfl) (fun _ _ _ h => h) (Or.inl ⟨by rfl, ?_⟩) (by assumption) ?_
        rotate_left
        · (intro wS hSw; (try dsimp only at hSw); (go_simp) <;> (with_reducible rfl))
        (try simp only [Act.put, List.setIfInBounds_toArray, List.set_cons_zero, List.set_cons_succ])
        refine wpAnyH_take (i := 19) (oi := ⟨some 106, _, _, _, _, _⟩) (v := ?_) rfl (by kernel_rfl) (by kernel_rfl) (by kernel_rfl) (fun _ _ _ h => h) (Or.inl ⟨by rfl, ?_⟩) (by assumption) ?_
        rotate_left
        · (intro wS hSw; (try dsimp only at hSw); (go_simp) <;> (with_reducible rfl))
        (try simp only [Act.put, List.setIfInBounds_toArray, List.set_cons_zero, List.set_cons_succ])
        refine wpAnyH_take (i := 20) (oi := ⟨some 107, _, _, _, _, _⟩) (v := ?_) rfl (by kernel_rfl) (by kernel_rfl) (by kernel_rfl) (fun _ _ _ h => h) (Or.inl ⟨by rfl, ?_⟩) (by assumption) ?_
        rotate_left
        · (intro wS hSw; (try dsimp only at hSw); (go_simp) <;> (with_reducible rfl))
        (try simp only [Act.put, List.setIfInBounds_toArray, List.set_cons_zero, List.set_cons_succ])
        refine wpAnyH_take (i := 21) (oi := ⟨some 108, _, _, _, _, _⟩) (v := ?_) rfl (by kernel_rfl) (by kernel_rfl) (by kernel_rfl) (fun _ _ _ h => h) (Or.inl ⟨by rfl, ?_⟩) (by assumption) ?_
        rotate_left
        · (intro wS hSw; (try dsimp only at hSw); (go_simp) <;> (with_reducible rfl))
        (try simp only [Act.put, List.setIfInBounds_toArray, List.set_cons_zero, List.set_cons_succ])
        refine wpAnyH_ready (rs := [18]) (by kernel_rfl) (by simp) ?_
        refine AllReadyH.cons (o := ⟨some 105, _, _, _, _, _⟩) rfl (fun K hK => ?_) AllReadyH.nil
        go_simp
        refine (HLO.out _ (HDC.out _ HB12.out)).mono ?_
        rintro e w13 ⟨rfl, h13⟩
        have HB13 : Hid (Below w10.heap.size w10 w13) := HB12.out.trans (h13.mono HB12.out.size)
        clear h13
        go_wp2_with fail
        refine hK.out _ _ ?_ (fun hH18 => ?_)
        · exact HSS.out _ HB13.out
        clear hK K
        (try simp only [Act.put, List.setIfInBounds_toArray, List.set_cons_zero, List.set_cons_succ])
        refine wpAnyH_take (i := 22) (oi := ⟨some 109, _, _, _, _, _⟩) (v := ?_) rfl (by kernel_rfl) (by kernel_rfl) (by kernel_rfl) (fun _ _ _ h => h) (Or.inl ⟨by rfl, ?_⟩) (by assumption) ?_
        rotate_left
        · (intro wS hSw; (try dsimp only at hSw); (go_simp) <;> (with_reducible rfl))
        (try simp only [Act.put, List.setIfInBounds_toArray, List.set_cons_zero, List.set_cons_succ])
        refine wpAnyH_take (i := 23) (oi := ⟨some 110, _, _, _, _, _⟩) (v := ?_) rfl (by kernel_rfl) (by kernel_rfl) (by kernel_rfl) (fun _ _ _ h => h) (Or.inl ⟨by rfl, ?_⟩) (by assumption) ?_
        rotate_left
        · (intro wS hSw; (try dsimp only at hSw); (go_simp) <;> (with_reducible rfl))
        (try simp only [Act.put, List.setIfInBounds_toArray, List.set_cons_zero, List.set_cons_succ])
        refine wpAnyH_take (i := 24) (oi := ⟨some 111, _, _, _, _, _⟩) (v := ?_) rfl (by kernel_rfl) (by kernel_rfl) (by kernel_rfl) (fun _ _ _ h => h) (Or.inl ⟨by rfl, ?_⟩) (by assumption) ?_
        rotate_left
        · (intro wS hSw; (try dsimp only at hSw); (go_simp) <;> (with_reducible rfl))
        (try simp only [Act.put, List.setIfInBounds_toArray, List.set_cons_zero, List.set_cons_succ])
        refine wpAnyH_take (i := 25) (oi := ⟨some 112, _, _, _, _, _⟩) (v := ?_) rfl (by kernel_rfl) (by kernel_rfl) (by kernel_rfl) (fun _ _ _ h => h) (Or.inl ⟨by rfl, ?_⟩) (by assumption) ?_
        rotate_left
        · (intro wS hSw; (try dsimp only at hSw); (go_simp) <;> (with_reducible rfl))
        (try simp only [Act.put, List.setIfInBounds_toArray, List.set_cons_zero, List.set_cons_succ])
        refine wpAnyH_take (i := 26) (oi := ⟨some 113, _, _, _, _, _⟩) (v := ?_) rfl (by kernel_rfl) (by kernel_rfl) (by kernel_rfl) (fun _ _ _ h => h) (Or.inl ⟨by rfl, ?_⟩) (by assumption) ?_
        rotate_left
        · (intro wS hSw; (try dsimp only at hSw); (go_simp) <;> (with_reducible rfl))
        (try simp only [Act.put, List.setIfInBounds_toArray, List.set_cons_zero, List.set_cons_succ])
        refine wpAnyH_take (i := 27) (oi := ⟨some 114, _, _, _, _, _⟩) (v := ?_) rfl (by kernel_rfl) (by kernel_rfl) (by kernel_rfl) (fun _ _ _ h => h) (Or.inl ⟨by rfl, ?_⟩) (by assumption) ?_
        rotate_left
        · (intro wS hSw; (try dsimp only at hSw); (go_simp) <;> (with_reducible rfl))
        (try simp only [Act.put, List.setIfInBounds_toArray, List.set_cons_zero, List.set_cons_succ])
        refine wpAnyH_take (i := 28) (oi := ⟨some 115, _, _, _, _, _⟩) (v := ?_) rfl (by kernel_rfl) (by kernel_rfl) (by kernel_rfl) (fun _ _ _ h => h) (Or.inl ⟨by rfl, ?_⟩) (by assumption) ?_
        rotate_left
        · (intro wS hSw; (try dsimp only at hSw); (go_simp) <;> (with_reducible rfl))
        (try simp only [Act.put, List.setIfInBounds_toArray, List.set_cons_zero, List.set_cons_succ])
        refine wpAnyH_take (i := 29) (oi := ⟨some 116, _, _, _, _, _⟩) (v := ?_) rfl (by kernel_rfl) (by kernel_rfl) (by kernel_rfl) (fun _ _ _ h => h) (Or.inl ⟨by rfl, ?_⟩) (by assumption) ?_
        rotate_left
        · (intro wS hSw; (try dsimp only at hSw); (go_simp) <;> (with_reducible rfl))
        (try simp only [Act.put, List.setIfInBounds_toArray, List.set_cons_zero, List.set_cons_succ])
        refine wpAnyH_take (i := 30) (oi := ⟨some 117, _, _, _, _, _⟩) (v := undef) rfl (by kernel_rfl) (by kernel_rfl) (by kernel_rfl) (fun _ _ _ h => h) (Or.inr ⟨by rfl, rfl⟩) (by assumption) ?_
        (try simp only [Act.put, List.setIfInBounds_toArray, List.set_cons_zero, List.set_cons_succ])
        refine wpAnyH_take (i := 31) (oi := ⟨some 118, _, _, _, _, _⟩) (v := undef) rfl (by kernel_rfl) (by kernel_rfl) (by kernel_rfl) (fun _ _ _ h => h) (Or.inr ⟨by rfl, rfl⟩) (by assumption) ?_
        (try simp only [Act.put, List.setIfInBounds_toArray, List.set_cons_zero, List.set_cons_succ])
        refine wpAnyH_take (i := 32) (oi := ⟨some 119, _, _, _, _, _⟩) (v := undef) rfl (by kernel_rfl) (by kernel_rfl) (by kernel_rfl) (fun _ _ _ h => h) (Or.inr ⟨by rfl, rfl⟩) (by assumption) ?_
        (try simp only [Act.put, List.setIfInBounds_toArray, List.set_cons_zero, List.set_cons_succ])
        refine wpAnyH_take (i := 33) (oi := ⟨some 120, _, _, _, _, _⟩) (v := undef) rfl (by kernel_rfl) (by kernel_rfl) (by kernel_rfl) (fun _ _ _ h => h) (Or.inr ⟨by rfl, rfl⟩) (by assumption) ?_
        (try simp only [Act.put, List.setIfInBounds_toArray, List.set_cons_zero, List.set_cons_succ])
        refine wpAnyH_take (i := 34) (oi := ⟨some 121, _, _, _, _, _⟩) (v := undef) rfl (by kernel_rfl) (by kernel_rfl) (by kernel_rfl) (fun _ _ _ h => h) (Or.inr ⟨by rfl, rfl⟩) (by assumption) ?_
        (try simp only [Act.put, List.setIfInBounds_toArray, List.set_cons_zero, List.set_cons_succ])
        refine wpAnyH_take (i := 35) (oi := ⟨some 122, _, _, _, _, _⟩) (v := undef) rfl (by kernel_rfl) (by kernel_rfl) (by kernel_rfl) (fun _ _ _ h => h) (Or.inr ⟨by rfl, rfl⟩) (by assumption) ?_
        (try simp only [Act.put, List.setIfInBounds_toArray, List.set_cons_zero, List.set_cons_succ])
        refine wpAnyH_take (i := 36) (oi := ⟨some 123, _, _, _, _, _⟩) (v := undef) rfl (by kernel_rfl) (by kernel_rfl) (by kernel_rfl) (fun _ _ _ h => h) (Or.inr ⟨by rfl, rfl⟩) (by assumption) ?_
        (try simp only [Act.put, List.setIfInBounds_toArray, List.set_cons_zero, List.set_cons_succ])
        refine wpAnyH_take (i := 37) (oi := ⟨some 124, _, _, _, _, _⟩) (v := undef) rfl (by kernel_rfl) (by kernel_rfl) (by kernel_rfl) (fun _ _ _ h => h) (Or.inr ⟨by rfl, rfl⟩) (by assumption) ?_
        (try simp only [Act.put, List.setIfInBounds_toArray, List.set_cons_zero, List.set_cons_succ])
        refine wpAnyH_take (i := 38) (oi := ⟨some 125, _, _, _, _, _⟩) (v := ?_) rfl (by kernel_rfl) (by kernel_rfl) (by kernel_rfl) (fun _ _ _ h => h) (Or.inl ⟨by rfl, ?_⟩) (by assumption) ?_
        rotate_left
        · (intro wS hSw; (try dsimp only at hSw); (go_simp) <;> (with_reducible rfl))
        (try simp only [Act.put, List.setIfInBounds_toArray, List.set_cons_zero, List.set_cons_succ])
        refine wpAnyH_take (i := 39) (oi := ⟨some 126, _, _, _, _, _⟩) (v := ?_) rfl (by kernel_rfl) (by kernel_rfl) (by kernel_rfl) (fun _ _ _ h => h) (Or.inl ⟨by rfl, ?_⟩) (by assumption) ?_
        rotate_left
        · (intro wS hSw; (try dsimp only at hSw); (go_simp) <;> (with_reducible rfl))
        (try simp only [Act.put, List.setIfInBounds_toArray, List.set_cons_zero, List.set_cons_succ])
        refine wpAnyH_done (by kernel_rfl) ?_ _
        all_goals
          go_wp2
          go_roundw
          case rel => exact ⟨k + 1, d10, by omega, by go_num, rfl, HRD10, (HRR.out _ HB13.out).1, (HRR.out _ HB13.out).2.1, (HRR.out _ HB13.out).2.2⟩
          case measure => simp [intOf]; omega
    · obtain rfl : k = Q := by omega
      go_wp2
      go_ret
      exact ⟨rfl, HEND.out _ _ (HDU.out.mono HXB.out) HDD.out, HXX.out⟩
end Go.Proofs.Ytammmhbkfdmbfaa
