/- Contracts of layer 5: Delete, Rename, Create. -/
import Derived.Test.YtammmhbkfdmbfaaS10
namespace Go.Proofs.Ytammmhbkfdmbfaa
open Go.RowKit
set_option linter.unusedVariables false

theorem op_delete (s : ByteArray) (hs : s.size ≤ maxLen) (o : OpM) (hk : o.kind = 4) (ha : o.a = toL s) (own : Int) (w W : World) (p g1 g2 : Nat) (S : Nat → Prop) (d : DiskM) (hok : Ok d) (how : own = whyM d o)
    (h : OpK w p S d [(g1, pt p), (g2, .string s)] W) :
    Calls Try.prog 50 #[pt p, .int .i64 own, .func (.func 59) #[] #[pt g1, pt g2]] W fun e w' => e = .returned (.int .i64 (doM d o).2) ∧ DiskAt w' p (Grow S w w') (doM d o).1 ∧ Kept S w w' ∧ BoxK [(g1, pt p), (g2, .string s)] w' := by
  rw [doM_op, ← how]
  refine (op_any 59 _ own W p S d (d.next o) h.disk hok.fuse (enters_of Try.func59 (by kernel_rfl) rfl) (fun h0 b F W1 hr hp hk1 hz => ?_)).mono (fun e w' ⟨e1, e2, e3⟩ => ⟨e1, (h.back e2 e3).1, (h.back e2 e3).2, h.kept e3⟩)
  rw [h0] at how
  obtain ⟨f, hf⟩ := (why_zero how.symm).2.1 (by omega)
  have hf' : getL d.L (toL s) = some f := by rw [← ha]; exact hf
  have b1 := h.box (g1, pt p) (by simp)
  have b2 := h.box (g2, .string s) (by simp)
  have sp : S p := hr.sp
  have c1 := hk1.cell b1.1 (fun e => b1.2 (by rw [e]; exact sp))
  have c2 := hk1.cell b2.1 (fun e => b2.2 (by rw [e]; exact sp))
  have hroom := hok.room
  have hmost := hok.most
  refine (delete1 s hs W1 p b g1 g2 S _ F d.L hr hp c1 c2 (by simp only [DiskM.meta_]; omega)).mono ?_
  rintro e w' ⟨rfl, k1, k2⟩
  obtain ⟨u1, u2⟩ := used_4 hok.rise hk hf
  refine ⟨rfl, DiskAt.grow (DiskAt.of k1 ?_ ?_) k2.size, k2⟩
  · simp only [DiskM.meta_, DiskM.next, u1, ha]
  · show (_ : List FileM).Perm (doesL d.L o)
    rw [u2, ha]
    exact perm_wo hp (toL s)

set_option maxHeartbeats 1000000 in
theorem delete_any (s : ByteArray) (hs : s.size ≤ maxLen) (o : OpM) (hk : o.kind = 4) (ha : o.a = toL s) (w : World) (p : Nat) (S : Nat → Prop) (d : DiskM) (hok : Ok d) (h : DiskAt w p S d) :
    Calls Try.prog 41 #[pt p, .string s] w fun e w' => e = .returned (.int .i64 (doM d o).2) ∧ DiskAt w' p (Grow S w w') (doM d o).1 ∧ Kept S w w' := by
  have hwhy := why_4 d o hk
  rw [ha] at hwhy
  have HK := Lib.hid (OpK.new2 w p S d h (pt p) (.string s) 26 9)
  have HH := Lib.hid (fun W (h : OpK w p S d [(w.heap.size, pt p), (w.heap.size + 1, .string s)] W) => has_any s hs W p S d h.disk)
  have HN := Lib.hid (fun W => named_any (hasL d.L (toL s)) W)
  rw [← hwhy] at HN
  generalize hasL d.L (toL s) = hb at *
  generalize hwo : whyM d o = own at *
  have HO : Hid (∀ W, OpK w p S d [(w.heap.size, pt p), (w.heap.size + 1, .string s)] W → Calls Try.prog 50 #[pt p, .int .i64 own, .func (.func 59) #[] #[pt w.heap.size, pt (w.heap.size + 1)]] W fun e w' => e = .returned (.int .i64 (doM d o).2) ∧ DiskAt w' p (Grow S w w') (doM d o).1 ∧ Kept S w w' ∧ BoxK [(w.heap.size, pt p), (w.heap.size + 1, .string s)] w') :=
    fun W h1 => op_delete s hs o hk ha own w W p w.heap.size (w.heap.size + 1) S d hok hwo.symm h1
  clear h hwo hwhy
  generalize (doM d o).1 = d' at *
  generalize (doM d o).2 = er at *
  go_enter Try.func41, Try.ntmps41
  go_wp2
  generalize (w.alloc (.cells #[pt p] 26)).alloc (.cells #[.string s] 9) = W at *
  go_region_held3 (fun w' => w'.cell? ⟨w.heap.size, 0, none⟩ = some (pt p) ∧ w'.cell? ⟨w.heap.size + 1, 0, none⟩ = some (.string s))
    (first | assumption | exact BoxK.two (by assumption) | exact HK.out.drew.boxes.two)
    (first | (go_at_call 52; refine (HH.out _ HK.out.drew).mono ?_; rintro e w3 ⟨rfl, hB3⟩; have HK3 := Lib.hid (HK.out.drew.step hB3); have hx3 := HK3.out.boxes) | (go_at_call 51; refine (HN.out _).mono ?_; rintro e w4 ⟨rfl, rfl⟩) | (go_at_call 50; refine (HO.out _ HK3.out).mono ?_; rintro e w5 ⟨rfl, hD5, hK5, hx5⟩))
  all_goals
    go_wp2
    go_ret
    exact ⟨rfl, by assumption, by assumption⟩

theorem why_0 (d : DiskM) (o : OpM) (h : o.kind = 0) : whyM d o = if (rightN o.a && !hasL d.L o.a) = true then 0 else 51 := by
  unfold whyM
  rw [h]
  cases hasL d.L o.a <;> cases rightN o.a <;> simp
theorem op_create (s : ByteArray) (hs : s.size ≤ maxLen) (o : OpM) (hk : o.kind = 0) (ha : o.a = toL s) (own : Int) (w W : World) (p g1 g2 : Nat) (S : Nat → Prop) (d : DiskM) (hok : Ok d) (hl : d.L.length ≤ 1000000) (how : own = whyM d o)
    (h : OpK w p S d [(g1, pt p), (g2, .string s)] W) :
    Calls Try.prog 50 #[pt p, .int .i64 own, .func (.func 53) #[] #[pt g1, pt g2]] W fun e w' => e = .returned (.int .i64 (doM d o).2) ∧ DiskAt w' p (Grow S w w') (doM d o).1 ∧ Kept S w w' ∧ BoxK [(g1, pt p), (g2, .string s)] w' := by
  rw [doM_op, ← how]
  refine (op_any 53 _ own W p S d (d.next o) h.disk hok.fuse (enters_of Try.func53 (by kernel_rfl) rfl) (fun h0 b F W1 hr hp hk1 hz => ?_)).mono (fun e w' ⟨e1, e2, e3⟩ => ⟨e1, (h.back e2 e3).1, (h.back e2 e3).2, h.kept e3⟩)
  rw [h0] at how
  obtain ⟨hf, _⟩ := (why_zero how.symm).1 hk
  have b1 := h.box (g1, pt p) (by simp)
  have b2 := h.box (g2, .string s) (by simp)
  have sp : S p := hr.sp
  have c1 := hk1.cell b1.1 (fun e => b1.2 (by rw [e]; exact sp))
  have c2 := hk1.cell b2.1 (fun e => b2.2 (by rw [e]; exact sp))
  refine (create1 s hs W1 p b g1 g2 S _ F hr c1 c2 (by rw [perm_len hp]; exact hl)).mono ?_
  rintro e w' ⟨rfl, k1, k2⟩
  refine ⟨rfl, DiskAt.of k1 ?_ ?_, k2⟩
  · simp only [DiskM.meta_, DiskM.next, used_0 hk hf]
  · show (_ : List FileM).Perm (doesL d.L o)
    have e : doesL d.L o = putL d.L ⟨o.a, [], []⟩ := by unfold doesL; rw [if_pos hk]
    rw [e, ha]
    exact perm_put hp ⟨toL s, [], []⟩ (.slice none 0 0)

set_option maxHeartbeats 1000000 in
theorem create_any (s : ByteArray) (hs : s.size ≤ maxLen) (o : OpM) (hk : o.kind = 0) (ha : o.a = toL s) (w : World) (p : Nat) (S : Nat → Prop) (d : DiskM) (hok : Ok d) (hl : d.L.length ≤ 1000000) (h : DiskAt w p S d) :
    Calls Try.prog 33 #[pt p, .string s] w fun e w' => e = .returned (.int .i64 (doM d o).2) ∧ DiskAt w' p (Grow S w w') (doM d o).1 ∧ Kept S w w' := by
  have hwhy := why_0 d o hk
  rw [ha] at hwhy
  have HK := Lib.hid (OpK.new2 w p S d h (pt p) (.string s) 26 9)
  have HR := Lib.hid (fun W => right_any s W hs)
  have HH := Lib.hid (fun W (h : OpK w p S d [(w.heap.size, pt p), (w.heap.size + 1, .string s)] W) => has_any s hs W p S d h.disk)
  have HN := Lib.hid (fun W => named_any (rightN (toL s) && !hasL d.L (toL s)) W)
  rw [← hwhy] at HN
  generalize hasL d.L (toL s) = hb at *
  generalize rightN (toL s) = rb at *
  generalize hwo : whyM d o = own at *
  have HO : Hid (∀ W, OpK w p S d [(w.heap.size, pt p), (w.heap.size + 1, .string s)] W → Calls Try.prog 50 #[pt p, .int .i64 own, .func (.func 53) #[] #[pt w.heap.size, pt (w.heap.size + 1)]] W fun e w' => e = .returned (.int .i64 (doM d o).2) ∧ DiskAt w' p (Grow S w w') (doM d o).1 ∧ Kept S w w' ∧ BoxK [(w.heap.size, pt p), (w.heap.size + 1, .string s)] w') :=
    fun W h1 => op_create s hs o hk ha own w W p w.heap.size (w.heap.size + 1) S d hok hl hwo.symm h1
  clear h hwo hwhy
  generalize (doM d o).1 = d' at *
  generalize (doM d o).2 = er at *
  cases rb
  · simp only [Bool.false_and] at HN
    go_enter Try.func33, Try.ntmps33
    go_wp2
    generalize (w.alloc (.cells #[pt p] 26)).alloc (.cells #[.string s] 9) = W at *
    refine wp_region_held_drew (S := (fun w' => w'.cell? ⟨w.heap.size, 0, none⟩ = some (pt p) ∧ w'.cell? ⟨w.heap.size + 1, 0, none⟩ = some (.string s))) (by kernel_rfl) ?_ (fun hHeld => ?_)
    · exact HK.out.drew.boxes.two
    refine wpAnyH_take (i := 0) (oi := ⟨some 5, _, _, _, _, _⟩) (v := ?_) rfl (by kernel_rfl) (by kernel_rfl) (by kernel_rfl) (fun _ _ _ h => h) (Or.inl ⟨by rfl, ?_⟩) (by assumption) ?_
    rotate_left
    · (intro wS hSw; (try dsimp only at hSw); (go_simp) <;> (with_reducible rfl))
    (try simp only [Act.put, List.setIfInBounds_toArray, List.set_cons_zero, List.set_cons_succ])
    refine wpAnyH_take (i := 1) (oi := ⟨some 6, _, _, _, _, _⟩) (v := ?_) rfl (by kernel_rfl) (by kernel_rfl) (by kernel_rfl) (fun _ _ _ h => h) (Or.inl ⟨by rfl, ?_⟩) (by assumption) ?_
    rotate_left
    · (intro wS hSw; (try dsimp only at hSw); (go_simp) <;> (with_reducible rfl))
    (try simp only [Act.put, List.setIfInBounds_toArray, List.set_cons_zero, List.set_cons_succ])
    refine wpAnyH_take (i := 10) (oi := ⟨some 15, _, _, _, _, _⟩) (v := ?_) rfl (by kernel_rfl) (by kernel_rfl) (by kernel_rfl) (fun _ _ _ h => h) (Or.inl ⟨by rfl, ?_⟩) (by assumption) ?_
    rotate_left
    · (intro wS hSw; (try dsimp only at hSw); (go_simp) <;> (with_reducible rfl))
    (try simp only [Act.put, List.setIfInBounds_toArray, List.set_cons_zero, List.set_cons_succ])
    refine wpAnyH_ready (rs := [2]) (by kernel_rfl) (by simp) ?_
    refine AllReadyH.cons (o := ⟨some 7, _, _, _, _, _⟩) rfl (fun K hK => ?_) AllReadyH.nil
    go_simp
    refine (HR.out _).mono ?_
    rintro e w2 ⟨rfl, rfl⟩
    go_wp2_with fail
    refine hK.out _ _ ?_ (fun hH2 => ?_)
    · exact HK.out.drew.boxes.two
    clear hK K
    (try simp only [Act.put, List.setIfInBounds_toArray, List.set_cons_zero, List.set_cons_succ])
    refine wpAnyH_take (i := 3) (oi := ⟨some 8, _, _, _, _, _⟩) (v := ?_) rfl (by kernel_rfl) (by kernel_rfl) (by kernel_rfl) (fun _ _ _ h => h) (Or.inl ⟨by rfl, ?_⟩) (by assumption) ?_
    rotate_left
    · (intro wS hSw; (try dsimp only at hSw); (go_simp) <;> (with_reducible rfl))
    (try simp only [Act.put, List.setIfInBounds_toArray, List.set_cons_zero, List.set_cons_succ])
    refine wpAnyH_take (i := 4) (oi := ⟨some 9, _, _, _, _, _⟩) (v := undef) rfl (by kernel_rfl) (by kernel_rfl) (by kernel_rfl) (fun _ _ _ h => h) (Or.inr ⟨by rfl, rfl⟩) (by assumption) ?_
    (try simp only [Act.put, List.setIfInBounds_toArray, List.set_cons_zero, List.set_cons_succ])
    refine wpAnyH_take (i := 5) (oi := ⟨some 10, _, _, _, _, _⟩) (v := undef) rfl (by kernel_rfl) (by kernel_rfl) (by kernel_rfl) (fun _ _ _ h => h) (Or.inr ⟨by rfl, rfl⟩) (by assumption) ?_
    (try simp only [Act.put, List.setIfInBounds_toArray, List.set_cons_zero, List.set_cons_succ])
    refine wpAnyH_take (i := 6) (oi := ⟨some 11, _, _, _, _, _⟩) (v := undef) rfl (by kernel_rfl) (by kernel_rfl) (by kernel_rfl) (fun _ _ _ h => h) (Or.inr ⟨by rfl, rfl⟩) (by assumption) ?_
    (try simp only [Act.put, List.setIfInBounds_toArray, List.set_cons_zero, List.set_cons_succ])
    refine wpAnyH_take (i := 7) (oi := ⟨some 12, _, _, _, _, _⟩) (v := undef) rfl (by kernel_rfl) (by kernel_rfl) (by kernel_rfl) (fun _ _ _ h => h) (Or.inr ⟨by rfl, rfl⟩) (by assumption) ?_
    (try simp only [Act.put, List.setIfInBounds_toArray, List.set_cons_zero, List.set_cons_succ])
    refine wpAnyH_take (i := 8) (oi := ⟨some 13, _, _, _, _, _⟩) (v := ?_) rfl (by kernel_rfl) (by kernel_rfl) (by kernel_rfl) (fun _ _ _ h => h) (Or.inl ⟨by rfl, ?_⟩) (by assumption) ?_
    rotate_left
    · (intro wS hSw; (try dsimp only at hSw); (go_simp) <;> (with_reducible rfl))
    (try simp only [Act.put, List.setIfInBounds_toArray, List.set_cons_zero, List.set_cons_succ])
    refine wpAnyH_ready (rs := [9]) (by kernel_rfl) (by simp) ?_
    refine AllReadyH.cons (o := ⟨some 14, _, _, _, _, _⟩) rfl (fun K hK => ?_) AllReadyH.nil
    go_simp
    refine (HN.out _).mono ?_
    rintro e w2 ⟨rfl, rfl⟩
    go_wp2_with fail
    refine hK.out _ _ ?_ (fun hH9 => ?_)
    · exact HK.out.drew.boxes.two
    clear hK K
    (try simp only [Act.put, List.setIfInBounds_toArray, List.set_cons_zero, List.set_cons_succ])
    refine wpAnyH_ready (rs := [11]) (by kernel_rfl) (by simp) ?_
    refine AllReadyH.cons (o := ⟨some 16, _, _, _, _, _⟩) rfl (fun K hK => ?_) AllReadyH.nil
    go_simp
    refine (HO.out _ HK.out.drew).mono ?_
    rintro e w5 ⟨rfl, hD5, hK5, hx5⟩
    go_wp2_with fail
    refine hK.out _ _ ?_ (fun hH11 => ?_)
    · exact hx5.two
    clear hK K
    (try simp only [Act.put, List.setIfInBounds_toArray, List.set_cons_zero, List.set_cons_succ])
    refine wpAnyH_take (i := 12) (oi := ⟨some 4, _, _, _, _, _⟩) (v := ?_) rfl (by kernel_rfl) (by kernel_rfl) (by kernel_rfl) (fun _ _ _ h => h) (Or.inl ⟨by rfl, ?_⟩) (by assumption) ?_
    rotate_left
    · (intro wS hSw; (try dsimp only at hSw); (go_simp) <;> (with_reducible rfl))
    (try simp only [Act.put, List.setIfInBounds_toArray, List.set_cons_zero, List.set_cons_succ])
    refine wpAnyH_done (by kernel_rfl) ?_ _
    all_goals
      go_wp2
      go_ret
      exact ⟨rfl, by assumption, by assumption⟩
  · simp only [Bool.true_and] at HN
    go_enter Try.func33, Try.ntmps33
    go_wp2
    generalize (w.alloc (.cells #[pt p] 26)).alloc (.cells #[.string s] 9) = W at *
    go_region_held3 (fun w' => w'.cell? ⟨w.heap.size, 0, none⟩ = some (pt p) ∧ w'.cell? ⟨w.heap.size + 1, 0, none⟩ = some (.string s))
      (first | assumption | exact BoxK.two (by assumption) | exact HK.out.drew.boxes.two)
      (first | (go_at_call 24; refine (HR.out _).mono ?_; rintro e w2 ⟨rfl, rfl⟩) | (go_at_call 52; refine (HH.out _ HK.out.drew).mono ?_; rintro e w3 ⟨rfl, hB3⟩; have HK3 := Lib.hid (HK.out.drew.step hB3); have hx3 := HK3.out.boxes) | (go_at_call 51; refine (HN.out _).mono ?_; rintro e w4 ⟨rfl, rfl⟩) | (go_at_call 50; refine (HO.out _ HK3.out).mono ?_; rintro e w5 ⟨rfl, hD5, hK5, hx5⟩))
    all_goals
      go_wp2
      go_ret
      exact ⟨rfl, by assumption, by assumption⟩

theorem why_3 (d : DiskM) (o : OpM) (h : o.kind = 3) : whyM d o = if (hasL d.L o.a && rightN o.b) = true then 0 else 51 := by
  unfold whyM
  rw [h]
  cases hasL d.L o.a <;> cases rightN o.b <;> simp
theorem op_rename (s t : ByteArray) (hs : s.size ≤ maxLen) (ht : t.size ≤ maxLen) (o : OpM) (hk : o.kind = 3) (ha : o.a = toL s) (hb : o.b = toL t) (own : Int) (w W : World) (p g1 g2 g3 : Nat) (S : Nat → Prop) (d : DiskM) (hok : Ok d) (hl : d.L.length ≤ 1000000) (how : own = whyM d o)
    (h : OpK w p S d [(g1, pt p), (g2, .string s), (g3, .string t)] W) :
    Calls Try.prog 50 #[pt p, .int .i64 own, .func (.func 57) #[] #[pt g1, pt g2, pt g3]] W fun e w' => e = .returned (.int .i64 (doM d o).2) ∧ DiskAt w' p (Grow S w w') (doM d o).1 ∧ Kept S w w' ∧ BoxK [(g1, pt p), (g2, .string s), (g3, .string t)] w' := by
  rw [doM_op, ← how]
  refine (op_any 57 _ own W p S d (d.next o) h.disk hok.fuse (enters_of Try.func57 (by kernel_rfl) rfl) (fun h0 b F W1 hr hp hk1 hz => ?_)).mono (fun e w' ⟨e1, e2, e3⟩ => ⟨e1, (h.back e2 e3).1, (h.back e2 e3).2, h.kept e3⟩)
  rw [h0] at how
  obtain ⟨f, hf⟩ := (why_zero how.symm).2.1 (by omega)
  have hf' : getL d.L (toL s) = some f := by rw [← ha]; exact hf
  have b1 := h.box (g1, pt p) (by simp)
  have b2 := h.box (g2, .string s) (by simp)
  have b3 := h.box (g3, .string t) (by simp)
  have sp : S p := hr.sp
  have c1 := hk1.cell b1.1 (fun e => b1.2 (by rw [e]; exact sp))
  have c2 := hk1.cell b2.1 (fun e => b2.2 (by rw [e]; exact sp))
  have c3 := hk1.cell b3.1 (fun e => b3.2 (by rw [e]; exact sp))
  have hroom := hok.room
  have hmost := hok.most
  refine (rename1 s t hs ht W1 p b g1 g2 g3 S _ F d.L hr hp c1 c2 c3 b1.2 b2.2 b3.2 f hf' (by simp only [DiskM.meta_]; omega) (by rw [perm_len hp]; exact hl)).mono ?_
  rintro e w' ⟨rfl, v, k1, k2⟩
  obtain ⟨u1, u2⟩ := used_3 hok.rise hk hf
  refine ⟨rfl, DiskAt.of k1 ?_ ?_, k2⟩
  · simp only [DiskM.meta_, DiskM.next, u1, ha, hb]
  · show (_ : List FileM).Perm (doesL d.L o)
    rw [u2, ha, hb]
    exact perm_put (perm_wo hp (toL s)) ⟨toL t, f.safe, f.loose⟩ v

set_option maxHeartbeats 1000000 in
theorem rename_any (s t : ByteArray) (hs : s.size ≤ maxLen) (ht : t.size ≤ maxLen) (o : OpM) (hk : o.kind = 3) (ha : o.a = toL s) (hb : o.b = toL t) (w : World) (p : Nat) (S : Nat → Prop) (d : DiskM) (hok : Ok d) (hl : d.L.length ≤ 1000000) (h : DiskAt w p S d) :
    Calls Try.prog 40 #[pt p, .string s, .string t] w fun e w' => e = .returned (.int .i64 (doM d o).2) ∧ DiskAt w' p (Grow S w w') (doM d o).1 ∧ Kept S w w' := by
  have hwhy := why_3 d o hk
  rw [ha, hb] at hwhy
  have HK := Lib.hid (OpK.new3 w p S d h (pt p) (.string s) (.string t) 26 9 9)
  have HR := Lib.hid (fun W => right_any t W ht)
  have HH := Lib.hid (fun W (h : OpK w p S d [(w.heap.size, pt p), (w.heap.size + 1, .string s), (w.heap.size + 2, .string t)] W) => has_any s hs W p S d h.disk)
  have HN := Lib.hid (fun W => named_any (hasL d.L (toL s) && rightN (toL t)) W)
  rw [← hwhy] at HN
  generalize hasL d.L (toL s) = hb at *
  generalize rightN (toL t) = rb at *
  generalize hwo : whyM d o = own at *
  have HO : Hid (∀ W, OpK w p S d [(w.heap.size, pt p), (w.heap.size + 1, .string s), (w.heap.size + 2, .string t)] W → Calls Try.prog 50 #[pt p, .int .i64 own, .func (.func 57) #[] #[pt w.heap.size, pt (w.heap.size + 1), pt (w.heap.size + 2)]] W fun e w' => e = .returned (.int .i64 (doM d o).2) ∧ DiskAt w' p (Grow S w w') (doM d o).1 ∧ Kept S w w' ∧ BoxK [(w.heap.size, pt p), (w.heap.size + 1, .string s), (w.heap.size + 2, .string t)] w') :=
    fun W h1 => op_rename s t hs ht o hk ha ‹_› own w W p w.heap.size (w.heap.size + 1) (w.heap.size + 2) S d hok hl hwo.symm h1
  clear h hwo hwhy
  generalize (doM d o).1 = d' at *
  generalize (doM d o).2 = er at *
  cases hb
  · simp only [Bool.false_and] at HN
    go_enter Try.func40, Try.ntmps40
    go_wp2
    generalize ((w.alloc (.cells #[pt p] 26)).alloc (.cells #[.string s] 9)).alloc (.cells #[.string t] 9) = W at *
    refine wp_region_held_drew (S := (fun w' => w'.cell? ⟨w.heap.size, 0, none⟩ = some (pt p) ∧ w'.cell? ⟨w.heap.size + 1, 0, none⟩ = some (.string s) ∧ w'.cell? ⟨w.heap.size + 2, 0, none⟩ = some (.string t))) (by kernel_rfl) ?_ (fun hHeld => ?_)
    · exact HK.out.drew.boxes.three
    refine wpAnyH_take (i := 0) (oi := ⟨some 7, _, _, _, _, _⟩) (v := ?_) rfl (by kernel_rfl) (by kernel_rfl) (by kernel_rfl) (fun _ _ _ h => h) (Or.inl ⟨by rfl, ?_⟩) (by assumption) ?_
    rotate_left
    · (intro wS hSw; (try dsimp only at hSw); (go_simp) <;> (with_reducible rfl))
    (try simp only [Act.put, List.setIfInBounds_toArray, List.set_cons_zero, List.set_cons_succ])
    refine wpAnyH_take (i := 1) (oi := ⟨some 8, _, _, _, _, _⟩) (v := ?_) rfl (by kernel_rfl) (by kernel_rfl) (by kernel_rfl) (fun _ _ _ h => h) (Or.inl ⟨by rfl, ?_⟩) (by assumption) ?_
    rotate_left
    · (intro wS hSw; (try dsimp only at hSw); (go_simp) <;> (with_reducible rfl))
    (try simp only [Act.put, List.setIfInBounds_toArray, List.set_cons_zero, List.set_cons_succ])
    refine wpAnyH_take (i := 2) (oi := ⟨some 9, _, _, _, _, _⟩) (v := ?_) rfl (by kernel_rfl) (by kernel_rfl) (by kernel_rfl) (fun _ _ _ h => h) (Or.inl ⟨by rfl, ?_⟩) (by assumption) ?_
    rotate_left
    · (intro wS hSw; (try dsimp only at hSw); (go_simp) <;> (with_reducible rfl))
    (try simp only [Act.put, List.setIfInBounds_toArray, List.set_cons_zero, List.set_cons_succ])
    refine wpAnyH_take (i := 9) (oi := ⟨some 16, _, _, _, _, _⟩) (v := ?_) rfl (by kernel_rfl) (by kernel_rfl) (by kernel_rfl) (fun _ _ _ h => h) (Or.inl ⟨by rfl, ?_⟩) (by assumption) ?_
    rotate_left
    · (intro wS hSw; (try dsimp only at hSw); (go_simp) <;> (with_reducible rfl))
    (try simp only [Act.put, List.setIfInBounds_toArray, List.set_cons_zero, List.set_cons_succ])
    refine wpAnyH_ready (rs := [3]) (by kernel_rfl) (by simp) ?_
    refine AllReadyH.cons (o := ⟨some 10, _, _, _, _, _⟩) rfl (fun K hK => ?_) AllReadyH.nil
    go_simp
    refine (HH.out _ HK.out.drew).mono ?_
    rintro e w3 ⟨rfl, hB3⟩
    have HK3 := Lib.hid (HK.out.drew.step hB3)
    go_wp2_with fail
    refine hK.out _ _ ?_ (fun hH3 => ?_)
    · exact HK3.out.boxes.three
    clear hK K
    (try simp only [Act.put, List.setIfInBounds_toArray, List.set_cons_zero, List.set_cons_succ])
    refine wpAnyH_take (i := 4) (oi := ⟨some 11, _, _, _, _, _⟩) (v := ?_) rfl (by kernel_rfl) (by kernel_rfl) (by kernel_rfl) (fun _ _ _ h => h) (Or.inl ⟨by rfl, ?_⟩) (by assumption) ?_
    rotate_left
    · (intro wS hSw; (try dsimp only at hSw); (go_simp) <;> (with_reducible rfl))
    (try simp only [Act.put, List.setIfInBounds_toArray, List.set_cons_zero, List.set_cons_succ])
    refine wpAnyH_take (i := 5) (oi := ⟨some 12, _, _, _, _, _⟩) (v := undef) rfl (by kernel_rfl) (by kernel_rfl) (by kernel_rfl) (fun _ _ _ h => h) (Or.inr ⟨by rfl, rfl⟩) (by assumption) ?_
    (try simp only [Act.put, List.setIfInBounds_toArray, List.set_cons_zero, List.set_cons_succ])
    refine wpAnyH_take (i := 6) (oi := ⟨some 13, _, _, _, _, _⟩) (v := undef) rfl (by kernel_rfl) (by kernel_rfl) (by kernel_rfl) (fun _ _ _ h => h) (Or.inr ⟨by rfl, rfl⟩) (by assumption) ?_
    (try simp only [Act.put, List.setIfInBounds_toArray, List.set_cons_zero, List.set_cons_succ])
    refine wpAnyH_take (i := 7) (oi := ⟨some 14, _, _, _, _, _⟩) (v := ?_) rfl (by kernel_rfl) (by kernel_rfl) (by kernel_rfl) (fun _ _ _ h => h) (Or.inl ⟨by rfl, ?_⟩) (by assumption) ?_
    rotate_left
    · (intro wS hSw; (try dsimp only at hSw); (go_simp) <;> (with_reducible rfl))
    (try simp only [Act.put, List.setIfInBounds_toArray, List.set_cons_zero, List.set_cons_succ])
    refine wpAnyH_ready (rs := [8]) (by kernel_rfl) (by simp) ?_
    refine AllReadyH.cons (o := ⟨some 15, _, _, _, _, _⟩) rfl (fun K hK => ?_) AllReadyH.nil
    go_simp
    refine (HN.out _).mono ?_
    rintro e w4 ⟨rfl, rfl⟩
    go_wp2_with fail
    refine hK.out _ _ ?_ (fun hH8 => ?_)
    · exact HK3.out.boxes.three
    clear hK K
    (try simp only [Act.put, List.setIfInBounds_toArray, List.set_cons_zero, List.set_cons_succ])
    refine wpAnyH_ready (rs := [10]) (by kernel_rfl) (by simp) ?_
    refine AllReadyH.cons (o := ⟨some 17, _, _, _, _, _⟩) rfl (fun K hK => ?_) AllReadyH.nil
    go_simp
    refine (HO.out _ HK3.out).mono ?_
    rintro e w5 ⟨rfl, hD5, hK5, hx5⟩
    go_wp2_with fail
    refine hK.out _ _ ?_ (fun hH10 => ?_)
    · exact hx5.three
    clear hK K
    (try simp only [Act.put, List.setIfInBounds_toArray, List.set_cons_zero, List.set_cons_succ])
    refine wpAnyH_take (i := 11) (oi := ⟨some 6, _, _, _, _, _⟩) (v := ?_) rfl (by kernel_rfl) (by kernel_rfl) (by kernel_rfl) (fun _ _ _ h => h) (Or.inl ⟨by rfl, ?_⟩) (by assumption) ?_
    rotate_left
    · (intro wS hSw; (try dsimp only at hSw); (go_simp) <;> (with_reducible rfl))
    (try simp only [Act.put, List.setIfInBounds_toArray, List.set_cons_zero, List.set_cons_succ])
    refine wpAnyH_done (by kernel_rfl) ?_ _
    all_goals
      go_wp2
      go_ret
      exact ⟨rfl, by assumption, by assumption⟩
  · simp only [Bool.true_and] at HN
    go_enter Try.func40, Try.ntmps40
    go_wp2
    generalize ((w.alloc (.cells #[pt p] 26)).alloc (.cells #[.string s] 9)).alloc (.cells #[.string t] 9) = W at *
    go_region_held3 (fun w' => w'.cell? ⟨w.heap.size, 0, none⟩ = some (pt p) ∧ w'.cell? ⟨w.heap.size + 1, 0, none⟩ = some (.string s) ∧ w'.cell? ⟨w.heap.size + 2, 0, none⟩ = some (.string t))
      (first | assumption | exact BoxK.three (by assumption) | exact HK.out.drew.boxes.three)
      (first | (go_at_call 52; refine (HH.out _ HK.out.drew).mono ?_; rintro e w3 ⟨rfl, hB3⟩; have HK3 := Lib.hid (HK.out.drew.step hB3); have hx3 := HK3.out.boxes) | (go_at_call 24; refine (HR.out _).mono ?_; rintro e w2 ⟨rfl, rfl⟩) | (go_at_call 51; refine (HN.out _).mono ?_; rintro e w4 ⟨rfl, rfl⟩) | (go_at_call 50; refine (HO.out _ HK3.out).mono ?_; rintro e w5 ⟨rfl, hD5, hK5, hx5⟩))
    all_goals
      go_wp2
      go_ret
      exact ⟨rfl, by assumption, by assumption⟩
end Go.Proofs.Ytammmhbkfdmbfaa
