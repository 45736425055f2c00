/- Contracts of layer 5: Append. -/
import Derived.Test.YtammmhbkfdmbfaaS11
import Derived.Deep.QuietTactic
import Derived.BigQuiet
namespace Go.Proofs.Ytammmhbkfdmbfaa
open Go.RowKit
set_option linter.unusedVariables false

theorem why_1 (d : DiskM) (o : OpM) (h : o.kind = 1) : whyM d o = if hasL d.L o.a = true then (if d.limit < (usedL d.L : Int) + o.b.length then 52 else 0) else 51 := by
  unfold whyM
  rw [h]
  cases hasL d.L o.a
  · simp
  · by_cases hc : d.limit < (usedL d.L : Int) + o.b.length
    · simp [hc]
    · simp [hc]
theorem op_append (s t : ByteArray) (hs : s.size ≤ maxLen) (o : OpM) (hk : o.kind = 1) (ha : o.a = toL s) (hb : o.b = toL t) (own : Int) (w W : World) (p g1 g2 g3 : Nat) (S : Nat → Prop) (d : DiskM) (hok : Ok d) (hl : d.L.length ≤ 1000000) (how : own = whyM d o)
    (h : OpK w p S d [(g1, pt p), (g2, .string s), (g3, .string t)] W) :
    Calls Try.prog 50 #[pt p, .int .i64 own, .func (.func 55) #[] #[pt g1, pt g2, pt g3]] W fun e w' => e = .returned (.int .i64 (doM d o).2) ∧ DiskAt w' p (Grow S w w') (doM d o).1 ∧ Kept S w w' := by
  rw [doM_op, ← how]
  refine (op_any 55 _ own W p S d (d.next o) h.disk hok.fuse (enters_of Try.func55 (by kernel_rfl) rfl) (fun h0 b F W1 hr hp hk1 hz => ?_)).mono (fun e w' ⟨e1, e2, e3⟩ => ⟨e1, (h.back e2 e3).1, (h.back e2 e3).2⟩)
  rw [h0] at how
  obtain ⟨f, hf⟩ := (why_zero how.symm).2.1 (by omega)
  have hrm := (why_zero how.symm).2.2.1 hk
  have hf' : getL d.L (toL s) = some f := by rw [← ha]; exact hf
  obtain ⟨m1, m2⟩ := getL_some hf'
  have b1 := h.box (g1, pt p) (by simp)
  have b2 := h.box (g2, .string s) (by simp)
  have b3 := h.box (g3, .string t) (by simp)
  have sp : S p := hr.sp
  have c1 := hk1.cell b1.1 (fun e => b1.2 (by rw [e]; exact sp))
  have c2 := hk1.cell b2.1 (fun e => b2.2 (by rw [e]; exact sp))
  have c3 := hk1.cell b3.1 (fun e => b3.2 (by rw [e]; exact sp))
  have hroom := hok.room
  have hmost := hok.most
  have htl : o.b.length = t.size := by rw [hb, toL_length]
  rw [htl] at hrm
  refine (append1 s t hs W1 p b g1 g2 g3 S _ F d.L hr hp c1 c2 c3 b1.2 b2.2 b3.2 f hf' (by simp only [DiskM.meta_]; omega) (ok_len hok m1) (by omega) (by rw [perm_len hp]; exact hl)).mono ?_
  rintro e w' ⟨rfl, v, k1, k2⟩
  obtain ⟨u1, u2⟩ := used_1 hok.rise hk hf
  refine ⟨rfl, DiskAt.of k1 ?_ ?_, k2⟩
  · simp only [DiskM.meta_, DiskM.next, u1, htl]
    congr 1
  · show (_ : List FileM).Perm (doesL d.L o)
    rw [u2, hb]
    have := perm_put hp ⟨f.name, f.safe, f.loose ++ toL t⟩ v
    simp only [m2] at this ⊢
    exact this

theorem OpK.drewN {w W : World} {p : Nat} {S : Nat → Prop} {d : DiskM} {xs : List (Nat × Value)} (h : OpK w p S d xs W) (n : Nat) : OpK w p S d xs (W.drewN n) := h.step (Drew.below (show Drew W (W.drewN n) from ⟨n, rfl⟩) _)
set_option maxHeartbeats 1000000 in
theorem append_any (s t : ByteArray) (hs : s.size ≤ maxLen) (ht : t.size ≤ maxLen) (o : OpM) (hk : o.kind = 1) (ha : o.a = toL s) (hb : o.b = toL t) (w : World) (p : Nat) (S : Nat → Prop) (d : DiskM) (hok : Ok d) (hl : d.L.length ≤ 1000000) (h : DiskAt w p S d) :
    Calls Try.prog 38 #[pt p, .string s, .string t] w fun e w' => e = .returned (.int .i64 (doM d o).2) ∧ DiskAt w' p (Grow S w w') (doM d o).1 ∧ Kept S w w' := by
  have hwhy := why_1 d o hk
  have htl : o.b.length = t.size := by rw [hb, toL_length]
  rw [ha, htl] at hwhy
  have HK := Lib.hid (OpK.new3 w p S d h (pt p) (.string s) (.string t) 26 9 9)
  have HH := Lib.hid (fun W (h : OpK w p S d [(w.heap.size, pt p), (w.heap.size + 1, .string s), (w.heap.size + 2, .string t)] W) => has_any s hs W p S d h.disk)
  have HN := Lib.hid (fun W => named_any (hasL d.L (toL s)) W)
  have HC : Hid (∀ W, OpK w p S d [(w.heap.size, pt p), (w.heap.size + 1, .string s), (w.heap.size + 2, .string t)] W → W.cell? ⟨p, 0, none⟩ = some (.int .i64 d.limit) ∧ W.cell? ⟨p, 1, none⟩ = some (.int .i64 (usedL d.L : Int))) := fun W h1 => by
    obtain ⟨b, F, hr, _⟩ := h1.disk
    exact ⟨hr.cells.1, hr.cells.2.1⟩
  have hroom := hok.room
  have hmost := hok.most
  unfold maxLen at ht
  generalize hasL d.L (toL s) = hb2 at *
  generalize hwo : whyM d o = own at *
  have HO : Hid (∀ W, OpK w p S d [(w.heap.size, pt p), (w.heap.size + 1, .string s), (w.heap.size + 2, .string t)] W → Calls Try.prog 50 #[pt p, .int .i64 own, .func (.func 55) #[] #[pt w.heap.size, pt (w.heap.size + 1), pt (w.heap.size + 2)]] W fun e w' => e = .returned (.int .i64 (doM d o).2) ∧ DiskAt w' p (Grow S w w') (doM d o).1 ∧ Kept S w w') :=
    fun W h1 => op_append s t hs o hk ha hb own w W p w.heap.size (w.heap.size + 1) (w.heap.size + 2) S d hok hl hwo.symm h1
  generalize hu : (usedL d.L : Int) = u at *
  have hu0 : 0 ≤ u := by omega
  clear h hwo hu htl
  generalize d.limit = lim at *
  generalize (doM d o).1 = d' at *
  generalize (doM d o).2 = er at *
  have hsub : IntKind.i64.wrap (lim - u) = lim - u := IntWalk.i64_in _ (by omega)
  go_enter Try.func38, Try.ntmps38
  go_wp2_with fail
  generalize ((w.alloc (.cells #[pt p] 26)).alloc (.cells #[.string s] 9)).alloc (.cells #[.string t] 9) = W at *
  refine (HH.out _ HK.out).mono ?_
  rintro e w3 ⟨rfl, hB3⟩
  have HK3 := Lib.hid (HK.out.step hB3)
  obtain ⟨q1, q2, q3⟩ := HK3.out.boxes.three
  obtain ⟨q4, q5⟩ := HC.out _ HK3.out
  clear hB3 HK
  go_wp2_with fail
  refine (HN.out _).mono ?_
  rintro e w4 ⟨rfl, rfl⟩
  cases hb2
  · simp only [Bool.false_eq_true, if_false] at hwhy
    subst hwhy
    clear HN HH
    go_wp2
    go_quiet (fail)
    go_wp2_with fail
    refine (HO.out _ (HK3.out.drewN _)).mono ?_
    rintro e w5 ⟨rfl, hD5, hK5⟩
    go_wp2
    go_ret
    exact ⟨rfl, hD5, hK5⟩
  · simp only [if_true] at hwhy
    clear HN HH
    by_cases hc : lim < u + t.size
    · rw [if_pos hc] at hwhy
      subst hwhy
      have hc2 : lim - u < (t.size : Int) := by omega
      clear hc
      go_wp2
      go_quiet (fail)
      go_wp2_with fail
      refine (HO.out _ (HK3.out.drewN _)).mono ?_
      rintro e w5 ⟨rfl, hD5, hK5⟩
      go_wp2
      go_ret
      exact ⟨rfl, hD5, hK5⟩
    · rw [if_neg hc] at hwhy
      subst hwhy
      have hc2 : ¬ lim - u < (t.size : Int) := by omega
      clear hc
      go_wp2
      go_quiet (fail)
      go_wp2_with fail
      refine (HO.out _ (HK3.out.drewN _)).mono ?_
      rintro e w5 ⟨rfl, hD5, hK5⟩
      go_wp2
      go_ret
      exact ⟨rfl, hD5, hK5⟩
end Go.Proofs.Ytammmhbkfdmbfaa
