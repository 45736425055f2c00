/- Contracts of layer 5: what the ops do. -/
import Derived.Test.YtammmhbkfdmbfaaS5
import Derived.RegionTactic
import Derived.BigRegion
namespace Go.Proofs.Ytammmhbkfdmbfaa
open Go.RowKit
set_option linter.unusedVariables false

theorem Fs.drew {w : World} {b : Nat} {E : List (Nm × Value)} (h : Fs w b E) : Fs w.drew b E := h
/-- Create -/
theorem create1 (s : ByteArray) (hs : s.size ≤ maxLen) (w : World) (p b bd bf : Nat) (S : Nat → Prop) (m : Meta) (F : List (FileM × Value)) (h : DiskRaw w p b S m F) (hd : w.cell? ⟨bd, 0, none⟩ = some (pt p)) (hf : w.cell? ⟨bf, 0, none⟩ = some (.string s))
    (hl : F.length ≤ 1000000) : Calls Try.prog 53 #[pt bd, pt bf] w fun e w' => e = .returned (.tuple #[]) ∧ DiskRaw w' p b (Grow S w w') m ((⟨toL s, [], []⟩, .slice none 0 0) :: F.filter (notN (toL s))) ∧ Kept S w w' := by
  have hc : w.cell? ⟨p, 2, none⟩ = some (.map (some b)) := h.cells.2.2.1
  obtain ⟨w1, hrun, hfs1, hg1⟩ := h.fs.drew.store hs (by rw [List.length_map]; unfold maxLen; omega) (cv (.slice none 0 0) 0)
  change (Instr.mapUpdate 69 (.map (some b)) (.string s) (.agg #[.slice none 0 0, .int .i64 0])).run Try.prog w.drew = .ok () w1 at hrun
  have HQ : Hid (DiskRaw w1 p b (Grow S w w1) m ((⟨toL s, [], []⟩, .slice none 0 0) :: F.filter (notN (toL s))) ∧ Kept S w w1) := by
    refine ⟨h.put rfl hg1.size (fun i hi hne _ => .inl (hg1.block i hi (fun e => hne (Option.some.inj e)))) hfs1 ⟨rfl, .inl ⟨rfl, rfl⟩⟩ (fun g hg => by cases hg) (fun e => by cases e) (fun g hg => by cases hg), ?_⟩
    exact ⟨hg1.os, hg1.tape, hg1.output, hg1.size, fun i hi hT => hg1.block i hi (fun e => hT (by rw [Option.some.inj e]; exact h.sb))⟩
  clear hfs1 hg1 h hl
  go_enter Try.func53, Try.ntmps53
  go_wp2
  go_region
  go_end0
  exact ⟨rfl, HQ.out⟩

theorem fieldC (a : Option Addr) (n c : Nat) (k : Int) (w : World) : (Instr.field 77 (.agg #[.slice a n c, .int .i64 k]) 0).run Try.prog w = .ok (.slice a n c) w := by kernel_rfl
/-- a file is no more -/
theorem drop_any (s : ByteArray) (hs : s.size ≤ maxLen) (w : World) (p b : Nat) (S : Nat → Prop) (m : Meta) (F : List (FileM × Value)) (L : List FileM) (h : DiskRaw w p b S m F) (hp : (F.map (·.1)).Perm L)
    (hu : 0 ≤ m.used ∧ m.used ≤ 1000000000000000000) : Calls Try.prog 58 #[pt p, .string s] w fun e w' => e = .returned (.tuple #[]) ∧ DiskRaw w' p b S { m with used := m.used - sizeN L (toL s) } (F.filter (notN (toL s))) ∧ Kept (fun i => i = p ∨ i = b) w w' := by
  have hc := h.cells.2.2.1
  have hc1 := h.cells.2.1
  have hfr := h.free 1
  have hlk := h.fs.drew.look hs
  obtain ⟨n, a, k, c, hn1, hn2, hlk2⟩ : ∃ (n : Nat) (a : Option Addr) (k c : Nat), sizeN L (toL s) = n ∧ n ≤ maxLen ∧ (Instr.lookup 69 (.map (some b)) (.string s) false).run Try.prog w.drew = .ok (.agg #[.slice a n c, .int .i64 (k : Int)]) w.drew := by
    rcases h.find hp (toL s) with ⟨h1, h2⟩ | ⟨f, a, c, h1, _, _, h2, h3, h4, _⟩
    · rw [h2] at hlk
      exact ⟨0, none, 0, 0, by unfold sizeN; rw [h1], by decide, hlk⟩
    · rw [h2] at hlk
      exact ⟨_, a, _, c, by unfold sizeN; rw [h1], Nat.le_trans h3 h4, hlk⟩
  rw [hn1]
  have HR := h.setUsed (m.used - n)
  have HW := h.setUsed (m.used - n)
  obtain ⟨w1, hrun, hfs1, hg1⟩ := HW.fs.drew.drop hs 0
  unfold maxLen at hn2
  have hw : IntKind.i64.wrap (m.used - n) = m.used - n := IntWalk.i64_in _ (by omega)
  have HQ : Hid (DiskRaw w1 p b S { m with used := m.used - n } (F.filter (notN (toL s))) ∧ Kept (fun i => i = p ∨ i = b) w w1) := by
    have HD : DiskRaw (w.setCell ⟨p, 1, none⟩ (.int .i64 (m.used - n))).drew p b S { m with used := m.used - n } F := HR.below ((Below.refl _ _).drew)
    refine ⟨HD.del hg1 hfs1, ?_⟩
    refine ((Kept.refl (fun i => i = p ∨ i = b) w).setCell (.inl (.inl rfl)) 1 (.int .i64 (m.used - n))).drew.trans (Kept.of_grown hg1 (T := fun i => i = b) (fun i e => (Option.some.inj e).symm)) (fun i _ e => .inr e)
  have hc2 : (w.setCell ⟨p, 1, none⟩ (.int .i64 (m.used - n))).drew.cell? ⟨p, 2, none⟩ = some (.map (some b)) := HW.cells.2.2.1
  have hfd := fieldC a n c k
  clear hfs1 hg1 h HR HW hlk hu hn1
  go_enter Try.func58, Try.ntmps58
  go_wp2
  go_region
  go_wp2
  go_end0
  exact ⟨rfl, HQ.out⟩
end Go.Proofs.Ytammmhbkfdmbfaa
