/- Contracts of layer 5: the ops. -/
import Derived.Test.YtammmhbkfdmbfaaS8
import Derived.Shelf.AbstractIn
namespace Go.Proofs.Ytammmhbkfdmbfaa
open Go.RowKit
set_option linter.unusedVariables false

set_option maxHeartbeats 1000000 in
theorem op_done (g : Nat) (caps : Array Value) (w : World) (p b : Nat) (S : Nat → Prop) (d : DiskM) (F : List (FileM × Value)) (h : DiskRaw w p b S d.meta_ F) (hdn : d.down = false) (hf0 : d.fuse ≠ 0) (hf1 : -1 ≤ d.fuse ∧ d.fuse ≤ 9223372036854775807)
    (R : World → Prop) (eg : ∀ args w, (callFunc g args).run Try.prog w = .ok (.enter g args) w)
    (hdo : ∀ W, DiskRaw W p b S { d.meta_ with fuse := if 0 < d.fuse then d.fuse - 1 else d.fuse, ops := IntKind.i64.wrap (d.ops + 1) } F → Kept (fun i => i = p) w W → W.heap.size = w.heap.size → Calls Try.prog g caps W fun e w' => e = .returned (.tuple #[]) ∧ R w') :
    Calls Try.prog 50 #[pt p, .int .i64 0, .func (.func g) #[] caps] w fun e w' => e = .returned (.int .i64 0) ∧ R w' := by
  have hc3 : w.cell? ⟨p, 3, none⟩ = some (.int .i64 d.ops) := h.cells.2.2.2.1
  have hc5 : w.cell? ⟨p, 5, none⟩ = some (.int .i64 d.fuse) := h.cells.2.2.2.2.2.1
  have hc6 : w.cell? ⟨p, 6, none⟩ = some (.bool false) := by have := h.cells.2.2.2.2.2.2; rw [show d.meta_.down = d.down from rfl, hdn] at this; exact this
  have hf3 := h.free 3
  have hf5 := h.free 5
  have hz : (d.fuse == 0) = false := beq_eq_false_iff_ne.2 hf0
  by_cases hm : d.fuse = -1
  · have HW := Lib.hid (hdo (w.setCell ⟨p, 3, none⟩ (.int .i64 (IntKind.i64.wrap (d.ops + 1)))) (by
      have := h.setOps (IntKind.i64.wrap (d.ops + 1))
      rw [if_neg (by omega)]
      exact this) ((Kept.refl (fun i => i = p) w).setCell (.inl rfl) 3 _) (by simp [World.setCell]))
    have hz1 : (d.fuse == -1) = true := by rw [hm]; rfl
    clear hdo h
    generalize d.fuse = fu at *
    generalize d.ops = op at *
    generalize hop : IntKind.i64.wrap (op + 1) = op1 at *
    go_enter Try.func50, Try.ntmps50
    go_wp2_with (go_at_fn g; refine HW.out.mono ?_; rintro e w1 ⟨rfl, hR⟩)
    go_ret
    exact ⟨rfl, hR⟩
  · have HW := Lib.hid (hdo ((w.setCell ⟨p, 5, none⟩ (.int .i64 (d.fuse - 1))).setCell ⟨p, 3, none⟩ (.int .i64 (IntKind.i64.wrap (d.ops + 1)))) (by
      have := (h.setFuse (d.fuse - 1)).setOps (IntKind.i64.wrap (d.ops + 1))
      rw [if_pos (by omega)]
      exact this) (((Kept.refl (fun i => i = p) w).setCell (.inl rfl) 5 _).setCell (.inl rfl) 3 _) (by simp [World.setCell]))
    have hz1 : (d.fuse == -1) = false := beq_eq_false_iff_ne.2 hm
    have hw : IntKind.i64.wrap (d.fuse - 1) = d.fuse - 1 := IntWalk.i64_in _ (by omega)
    clear hdo h
    generalize d.fuse = fu at *
    generalize d.ops = op at *
    generalize hop : IntKind.i64.wrap (op + 1) = op1 at *
    go_enter Try.func50, Try.ntmps50
    go_wp2_with (go_at_fn g; refine HW.out.mono ?_; rintro e w1 ⟨rfl, hR⟩)
    go_ret
    exact ⟨rfl, hR⟩

theorem op_down (own : Int) (f : Value) (w : World) (p : Nat) (S : Nat → Prop) (d : DiskM) (h : DiskAt w p S d) (hdn : d.down = true) :
    Calls Try.prog 50 #[pt p, .int .i64 own, f] w fun e w' => e = .returned (.int .i64 50) ∧ w' = w := by
  obtain ⟨b, F, hr, hp⟩ := h
  have hc6 : w.cell? ⟨p, 6, none⟩ = some (.bool true) := by have := hr.cells.2.2.2.2.2.2; rw [show d.meta_.down = d.down from rfl, hdn] at this; exact this
  clear hr
  go_enter Try.func50, Try.ntmps50
  go_wp2
  go_ret
  exact ⟨rfl, rfl⟩
theorem op_own (own : Int) (ho : own ≠ 0) (f : Value) (w : World) (p : Nat) (S : Nat → Prop) (d : DiskM) (h : DiskAt w p S d) (hdn : d.down = false) :
    Calls Try.prog 50 #[pt p, .int .i64 own, f] w fun e w' => e = .returned (.int .i64 own) ∧ w' = w := by
  obtain ⟨b, F, hr, hp⟩ := h
  have hc6 : w.cell? ⟨p, 6, none⟩ = some (.bool false) := by have := hr.cells.2.2.2.2.2.2; rw [show d.meta_.down = d.down from rfl, hdn] at this; exact this
  have hz : (own == 0) = false := beq_eq_false_iff_ne.2 ho
  have ho' : ¬ own = 0 := ho
  clear hr ho
  go_enter Try.func50, Try.ntmps50
  go_wp2
  go_ret
  exact ⟨rfl, rfl⟩
theorem op_fuse (f : Value) (w : World) (p : Nat) (S : Nat → Prop) (d : DiskM) (h : DiskAt w p S d) (hdn : d.down = false) (hf : d.fuse = 0) :
    Calls Try.prog 50 #[pt p, .int .i64 0, f] w fun e w' => e = .returned (.int .i64 50) ∧ DiskAt w' p (Grow S w w') { d with down := true } ∧ Kept S w w' := by
  obtain ⟨b, F, hr, hp⟩ := h
  have hc6 : w.cell? ⟨p, 6, none⟩ = some (.bool false) := by have := hr.cells.2.2.2.2.2.2; rw [show d.meta_.down = d.down from rfl, hdn] at this; exact this
  have hc5 : w.cell? ⟨p, 5, none⟩ = some (.int .i64 0) := by have := hr.cells.2.2.2.2.2.1; rw [show d.meta_.fuse = d.fuse from rfl, hf] at this; exact this
  have hf6 := hr.free 6
  have HR := Lib.hid (hr.setDown true)
  have HS := Lib.hid hr.sp
  clear hr
  go_enter Try.func50, Try.ntmps50
  go_wp2
  go_ret
  exact ⟨rfl, DiskAt.grow ⟨b, F, HR.out, hp⟩ (by simp [World.setCell]), (Kept.refl S w).setCell (.inl HS.out) 6 _⟩

def opE (d : DiskM) (own : Int) : Int := if d.down = true then 50 else if own ≠ 0 then own else if d.fuse = 0 then 50 else 0
def opD (d : DiskM) (own : Int) (d' : DiskM) : DiskM := if d.down = true then d else if own ≠ 0 then d else if d.fuse = 0 then { d with down := true } else d'
theorem doM_op (d : DiskM) (o : OpM) : doM d o = (opD d (whyM d o) (d.next o), opE d (whyM d o)) := by
  unfold doM opD opE
  split
  · rfl
  · split
    · rfl
    · split <;> rfl
theorem op_any (g : Nat) (caps : Array Value) (own : Int) (w : World) (p : Nat) (S : Nat → Prop) (d d' : DiskM) (h : DiskAt w p S d) (hf1 : -1 ≤ d.fuse ∧ d.fuse ≤ 9223372036854775807)
    (eg : ∀ args w, (callFunc g args).run Try.prog w = .ok (.enter g args) w)
    (hdo : own = 0 → ∀ b F W, DiskRaw W p b S { d.meta_ with fuse := if 0 < d.fuse then d.fuse - 1 else d.fuse, ops := IntKind.i64.wrap (d.ops + 1) } F → (F.map (·.1)).Perm d.L → Kept (fun i => i = p) w W → W.heap.size = w.heap.size →
      Calls Try.prog g caps W fun e w' => e = .returned (.tuple #[]) ∧ DiskAt w' p (Grow S W w') d' ∧ Kept S W w') :
    Calls Try.prog 50 #[pt p, .int .i64 own, .func (.func g) #[] caps] w fun e w' => e = .returned (.int .i64 (opE d own)) ∧ DiskAt w' p (Grow S w w') (opD d own d') ∧ Kept S w w' := by
  by_cases hd : d.down = true
  · refine (op_down own _ w p S d h hd).mono ?_
    rintro e w' ⟨rfl, rfl⟩
    refine ⟨by rw [opE, if_pos hd], ?_, Kept.refl S _⟩
    rw [opD, if_pos hd]
    exact h.grow (Nat.le_refl _)
  have hdn : d.down = false := by simpa using hd
  by_cases ho : own = 0
  · subst ho
    by_cases hf : d.fuse = 0
    · refine (op_fuse _ w p S d h hdn hf).mono ?_
      rintro e w' ⟨rfl, h1, h2⟩
      refine ⟨by rw [opE, if_neg hd, if_neg (by simp), if_pos hf], ?_, h2⟩
      rw [opD, if_neg hd, if_neg (by simp), if_pos hf]
      exact h1
    · obtain ⟨b, F, hr, hp⟩ := h
      refine (op_done g caps w p b S d F hr hdn hf hf1 (fun w' => DiskAt w' p (Grow S w w') d' ∧ Kept S w w') eg (fun W h1 h2 h3 => ?_)).mono ?_
      · refine (hdo rfl b F W h1 hp h2 h3).mono ?_
        rintro e w' ⟨rfl, k1, k2⟩
        refine ⟨rfl, ?_, ?_⟩
        · refine k1.mono (fun i hi => ?_) (fun i hi => ?_)
          · rcases hi with hi | hi
            · exact .inl hi
            · exact .inr ⟨by omega, hi.2⟩
          · rcases hi with hi | hi
            · exact k1.lt i (.inl hi)
            · exact hi.2
        · exact (h2.mono (fun i e => by subst e; exact hr.sp)).trans k2 (fun _ _ e => e)
      · rintro e w' ⟨rfl, h1, h2⟩
        refine ⟨by rw [opE, if_neg hd, if_neg (by simp), if_neg hf], ?_, h2⟩
        rw [opD, if_neg hd, if_neg (by simp), if_neg hf]
        exact h1
  · refine (op_own own ho _ w p S d h hdn).mono ?_
    rintro e w' ⟨rfl, rfl⟩
    refine ⟨by rw [opE, if_neg hd, if_pos ho], ?_, Kept.refl S _⟩
    rw [opD, if_neg hd, if_pos ho]
    exact h.grow (Nat.le_refl _)
end Go.Proofs.Ytammmhbkfdmbfaa
