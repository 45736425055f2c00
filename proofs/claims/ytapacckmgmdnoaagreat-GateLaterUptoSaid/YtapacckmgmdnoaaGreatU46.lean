/- Texts of mine, one behind the other, of each what is wanted. -/
import Derived.Test.YtapacckmgmdnoaaGreatU00
import Derived.Test.YtapacckmgmdnoaaGreatRows
import Derived.Test.YtapacckmgmdnoaaGreatU01
import Derived.Test.YtapacckmgmdnoaaGreatU02
import Derived.Test.YtapacckmgmdnoaaGreatU03
import Derived.Test.YtapacckmgmdnoaaGreatU11
import Derived.Test.YtapacckmgmdnoaaGreatU45
namespace Go.Proofs.YtapacckmgmdnoaaGreat
set_option linter.unusedVariables false
set_option maxRecDepth 100000
theorem range_later {s : SaM} (hr : RightS s) {w u : ByteArray} {f t now later : Int} (hn : s.now ≤ now) (hl : 0 ≤ later) {a b c : List StM} (ha : IsRange s w u f t now a) (hb : IsRange s w u f t (now + later) b)
  (hc : IsCut b (fun x => -1125899906842624 ≤ x ∧ x < now) c) : c = a := by
 obtain ⟨r, k1, k2, k3⟩ := cut_perm (stays_perm s u now) ha
 obtain ⟨q, p1, p2, p3⟩ := cut_perm (stays_perm s u (now + later)) hb
 obtain rfl := k1.only p1
 obtain ⟨z, z1, z2, z3⟩ := hc
 have hz : IsSet (fun x => gateP s w u f t x ∧ (-1125899906842624 ≤ x ∧ x < now)) (r.flatMap fun m => rowOf m z) :=
  ⟨rows_norm z z1.1 k1.1, fun x => by rw [rows_has, k1.2, z1.2]⟩
 have e2 : c.Perm (rawS (rawO s.op u (now + later) ++ ofU s.us u) (r.flatMap fun m => rowOf m z)) := by
  rw [← raw_twice k1 z1 hz]
  exact z2.trans (raw_perm p2 z)
 refine sorted_only z3 k3 (e2.trans ((?_ : List.Perm _ _).trans k2.symm))
 rw [raw_append, raw_append]
 -- the same pieces of each
 have hpc : ∀ x y : StM, x.n = y.n → x.s = y.s → (∀ v, gateP s w u f t v → ((x.f ≤ v ∧ v < x.t) ∧ (-1125899906842624 ≤ v ∧ v < now) ↔ (y.f ≤ v ∧ v < y.t))) → piecesS x (r.flatMap fun m => rowOf m z) = piecesS y r := fun x y e1 e2 h => by
  have s1 := rowOf_set (s := x.sp) hz
  have s2 := rowOf_set (s := y.sp) k1
  have s3 := s1.only (s2.congr fun v => by
   constructor
   ·rintro ⟨h1, h2⟩; exact ⟨((h v h2).2 h1).1, h2, ((h v h2).2 h1).2⟩
   ·rintro ⟨h1, h2, h3⟩; exact ⟨(h v h2).1 ⟨h1, h3⟩, h2⟩)
  unfold piecesS
  rw [s3]
  refine List.map_congr_left fun m _ => ?_
  unfold ofSp
  rw [e1, e2]
 have hof : ∀ x ∈ ofU s.us u, x.t ≤ now := fun x hx => by
  rcases ofU_cases s.us u with h | h
  ·rw [h] at hx; cases hx
  ·have := ((hr.us _ h).2.2.2 x hx).2.1
   omega
 have hhor := hr.hor.1
 refine List.Perm.append ?_ (List.Perm.of_eq ?_)
 ·-- the open sessions
  have g : ∀ l : List OpM, rawS (rawO l u (now + later)) (r.flatMap fun m => rowOf m z) = rawS (rawO l u now) r := fun l => by
   induction l with
   | nil => rfl
   | cons e l ih =>
    have d : ∀ w2, rawO (e :: l) u w2 = (if stU u w2 e = true then [stayO e w2] else []) ++ rawO l u w2 := fun w2 => by
     unfold rawO
     rw [List.filter_cons]
     split <;> rfl
    rw [d, d, raw_append, raw_append, ih]
    congr 1
    by_cases hu : e.u = u
    ·by_cases h1 : e.f < now
     ·rw [if_pos (show stU u (now + later) e = true by unfold stU; simp only [Bool.and_eq_true, decide_eq_true_eq]; exact ⟨hu, by omega⟩), if_pos (show stU u now e = true by unfold stU; simp only [Bool.and_eq_true, decide_eq_true_eq]; exact ⟨hu, h1⟩)]
      unfold rawS
      rw [List.flatMap_cons, List.flatMap_cons, hpc (stayO e (now + later)) (stayO e now) rfl rfl fun v hv => ?_]
      ·rfl
      ·have := hv.2.2.1
       unfold stayO
       dsimp only
       omega
     ·rw [if_neg (show ¬ stU u now e = true by unfold stU; simp only [Bool.and_eq_true, decide_eq_true_eq]; exact fun h => h1 h.2)]
      split
      ·unfold rawS
       rw [List.flatMap_cons, pieces_out hz (x := stayO e (now + later)) fun v h2 h3 hv => ?_]
       ·rfl
       ·have := hv.2.2
        unfold stayO at h2
        dsimp only at h2
        omega
      ·rfl
    ·rw [if_neg (show ¬ stU u (now + later) e = true by unfold stU; simp only [Bool.and_eq_true, decide_eq_true_eq]; exact fun h => hu h.1), if_neg (show ¬ stU u now e = true by unfold stU; simp only [Bool.and_eq_true, decide_eq_true_eq]; exact fun h => hu h.1)]
     rfl
  exact List.Perm.of_eq (g s.op)
 ·have g : ∀ l : List StM, (∀ x ∈ l, x.t ≤ now) → rawS l (r.flatMap fun m => rowOf m z) = rawS l r := fun l => by
   induction l with
   | nil => intro _; rfl
   | cons x l ih =>
    intro h
    have ih := ih fun y hy => h y (List.mem_cons_of_mem _ hy)
    unfold rawS at ih ⊢
    rw [List.flatMap_cons, List.flatMap_cons]
    rw [ih, hpc x x rfl rfl fun v hv => ?_]
    have h1 := h x (List.mem_cons_self ..)
    have := hv.2.2.1
    omega
  exact g _ hof
end Go.Proofs.YtapacckmgmdnoaaGreat
namespace Go.Proofs.YtapacckmgmdnoaaGreat
set_option maxRecDepth 100000
theorem closedGateLater : joinedFacts Tryz.pinned.checked.prog 17 Tryz.f17 (Rows.OpenSpec.upto Rows.gateLaterSpec).bare Rows.gateLaterUptoRow = true := by
 unfold joinedFacts
 rw [pf_heard, pf_maps, pf_laid, pf_keys, pf_lift, pf_enter]
 kernel_rfl
end Go.Proofs.YtapacckmgmdnoaaGreat
