/- Texts of mine, one behind the other, of each what is wanted. -/
import Derived.Test.YtmfpjapiijgdgaaGreatV00
import Derived.Test.YtmfpjapiijgdgaaGreatShelf
import Derived.Test.YtmfpjapiijgdgaaGreatRows
import Derived.Test.YtmfpjapiijgdgaaGreatV01
import Derived.Test.YtmfpjapiijgdgaaGreatV03
import Derived.Test.YtmfpjapiijgdgaaGreatV06
import Derived.Test.YtmfpjapiijgdgaaGreatV07
import Derived.Test.YtmfpjapiijgdgaaGreatV40
import Derived.Test.YtmfpjapiijgdgaaGreatV41
namespace Go.Proofs.YtmfpjapiijgdgaaGreat
open Go.RowKit Go.Proofs
set_option linter.unusedVariables false
set_option maxRecDepth 100000
set_option maxRecDepth 100000
def nowB (s : SaM) : Bool := wiB (v4 s.now s.hor 0 0) (v4 0 0 0 0) (v4 1099511627775 1099511627775 0 0)
def rightB (s : SaM) : Bool := nowB s && (decide (RiseO s.op) && (s.op.all (fromB s) && (decide (riseNB UsM.u s.us) && (s.us.all (fun x => staysB s x.l) && (decide (RiseE s.su) && (s.su.all (timesB s) && (decide (riseNB TbM.u s.tb) && s.tb.all (tombB s))))))))
theorem wiB_iff {n l m : Nat → Int} (h : ∀ i, i < 4 → l i ≤ m i) : wiB n l m = true ↔ ∀ i, i < 4 → l i ≤ n i ∧ n i ≤ m i := by
 unfold wiB
 simp only [Bool.and_eq_true, beq_iff_eq]
 have key : ∀ i, i < 4 → (clampN n l m i = n i ↔ l i ≤ n i ∧ n i ≤ m i) := fun i hi => by
  have := h i hi
  unfold clampN
  omega
 rw [key 0 (by decide), key 1 (by decide), key 2 (by decide), key 3 (by decide)]
 constructor
 ·rintro ⟨h0, h1, h2, h3⟩ i hi
  have : i = 0 ∨ i = 1 ∨ i = 2 ∨ i = 3 := by omega
  rcases this with rfl | rfl | rfl | rfl
  ·exact h0
  ·exact h1
  ·exact h2
  ·exact h3
 ·intro h
  exact ⟨h 0 (by decide), h 1 (by decide), h 2 (by decide), h 3 (by decide)⟩
theorem latS_le {op : List OpM} {now : Int} {n t : Int} (hp : op.Pairwise fun a b => a.n < b.n) (hf : ∀ e ∈ op, e.f ≤ now) : t ≤ latS op now n ↔ (t ≤ now ∧ ∀ o ∈ op, o.n = n → t ≤ o.f) ∨ (t ≤ latS op now n ∧ False) := by
 have hle : op.findIdx (hasN n) ≤ op.length := List.findIdx_le_length
 by_cases hk : op.findIdx (hasN n) < op.length
 ·have e : latS op now n = op[op.findIdx (hasN n)].f := by unfold latS; rw [dif_pos hk]
  have hn : op[op.findIdx (hasN n)].n = n := by
   have := List.findIdx_getElem (p := hasN n) (xs := op) (w := hk)
   exact of_decide_eq_true this
  rw [e]
  constructor
  ·intro h
   refine .inl ⟨Int.le_trans h (hf _ (List.getElem_mem hk)), fun o ho hon => ?_⟩
   obtain ⟨i, hi, rfl⟩ := List.getElem_of_mem ho
   rw [List.pairwise_iff_getElem] at hp
   rcases Nat.lt_trichotomy i (op.findIdx (hasN n)) with h1 | h1 | h1
   ·have := hp i _ hi hk h1; omega
   ·subst h1; exact h
   ·have := hp _ i hk hi h1; omega
  ·rintro (⟨_, h⟩ | ⟨_, h⟩)
   ·exact h _ (List.getElem_mem hk) hn
   ·exact h.elim
 ·have e : latS op now n = now := by unfold latS; rw [dif_neg hk]
  rw [e]
  constructor
  ·intro h
   refine .inl ⟨h, fun o ho hon => ?_⟩
   have h1 := List.findIdx_eq_length.1 (show op.findIdx (hasN n) = op.length by omega) o ho
   rw [show hasN n o = true from decide_eq_true hon] at h1
   cases h1
  ·rintro (⟨h, _⟩ | ⟨_, h⟩)
   ·exact h
   ·exact h.elim
theorem latS_nonneg {op : List OpM} {now n : Int} (hn : 0 ≤ now) (hf : ∀ e ∈ op, 0 ≤ e.f) : 0 ≤ latS op now n := by
 unfold latS
 split
 ·exact hf _ (List.getElem_mem _)
 ·exact hn
theorem rightB_iff (s : SaM) : rightB s = true ↔ RightS s := by
 unfold rightB
 simp only [Bool.and_eq_true, decide_eq_true_eq, List.all_eq_true]
 have hnow : nowB s = true ↔ (0 ≤ s.now ∧ s.now ≤ 1099511627775) ∧ (0 ≤ s.hor ∧ s.hor ≤ 1099511627775) := by
  unfold nowB
  rw [wiB_iff (by intro i hi; have : i = 0 ∨ i = 1 ∨ i = 2 ∨ i = 3 := by omega
                  rcases this with rfl | rfl | rfl | rfl <;> decide)]
  constructor
  ·intro h; exact ⟨h 0 (by decide), h 1 (by decide)⟩
  ·rintro ⟨h0, h1⟩ i hi
   have : i = 0 ∨ i = 1 ∨ i = 2 ∨ i = 3 := by omega
   rcases this with rfl | rfl | rfl | rfl
   ·exact h0
   ·exact h1
   ·exact ⟨Int.le_refl _, Int.le_refl _⟩
   ·exact ⟨Int.le_refl _, Int.le_refl _⟩
 have hst : 0 ≤ s.now → RiseO s.op → (∀ e ∈ s.op, e.f ≤ s.now) → ∀ l : List StM, (staysB s l = true ↔ l ≠ [] ∧ RiseS l ∧ ∀ x ∈ l, OkSt s.now s.op x) := fun h0 hO hF l => by
  obtain ⟨_, h2, h3⟩ := riseO_iff.1 hO
  have hpos : ∀ e ∈ s.op, 0 ≤ e.f := fun e he => (h2 e he).2.2.2.2.2.1
  have key : ∀ x, (stayB s x = true ∧ x.f < x.t ↔ OkSt s.now s.op x ∧ x.f < x.t) := fun x => by
   have hlat := latS_nonneg (op := s.op) (n := x.n) h0 hpos
   have hle := latS_le (n := x.n) (t := x.t) h3 hF
   unfold stayB
   rw [wiB_iff (by intro i hi; have : i = 0 ∨ i = 1 ∨ i = 2 ∨ i = 3 := by omega
                   rcases this with rfl | rfl | rfl | rfl
                   ·exact h0
                   ·exact hlat
                   ·exact (show (1 : Int) ≤ 999 by decide)
                   ·exact (show (1 : Int) ≤ 4 by decide))]
   unfold OkSt
   constructor
   ·rintro ⟨h, hlt⟩
    have g0 := h 0 (by decide)
    have g1 := h 1 (by decide)
    have g2 := h 2 (by decide)
    have g3 := h 3 (by decide)
    simp only [v4] at g0 g1 g2 g3
    simp at g0 g1 g2 g3
    rcases hle.1 g1.2 with ⟨k1, k2⟩ | ⟨_, k⟩
    ·exact ⟨⟨g0.1, k1, g2.1, g2.2, g3.1, g3.2, k2⟩, hlt⟩
    ·exact k.elim
   ·rintro ⟨⟨k0, k1, k2, k3, k4, k5, k6⟩, hlt⟩
    refine ⟨fun i hi => ?_, hlt⟩
    have : i = 0 ∨ i = 1 ∨ i = 2 ∨ i = 3 := by omega
    rcases this with rfl | rfl | rfl | rfl
    ·exact ⟨k0, show x.f ≤ s.now by omega⟩
    ·exact ⟨show 0 ≤ x.t by omega, hle.2 (.inl ⟨k1, k6⟩)⟩
    ·exact ⟨k2, k3⟩
    ·exact ⟨k4, k5⟩
  unfold staysB
  simp only [Bool.and_eq_true, decide_eq_true_eq, List.all_eq_true]
  constructor
  ·rintro ⟨h5, h6, h7⟩
   refine ⟨fun e => by rw [e] at h5; simp at h5, h6, fun x hx => ?_⟩
   exact ((key x).1 ⟨h7 x hx, (rise_iff.1 h6).1 x hx⟩).1
  ·rintro ⟨h5, h6, h7⟩
   refine ⟨List.length_pos_iff.2 h5, h6, fun x hx => ((key x).2 ⟨h7 x hx, (rise_iff.1 h6).1 x hx⟩).1⟩
 constructor
 ·rintro ⟨h1, h2, h3, h4, h5, h6, h7, h8, h9⟩
  obtain ⟨n1, n2⟩ := hnow.1 h1
  have hF : ∀ e ∈ s.op, e.f ≤ s.now := fun e he => of_decide_eq_true (h3 e he)
  obtain ⟨u1, u2⟩ := riseN_iff.1 h4
  obtain ⟨t1, t2⟩ := riseN_iff.1 h8
  refine ⟨⟨n1.1, by omega⟩, ⟨n2.1, by omega⟩, h2, hF, fun x hx => ?_, u2, ⟨h6, fun e he => ?_⟩, fun x hx => ?_, t2⟩
  ·obtain ⟨k1, k2, k3⟩ := (hst n1.1 h2 hF x.l).1 (h5 x hx)
   exact ⟨u1 x hx, k1, k2, k3⟩
  ·have := h7 e he
   unfold timesB at this
   simp only [Bool.and_eq_true, Bool.or_eq_true, decide_eq_true_eq, beq_iff_eq] at this
   exact ⟨this.1, this.2.1, this.2.2.symm⟩
  ·have := h9 x hx
   unfold tombB at this
   simp only [Bool.and_eq_true, decide_eq_true_eq] at this
   exact ⟨t1 x hx, this.1, this.2⟩
 ·intro h
  refine ⟨hnow.2 ⟨⟨h.now.1, by have := h.now.2; omega⟩, ⟨h.hor.1, by have := h.hor.2; omega⟩⟩, h.op, fun e he => decide_eq_true (h.frm e he), riseN_iff.2 ⟨fun x hx => (h.us x hx).1, h.ur⟩, fun x hx => ?_, h.su.rise, fun e he => ?_, riseN_iff.2 ⟨fun x hx => (h.tb x hx).1, h.tr⟩, fun x hx => ?_⟩
  ·obtain ⟨k1, k2, k3, k4⟩ := h.us x hx
   exact (hst h.now.1 h.op h.frm x.l).2 ⟨k2, k3, k4⟩
  ·obtain ⟨k1, k2, k3⟩ := h.su.bnd e he
   unfold timesB
   simp only [Bool.and_eq_true, Bool.or_eq_true, decide_eq_true_eq, beq_iff_eq]
   exact ⟨k1, k2, k3.symm⟩
  ·obtain ⟨k1, k2, k3⟩ := h.tb x hx
   unfold tombB
   simp only [Bool.and_eq_true, decide_eq_true_eq]
   exact ⟨k2, k3⟩
end Go.Proofs.YtmfpjapiijgdgaaGreat
