/- Contract of the document's own words of layer 4: the frame with which a text begins. -/
import Derived.Test.YtkfddmbhokeofaaI2
import Derived.RegionTactic
namespace Go.Proofs.Ytkfddmbhokeofaa
open Go.RowKit
set_option linter.unusedVariables false

/-! ### how far a text was read -/
/-- up to place j all bytes may stand there, and m is how long the body is, so far -/
def Far (s : List UInt8) (j m : Nat) : Prop := j ≤ s.length ∧ goodF m 0 (s.take j) = true ∧ ((j < 6 ∧ m = 0) ∨ (6 ≤ j ∧ m = longOf s ∧ m ≤ 2000)) ∧ j ≤ 14 + m
theorem Far.start (s : List UInt8) : Far s 0 0 := ⟨Nat.zero_le _, by simp [goodF], .inl ⟨by decide, rfl⟩, by decide⟩
theorem Far.small {s : List UInt8} {j m : Nat} (h : Far s j m) : m ≤ 2000 := by
  rcases h.2.2.1 with ⟨_, h⟩ | ⟨_, _, h⟩ <;> omega
theorem Far.body {s : List UInt8} {j m : Nat} (h : Far s j m) (h6 : 6 ≤ j) : bodyE s = 0 ∧ m = longOf s := by
  obtain ⟨h1, h2, h3, h4⟩ := h
  rcases h3 with ⟨h3, _⟩ | ⟨_, h3, h5⟩
  · omega
  refine ⟨?_, h3⟩
  have hg : goodF 0 0 (s.take 6) = true := by
    rw [goodF_low 0 m _ 0 (by rw [List.length_take]; omega)]
    have := goodF_take 6 h2
    rwa [List.take_take, Nat.min_eq_left h6] at this
  have hG := (G_zero_iff 0 0 6 s).2 ⟨hg, by omega⟩
  unfold bodyE
  rw [if_neg (by simp [hG]), if_neg (by omega)]
theorem Far.rest {s : List UInt8} {j m : Nat} (h : Far s j m) (h6 : 6 ≤ j) : goodF m 6 ((s.drop 6).take (j - 6)) = true := by
  have := goodF_drop 6 (by rw [List.length_take]; have := h.1; omega) h.2.1
  rwa [Nat.zero_add, List.drop_take] at this
theorem Far.short {s : List UInt8} {j m : Nat} (h : Far s j m) (hj : j = s.length) (hm : j < 14 + m) : nextL s = .err 43 := by
  by_cases h6 : 6 ≤ j
  · obtain ⟨e1, e2⟩ := h.body h6
    have hr := h.rest h6
    rw [List.take_of_length_le (by rw [List.length_drop]; omega)] at hr
    have hG : G m 6 (m + 8) (s.drop 6) = 43 := G_cut hr (by rw [List.length_drop]; omega)
    rw [nextL_rest s e1 (by rw [← e2, hG]; decide), ← e2, hG]
  · rcases h.2.2.1 with ⟨_, h3⟩ | ⟨h3, _⟩
    · subst h3
      have hr := h.2.1
      rw [List.take_of_length_le (by omega)] at hr
      have hG : G 0 0 6 s = 43 := G_cut hr (by omega)
      have hb : bodyE s = 43 := by unfold bodyE; rw [hG]; rfl
      rw [nextL_head s (by omega), hb]
    · omega
theorem take_bad (s : List UInt8) (j : Nat) (h : j < s.length) : s = s.take j ++ s[j] :: s.drop (j + 1) := by
  rw [← List.drop_eq_getElem_cons h, List.take_append_drop]
theorem Far.bad {s : List UInt8} {j m : Nat} (h : Far s j m) (hj : j < s.length) (hm : j < 14 + m) (hx : okAt m j s[j] = false) : nextL s = .err 44 := by
  have hlen : (s.take j).length = j := by rw [List.length_take]; omega
  by_cases h6 : 6 ≤ j
  · obtain ⟨e1, e2⟩ := h.body h6
    have hr := h.rest h6
    have hd : s.drop 6 = (s.drop 6).take (j - 6) ++ s[j] :: s.drop (j + 1) := by
      have e := take_bad (s.drop 6) (j - 6) (by rw [List.length_drop]; omega)
      rw [List.getElem_drop, List.drop_drop] at e
      simp only [show 6 + (j - 6) = j by omega, show 6 + (j - 6 + 1) = j + 1 by omega] at e
      exact e
    have hl2 : ((s.drop 6).take (j - 6)).length = j - 6 := by rw [List.length_take, List.length_drop]; omega
    have hG : G m 6 (m + 8) (s.drop 6) = 44 := by
      rw [hd]
      exact G_bad hr (by rw [hl2]; omega) _ (by rw [hl2, show 6 + (j - 6) = j by omega]; exact hx) _
    rw [nextL_rest s e1 (by rw [← e2, hG]; decide), ← e2, hG]
  · rcases h.2.2.1 with ⟨_, h3⟩ | ⟨h3, _⟩
    · subst h3
      have hG : G 0 0 6 s = 44 := by
        have e := take_bad s j hj
        rw [e]
        exact G_bad h.2.1 (by rw [hlen]; omega) _ (by rw [hlen, Nat.zero_add]; exact hx) _
      have hb : bodyE s = 44 := by unfold bodyE; rw [hG]; rfl
      rw [nextL_head s (by omega), hb]
    · omega
theorem Far.good {s : List UInt8} {j m : Nat} (h : Far s j m) (hj : j < s.length) (hx : okAt m j s[j] = true) : goodF m 0 (s.take (j + 1)) = true := by
  have hlen : (s.take j).length = j := by rw [List.length_take]; omega
  rw [List.take_add_one, List.getElem?_eq_getElem hj, goodF_append, h.2.1, hlen]
  simp [goodF, hx]
theorem Far.next {s : List UInt8} {j m : Nat} (h : Far s j m) (hj : j < s.length) (hm : j < 14 + m) (h5 : j ≠ 5) (hx : okAt m j s[j] = true) : Far s (j + 1) m := by
  refine ⟨by omega, h.good hj hx, ?_, by omega⟩
  rcases h.2.2.1 with ⟨a, b⟩ | ⟨a, b, c⟩
  · exact .inl ⟨by omega, b⟩
  · exact .inr ⟨by omega, b, c⟩
theorem Far.head {s : List UInt8} {m : Nat} (h : Far s 5 m) (hj : 5 < s.length) (hx : okAt m 5 s[5] = true) : goodF 0 0 (s.take 6) = true := by
  have := h.good hj hx
  rcases h.2.2.1 with ⟨a, b⟩ | ⟨a, b, c⟩
  · subst b; exact this
  · omega
theorem Far.five {s : List UInt8} {m : Nat} (h : Far s 5 m) (hj : 5 < s.length) (hx : okAt m 5 s[5] = true) (hl : longOf s ≤ 2000) : Far s 6 (longOf s) := by
  refine ⟨by omega, ?_, .inr ⟨by omega, rfl, hl⟩, by omega⟩
  rw [goodF_low (longOf s) 0 _ 0 (by rw [List.length_take]; omega)]
  exact h.head hj hx
theorem Far.over {s : List UInt8} {m : Nat} (h : Far s 5 m) (hj : 5 < s.length) (hx : okAt m 5 s[5] = true) (hl : 2000 < longOf s) : nextL s = .err 44 := by
  have hG := (G_zero_iff 0 0 6 s).2 ⟨h.head hj hx, by omega⟩
  have hb : bodyE s = 44 := by unfold bodyE; rw [if_neg (by simp [hG]), if_pos hl]
  rw [nextL_head s (by omega), hb]
theorem Far.whole {s : List UInt8} {m : Nat} (h : Far s (14 + m) m) : bodyE s = 0 ∧ m = longOf s ∧ G (longOf s) 6 (longOf s + 8) (s.drop 6) = 0 ∧ 14 + m ≤ s.length := by
  obtain ⟨e1, e2⟩ := h.body (by omega)
  have hr := h.rest (by omega)
  have hl := h.1
  refine ⟨e1, e2, ?_, hl⟩
  rw [← e2]
  exact (G_zero_iff _ _ _ _).2 ⟨by rw [show m + 8 = 14 + m - 6 by omega]; exact hr, by rw [List.length_drop]; omega⟩
/-- what is summed of a frame that was read -/
theorem mid_of (s : List UInt8) (h1 : bodyE s = 0) (hl : 6 + longOf s ≤ s.length) : midT (s.getD 1 0) ((s.take (6 + longOf s)).drop 6) = (s.take (6 + longOf s)).drop 1 := by
  obtain ⟨_, hlong, h6⟩ := bodyE_zero h1
  have hG : G 0 0 6 s = 0 := by
    unfold bodyE at h1
    split at h1
    · omega
    · omega
  obtain ⟨hg1, _⟩ := (G_zero_iff _ _ _ _).1 hG
  have hbl : ((s.take (6 + longOf s)).drop 6).length = longOf s := by rw [List.length_drop, List.length_take]; omega
  obtain ⟨c0, c1, c2, c3, c4, c5, t, rfl⟩ := six_cons s h6
  have ht : (c0 :: c1 :: c2 :: c3 :: c4 :: c5 :: t).take 6 = [c0, c1, c2, c3, c4, c5] := by simp
  rw [ht] at hg1
  simp only [goodF, okAt, Bool.and_true, Bool.and_eq_true] at hg1
  simp at hg1
  obtain ⟨g0, g1, g2, g3, g4, g5⟩ := hg1
  have hd : ((c0 :: c1 :: c2 :: c3 :: c4 :: c5 :: t).drop 2).take 4 = [c2, c3, c4, c5] := by simp
  obtain ⟨m, hm⟩ := numF_dig [c2, c3, c4, c5] 0 0 (by simp [g2, g3, g4, g5]) (by decide) (by simp)
  have hu : unhexL [c2, c3, c4, c5] = some (m : Int) := by
    unfold unhexL
    rw [if_pos (by simp)]; exact hm
  have hlm : longOf (c0 :: c1 :: c2 :: c3 :: c4 :: c5 :: t) = m := by
    unfold longOf longI
    rw [hd, hu]; simp
  have hx := (hexOf_unhex _ _ hu).1
  rw [hlm] at hbl hlong hl ⊢
  have hhex : hexL m 4 = [c2, c3, c4, c5] := by
    rw [← hx]
    exact (hexOf_nat m 4 (by decide) (by decide) (by omega)).symm
  unfold midT
  rw [hbl, hhex, show 6 + m = m + 6 by omega]
  simp

/-! ### the result's block -/
theorem infoFrR : (Try.prog.info? 23).map (·.size) = some 2 := by kernel_rfl
theorem FrAt.loadR {W : World} {g : Nat} {x y : Value} {t : TypeId} (h : FrAt W g x y t) (a b : Value) :
    (loadVar 23 ⟨g, 0, none⟩).run Try.prog ((W.setCell ⟨g, 0, none⟩ a).setCell ⟨g, 1, none⟩ b) = .ok (.agg #[a, b]) ((W.setCell ⟨g, 0, none⟩ a).setCell ⟨g, 1, none⟩ b) :=
  run_loadVar_mid (P := Try.prog) (W.setCells g 0 [a, b]) g 0 23 [a, b] _ (World.rangeAt_setCells_same _ _ _ _ h.there) Try.underlying23 rfl infoFrR
theorem PackK.frozen {w W : World} {g : Nat} {x y : Value} {t : TypeId} (h : PackK w g x y t W) : W.frozen? ⟨g, 0, none⟩ = false ∧ W.frozen? ⟨g, 1, none⟩ = false := ⟨frozen_of_row _ _ 0 _ _ h.1, frozen_of_row _ _ 1 _ _ h.1⟩
theorem PackK.set {w W : World} {g : Nat} {x y : Value} {t : TypeId} (h : PackK w g x y t W) (hg : w.heap.size ≤ g) (a b : Value) : Below w.heap.size w ((W.setCell ⟨g, 0, none⟩ a).setCell ⟨g, 1, none⟩ b) :=
  (h.2.2.setCell (p := ⟨g, 0, none⟩) hg a).setCell (p := ⟨g, 1, none⟩) hg b
end Go.Proofs.Ytkfddmbhokeofaa
