/- Texts of mine, one behind the other, of each what is wanted. -/
import Derived.Test.YtmfpjapiijgdgaaGreatQ00
import Derived.Test.YtmfpjapiijgdgaaGreatQ01
import Derived.Test.YtmfpjapiijgdgaaGreatQ04
import Derived.Test.YtmfpjapiijgdgaaGreatQ06
import Derived.Test.YtmfpjapiijgdgaaGreatQ08
import Derived.Test.YtmfpjapiijgdgaaGreatQ09
namespace Go.Proofs.YtmfpjapiijgdgaaGreat
set_option linter.unusedVariables false
theorem now_all : ∀ (l : List EvM) (s : SaM), AllT s l → (∀ e ∈ l, s.now ≤ e.at_ ∧ e.at_ ≤ (foldE s l).now) ∧ (∀ h : l ≠ [], (l.getLast h).at_ = (foldE s l).now)
 | [], _, _ => ⟨fun e he => (by cases he), fun h => absurd rfl h⟩
 | e :: l, s, h => by
  obtain ⟨h1, h2⟩ := h.cons
  obtain ⟨h3, h4⟩ := now_all l (goE s e) h2
  have h5 := now_fold l (goE s e)
  have h6 := errE_at h1
  rw [goE_now] at h5 h3
  rw [foldE_cons, nxE_ok h1]
  refine ⟨fun x hx => ?_, fun _ => ?_⟩
  ·rcases List.mem_cons.1 hx with rfl | hx
   ·exact ⟨h6, h5⟩
   ·have := h3 x hx; omega
  ·cases l with
   | nil => exact (goE_now s e).symm
   | cons y l => rw [List.getLast_cons (by simp)]; exact h4 (by simp)
theorem fold_max : ∀ (l : List EvM) (m : Int), m ≤ l.foldl (fun m x => max m x.at_) m ∧ (∀ e ∈ l, e.at_ ≤ l.foldl (fun m x => max m x.at_) m) ∧ (l.foldl (fun m x => max m x.at_) m = m ∨ ∃ e ∈ l, l.foldl (fun m x => max m x.at_) m = e.at_)
 | [], m => ⟨Int.le_refl _, (fun e he => by cases he), .inl rfl⟩
 | x :: l, m => by
  obtain ⟨h1, h2, h3⟩ := fold_max l (max m x.at_)
  have e1 : (x :: l).foldl (fun m x => max m x.at_) m = l.foldl (fun m x => max m x.at_) (max m x.at_) := rfl
  rw [e1]
  refine ⟨by omega, fun e he => ?_, ?_⟩
  ·rcases List.mem_cons.1 he with rfl | he
   ·omega
   ·exact h2 e he
  ·rcases h3 with h3 | ⟨e, he, h3⟩
   ·rcases Int.le_total m x.at_ with h | h
    ·exact .inr ⟨x, List.mem_cons_self .., by rw [h3]; omega⟩
    ·exact .inl (by rw [h3]; omega)
   ·exact .inr ⟨e, List.mem_cons_of_mem _ he, h3⟩
theorem latA_is {l : List EvM} (h : l ≠ []) : (∀ e ∈ l, e.at_ ≤ latA l) ∧ ∃ e ∈ l, e.at_ = latA l := by
 cases l with
 | nil => exact absurd rfl h
 | cons x l =>
  obtain ⟨h1, h2, h3⟩ := fold_max l x.at_
  refine ⟨fun e he => ?_, ?_⟩
  ·rcases List.mem_cons.1 he with rfl | he
   ·exact h1
   ·exact h2 e he
  ·rcases h3 with h3 | ⟨e, he, h3⟩
   ·exact ⟨x, List.mem_cons_self .., h3.symm⟩
   ·exact ⟨e, List.mem_cons_of_mem _ he, h3.symm⟩
theorem latA_only {l : List EvM} (h : l ≠ []) {m : Int} (h1 : ∀ e ∈ l, e.at_ ≤ m) (h2 : ∃ e ∈ l, e.at_ = m) : latA l = m := by
 obtain ⟨k1, e, ke, k2⟩ := latA_is h
 obtain ⟨f, hf, h2⟩ := h2
 have a1 := h1 e ke
 have a2 := k1 f hf
 omega
theorem latA_all {l : List EvM} {s : SaM} (h : AllT s l) (hn : l ≠ []) : latA l = (foldE s l).now := by
 obtain ⟨h1, h2⟩ := now_all l s h
 exact latA_only hn (fun e he => (h1 e he).2) ⟨_, List.getLast_mem hn, h2 hn⟩
end Go.Proofs.YtmfpjapiijgdgaaGreat
