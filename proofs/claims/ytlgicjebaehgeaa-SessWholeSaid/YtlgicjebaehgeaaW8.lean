/- Layer 7: the document's Norm: contract. -/
import Derived.Test.YtlgicjebaehgeaaW7
namespace Go.Proofs.Ytlgicjebaehgeaa
open Go.RowKit
set_option linter.unusedVariables false
set_option maxRecDepth 100000
set_option maxRecDepth 100000

/-- what is alike in each cell between two ends, and nowhere outside -/
structure CellP (P : Int → Prop) (e : List Int) : Prop where
  rise : Rise e
  cell : ∀ k (h : k + 1 < e.length) x, e[k] ≤ x → x < e[k + 1] → (P x ↔ P e[k])
  first : ∀ x, P x → ∃ h : 0 < e.length, e[0] ≤ x
  last : ∀ x, P x → ∀ k (h : k + 1 = e.length), x < e[k]
def GlW (P : Int → Prop) (e : List Int) (k : Nat) (r : List SpM) : Prop := (r = [] ∧ e = []) ∨ ∃ h : k < e.length, GlueI P e[k] r
theorem CellP.start {P : Int → Prop} {e : List Int} (h : CellP P e) : GlW P e 0 [] := by
  rcases Nat.eq_zero_or_pos e.length with h0 | h0
  · exact .inl ⟨rfl, List.eq_nil_of_length_eq_zero h0⟩
  · exact .inr ⟨h0, GlueI.start fun x hx => (h.first x hx).2⟩
theorem CellP.lt {P : Int → Prop} {e : List Int} (h : CellP P e) {k : Nat} (hk : k + 1 < e.length) : e[k] < e[k + 1] := (List.pairwise_iff_getElem.1 h.rise) k (k + 1) (by omega) hk (by omega)
theorem CellP.step {P : Int → Prop} {e : List Int} (h : CellP P e) {k : Nat} {r : List SpM} (g : GlW P e k r) (hk : k + 1 < e.length) (hp : P e[k]) : GlW P e (k + 1) (glueS r ⟨e[k], e[k + 1]⟩) := by
  rcases g with ⟨_, rfl⟩ | ⟨h0, g⟩
  · simp at hk
  · exact .inr ⟨hk, g.step (h.lt hk) fun x h1 h2 => (h.cell k hk x h1 h2).2 hp⟩
theorem CellP.skip {P : Int → Prop} {e : List Int} (h : CellP P e) {k : Nat} {r : List SpM} (g : GlW P e k r) (hk : k + 1 < e.length) (hp : ¬ P e[k]) : GlW P e (k + 1) r := by
  rcases g with ⟨_, rfl⟩ | ⟨h0, g⟩
  · simp at hk
  · exact .inr ⟨hk, g.skip (h.lt hk) fun x h1 h2 hx => hp ((h.cell k hk x h1 h2).1 hx)⟩
theorem CellP.done {P : Int → Prop} {e : List Int} (h : CellP P e) {k : Nat} {r : List SpM} (g : GlW P e k r) (hk : ¬ k + 1 < e.length) : IsSet P r := by
  rcases g with ⟨rfl, rfl⟩ | ⟨h0, g⟩
  · exact ⟨NormL.nil, fun x => ⟨fun hx => absurd hx HasL.nil, fun hx => by obtain ⟨h0, _⟩ := h.first x hx; simp at h0⟩⟩
  · exact g.done fun x hx => h.last x hx k (by omega)
theorem cell_one {l : List SpM} {e : List Int} (h : IsEnds l e) : CellP (HasL l) e :=
  ⟨h.1, fun k hk x h1 h2 => h.cell (fun _ hs => hs) hk h1 h2, fun x hx => h.first (fun _ hs => hs) hx, fun x hx k hk => h.last (fun _ hs => hs) hx hk⟩
theorem cell_both {a b : List SpM} {e : List Int} (h : IsEnds (a ++ b) e) : CellP (fun x => HasL a x ∧ HasL b x) e :=
  have ha : ∀ s ∈ a, s ∈ a ++ b := fun s hs => List.mem_append_left _ hs
  have hb : ∀ s ∈ b, s ∈ a ++ b := fun s hs => List.mem_append_right _ hs
  ⟨h.1, fun k hk x h1 h2 => and_congr (h.cell ha hk h1 h2) (h.cell hb hk h1 h2), fun x hx => h.first ha hx.1, fun x hx k hk => h.last ha hx.1 hk⟩
theorem cell_less {a b : List SpM} {e : List Int} (h : IsEnds (a ++ b) e) : CellP (fun x => HasL a x ∧ ¬ HasL b x) e :=
  have ha : ∀ s ∈ a, s ∈ a ++ b := fun s hs => List.mem_append_left _ hs
  have hb : ∀ s ∈ b, s ∈ a ++ b := fun s hs => List.mem_append_right _ hs
  ⟨h.1, fun k hk x h1 h2 => and_congr (h.cell ha hk h1 h2) (not_congr (h.cell hb hk h1 h2)), fun x hx => h.first ha hx.1, fun x hx k hk => h.last ha hx.1 hk⟩
theorem glueS_le (r : List SpM) (s : SpM) : (glueS r s).length ≤ r.length + 1 := by
  rcases List.eq_nil_or_concat r with rfl | ⟨fr, u, hfu⟩
  · rw [glueS_nil]; simp
  · rw [hfu, List.concat_eq_append, glueS_snoc]
    split <;> simp
/-- both ends of a cell, in whatever world is like this one -/
theorem ints_two {w : World} {a : Option Addr} {e : List Int} (h : Sl w a (ints e)) {k : Nat} (hk : k + 1 < e.length) : ∃ b off, a = some ⟨b, off, none⟩ ∧ ∀ W, Below w.heap.size w W → W.cell? ⟨b, off + k, none⟩ = some (.int .i64 e[k]) ∧ W.cell? ⟨b, off + (k + 1), none⟩ = some (.int .i64 e[k + 1]) := by
  obtain ⟨b, off, rfl, _, _⟩ := ints_at h hk
  refine ⟨b, off, rfl, fun W hW => ?_⟩
  obtain ⟨_, _, e1, _, h1⟩ := ints_at (h.below hW) (k := k) (by omega)
  obtain ⟨_, _, e2, _, h2⟩ := ints_at (h.below hW) hk
  cases e1
  cases e2
  exact ⟨h1, h2⟩

end Go.Proofs.Ytlgicjebaehgeaa
