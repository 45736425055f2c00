/- Layer 7: the words by which each law shows that the package is alive. -/
import Derived.Test.YthaancmobpamhaaW15
namespace Go.Proofs.Ythaancmobpamhaa
open Go.RowKit
set_option linter.unusedVariables false
set_option maxRecDepth 100000
set_option maxRecDepth 100000

def aL : List SpM := [⟨3, 5⟩, ⟨1, 3⟩, ⟨4, 4⟩]
def oneL : List SpM := [⟨1, 5⟩]
def bL : List SpM := [⟨2, 3⟩]
def lessL : List SpM := [⟨1, 2⟩, ⟨3, 5⟩]
theorem cells_sp (W : World) (l : List SpM) (xs : Array Value) (t : TypeId) (g : Nat) (hg : g = W.heap.size) (hx : xs.toList = sps l) : SpSl (W.alloc (.cells xs t)) (some ⟨g, 0, none⟩) l := fun k hk => by
  subst hg
  obtain ⟨g1, g2⟩ := sps_get l k hk
  rw [← hx, Array.getElem?_toList] at g1 g2
  refine ⟨W.heap.size, 0, rfl, by rw [size1]; omega, ?_, ?_⟩
  · rw [cell_of_row _ _ _ xs t (0, 0) (heap_alloc_new W _), Nat.zero_add, g1]
  · rw [cell_of_row _ _ _ xs t (0, 0) (heap_alloc_new W _), Nat.zero_add, g2]
theorem one_set : IsSet (HasL aL) oneL := ⟨⟨by simp [RowL, oneL], by simp [oneL]⟩, fun x => by
  rw [aL, oneL]; simp only [hasL_cons, HasL.nil, or_false]; constructor <;> intro h <;> omega⟩
theorem b_set : IsSet (fun x => HasL aL x ∧ HasL bL x) bL := ⟨⟨by simp [RowL, bL], by simp [bL]⟩, fun x => by
  show HasL bL x ↔ HasL aL x ∧ HasL bL x
  rw [aL, bL]; simp only [hasL_cons, HasL.nil, or_false]; constructor <;> intro h <;> omega⟩
theorem less_set : IsSet (fun x => HasL aL x ∧ ¬ HasL bL x) lessL := ⟨⟨by simp [RowL, lessL], by simp [lessL]⟩, fun x => by
  show HasL lessL x ↔ HasL aL x ∧ ¬ HasL bL x
  rw [aL, bL, lessL]; simp only [hasL_cons, HasL.nil, or_false]; constructor <;> intro h <;> omega⟩
theorem join_set : IsSet (HasL (aL ++ bL)) oneL := ⟨⟨by simp [RowL, oneL], by simp [oneL]⟩, fun x => by
  rw [hasL_append, aL, bL, oneL]; simp only [hasL_cons, HasL.nil, or_false]; constructor <;> intro h <;> omega⟩
theorem fits_ab : FitsS aL ∧ FitsS bL := ⟨fun s hs => by simp [aL] at hs; rcases hs with rfl | rfl | rfl <;> (unfold I64; decide), fun s hs => by simp [bL] at hs; subst hs; unfold I64; decide⟩
/-- what alive keeps: its three rows, and the fourth, made of them -/
structure AlP (w : World) (al : Option Addr) (W : World) : Prop where
  a : SpSl W (some ⟨w.heap.size, 0, none⟩) aL
  one : SpSl W (some ⟨w.heap.size + 1, 0, none⟩) oneL
  b : SpSl W (some ⟨w.heap.size + 2, 0, none⟩) bL
  l : SpSl W al lessL
  frame : Below w.heap.size w W
theorem AlP.below {w W W' : World} {al : Option Addr} (h : AlP w al W) (q : Below W.heap.size W W') : AlP w al W' :=
  ⟨h.a.below q, h.one.below q, h.b.below q, h.l.below q, h.frame.trans (q.mono h.frame.size)⟩
theorem AlP.less {w W : World} {al : Option Addr} (h : AlP w al W) (W' : World) (q : Below W.heap.size W W') : AlP w al W' := h.below q

theorem less_al (p q : Nat) (W : World) (ha : SpSl W (some ⟨p, 0, none⟩) aL) (hb : SpSl W (some ⟨q, 0, none⟩) bL) : Calls Try.prog 33 #[.slice (some ⟨p, 0, none⟩) 3 3, .slice (some ⟨q, 0, none⟩) 1 1] W fun e w' => ∃ g o c, e = .returned (.slice (some ⟨g, o, none⟩) 2 c) ∧ SpSl w' (some ⟨g, o, none⟩) lessL ∧ Below W.heap.size W w' := by
  refine (less_any _ 3 _ 1 aL bL W ha hb (by decide) (by decide) ⟨by decide, by decide⟩ (by decide) fits_ab.1 fits_ab.2).mono ?_
  rintro e w' ⟨v, r, rfl, hs, ho, _, hb⟩
  obtain rfl := hs.only less_set
  obtain ⟨a, c, rfl, _, h⟩ := own_sp ho
  obtain ⟨g, o, rfl, _⟩ := h 0 (by decide)
  exact ⟨g, o, c, rfl, h, hb⟩
theorem norm_al (p : Nat) (W : World) (ha : SpSl W (some ⟨p, 0, none⟩) aL) : Calls Try.prog 42 #[.slice (some ⟨p, 0, none⟩) 3 3] W fun e w' => ∃ a c, e = .returned (.slice a 1 c) ∧ SpSl w' a oneL ∧ Below W.heap.size W w' := by
  refine (norm_any _ 3 aL W ha (by decide) (by decide) (by decide)).mono ?_
  rintro e w' ⟨v, r, rfl, hs, _, ho, hb⟩
  obtain rfl := hs.only one_set
  obtain ⟨a, c, rfl, _, h⟩ := own_sp ho
  exact ⟨a, c, rfl, h, hb⟩
theorem join_al (p q g : Nat) (W : World) (hg : g = W.heap.size) (ha : SpSl W (some ⟨p, 0, none⟩) aL) (hb : SpSl W (some ⟨q, 0, none⟩) bL) (t : TypeId) : Calls Try.prog 32 #[.slice (some ⟨g, 0, none⟩) 2 2] (W.alloc (.cells #[.slice (some ⟨p, 0, none⟩) 3 3, .slice (some ⟨q, 0, none⟩) 1 1] t)) fun e w' => ∃ a c, e = .returned (.slice a 1 c) ∧ SpSl w' a oneL ∧ Below W.heap.size W w' := by
  subst hg
  have hA := (Below.refl W.heap.size W).alloc (Nat.le_refl _) (.cells #[.slice (some ⟨p, 0, none⟩) 3 3, .slice (some ⟨q, 0, none⟩) 1 1] t)
  refine (join_any (some ⟨W.heap.size, 0, none⟩) 2 [⟨some ⟨p, 0, none⟩, aL, 3⟩, ⟨some ⟨q, 0, none⟩, bL, 1⟩] _ ?_ ?_ (by show 2 ≤ _; decide) (by show (aL ++ (bL ++ [])).length ≤ _; decide)).mono ?_
  · exact sl_lit W #[.slice (some ⟨p, 0, none⟩) 3 3, .slice (some ⟨q, 0, none⟩) 1 1] t
  · intro r hr
    rcases List.mem_cons.1 hr with rfl | hr
    · exact ⟨ha.below hA, fun h => by cases h⟩
    · rw [List.mem_singleton.1 hr]
      exact ⟨hb.below hA, fun h => by cases h⟩
  · rintro e w' ⟨v, r, rfl, hs, _, ho, hb⟩
    obtain rfl := IsSet.only hs (show IsSet (HasL (cat _)) oneL from join_set)
    obtain ⟨a, c, rfl, _, h⟩ := own_sp ho
    exact ⟨a, c, rfl, h, hA.trans (hb.mono (by rw [size1]; omega))⟩
theorem same_al (a b : Option Addr) (n m ca cb : Nat) (l k : List SpM) (hn : n = l.length) (hm : m = k.length) (W : World) (ha : SpSl W a l) (hb : SpSl W b k) (h1 : l.length ≤ 3) (h2 : k.length ≤ 3) : Calls Try.prog 34 #[.slice a n ca, .slice b m cb] W fun e w' => e = .returned (.bool (decide (l = k))) ∧ Below W.heap.size W w' := by
  subst hn; subst hm
  exact same_any a b ca cb l k W ha hb (by unfold maxLen; omega) (by unfold maxLen; omega)

end Go.Proofs.Ythaancmobpamhaa
