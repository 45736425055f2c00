/- Texts of mine, one behind the other: W13 W14 W15 W16. -/
import Derived.Test.YtlgicjebaehgeaaWK
import Derived.Shelf.Spec.SlicesGrow
/- Layer 7: the program's Meet and Less of two rows: contracts. -/
namespace Go.Proofs.Ytlgicjebaehgeaa
open Go.RowKit Go.Sort Go.Proofs
set_option linter.unusedVariables false
set_option maxRecDepth 100000
set_option maxRecDepth 100000

theorem own_spm {w : World} {B e : Nat} {v : Value} {l : List SpM} (h : w.ownsRow B e 2 v l.length (sps l)) : ∃ a c, v = .slice a l.length c ∧ l.length ≤ c ∧ c ≤ maxLen ∧ SpSl w a l ∧ (a = none → c = 0) := by
  obtain ⟨a, c, rfl, hc, hs⟩ := own_sp h
  refine ⟨a, c, rfl, hc, ?_, hs, ?_⟩
  · rcases h.2 with ⟨h0, _⟩ | ⟨g, cap', _, h0, _, _, _, h1, _⟩
    · injection h0 with e1 e2 e3
      rw [e3]; unfold maxLen; omega
    · injection h0 with e1 e2 e3
      rw [e3]; exact h1
  · intro ha
    rcases h.2 with ⟨h0, _⟩ | ⟨g, cap', _, h0, _, _, _, h1, _⟩
    · injection h0 with e1 e2 e3
    · injection h0 with e1 e2 e3
      rw [ha] at e1; cases e1

end Go.Proofs.Ytlgicjebaehgeaa

/- Layer 7: the program's Less of two rows: contract; rows of numbers that a machine can hold. -/
namespace Go.Proofs.Ytlgicjebaehgeaa
open Go.RowKit Go.Sort Go.Proofs
set_option linter.unusedVariables false
set_option maxRecDepth 100000
set_option maxRecDepth 100000

theorem gapsS_len (M : Int) : ∀ (l : List SpM) (c : Int), (gapsS c M l).length = l.length + 1
  | [], c => rfl
  | s :: l, c => by
    show (gapsS s.t M l).length + 1 = _
    rw [gapsS_len M l s.t]
    simp
theorem FitsS.has {l : List SpM} (h : FitsS l) {x : Int} (hx : HasL l x) : minI ≤ x ∧ x < maxI := by
  obtain ⟨s, hs, h1, h2⟩ := hx
  obtain ⟨⟨a, _⟩, ⟨_, b⟩⟩ := h s hs
  unfold minI maxI
  omega
theorem fits_set {P : Int → Prop} {r : List SpM} (h : IsSet P r) (hP : ∀ x, P x → minI ≤ x ∧ x < maxI) : FitsS r := fun s hs => by
  have h1 := isSet_fits h hP s hs
  have h2 := h.1.2 s hs
  unfold minI maxI at h1
  exact ⟨⟨by omega, by omega⟩, ⟨by omega, by omega⟩⟩
theorem FitsS.append {l m : List SpM} (h : FitsS l) (k : FitsS m) : FitsS (l ++ m) := fun s hs => by
  rcases List.mem_append.1 hs with hs | hs
  · exact h s hs
  · exact k s hs

end Go.Proofs.Ytlgicjebaehgeaa

/- Layer 7: rows of rows, one behind the other: contracts; the program's Join. -/
namespace Go.Proofs.Ytlgicjebaehgeaa
open Go.RowKit Go.Sort Go.Proofs
set_option linter.unusedVariables false
set_option maxRecDepth 100000
set_option maxRecDepth 100000

/-- a row of spans in memory: where, which, and its capacity -/
structure RwM where
  a : Option Addr
  l : List SpM
  c : Nat
def rwV (r : RwM) : Value := .slice r.a r.l.length r.c
def cat (R : List RwM) : List SpM := R.flatMap (·.l)
theorem cat_take (R : List RwM) (j : Nat) (h : j < R.length) : cat (R.take (j + 1)) = cat (R.take j) ++ R[j].l := by
  unfold cat
  rw [List.take_succ_eq_append_getElem h, List.flatMap_append]
  simp
theorem cat_le (R : List RwM) (j : Nat) : (cat (R.take j)).length ≤ (cat R).length := by
  have : cat R = cat (R.take j) ++ cat (R.drop j) := by
    unfold cat
    rw [← List.flatMap_append, List.take_append_drop]
  rw [this, List.length_append]
  omega
def RwAt (w : World) (r : RwM) : Prop := SpSl w r.a r.l ∧ (r.a = none → r.c = 0)
theorem rows_at {w : World} {a : Option Addr} {R : List RwM} (h : Sl w a (R.map rwV)) {k : Nat} (hk : k < R.length) : ∃ b off, a = some ⟨b, off, none⟩ ∧ b < w.heap.size ∧ w.cell? ⟨b, off + k, none⟩ = some (rwV R[k]) := by
  obtain ⟨b, off, e, hlt, hc⟩ := h k (by simpa using hk)
  exact ⟨b, off, e, hlt, by rw [hc]; simp⟩

end Go.Proofs.Ytlgicjebaehgeaa

/- Layer 7: the words by which each law shows that the package is alive. -/
namespace Go.Proofs.Ytlgicjebaehgeaa
open Go.RowKit
set_option linter.unusedVariables false
set_option maxRecDepth 100000
set_option maxRecDepth 100000

def aL : List SpM := [⟨3, 5⟩, ⟨1, 3⟩, ⟨4, 4⟩]
def oneL : List SpM := [⟨1, 5⟩]
def bL : List SpM := [⟨2, 3⟩]
def lessL : List SpM := [⟨1, 2⟩, ⟨3, 5⟩]
theorem cells_sp (W : World) (l : List SpM) (xs : Array Value) (t : TypeId) (g : Nat) (hg : g = W.heap.size) (hx : xs.toList = sps l) : SpSl (W.alloc (.cells xs t)) (some ⟨g, 0, none⟩) l := fun k hk => by
  subst hg
  obtain ⟨g1, g2⟩ := sps_get l k hk
  rw [← hx, Array.getElem?_toList] at g1 g2
  refine ⟨W.heap.size, 0, rfl, by rw [size1]; omega, ?_, ?_⟩
  · rw [cell_of_row _ _ _ xs t (0, 0) (heap_alloc_new W _), Nat.zero_add, g1]
  · rw [cell_of_row _ _ _ xs t (0, 0) (heap_alloc_new W _), Nat.zero_add, g2]
theorem one_set : IsSet (HasL aL) oneL := ⟨⟨by simp [RowL, oneL], by simp [oneL]⟩, fun x => by
  rw [aL, oneL]; simp only [hasL_cons, HasL.nil, or_false]; constructor <;> intro h <;> omega⟩
theorem b_set : IsSet (fun x => HasL aL x ∧ HasL bL x) bL := ⟨⟨by simp [RowL, bL], by simp [bL]⟩, fun x => by
  show HasL bL x ↔ HasL aL x ∧ HasL bL x
  rw [aL, bL]; simp only [hasL_cons, HasL.nil, or_false]; constructor <;> intro h <;> omega⟩
theorem less_set : IsSet (fun x => HasL aL x ∧ ¬ HasL bL x) lessL := ⟨⟨by simp [RowL, lessL], by simp [lessL]⟩, fun x => by
  show HasL lessL x ↔ HasL aL x ∧ ¬ HasL bL x
  rw [aL, bL, lessL]; simp only [hasL_cons, HasL.nil, or_false]; constructor <;> intro h <;> omega⟩
theorem join_set : IsSet (HasL (aL ++ bL)) oneL := ⟨⟨by simp [RowL, oneL], by simp [oneL]⟩, fun x => by
  rw [hasL_append, aL, bL, oneL]; simp only [hasL_cons, HasL.nil, or_false]; constructor <;> intro h <;> omega⟩
theorem fits_ab : FitsS aL ∧ FitsS bL := ⟨fun s hs => by simp [aL] at hs; rcases hs with rfl | rfl | rfl <;> (unfold I64; decide), fun s hs => by simp [bL] at hs; subst hs; unfold I64; decide⟩
/-- what alive keeps: its three rows, and the fourth, made of them -/
structure AlP (w : World) (al : Option Addr) (W : World) : Prop where
  a : SpSl W (some ⟨w.heap.size, 0, none⟩) aL
  one : SpSl W (some ⟨w.heap.size + 1, 0, none⟩) oneL
  b : SpSl W (some ⟨w.heap.size + 2, 0, none⟩) bL
  l : SpSl W al lessL
  frame : Below w.heap.size w W
theorem AlP.below {w W W' : World} {al : Option Addr} (h : AlP w al W) (q : Below W.heap.size W W') : AlP w al W' :=
  ⟨h.a.below q, h.one.below q, h.b.below q, h.l.below q, h.frame.trans (q.mono h.frame.size)⟩
theorem AlP.less {w W : World} {al : Option Addr} (h : AlP w al W) (W' : World) (q : Below W.heap.size W W') : AlP w al W' := h.below q

theorem norm_al (p : Nat) (W : World) (ha : SpSl W (some ⟨p, 0, none⟩) aL) : Calls Try.prog 38 #[.slice (some ⟨p, 0, none⟩) 3 3] W fun e w' => ∃ a c, e = .returned (.slice a 1 c) ∧ SpSl w' a oneL ∧ Below W.heap.size W w' := by
  refine (norm_any _ 3 aL W ha (by decide) (by decide) (by decide)).mono ?_
  rintro e w' ⟨v, r, rfl, hs, _, ho, hb⟩
  obtain rfl := hs.only one_set
  obtain ⟨a, c, rfl, _, h⟩ := own_sp ho
  exact ⟨a, c, rfl, h, hb⟩
theorem same_al (a b : Option Addr) (n m ca cb : Nat) (l k : List SpM) (hn : n = l.length) (hm : m = k.length) (W : World) (ha : SpSl W a l) (hb : SpSl W b k) (h1 : l.length ≤ 3) (h2 : k.length ≤ 3) : Calls Try.prog 37 #[.slice a n ca, .slice b m cb] W fun e w' => e = .returned (.bool (decide (l = k))) ∧ Below W.heap.size W w' := by
  subst hn; subst hm
  exact same_any a b ca cb l k W ha hb (by unfold maxLen; omega) (by unfold maxLen; omega)

end Go.Proofs.Ytlgicjebaehgeaa
