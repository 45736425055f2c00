/- Layer 7's laws: contracts in the form in which a law calls (Join; rows that are handed on to it). -/
import Derived.Test.YthaancmobpamhaaW18
namespace Go.Proofs.Ythaancmobpamhaa
open Go.RowKit
set_option linter.unusedVariables false
set_option maxRecDepth 100000
set_option maxRecDepth 100000

theorem n_less (xa : Option Addr) (ca : Nat) (xb : Option Addr) (cb : Nat) (A B : List SpM) (W : World) (ha : SpSl W xa A) (hb : SpSl W xb B) (hca : A.length ≤ ca) (hcb : B.length ≤ cb) (h1 : ca ≤ maxLen) (h2 : cb ≤ maxLen) (hl : A.length ≤ 400) (hl2 : B.length ≤ 400) (hfa : FitsS A) (hfb : FitsS B) :
    Calls Try.prog 33 #[.slice xa A.length ca, .slice xb B.length cb] W fun e w' => ∃ x q r, e = .returned (.slice x r.length q) ∧ IsSet (fun t => HasL A t ∧ ¬ HasL B t) r ∧ r.length ≤ A.length + B.length + 1 ∧ r.length ≤ q ∧ q ≤ maxLen ∧ (x = none → q = 0) ∧ SpSl w' x r ∧ Below W.heap.size W w' := by
  refine (less_any xa ca xb cb A B W ha hb hca hcb ⟨h1, h2⟩ (by omega) hfa hfb).mono ?_
  rintro e w' ⟨v, r, rfl, hs, ho, hl, hb⟩
  obtain ⟨x, q, rfl, k1, k2, k3, k4⟩ := own_spm ho
  exact ⟨x, q, r, rfl, hs, hl, k1, k2, k4, k3, hb⟩
theorem n_norm (xa : Option Addr) (ca : Nat) (A : List SpM) (W : World) (ha : SpSl W xa A) (hca : A.length ≤ ca) (h1 : ca ≤ maxLen) (hl : A.length ≤ 1000) :
    Calls Try.prog 42 #[.slice xa A.length ca] W fun e w' => ∃ x q r, e = .returned (.slice x r.length q) ∧ IsSet (HasL A) r ∧ r.length ≤ A.length ∧ r.length ≤ q ∧ q ≤ maxLen ∧ (x = none → q = 0) ∧ SpSl w' x r ∧ Below W.heap.size W w' := by
  refine (norm_any xa ca A W ha (by omega) hca h1).mono ?_
  rintro e w' ⟨v, r, rfl, hs, hl, ho, hb⟩
  obtain ⟨x, q, rfl, k1, k2, k3, k4⟩ := own_spm ho
  exact ⟨x, q, r, rfl, hs, hl, k1, k2, k4, k3, hb⟩
theorem n_join (x y : Option Addr) (p q g : Nat) (l m : List SpM) (W : World) (hg : g = W.heap.size) (hx : SpSl W x l) (hy : SpSl W y m) (nx : x = none → p = 0) (ny : y = none → q = 0) (hl : l.length ≤ 1000) (hm : m.length ≤ 1000) (t : TypeId) :
    Calls Try.prog 32 #[.slice (some ⟨g, 0, none⟩) 2 2] (W.alloc (.cells #[.slice x l.length p, .slice y m.length q] t)) fun e w' => ∃ z c r, e = .returned (.slice z r.length c) ∧ IsSet (fun t => HasL l t ∨ HasL m t) r ∧ r.length ≤ l.length + m.length ∧ r.length ≤ c ∧ c ≤ maxLen ∧ (z = none → c = 0) ∧ SpSl w' z r ∧ Below W.heap.size W w' := by
  subst hg
  have hA := (Below.refl W.heap.size W).alloc (Nat.le_refl _) (.cells #[.slice x l.length p, .slice y m.length q] t)
  have hcat : cat [⟨x, l, p⟩, ⟨y, m, q⟩] = l ++ m := by show l ++ (m ++ []) = _; rw [List.append_nil]
  refine (join_any (some ⟨W.heap.size, 0, none⟩) 2 [⟨x, l, p⟩, ⟨y, m, q⟩] _ ?_ ?_ (by show 2 ≤ _; decide) (by rw [hcat, List.length_append]; omega)).mono ?_
  · exact sl_lit W #[.slice x l.length p, .slice y m.length q] t
  · intro r hr
    rcases List.mem_cons.1 hr with rfl | hr
    · exact ⟨hx.below hA, nx⟩
    · rw [List.mem_singleton.1 hr]
      exact ⟨hy.below hA, ny⟩
  · rintro e w' ⟨v, r, rfl, hs, hl', ho, hb⟩
    rw [hcat] at hs hl'
    obtain ⟨z, c, rfl, k1, k2, k3, k4⟩ := own_spm ho
    exact ⟨z, c, r, rfl, hs.congr (fun t => hasL_append), by rw [List.length_append] at hl'; exact hl', k1, k2, k4, k3, hA.trans (hb.mono (by rw [size1]; omega))⟩
theorem set_nil {P : Int → Prop} (h : ∀ x, ¬ P x) : IsSet P [] := ⟨NormL.nil, fun x => ⟨fun hx => absurd hx HasL.nil, fun hx => absurd hx (h x)⟩⟩
theorem set_self {P : Int → Prop} {r : List SpM} (h : IsSet P r) : IsSet (HasL r) r := ⟨h.1, fun x => Iff.rfl⟩
end Go.Proofs.Ythaancmobpamhaa
