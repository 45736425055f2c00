/- Layer 8's laws: contracts of Cut in the form in which a law calls. -/
import Derived.Test.YtbcabbddgppkaaaZ21
import Derived.Test.YtbcabbddgppkaaaZ18
import Derived.Test.YtbcabbddgppkaaaW19
namespace Go.Proofs.Ytbcabbddgppkaaa
open Go.RowKit
set_option linter.unusedVariables false
set_option maxRecDepth 100000

theorem s_cut (P Q : Nat) (a : Option Addr) (c : Nat) (l : List StM) (xb : Option Addr) (cb : Nat) (by_ : List SpM) (w : World) (hr : StSl w a l) (hb : SpSl w xb by_) (hl : l.length ≤ P) (hlb : by_.length ≤ Q) (hcb : by_.length ≤ cb) (hcm : cb ≤ maxLen) (hP : P ≤ 1000 ∧ Q ≤ 1000 ∧ P * Q ≤ 100000) :
    Calls Try.prog 40 #[.slice a l.length c, .slice xb by_.length cb] w fun e w' => ∃ x q m, e = .returned (.slice x m.length q) ∧ IsCut l (HasL by_) m ∧ m.length ≤ P * Q ∧ StSl w' x m ∧ Below w.heap.size w w' := by
  have hm := Nat.mul_le_mul hl hlb
  refine (cut_any a c l xb cb by_ w hr hb (by omega) (by omega) hcb hcm (Nat.le_trans hm hP.2.2)).mono ?_
  rintro e w' ⟨v, m, rfl, h1, h2, ho, hb⟩
  obtain ⟨x, q, rfl, _, _, h3, _⟩ := own_st ho
  exact ⟨x, q, m, rfl, h1, Nat.le_trans h2 hm, h3, hb⟩
theorem r_cut (P Q : Nat) (a : Option Addr) (c : Nat) (l : List StM) (xb : Option Addr) (cb : Nat) (by_ : List SpM) (w : World) (hr : StSl w a l) (hb : SpSl w xb by_) (hl : l.length ≤ P) (hlb : by_.length ≤ Q) (hP : P ≤ 1000 ∧ Q ≤ 1000 ∧ P * (2 * Q) ≤ 100000) (m : List StM) (hm : IsCut l (HasL by_) m) :
    Calls Try.prog 41 #[.slice a l.length c, .slice xb by_.length cb] w fun e w' => ∃ x q, e = .returned (.slice x m.length q) ∧ StSl w' x m ∧ Below w.heap.size w w' := by
  have hm1 := Nat.mul_le_mul hl (Nat.mul_le_mul (Nat.le_refl 2) hlb)
  refine (refCut_any a c l xb cb by_ w hr hb (by omega) (by omega) (Nat.le_trans hm1 hP.2.2)).mono ?_
  rintro e w' ⟨v, m', rfl, h1, ho, hb⟩
  obtain rfl := h1.only hm
  obtain ⟨x, q, rfl, _, _, h3, _⟩ := own_st ho
  exact ⟨x, q, rfl, h3, hb⟩
theorem cut_fits {l m : List StM} {A : List SpM} (h : IsCut l (HasL A) m) (hl : FitsT l) (hA : FitsS A) : FitsT m := by
  obtain ⟨r, h1, h2, _⟩ := h
  have hr : FitsS r := fits_set h1 (fun x hx => hA.has hx)
  intro s hs
  obtain ⟨y, hy, hs⟩ := List.mem_flatMap.1 (h2.mem_iff.1 hs)
  obtain ⟨u, hu, rfl⟩ := List.mem_map.1 hs
  obtain ⟨n, hn, rfl, _⟩ := rowOf_mem hu
  have k1 := hl y hy
  have k2 := hr n hn
  unfold I64 at *
  show (_ ≤ max y.f n.f ∧ max y.f n.f ≤ _) ∧ (_ ≤ min y.t n.t ∧ min y.t n.t ≤ _)
  omega
/-- what a stay has, but none of some spans that have all its times: nothing -/
theorem l_one (x : StM) (g : Nat) (xb : Option Addr) (cb : Nat) (A : List SpM) (W : World) (hg : g = W.heap.size) (hb : SpSl W xb A) (hcb : A.length ≤ cb) (h2 : cb ≤ maxLen) (hl2 : A.length ≤ 400) (hfx : I64 x.f ∧ I64 x.t) (hfb : FitsS A)
    (hw : ∀ t, x.f ≤ t → t < x.t → HasL A t) (T : TypeId) :
    Calls Try.prog 28 #[.slice (some ⟨g, 0, none⟩) 1 1, .slice xb A.length cb] (W.alloc (.cells #[.int .i64 x.f, .int .i64 x.t] T)) fun e w' => ∃ z q, e = .returned (.slice z 0 q) ∧ Below W.heap.size W w' := by
  subst hg
  have hA := (Below.refl W.heap.size W).alloc (Nat.le_refl _) (.cells #[.int .i64 x.f, .int .i64 x.t] T)
  refine (n_less (some ⟨W.heap.size, 0, none⟩) 1 xb cb [x.sp] A _ (cells_sp W [x.sp] _ _ _ rfl rfl) (hb.below hA) (by simp) hcb (by decide) h2 (by simp) hl2 (fun s hs => by rw [List.mem_singleton.1 hs]; exact hfx) hfb).mono ?_
  rintro e w' ⟨z, q, r, rfl, hr, _, _, _, _, _, hb'⟩
  obtain rfl := hr.only (set_nil (fun t ht => ht.2 (by
    obtain ⟨s, hs, h3, h4⟩ := ht.1
    rw [List.mem_singleton.1 hs] at h3 h4
    exact hw t h3 h4)))
  exact ⟨z, q, rfl, hA.trans (hb'.mono (by rw [size1]; omega))⟩
end Go.Proofs.Ytbcabbddgppkaaa
