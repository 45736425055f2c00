/- Layer 8's laws: how many stays have a time (the closure of HistParts): contract; and what this says of stays that are cut. -/
import Derived.Test.YtbcabbddgppkaaaZ22
namespace Go.Proofs.Ytbcabbddgppkaaa
open Go.RowKit
set_option linter.unusedVariables false
set_option maxRecDepth 100000

theorem count_next {l : List StM} {t : Int} {j : Nat} (h : j < l.length) : (l.take (j + 1)).countP (atT t) = (l.take j).countP (atT t) + (if atT t l[j] then 1 else 0) := by
  rw [List.take_succ_eq_append_getElem h, List.countP_append]
  simp [List.countP_cons]
/-- the time in a block of its own, a row of stays, all else as it was -/
structure CtK (w : World) (g : Nat) (t : Int) (a : Option Addr) (l : List StM) (W : World) : Prop where
  box : W.cell? ⟨g, 0, none⟩ = some (.int .i64 t)
  lt : g < W.heap.size
  row : StSl W a l
  frame : Below w.heap.size w W
theorem CtK.below {w W W' : World} {g : Nat} {t : Int} {a : Option Addr} {l : List StM} (h : CtK w g t a l W) (q : Below W.heap.size W W') : CtK w g t a l W' :=
  ⟨(q.cell (p := ⟨g, 0, none⟩) h.lt).trans h.box, Nat.lt_of_lt_of_le h.lt q.size, h.row.below q, h.frame.trans (q.mono h.frame.size)⟩
set_option maxHeartbeats 2000000 in
theorem count_any (a : Option Addr) (c : Nat) (l : List StM) (g : Nat) (t : Int) (w : World) (hr : StSl w a l) (hg : w.cell? ⟨g, 0, none⟩ = some (.int .i64 t)) (hgl : g < w.heap.size) (hl : l.length ≤ 1000000) :
    Calls Try.prog 47 #[.slice a l.length c, .pointer (some ⟨g, 0, none⟩)] w fun e w' => e = .returned (.int .i64 (l.countP (atT t) : Nat)) ∧ Below w.heap.size w w' := by
  have HSH := Lib.hid (fun f u W => shas_any f u t W)
  have K0 : Hid (CtK w g t a l w) := ⟨hg, hgl, hr, Below.refl _ _⟩
  have HCL : Hid (∀ j, (l.take j).countP (atT t) ≤ j) := fun j => Nat.le_trans List.countP_le_length (by rw [List.length_take]; omega)
  clear hr hg hgl
  go_enter Try.func47, Try.ntmps47
  go_wp2
  go_loopw [4, 9] (fun n i wr => ∃ (j k : Nat), j ≤ l.length ∧ k ≤ j ∧ i = .int .i64 j ∧ n = .int .i64 k ∧ Hid ((l.take j).countP (atT t) = k) ∧ Hid (CtK w g t a l wr)) (fun _ i _ => l.length - (intOf i).toNat)
  case atStart => exact ⟨0, 0, by omega, by omega, rfl, rfl, (by unfold Hid; simp), K0⟩
  case round =>
    obtain ⟨j, k, hj, hk, rfl, rfl, HN, HK⟩ := hrel
    clear K0
    by_cases hjl : j < l.length
    · obtain ⟨b, off, rfl, hbl, d0, d1, d2, d3⟩ := HK.out.row.at_ hjl
      have hbox := HK.out.box
      have hgl := HK.out.lt
      have HX : Hid (∀ o, CtK w g t (some ⟨b, off, none⟩) l (wr.alloc o)) := fun o => HK.out.below ((Below.refl _ _).alloc (Nat.le_refl _) o)
      have HE := Lib.hid (count_next (t := t) hjl)
      have HHB : Hid (∃ b1, b1 = (decide (l[j].f ≤ t) && decide (t < l[j].t)) ∧ ((l.take (j + 1)).countP (atT t) = if b1 then k + 1 else k)) := ⟨_, rfl, by
        rw [HE.out, HN.out]
        unfold atT
        split <;> rfl⟩
      obtain ⟨b1, hb1, hcn⟩ := HHB.out
      have HCT := Lib.hid (HSH.out l[j].f l[j].t)
      rw [← hb1] at HCT
      have HCN := Lib.hid hcn
      clear HHB HE hcn hb1 HSH HCL
      generalize l[j] = z at *
      go_wp2_with fail
      refine (HCT.out _).mono ?_
      rintro e w2 ⟨rfl, h2⟩
      have S2 := Lib.hid ((HX.out _).below h2)
      clear HX h2 HCT
      cases b1 with
      | true =>
        have HC : Hid ((l.take (j + 1)).countP (atT t) = k + 1) := HCN.out
        go_wp2
        go_roundw
        case rel => exact ⟨j + 1, k + 1, by omega, by omega, by go_num, by go_num, HC, S2⟩
        case measure => simp [intOf]; omega
      | false =>
        have HC : Hid ((l.take (j + 1)).countP (atT t) = k) := HCN.out
        go_wp2
        go_roundw
        case rel => exact ⟨j + 1, k, by omega, by omega, by go_num, rfl, HC, S2⟩
        case measure => simp [intOf]; omega
    · obtain rfl : j = l.length := by omega
      have HE : Hid (l.countP (atT t) = k) := by
        have := HN.out
        rwa [List.take_length] at this
      go_wp2
      go_ret
      exact ⟨by rw [HE.out]; rfl, HK.out.frame⟩
/-- what is left within some times, and within others that have none of them, is, by number, what is left within both -/
theorem parts_count {l p q m : List StM} {P Q R : Int → Prop} (hp : IsCut l P p) (hq : IsCut l Q q) (hm : IsCut l R m) (h1 : ∀ x, P x → ¬ Q x) (h2 : ∀ x, R x ↔ P x ∨ Q x) (t : Int) : p.countP (atT t) + q.countP (atT t) = m.countP (atT t) ∧ (m.countP (atT t) ≠ 0 → R t) := by
  have c1 := hp.count t
  have c2 := hq.count t
  have c3 := hm.count t
  by_cases a : P t
  · rw [c1.1 a, c2.2 (h1 t a), c3.1 ((h2 t).2 (.inl a))]
    exact ⟨rfl, fun _ => (h2 t).2 (.inl a)⟩
  · by_cases b : Q t
    · rw [c1.2 a, c2.1 b, c3.1 ((h2 t).2 (.inr b))]
      exact ⟨by omega, fun _ => (h2 t).2 (.inr b)⟩
    · have hr : ¬ R t := fun h => ((h2 t).1 h).elim a b
      rw [c1.2 a, c2.2 b, c3.2 hr]
      exact ⟨rfl, fun h => absurd rfl h⟩
end Go.Proofs.Ytbcabbddgppkaaa
