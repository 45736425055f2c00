/- Layer 9: who is in force, in the program: contracts. -/
import Derived.Test.YthaancmobpamhaaAB1
import Derived.Test.YthaancmobpamhaaAA2
namespace Go.Proofs.Ythaancmobpamhaa
open Go.RowKit
set_option linter.unusedVariables false
set_option maxRecDepth 100000

theorem below_one (w : World) (o : Obj) : Below w.heap.size w (w.alloc o) := (Below.refl _ _).alloc (Nat.le_refl _) _
/-- a pair of texts that lies at g -/
def PcAt (W : World) (g : Nat) (w u : ByteArray) : Prop := W.cell? ⟨g, 0, none⟩ = some (.string w) ∧ W.cell? ⟨g, 1, none⟩ = some (.string u) ∧ g < W.heap.size
theorem PcAt.below {W W' : World} {g : Nat} {w u : ByteArray} (h : PcAt W g w u) (q : Below W.heap.size W W') : PcAt W' g w u :=
  ⟨(q.cell (p := ⟨g, 0, none⟩) h.2.2).trans h.1, (q.cell (p := ⟨g, 1, none⟩) h.2.2).trans h.2.1, Nat.lt_of_lt_of_le h.2.2 q.size⟩
theorem PcAt.new (W : World) (w u : ByteArray) (t : TypeId) : PcAt (W.alloc (.cells #[.string w, .string u] t)) W.heap.size w u :=
  ⟨cell_of_row _ _ _ _ _ _ (heap_alloc_new W _), cell_of_row _ _ _ _ _ _ (heap_alloc_new W _), by rw [size1]; omega⟩
theorem str_ne {a b : ByteArray} (h : ¬ a = b) : (a.toList == b.toList) = false := by
  have h1 := eqS_iff a b
  unfold eqS at h1
  cases hc : (a.toList == b.toList) with
  | false => rfl
  | true => exact absurd (h1.1 hc) h
theorem str_eq (a : ByteArray) : (a.toList == a.toList) = true := beq_self_eq_true _

set_option maxHeartbeats 1000000 in
theorem infc_any (e : EnM) (w u : ByteArray) (g : Nat) (W : World) (h : PcAt W g w u) :
    Calls Try.prog 60 #[enV e, .pointer (some ⟨g, 0, none⟩)] W fun r w' => r = .returned (.bool (infE w u e)) ∧ Below W.heap.size W w' := by
  have HB := Lib.hid (below_one W)
  obtain ⟨c0, c1, hg⟩ := h
  unfold enV
  obtain ⟨ew, eu, ef, et⟩ := e
  have HF : Hid (∀ b : Bool, (b = true ↔ ew = w ∧ eu = u ∧ et = 1099511627776) → b = infE w u ⟨ew, eu, ef, et⟩) := fun b hb => by
    have h1 := infE_iff (w := w) (u := u) (e := ⟨ew, eu, ef, et⟩)
    cases hc : infE w u ⟨ew, eu, ef, et⟩ with
    | true => rw [hc] at h1; exact hb.2 (h1.1 rfl)
    | false =>
      rw [hc] at h1
      cases b with
      | false => rfl
      | true => exact absurd (h1.2 (hb.1 rfl)) Bool.false_ne_true
  dsimp only
  by_cases h0 : ew = w
  · subst h0
    have e0 := str_eq ew
    by_cases h1 : eu = u
    · subst h1
      have e1 := str_eq eu
      by_cases h2 : et = 1099511627776
      · subst h2
        have HE := Lib.hid (HF.out true ⟨fun _ => ⟨rfl, rfl, rfl⟩, fun _ => rfl⟩)
        clear HF
        go_enter Try.func60, Try.ntmps60
        go_wp2
        go_ret
        exact ⟨retB HE.out, HB.out _⟩
      · have e2 : (et == 1099511627776) = false := beq_eq_false_iff_ne.2 h2
        have HE := Lib.hid (HF.out false ⟨fun h => (by cases h), fun h => absurd h.2.2 h2⟩)
        clear HF h2
        go_enter Try.func60, Try.ntmps60
        go_wp2
        go_ret
        exact ⟨retB HE.out, HB.out _⟩
    · have e1 := str_ne h1
      have HE := Lib.hid (HF.out false ⟨fun h => (by cases h), fun h => absurd h.2.1 h1⟩)
      clear HF h1
      go_enter Try.func60, Try.ntmps60
      go_wp2
      go_ret
      exact ⟨retB HE.out, HB.out _⟩
  · have e0 := str_ne h0
    have HE := Lib.hid (HF.out false ⟨fun h => (by cases h), fun h => absurd h.1 h0⟩)
    clear HF h0
    go_enter Try.func60, Try.ntmps60
    go_wp2
    go_ret
    exact ⟨retB HE.out, HB.out _⟩

/-- where the first one stands, below 0: nowhere -/
def idxI (p : EnM → Bool) (l : List EnM) : Int := if l.findIdx p < l.length then (l.findIdx p : Nat) else -1
theorem idx_hit {p : EnM → Bool} {l : List EnM} {k : Nat} (h : IsFirst p l k) (hk : k < l.length) : idxI p l = k := by
  unfold idxI
  rw [h.idx, if_pos hk]
theorem idx_miss {p : EnM → Bool} {l : List EnM} (h : IsFirst p l l.length) : idxI p l = -1 := by
  unfold idxI
  rw [h.idx, if_neg (by omega)]
theorem idx_any (p : EnM → Bool) (l : List EnM) : decide (0 ≤ idxI p l) = l.any p := by
  have h := first_idx p l
  rw [h.any]
  by_cases h1 : l.findIdx p < l.length
  · rw [idx_hit h h1, decide_eq_true h1]
    exact decide_eq_true (by omega)
  · rw [decide_eq_false h1]
    unfold idxI
    rw [if_neg h1]
    rfl
def LowTo (p : EnM → Bool) (l : List EnM) (j : Nat) : Prop := ∀ i (h : i < l.length), i < j → p l[i] = false
theorem LowTo.next {p : EnM → Bool} {l : List EnM} {j : Nat} (h : LowTo p l j) (hj : j < l.length) (hp : p l[j] = false) : LowTo p l (j + 1) := fun i hi hij => by
  rcases Nat.lt_or_ge i j with h1 | h1
  · exact h i hi h1
  · obtain rfl : i = j := by omega
    exact hp
theorem LowTo.hit {p : EnM → Bool} {l : List EnM} {j : Nat} (h : LowTo p l j) (hj : j < l.length) (hp : p l[j] = true) : IsFirst p l j := ⟨Nat.le_of_lt hj, h, fun _ => hp⟩
theorem LowTo.miss {p : EnM → Bool} {l : List EnM} (h : LowTo p l l.length) : IsFirst p l l.length := ⟨Nat.le_refl _, h, fun h => absurd h (by omega)⟩

set_option maxHeartbeats 2000000 in
theorem index_any (a : Option Addr) (c : Nat) (l : List EnM) (w u : ByteArray) (g : Nat) (W : World) (hr : EnSl W a l) (h : PcAt W g w u) (hl : l.length ≤ 1000000) :
    Calls Try.prog 59 #[.slice a l.length c, .func (.func 60) #[] #[.pointer (some ⟨g, 0, none⟩)]] W fun r w' => r = .returned (.int .i64 (idxI (infE w u) l)) ∧ Below W.heap.size W w' := by
  have HR := Lib.hid hr
  have HP := Lib.hid h
  have HC := Lib.hid (fun e V k => infc_any e w u g V k)
  unfold enV at HC
  clear hr h
  go_enter Try.func59, Try.ntmps59
  go_wp2
  go_loopw [8] (fun i wr => ∃ (j : Nat), j ≤ l.length ∧ i = .int .i64 j ∧ Hid (LowTo (infE w u) l j) ∧ Hid (Below W.heap.size W wr)) (fun i _ => l.length - (intOf i).toNat)
  case atStart => exact ⟨0, by omega, rfl, fun k _ h => absurd h (by omega), Below.refl _ _⟩
  case round =>
    obtain ⟨j, hj, rfl, HO, HB⟩ := hrel
    by_cases hjl : j < l.length
    · obtain ⟨b, off, rfl, hbl, hc0, hc1, hc2, hc3⟩ := (HR.out.below HB.out).at_ hjl
      have HPW := Lib.hid (HP.out.below HB.out)
      have HNX := Lib.hid (HO.out.next hjl)
      have HHT := Lib.hid (HO.out.hit hjl)
      generalize l[j] = x at *
      cases hb : infE w u x with
      | false =>
        have HN := Lib.hid (HNX.out hb)
        have HCC := Lib.hid (HC.out x wr HPW.out)
        rw [hb] at HCC
        clear HNX HHT hb HC
        go_wp2_with fail
        refine HCC.out.mono ?_
        rintro r w2 ⟨rfl, hB⟩
        go_wp2
        go_roundw
        case rel => exact ⟨j + 1, by omega, by go_num, HN, HB.out.trans (hB.mono HB.out.size)⟩
        case measure => simp [intOf]; omega
      | true =>
        have HN := Lib.hid (idx_hit (HHT.out hb) hjl)
        have HCC := Lib.hid (HC.out x wr HPW.out)
        rw [hb] at HCC
        clear HNX HHT hb HC
        go_wp2_with fail
        refine HCC.out.mono ?_
        rintro r w2 ⟨rfl, hB⟩
        go_wp2
        go_ret
        exact ⟨by rw [HN.out]; rfl, HB.out.trans (hB.mono HB.out.size)⟩
    · obtain rfl : j = l.length := by omega
      have HE := Lib.hid (idx_miss HO.out.miss)
      go_wp2
      go_ret
      exact ⟨by rw [HE.out]; rfl, HB.out⟩

set_option maxHeartbeats 1000000 in
theorem inforce_any (a : Option Addr) (c : Nat) (l : List EnM) (w u : ByteArray) (W : World) (hr : EnSl W a l) (hl : l.length ≤ 1000000) :
    Calls Try.prog 39 #[.slice a l.length c, pr w u] W fun r w' => r = .returned (.int .i64 (idxI (infE w u) l)) ∧ Below W.heap.size W w' := by
  have hb := below_one W (.cells #[.string w, .string u] 31)
  have HC := Lib.hid (index_any a c l w u W.heap.size (W.alloc (.cells #[.string w, .string u] 31)) (hr.below hb) (PcAt.new _ _ _ _) hl)
  have HB := Lib.hid hb
  unfold pr
  clear hr hb
  go_enter Try.func39, Try.ntmps39
  go_wp2_with fail
  refine HC.out.mono ?_
  rintro r w2 ⟨rfl, hB⟩
  go_wp2
  go_ret
  exact ⟨rfl, HB.out.trans (hB.mono HB.out.size)⟩

set_option maxHeartbeats 1000000 in
theorem inForce_any (a : Option Addr) (c : Nat) (l : List EnM) (w u : ByteArray) (W : World) (hr : EnSl W a l) (hl : l.length ≤ 1000000) :
    Calls Try.prog 18 #[.slice a l.length c, pr w u] W fun r w' => r = .returned (.bool (l.any (infE w u))) ∧ Below W.heap.size W w' := by
  have hb := below_one W (.cells #[.string w, .string u] 31)
  have HC := Lib.hid (inforce_any a c l w u (W.alloc (.cells #[.string w, .string u] 31)) (hr.below hb) hl)
  have HB := Lib.hid hb
  have HE := Lib.hid (idx_any (infE w u) l)
  unfold pr at *
  clear hr hb
  generalize idxI (infE w u) l = n at *
  go_enter Try.func18, Try.ntmps18
  go_wp2_with fail
  refine HC.out.mono ?_
  rintro r w2 ⟨rfl, hB⟩
  go_wp2
  go_ret
  exact ⟨by rw [← HE.out]; rfl, HB.out.trans (hB.mono HB.out.size)⟩
end Go.Proofs.Ythaancmobpamhaa
