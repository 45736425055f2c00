/- Layer 10: rows of entries, one behind the other: contracts. -/
import Derived.Test.YtlgicjebaehgeaaBA4
import Derived.Shelf.Spec.SlicesGrow
import Derived.Test.YtlgicjebaehgeaaShelf
import Derived.Lib.Hide
namespace Go.Proofs.Ytlgicjebaehgeaa
open Go.RowKit Go.Proofs
set_option linter.unusedVariables false
set_option maxRecDepth 100000

theorem ogrow_any (n : Nat) (w : World) (hn : n ≤ 1000000) : Calls Try.prog 59 #[.slice none 0 0, .int .i64 n] w fun e w' => ∃ v, e = .returned v ∧ w'.ownsRow w.heap.size 31 4 v 0 [] ∧ Below w.heap.size w w' := by
  obtain ⟨i0, hi, hz0, hz1, hz2⟩ := info_parts infoOp
  rcases Nat.eq_zero_or_pos n with h0 | h0
  · subst h0
    have h := Any8.slices_Grow_room Try.laysGrowOp none 0 0 0 w (by omega) (by omega) (by omega) (by omega)
    refine Calls.mono h ?_
    rintro e w' ⟨rfl, rfl⟩
    exact ⟨_, rfl, ⟨rfl, .inl ⟨rfl, rfl⟩⟩, Below.refl _ _⟩
  · have h := Any8.slices_Grow_grow Try.laysGrowOp i0 _ hi hz0 (by rw [hz1]; omega) none 0 0 n [] w (by omega) (by omega) (by rw [hz2]; omega) (by omega) (by simp) (fun _ => rfl) (fun a h => by cases h)
    refine Calls.mono h ?_
    rintro e w' ⟨rfl, rfl⟩
    have hge := grownCap_ge w (0 + n) 0 31
    have hle := grownCap_le_maxLen w (0 + n) 0 31 (by unfold maxLen; omega)
    refine ⟨_, rfl, ⟨rfl, .inr ⟨w.heap.size, _, _, rfl, Nat.le_refl _, heap_alloc_new w.drew _, Nat.zero_le _, hle, ?_, by simp⟩⟩, ?_⟩
    · simp only [Array.size_append, size_zeroCells]
      show 0 + (0 + n - 0) * 4 + (grownCap w (0 + n) 0 31 - (0 + n)) * 4 = grownCap w (0 + n) 0 31 * 4
      omega
    · exact (Below.refl w.heap.size w).drew.alloc (Nat.le_refl _) _

/-- a row of stays in memory: where, which, and its capacity -/
structure OpR where
  a : Option Addr
  l : List OpM
  c : Nat
def oprV (r : OpR) : Value := .slice r.a r.l.length r.c
def catO (R : List OpR) : List OpM := R.flatMap (·.l)
theorem catO_take (R : List OpR) (j : Nat) (h : j < R.length) : catO (R.take (j + 1)) = catO (R.take j) ++ R[j].l := by
  unfold catO
  rw [List.take_succ_eq_append_getElem h, List.flatMap_append]
  simp
theorem catO_le (R : List OpR) (j : Nat) : (catO (R.take j)).length ≤ (catO R).length := by
  have : catO R = catO (R.take j) ++ catO (R.drop j) := by
    unfold catO
    rw [← List.flatMap_append, List.take_append_drop]
  rw [this, List.length_append]
  omega
def OpRAt (w : World) (r : OpR) : Prop := OpSl w r.a r.l ∧ (r.a = none → r.c = 0)
theorem orows_at {w : World} {a : Option Addr} {R : List OpR} (h : Sl w a (R.map oprV)) {k : Nat} (hk : k < R.length) : ∃ b off, a = some ⟨b, off, none⟩ ∧ b < w.heap.size ∧ w.cell? ⟨b, off + k, none⟩ = some (oprV R[k]) := by
  obtain ⟨b, off, e, hlt, hc⟩ := h k (by simpa using hk)
  exact ⟨b, off, e, hlt, by rw [hc]; simp⟩

set_option maxHeartbeats 1000000 in
theorem oconcat_any (a : Option Addr) (c : Nat) (R : List OpR) (w : World) (hr : Sl w a (R.map oprV)) (hR : ∀ r ∈ R, OpRAt w r) (hl : R.length ≤ 100000) (hs : (catO R).length ≤ 100000) :
    Calls Try.prog 43 #[.slice a R.length c] w fun e w' => ∃ v, e = .returned v ∧ w'.ownsRow w.heap.size 31 4 v (catO R).length (oes (catO R)) ∧ Below w.heap.size w w' := by
  obtain ⟨i0, hi, hz0, hz1, hz2⟩ := info_parts infoOp
  have HR := Lib.hid hr
  have HRR := Lib.hid hR
  have HG := Lib.hid (ogrow_any (catO R).length w (by omega))
  clear hr hR
  go_enter Try.func43, Try.ntmps43
  go_wp2
  go_loopw [3, 11] (fun v i wr => ∃ (j s : Nat), j ≤ R.length ∧ i = .int .i64 j ∧ v = .int .i64 s ∧ s ≤ 100000 ∧ Hid (s = (catO (R.take j)).length) ∧ wr = w) (fun _ i _ => R.length - (intOf i).toNat)
  case atStart => exact ⟨0, 0, by omega, rfl, rfl, by omega, rfl, rfl⟩
  case round =>
    obtain ⟨j, s, hj, rfl, rfl, hs1, HS, hw⟩ := hrel
    obtain rfl : w = wr := hw.symm
    clear hw
    by_cases hjl : j < R.length
    · obtain ⟨b, off, rfl, hbl, hc0⟩ := orows_at HR.out hjl
      have HN := Lib.hid (catO_take R j hjl)
      have hle := catO_le R (j + 1)
      rw [HN.out, List.length_append, ← HS.out] at hle
      generalize R[j] = x at *
      unfold oprV at hc0
      obtain ⟨xa, xl, xc⟩ := x
      simp only at hc0 hle HN
      have hsum : s + xl.length ≤ 100000 := by omega
      clear hle
      go_wp2
      go_roundw
      case rel => exact ⟨j + 1, s + xl.length, by omega, by go_num, by go_num, hsum, (by unfold Hid; rw [HN.out, List.length_append, ← HS.out]), (by first | rfl | trivial)⟩
      case measure => simp [intOf]; omega
    · obtain rfl : j = R.length := by omega
      rw [List.take_of_length_le (Nat.le_refl _)] at HS
      have HS2 := HS.out
      subst HS2
      go_wp2_with fail
      refine HG.out.mono ?_
      rintro e w1 ⟨v, rfl, ho, hb⟩
      have HO := Lib.hid ho
      have HB := Lib.hid hb
      clear ho hb HG HS
      go_wp2
      go_loopw [6, 27] (fun v i wx => ∃ (j : Nat), j ≤ R.length ∧ i = .int .i64 j ∧ Hid (wx.ownsRow w.heap.size 31 4 v (catO (R.take j)).length (oes (catO (R.take j)))) ∧ Hid (Below w.heap.size w wx)) (fun _ i _ => R.length - (intOf i).toNat)
      case atStart => exact ⟨0, by omega, rfl, HO.out, HB.out⟩
      case round =>
        obtain ⟨j, hj, rfl, HO, HB⟩ := hrel
        by_cases hjl : j < R.length
        · obtain ⟨b, off, rfl, hbl, hc0⟩ := orows_at (HR.out.below HB.out) hjl
          have HN := Lib.hid (catO_take R j hjl)
          have hle := catO_le R (j + 1)
          have hle2 := catO_le R j
          rw [HN.out, List.length_append] at hle
          have HX := Lib.hid (HRR.out _ (List.getElem_mem hjl))
          generalize R[j] = x at *
          unfold oprV at hc0
          obtain ⟨xa, xl, xc⟩ := x
          simp only at hc0 hle HN
          obtain ⟨hx1, hx2⟩ := HX.out
          simp only at hx1 hx2
          have HX1 := Lib.hid (hx1.below HB.out)
          have HX2 := Lib.hid hx2
          generalize hct : catO (R.take j) = ct at *
          have hsum : ct.length + xl.length ≤ 1000000 := by omega
          clear hle hle2 hx1 hx2 HX hct
          go_wp2_with (at_builtin; refine wpList_append_op _ rfl (.tmp 31) (.tmp 32) 26 rfl w.heap.size 31 i0 _ Try.underlying26 hi hz0 hz1 hz2 rfl _ ct rfl HO.out xa xc xl rfl HX1.out HX2.out hsum HB.out.size ?_; intro v2 w2 hown2 hB2)
          have HO2 := Lib.hid hown2
          have HB2 := Lib.hid (HB.out.trans hB2)
          clear hown2 hB2
          go_wp2
          go_roundw
          case rel => exact ⟨j + 1, by omega, by go_num, (by unfold Hid; rw [HN.out]; exact HO2.out), HB2⟩
          case measure => simp [intOf]; omega
        · obtain rfl : j = R.length := by omega
          rw [List.take_of_length_le (Nat.le_refl _)] at HO
          go_wp2
          go_ret
          exact ⟨_, rfl, HO.out, HB.out⟩

theorem own_emptyO (w : World) (e : TypeId) (k B : Nat) (hB : B ≤ w.heap.size) : (w.alloc (.cells #[] e)).ownsRow B e k (.slice (some ⟨w.heap.size, 0, none⟩) 0 0) 0 [] :=
  ⟨by simp, .inr ⟨w.heap.size, 0, #[], rfl, hB, heap_alloc_new w _, Nat.le_refl _, by unfold maxLen; omega, by simp, by simp⟩⟩
end Go.Proofs.Ytlgicjebaehgeaa
