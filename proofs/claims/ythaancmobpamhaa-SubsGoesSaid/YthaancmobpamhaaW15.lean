/- Layer 7: rows of rows, one behind the other: contracts; the program's Join. -/
import Derived.Test.YthaancmobpamhaaW14
import Derived.Shelf.Spec.SlicesGrow
namespace Go.Proofs.Ythaancmobpamhaa
open Go.RowKit Go.Sort Go.Proofs
set_option linter.unusedVariables false
set_option maxRecDepth 100000
set_option maxRecDepth 100000

theorem grow_any (n : Nat) (w : World) (hn : n ≤ 1000000) : Calls Try.prog 66 #[.slice none 0 0, .int .i64 n] w fun e w' => ∃ v, e = .returned v ∧ w'.ownsRow w.heap.size 56 2 v 0 [] ∧ Below w.heap.size w w' := by
  obtain ⟨i0, hi, hz0, hz1, hz2⟩ := info_parts infoSpan
  rcases Nat.eq_zero_or_pos n with h0 | h0
  · subst h0
    have h := Any8.slices_Grow_room Try.laysGrow none 0 0 0 w (by omega) (by omega) (by omega) (by omega)
    refine Calls.mono h ?_
    rintro e w' ⟨rfl, rfl⟩
    exact ⟨_, rfl, ⟨rfl, .inl ⟨rfl, rfl⟩⟩, Below.refl _ _⟩
  · have h := Any8.slices_Grow_grow Try.laysGrow i0 _ hi hz0 (by rw [hz1]; omega) none 0 0 n [] w (by omega) (by omega) (by rw [hz2]; omega) (by omega) (by simp) (fun _ => rfl) (fun a h => by cases h)
    refine Calls.mono h ?_
    rintro e w' ⟨rfl, rfl⟩
    have hge := grownCap_ge w (0 + n) 0 56
    have hle := grownCap_le_maxLen w (0 + n) 0 56 (by unfold maxLen; omega)
    refine ⟨_, rfl, ⟨rfl, .inr ⟨w.heap.size, _, _, rfl, Nat.le_refl _, heap_alloc_new w.drew _, Nat.zero_le _, hle, ?_, by simp⟩⟩, ?_⟩
    · simp only [Array.size_append, size_zeroCells]
      show 0 + (0 + n - 0) * 2 + (grownCap w (0 + n) 0 56 - (0 + n)) * 2 = grownCap w (0 + n) 0 56 * 2
      omega
    · exact (Below.refl w.heap.size w).drew.alloc (Nat.le_refl _) _

/-- a row of spans in memory: where, which, and its capacity -/
structure RwM where
  a : Option Addr
  l : List SpM
  c : Nat
def rwV (r : RwM) : Value := .slice r.a r.l.length r.c
def cat (R : List RwM) : List SpM := R.flatMap (·.l)
theorem cat_take (R : List RwM) (j : Nat) (h : j < R.length) : cat (R.take (j + 1)) = cat (R.take j) ++ R[j].l := by
  unfold cat
  rw [List.take_succ_eq_append_getElem h, List.flatMap_append]
  simp
theorem cat_le (R : List RwM) (j : Nat) : (cat (R.take j)).length ≤ (cat R).length := by
  have : cat R = cat (R.take j) ++ cat (R.drop j) := by
    unfold cat
    rw [← List.flatMap_append, List.take_append_drop]
  rw [this, List.length_append]
  omega
def RwAt (w : World) (r : RwM) : Prop := SpSl w r.a r.l ∧ (r.a = none → r.c = 0)
theorem rows_at {w : World} {a : Option Addr} {R : List RwM} (h : Sl w a (R.map rwV)) {k : Nat} (hk : k < R.length) : ∃ b off, a = some ⟨b, off, none⟩ ∧ b < w.heap.size ∧ w.cell? ⟨b, off + k, none⟩ = some (rwV R[k]) := by
  obtain ⟨b, off, e, hlt, hc⟩ := h k (by simpa using hk)
  exact ⟨b, off, e, hlt, by rw [hc]; simp⟩

set_option maxHeartbeats 1000000 in
theorem concat_any (a : Option Addr) (c : Nat) (R : List RwM) (w : World) (hr : Sl w a (R.map rwV)) (hR : ∀ r ∈ R, RwAt w r) (hl : R.length ≤ 100000) (hs : (cat R).length ≤ 100000) :
    Calls Try.prog 52 #[.slice a R.length c] w fun e w' => ∃ v, e = .returned v ∧ w'.ownsRow w.heap.size 56 2 v (cat R).length (sps (cat R)) ∧ Below w.heap.size w w' := by
  obtain ⟨i0, hi, hz0, hz1, hz2⟩ := info_parts infoSpan
  have HR := Lib.hid hr
  have HRR := Lib.hid hR
  have HG := Lib.hid (grow_any (cat R).length w (by omega))
  clear hr hR
  go_enter Try.func52, Try.ntmps52
  go_wp2
  go_loopw [3, 11] (fun v i wr => ∃ (j s : Nat), j ≤ R.length ∧ i = .int .i64 j ∧ v = .int .i64 s ∧ s ≤ 100000 ∧ Hid (s = (cat (R.take j)).length) ∧ wr = w) (fun _ i _ => R.length - (intOf i).toNat)
  case atStart => exact ⟨0, 0, by omega, rfl, rfl, by omega, rfl, rfl⟩
  case round =>
    obtain ⟨j, s, hj, rfl, rfl, hs1, HS, hw⟩ := hrel
    obtain rfl : w = wr := hw.symm
    clear hw
    by_cases hjl : j < R.length
    · obtain ⟨b, off, rfl, hbl, hc0⟩ := rows_at HR.out hjl
      have HN := Lib.hid (cat_take R j hjl)
      have hle := cat_le R (j + 1)
      rw [HN.out, List.length_append, ← HS.out] at hle
      generalize R[j] = x at *
      unfold rwV at hc0
      obtain ⟨xa, xl, xc⟩ := x
      simp only at hc0 hle HN
      have hsum : s + xl.length ≤ 100000 := by omega
      clear hle
      go_wp2
      go_roundw
      case rel => exact ⟨j + 1, s + xl.length, by omega, by go_num, by go_num, hsum, (by unfold Hid; rw [HN.out, List.length_append, ← HS.out]), (by first | rfl | trivial)⟩
      case measure => simp [intOf]; omega
    · obtain rfl : j = R.length := by omega
      rw [List.take_of_length_le (Nat.le_refl _)] at HS
      have HS2 := HS.out
      subst HS2
      go_wp2_with fail
      refine HG.out.mono ?_
      rintro e w1 ⟨v, rfl, ho, hb⟩
      have HO := Lib.hid ho
      have HB := Lib.hid hb
      clear ho hb HG HS
      go_wp2
      go_loopw [6, 27] (fun v i wx => ∃ (j : Nat), j ≤ R.length ∧ i = .int .i64 j ∧ Hid (wx.ownsRow w.heap.size 56 2 v (cat (R.take j)).length (sps (cat (R.take j)))) ∧ Hid (Below w.heap.size w wx)) (fun _ i _ => R.length - (intOf i).toNat)
      case atStart => exact ⟨0, by omega, rfl, HO.out, HB.out⟩
      case round =>
        obtain ⟨j, hj, rfl, HO, HB⟩ := hrel
        by_cases hjl : j < R.length
        · obtain ⟨b, off, rfl, hbl, hc0⟩ := rows_at (HR.out.below HB.out) hjl
          have HN := Lib.hid (cat_take R j hjl)
          have hle := cat_le R (j + 1)
          have hle2 := cat_le R j
          rw [HN.out, List.length_append] at hle
          have HX := Lib.hid (HRR.out _ (List.getElem_mem hjl))
          generalize R[j] = x at *
          unfold rwV at hc0
          obtain ⟨xa, xl, xc⟩ := x
          simp only at hc0 hle HN
          obtain ⟨hx1, hx2⟩ := HX.out
          simp only at hx1 hx2
          have HX1 := Lib.hid (hx1.below HB.out)
          have HX2 := Lib.hid hx2
          generalize hct : cat (R.take j) = ct at *
          have hsum : ct.length + xl.length ≤ 1000000 := by omega
          clear hle hle2 hx1 hx2 HX hct
          go_wp2_with (at_builtin; refine wpList_append_sp _ rfl (.tmp 31) (.tmp 32) 42 rfl w.heap.size 56 i0 _ Try.underlying42 hi hz0 hz1 hz2 rfl _ ct rfl HO.out xa xc xl rfl HX1.out HX2.out hsum HB.out.size ?_; intro v2 w2 hown2 hB2)
          have HO2 := Lib.hid hown2
          have HB2 := Lib.hid (HB.out.trans hB2)
          clear hown2 hB2
          go_wp2
          go_roundw
          case rel => exact ⟨j + 1, by omega, by go_num, (by unfold Hid; rw [HN.out]; exact HO2.out), HB2⟩
          case measure => simp [intOf]; omega
        · obtain rfl : j = R.length := by omega
          rw [List.take_of_length_le (Nat.le_refl _)] at HO
          go_wp2
          go_ret
          exact ⟨_, rfl, HO.out, HB.out⟩

set_option maxHeartbeats 1000000 in
theorem join_any (a : Option Addr) (c : Nat) (R : List RwM) (w : World) (hr : Sl w a (R.map rwV)) (hR : ∀ r ∈ R, RwAt w r) (hl : R.length ≤ 100000) (hs : (cat R).length ≤ 100000) :
    Calls Try.prog 32 #[.slice a R.length c] w fun e w' => ∃ (v : Value) (r : List SpM), e = .returned v ∧ IsSet (HasL (cat R)) r ∧ r.length ≤ (cat R).length ∧ w'.ownsRow w.heap.size 56 2 v r.length (sps r) ∧ Below w.heap.size w w' := by
  have HC := Lib.hid (concat_any a c R w hr hR hl hs)
  clear hr hR
  go_enter Try.func32, Try.ntmps32
  go_wp2_with fail
  refine HC.out.mono ?_
  rintro e w1 ⟨v, rfl, ho, hb⟩
  obtain ⟨a1, c1, rfl, hc1, hm1, hp1, _⟩ := own_spm ho
  have HN := Lib.hid (norm_any a1 c1 (cat R) w1 hp1 hs hc1 hm1)
  have HB := Lib.hid hb
  clear HC ho hb hp1
  go_wp2_with fail
  refine HN.out.mono ?_
  rintro e w2 ⟨v2, r, rfl, h1, h2, h3, h4⟩
  have H1 := Lib.hid h1
  have H3 := Lib.hid (own_low h3 HB.out.size)
  have H4 := Lib.hid (HB.out.trans (h4.mono HB.out.size))
  clear h1 h3 h4 HN
  go_wp2
  go_ret
  first | exact ⟨_, r, rfl, H1.out, h2, H3.out, H4.out⟩ | exact ⟨_, rfl, r, H1.out, h2, H3.out, H4.out⟩
end Go.Proofs.Ythaancmobpamhaa
