/- The small example that every statement of layer 2 asks first, walked: it answers true. -/
import Derived.Test.YtdakdfpjibmocaaDoorD10
namespace Go.Proofs.YtdakdfpjibmocaaDoor
open Go.RowKit Go.Shelf
set_option linter.unusedVariables false

/-- the library's own variable that Split reads holds some number -/
def MaxIs (w : World) : Prop := ∃ m, w.cell? ⟨Tryd.laysSplit_ren.g 1, 0, none⟩ = some (.int .i64 m)
theorem MaxIs.below {w w' : World} {B : Nat} (h : MaxIs w) (hb : Below B w w') (hB : w.heap.size ≤ B) : MaxIs w' := by
  obtain ⟨m, hm⟩ := h
  have hlt := World.block_lt_of_cell? w ⟨Tryd.laysSplit_ren.g 1, 0, none⟩ hm
  exact ⟨m, (hb.cell (p := ⟨Tryd.laysSplit_ren.g 1, 0, none⟩) (by simp at hlt ⊢; omega)).trans hm⟩

theorem al_unhex (W : World) : Calls Tryd.prog 10 #[.string ⟨#[48, 48, 102, 102]⟩] W fun e w' => e = .returned (.tuple #[.int .i64 255, .bool true]) ∧ Drew W w' := by
  refine Calls.mono (unhex_any ⟨#[48, 48, 102, 102]⟩ W (by decide)) ?_
  rintro e w' ⟨rfl, h⟩
  refine ⟨?_, h⟩
  rw [show unhexL (ByteArray.mk #[48, 48, 102, 102]).data.toList = some 255 by decide +kernel]; rfl
theorem al_undec (W : World) : Calls Tryd.prog 15 #[.string ⟨#[50, 48]⟩] W fun e w' => e = .returned (.tuple #[.int .i64 20, .bool true]) ∧ Drew W w' := by
  refine Calls.mono (undec_any ⟨#[50, 48]⟩ W (by decide)) ?_
  rintro e w' ⟨rfl, h⟩
  refine ⟨?_, h⟩
  rw [show undecL (ByteArray.mk #[50, 48]).data.toList = some 20 by decide +kernel]; rfl
theorem al_undec0 (W : World) : Calls Tryd.prog 15 #[.string ⟨#[48, 50, 48]⟩] W fun e w' => e = .returned (.tuple #[.int .i64 0, .bool false]) ∧ Drew W w' := by
  refine Calls.mono (undec_any ⟨#[48, 50, 48]⟩ W (by decide)) ?_
  rintro e w' ⟨rfl, h⟩
  refine ⟨?_, h⟩
  rw [show undecL (ByteArray.mk #[48, 50, 48]).data.toList = none by decide +kernel]; rfl
theorem al_split (W : World) (hm : MaxIs W) : Calls Tryd.prog 21 #[.string ⟨#[97, 32, 98]⟩] W fun e w' => ∃ b c, e = .returned (.slice (some ⟨b, 0, none⟩) 2 c) ∧ w'.cell? ⟨b, 1, none⟩ = some (.string ⟨#[98]⟩) ∧ b < w'.heap.size ∧ Below W.heap.size W w' := by
  obtain ⟨m, hm⟩ := hm
  refine Calls.mono (split_any ⟨#[97, 32, 98]⟩ m W (by decide) hm) ?_
  rintro e w' ⟨v, rfl, ho, hb⟩
  rw [show splitOf (toL ⟨#[97, 32, 98]⟩) = [[97], [98]] by decide +kernel] at ho
  rcases ho.2 with ⟨_, h0⟩ | ⟨b, cap, cur, rfl, hg, hh, hn, hc, hs, ht⟩
  · simp at h0
  · obtain ⟨a, c, e1, _, _, hs2, _⟩ := own_slice ho
    cases e1
    obtain ⟨b', o', e3, hlt, hcell⟩ := hs2 1 (by simp [strs])
    cases e3
    exact ⟨b, cap, rfl, by simpa [strs, tx] using hcell, hlt, hb⟩
theorem al_split0 (W : World) (hm : MaxIs W) : Calls Tryd.prog 21 #[.string ⟨#[97, 32, 32, 98]⟩] W fun e w' => ∃ a c, e = .returned (.slice a 0 c) ∧ Below W.heap.size W w' := by
  obtain ⟨m, hm⟩ := hm
  refine Calls.mono (split_any ⟨#[97, 32, 32, 98]⟩ m W (by decide) hm) ?_
  rintro e w' ⟨v, rfl, ho, hb⟩
  rw [show splitOf (toL ⟨#[97, 32, 32, 98]⟩) = [] by decide +kernel] at ho
  obtain ⟨a, c, rfl, _⟩ := own_slice ho
  exact ⟨a, c, rfl, hb⟩
theorem al_hex (W : World) : Calls Tryd.prog 9 #[.int .i64 255, .int .i64 4] W fun e w' => e = .returned (.string ⟨#[48, 48, 102, 102]⟩) ∧ Below W.heap.size W w' := by
  refine Calls.mono (hex_any 255 4 (by decide) (by decide) W) ?_
  rintro e w' ⟨rfl, h⟩
  exact ⟨retS (by rw [show hexOf 255 4 = [48, 48, 102, 102] by decide +kernel]; rfl), h⟩
theorem al_hex0 (W : World) : Calls Tryd.prog 9 #[.int .i64 256, .int .i64 2] W fun e w' => e = .returned (.string ⟨#[]⟩) ∧ Below W.heap.size W w' := by
  refine Calls.mono (hex_any 256 2 (by decide) (by decide) W) ?_
  rintro e w' ⟨rfl, h⟩
  exact ⟨retS (by rw [show hexOf 256 2 = [] by decide +kernel]; rfl), h⟩
theorem al_dec (W : World) : Calls Tryd.prog 14 #[.int .i64 20] W fun e w' => e = .returned (.string ⟨#[50, 48]⟩) ∧ Below W.heap.size W w' := by
  refine Calls.mono (dec_small 20 (by decide) (by decide) W) ?_
  rintro e w' ⟨rfl, h⟩
  refine ⟨retS ?_, h⟩
  rw [show (20 : Int) = ((20 : Nat) : Int) from rfl, decOf_in 20 (by decide), decDigits_big (by decide), show 20 / 10 = 2 from rfl, decDigits_small (by decide)]; rfl
theorem al_line (t : TypeId) (W : World) (g : Nat) (hg : g = W.heap.size) : Calls Tryd.prog 18 #[.slice (some ⟨g, 0, none⟩) 2 2] (W.alloc (.cells #[.string ⟨#[97]⟩, .string ⟨#[98]⟩] t)) fun e w' => e = .returned (.string ⟨#[97, 32, 98]⟩) ∧ Below (W.heap.size + 1) (W.alloc (.cells #[.string ⟨#[97]⟩, .string ⟨#[98]⟩] t)) w' := by
  subst hg
  refine Calls.mono (line_any (some ⟨W.heap.size, 0, none⟩) 2 [⟨#[97]⟩, ⟨#[98]⟩] _ (sl_lit W #[.string ⟨#[97]⟩, .string ⟨#[98]⟩] t) ⟨by decide, by decide⟩ (by decide) (by decide) (by decide)) ?_
  rintro e w' ⟨rfl, h⟩
  refine ⟨retS ?_, by simpa using h⟩
  rw [show lineOf (List.map toL [⟨#[97]⟩, ⟨#[98]⟩]) = [97, 32, 98] by decide +kernel]; rfl
theorem al_line0 (t : TypeId) (W : World) (g : Nat) (hg : g = W.heap.size) : Calls Tryd.prog 18 #[.slice (some ⟨g, 0, none⟩) 2 2] (W.alloc (.cells #[.string ⟨#[97]⟩, .string ⟨#[]⟩] t)) fun e w' => e = .returned (.string ⟨#[]⟩) ∧ Below (W.heap.size + 1) (W.alloc (.cells #[.string ⟨#[97]⟩, .string ⟨#[]⟩] t)) w' := by
  subst hg
  refine Calls.mono (line_any (some ⟨W.heap.size, 0, none⟩) 2 [⟨#[97]⟩, ⟨#[]⟩] _ (sl_lit W #[.string ⟨#[97]⟩, .string ⟨#[]⟩] t) ⟨by decide, by decide⟩ (by decide) (by decide) (by decide)) ?_
  rintro e w' ⟨rfl, h⟩
  refine ⟨retS ?_, by simpa using h⟩
  rw [show lineOf (List.map toL [⟨#[97]⟩, ⟨#[]⟩]) = [] by decide +kernel]; rfl

set_option maxHeartbeats 2000000 in
set_option maxRecDepth 100000 in
theorem alive_any (w : World) (hm : MaxIs w) : Calls Tryd.prog 13 #[] w fun e w' => e = .returned (.bool true) ∧ Below w.heap.size w w' := by
  have HM := Lib.hid hm
  have P1 := Lib.hid al_unhex
  have P2 := Lib.hid al_undec
  have P3 := Lib.hid al_undec0
  have P4 := Lib.hid al_split
  have P5 := Lib.hid al_hex
  have P6 := Lib.hid al_hex0
  have P7 := Lib.hid al_dec
  have P8 := Lib.hid al_line
  have P9 := Lib.hid al_line0
  have P10 := Lib.hid al_split0
  clear hm
  go_enter Tryd.func13, Tryd.ntmps13
  go_wp2_with fail
  refine (P1.out _).mono ?_
  rintro e w1 ⟨rfl, hD1⟩
  go_wp2_with fail
  refine (P2.out _).mono ?_
  rintro e w2 ⟨rfl, hD2⟩
  go_wp2_with fail
  refine (P3.out _).mono ?_
  rintro e w3 ⟨rfl, hD3⟩
  have HB3 : Hid (Below w.heap.size w w3) := (((hD1.trans hD2).trans hD3).below _)
  have HM3 := Lib.hid (HM.out.below HB3.out (Nat.le_refl _))
  clear hD1 hD2 hD3 HM
  go_wp2_with fail
  refine (P4.out _ HM3.out).mono ?_
  rintro e w4 ⟨b, c, rfl, hc4, hb4, hB4⟩
  have HB4 : Hid (Below w.heap.size w w4) := HB3.out.trans (hB4.mono HB3.out.size)
  have HM4 := Lib.hid (HM3.out.below hB4 (Nat.le_refl _))
  clear hB4 HB3 HM3
  go_wp2_with fail
  refine (P5.out _).mono ?_
  rintro e w5 ⟨rfl, hB5⟩
  go_wp2_with fail
  refine (P6.out _).mono ?_
  rintro e w6 ⟨rfl, hB6⟩
  go_wp2_with fail
  refine (P7.out _).mono ?_
  rintro e w7 ⟨rfl, hB7⟩
  have HB47 : Hid (Below w4.heap.size w4 w7) := (hB5.trans (hB6.mono hB5.size)).trans (hB7.mono (hB5.trans (hB6.mono hB5.size)).size)
  clear hB5 hB6 hB7
  go_wp2_with fail
  refine (P8.out _ _ _ rfl).mono ?_
  rintro e w8 ⟨rfl, hB8⟩
  have HB48 : Hid (Below w4.heap.size w4 w8) := (HB47.out.alloc HB47.out.size _).trans (hB8.mono (by have := HB47.out.size; omega))
  clear hB8 HB47
  go_wp2_with fail
  refine (P9.out _ _ _ rfl).mono ?_
  rintro e w9 ⟨rfl, hB9⟩
  have HB49 : Hid (Below w4.heap.size w4 w9) := (HB48.out.alloc HB48.out.size _).trans (hB9.mono (by have := HB48.out.size; omega))
  have hc9 := (HB49.out.cell (p := ⟨b, 1, none⟩) hb4).trans hc4
  have HM9 := Lib.hid (HM4.out.below HB49.out (Nat.le_refl _))
  have HB9 : Hid (Below w.heap.size w w9) := HB4.out.trans (HB49.out.mono HB4.out.size)
  clear hB9 HB48 HB49 hc4 HM4 HB4 hb4
  go_wp2_with fail
  refine (P10.out _ HM9.out).mono ?_
  rintro e w10 ⟨a, c2, rfl, hB10⟩
  have HB10 : Hid (Below w.heap.size w w10) := HB9.out.trans (hB10.mono HB9.out.size)
  clear hB10
  go_wp2
  go_ret
  exact ⟨rfl, HB10.out⟩
end Go.Proofs.YtdakdfpjibmocaaDoor
