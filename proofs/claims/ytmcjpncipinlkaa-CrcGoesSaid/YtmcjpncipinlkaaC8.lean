/- Layer 3: the words by which each law shows that the package is alive. -/
import Derived.Test.YtmcjpncipinlkaaC7
namespace Go.Proofs.Ytmcjpncipinlkaa
open Go.RowKit
set_option linter.unusedVariables false

/-- the table lies at tb; what was there at the beginning is as it was -/
def TabK (w : World) (tb : Nat) (w' : World) : Prop := w'.cell? ⟨tb, 1, none⟩ = some (.int .u32 4067132163) ∧ TabAt w' tb ∧ Below w.heap.size w w'
theorem TabK.mk' {w w' : World} {tb : Nat} (h : TabAt w' tb) (hb : Below w.heap.size w w') : TabK w tb w' := ⟨by rw [h.2 1 (by decide), known_one]; rfl, h, hb⟩
theorem TabK.below {w w1 w2 : World} {tb : Nat} (h : TabK w tb w1) (hb : Below w1.heap.size w1 w2) : TabK w tb w2 := .mk' (h.2.1.below hb) (h.2.2.trans (hb.mono h.2.2.size))
theorem TabK.alloc {w w1 : World} {tb : Nat} (h : TabK w tb w1) (o : Obj) : TabK w tb (w1.alloc o) := h.below ((Below.refl _ _).alloc (Nat.le_refl _) _)
theorem TabK.drew {w w1 : World} {tb : Nat} (h : TabK w tb w1) : TabK w tb w1.drew := h.below ((Below.refl _ _).drew)
theorem TabK.new {w w1 : World} (h : Below w.heap.size w w1) : TabK w w1.heap.size (w1.alloc (.cells tab 23)) := .mk' (TabAt.new w1) (h.alloc h.size _)

theorem sl_lit_drew (w : World) (xs : Array Value) (t : TypeId) : Sl (w.alloc (.cells xs t)).drew (some ⟨w.heap.size, 0, none⟩) xs.toList := sl_lit w xs t
theorem text_lit (W : World) (b : Nat) (hs : Sl W (some ⟨b, 0, none⟩) (#[.string ⟨#[49, 50, 51, 52, 53, 54, 55, 56, 57]⟩] : Array Value).toList) : Calls Try.prog 16 #[.slice (some ⟨b, 0, none⟩) 1 1] W fun e w' =>
    e = .returned (.string ⟨#[101, 51, 48, 54, 57, 50, 56, 51]⟩) ∧ Below W.heap.size W w' := by
  have h := text_any (some ⟨b, 0, none⟩) 1 [sl9] W hs (fits_small _ (by decide) (by decide))
  rw [known_sum, known_text] at h
  exact h
theorem sum_lit (W : World) (b : Nat) (hs : Sl W (some ⟨b, 0, none⟩) (#[.string ⟨#[49, 50, 51, 52]⟩, .string ⟨#[53, 54, 55, 56, 57]⟩] : Array Value).toList) : Calls Try.prog 15 #[.slice (some ⟨b, 0, none⟩) 2 2] W fun e w' =>
    e = .returned (.int .u32 3808858755) ∧ Below W.heap.size W w' := by
  have h := sum_any (some ⟨b, 0, none⟩) 2 [⟨#[49, 50, 51, 52]⟩, ⟨#[53, 54, 55, 56, 57]⟩] W hs (fits_small _ (by decide) (by decide))
  rw [known_two] at h
  exact h
theorem step_lit (W : World) : Calls Try.prog 12 #[.int .u32 0, .int .u8 1] W fun e w' => e = .returned (.int .u32 4067132163) ∧ Below W.heap.size W w' := by
  have h := step_any 0 1 (by decide) (by decide) W
  rw [known_step] at h
  exact h.mono fun e w' ⟨h1, h2⟩ => ⟨h1, h2 ▸ Below.refl _ _⟩

set_option maxHeartbeats 4000000 in
set_option maxRecDepth 100000 in
theorem alive_any (w : World) :
    Calls Try.prog 10 #[] w fun e w' => e = .returned (.bool true) ∧ Below w.heap.size w w' := by
  have HT := Lib.hid table_any
  have hz := zeroTab
  have hts := tab_size
  have hst := store_tab
  go_enter Try.func10, Try.ntmps10
  go_wp2_with fail
  refine (HT.out _).mono ?_
  rintro e w1 ⟨rfl, hB1⟩
  clear HT
  go_wp2
  clear hz hts hst
  have h0 := TabK.new hB1
  clear hB1
  generalize w1.alloc (.cells tab 23) = W at *
  generalize w1.heap.size = tb at *
  have heq : ((⟨#[101, 51, 48, 54, 57, 50, 56, 51]⟩ : ByteArray).toList == (⟨#[101, 51, 48, 54, 57, 50, 56, 51]⟩ : ByteArray).toList) = true := beq_self_eq_true _
  go_region_held3 (fun w' => w'.cell? ⟨tb, 1, none⟩ = some (.int .u32 4067132163) ∧ TabAt w' tb ∧ Below w.heap.size w w')
    (first | exact TabK.drew h0 | exact TabK.alloc (by assumption) _ | exact TabK.below (by assumption) (by assumption))
    (first | (go_at_call 16; (first | refine (text_lit _ _ (sl_lit _ _ _)).mono ?_ | refine (text_lit _ _ (sl_lit_drew _ _ _)).mono ?_); rintro e w2 ⟨rfl, hB⟩)
           | (go_at_call 15; (first | refine (sum_lit _ _ (sl_lit _ _ _)).mono ?_ | refine (sum_lit _ _ (sl_lit_drew _ _ _)).mono ?_); rintro e w2 ⟨rfl, hB⟩)
           | (go_at_call 12; refine (step_lit _).mono ?_; rintro e w2 ⟨rfl, hB⟩))
  go_wp2
  go_ret
  exact ⟨rfl, (show TabK w tb _ by assumption).2.2⟩
end Go.Proofs.Ytmcjpncipinlkaa
