/- Contract of layer 3: the sum in eight hexadecimal digits; and that a well-known text has its well-known sum. -/
import Derived.Test.YtollhemkjnkalaaDoorC6
import Derived.Test.YtollhemkjnkalaaDoorD4
import Derived.Deep.RegionHeld3
namespace Go.Proofs.YtollhemkjnkalaaDoor
open Go.RowKit
set_option linter.unusedVariables false
set_option maxRecDepth 100000

/-- a sum as a text -/
def textN (n : Nat) : ByteArray := tx (hexOf (n : Int) 8)
set_option maxHeartbeats 1000000 in
theorem text_any (a : Option Addr) (c : Nat) (l : List ByteArray) (w : World) (hs : Sl w a (strs l)) (hf : Fits l) :
    Calls Tryd.prog 56 #[.slice a l.length c] w fun e w' => e = .returned (.string (textN (sumN (flat l)))) ∧ Below w.heap.size w w' := by
  have H1 := Lib.hid (sum_any a c l w hs hf)
  have hlt := sumN_lt (flat l)
  have H2 := Lib.hid (fun W => hex_any (sumN (flat l) : Int) 8 (by omega) (by omega) W)
  clear hs hf
  generalize sumN (flat l) = n at *
  go_enter Tryd.func56, Tryd.ntmps56
  go_wp2_with fail
  refine H1.out.mono ?_
  rintro e w1 ⟨rfl, hB1⟩
  go_wp2_with fail
  refine (H2.out _).mono ?_
  rintro e w2 ⟨rfl, hB2⟩
  go_wp2
  go_ret
  exact ⟨rfl, hB1.trans (hB2.mono hB1.size)⟩

def sl9 : ByteArray := ⟨#[49, 50, 51, 52, 53, 54, 55, 56, 57]⟩
theorem known_sum : sumN (flat [sl9]) = 3808858755 := by decide +kernel
theorem known_two : sumN (flat [⟨#[49, 50, 51, 52]⟩, ⟨#[53, 54, 55, 56, 57]⟩]) = 3808858755 := by decide +kernel
theorem known_text : textN 3808858755 = ⟨#[101, 51, 48, 54, 57, 50, 56, 51]⟩ := by decide +kernel
theorem known_one : entryN 1 = 4067132163 := by decide +kernel
theorem known_step : stepN 0 1 = 4067132163 := by decide +kernel
theorem fits_small (l : List ByteArray) (h : l.length ≤ 1000) (h2 : ∀ s ∈ l, s.size ≤ 1000000) : Fits l := ⟨by unfold maxLen; omega, fun s hs => by have := h2 s hs; unfold maxLen; omega⟩
end Go.Proofs.YtollhemkjnkalaaDoor
