/- What the rows of layer 2 list: met in the world that the witness is laid in; what it gives the walks. -/
import Derived.Test.YtdakdfpjibmocaaDoorD11
import Derived.Test.YtdakdfpjibmocaaDoorF2
import Derived.Stop.LaidErr
import Derived.Lib.LaidTab
import Derived.Shelf.Unicode.PredsPay
namespace Go.Proofs.YtdakdfpjibmocaaDoor
open Go.ChangeShapes Go.WideShapes Go.ChangeAt Go.RowKit Go.Shelf
set_option linter.unusedVariables false

set_option maxRecDepth 100000 in
theorem laid_met (os : Os) (args : Array Value) : laidMetH Tryd.prog Rows.digitsHexRow.laid ((World.laidAll Tryd.prog os Rows.digitsHexRow.laid).forCall (fun _ _ => 0) ⟨#[], args, []⟩).memory := by
  rw [MakeChecks.laidMetH_plain _ _ _ (by kernel_rfl)]
  exact laidMet_laidAll _ (by kernel_rfl) (by kernel_rfl)
theorem max_is {W : World} (h : W.ShapedOpen Tryd.prog) : MaxIs W := Tryd.laysSplit.s1_3 W h

def Pow10 (w : World) : Prop := Lib.TabIs Tryd.prog w "internal/strconv.uint64pow10" .u64 Lib.pow10Tab
theorem Pow10.below {w w' : World} (h : Pow10 w) (hb : Below w.heap.size w w') : Pow10 w' := TabIs_below (g := Tryd.laysItoa_ren.g 17) (by kernel_rfl) h hb
theorem pow10_is {W : World} (h : laidMetH Tryd.prog Rows.digitsHexRow.laid W) : Pow10 W := by
  rw [MakeChecks.laidMetH_plain _ _ _ (by kernel_rfl)] at h
  have h2 : laidMet Tryd.prog [("internal/strconv.uint64pow10", Lib.tabData .u64 Lib.pow10Tab), ("unicode/utf8.acceptRanges", Rows.laid_unicode_utf8_acceptRanges), ("unicode/utf8.first", Rows.laid_unicode_utf8_first)] W := h.tail.tail
  exact Lib.tabIs_of_head (g := Tryd.laysItoa_ren.g 17) (by kernel_rfl) (by kernel_rfl) Tryd.underlying74 Tryd.underlying61 (by kernel_rfl) (by kernel_rfl) h2
theorem wf64 {n : Int} (h : (Lit.int .i64 n).wf = true) : -9223372036854775808 ≤ n ∧ n ≤ 9223372036854775807 := by
  have e1 : IntKind.i64.min = -9223372036854775808 := by decide
  have e2 : IntKind.i64.max = 9223372036854775807 := by decide
  have h' : (decide (IntKind.i64.min ≤ n) && decide (n ≤ IntKind.i64.max)) = true := h
  rw [e1, e2, Bool.and_eq_true, decide_eq_true_eq, decide_eq_true_eq] at h'
  exact h'
theorem isEmpty_tx (l : List UInt8) : (tx l).toList.isEmpty = l.isEmpty := by rw [toList_tx]
theorem empty_ne {l : List UInt8} (h : l ≠ []) : (tx l).toList.isEmpty = false := by
  rw [isEmpty_tx]
  cases l with
  | nil => exact absurd rfl h
  | cons a r => rfl
theorem empty_eq {l : List UInt8} (h : l = []) : (tx l).toList.isEmpty = true := by rw [isEmpty_tx, h]; rfl
end Go.Proofs.YtdakdfpjibmocaaDoor
