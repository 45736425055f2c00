/- Contracts of layer 3: the document's own entries, steps, sums. -/
import Derived.Test.YtollhemkjnkalaaDoorC3
namespace Go.Proofs.YtollhemkjnkalaaDoor
open Go.RowKit
set_option linter.unusedVariables false
set_option maxRecDepth 100000

theorem goN_take (s : ByteArray) (j : Nat) (hj : j < s.size) (n : Nat) : stepN (goN n ((toL s).take j)) (s[j]'hj).toNat = goN n ((toL s).take (j + 1)) := by
  have e : (toL s).take (j + 1) = (toL s).take j ++ [s[j]'hj] := by
    rw [List.take_add_one]
    have h' : j < s.data.size := hj
    have : (toL s)[j]? = some (s[j]'hj) := by
      unfold toL
      rw [Array.getElem?_toList, Array.getElem?_eq_getElem h']
      rfl
    rw [this]; rfl
  rw [e, goN_snoc]

end Go.Proofs.YtollhemkjnkalaaDoor
