/- Contract of layer 4: all frames that may be found in a text. -/
import Derived.Test.YtollhemkjnkalaaGreatDoorH8
namespace Go.Proofs.YtollhemkjnkalaaGreatDoor
open Go.RowKit
set_option linter.unusedVariables false
set_option maxRecDepth 100000

theorem nextL_code {s : List UInt8} {E : Nat} (h : nextL s = .err E) : E ≠ 0 := by
  rcases nextL_cases s with ⟨e, he, h2⟩ | ⟨_, _, _, h2⟩
  · rw [h] at h2; injection h2 with h3; omega
  · rw [h] at h2; cases h2
theorem findTo_err {s : List UInt8} {n E : Nat} (h : nextL (s.drop n) = .err E) : findTo s (n + 1) = findTo s n := by
  rw [findTo, h]; simp [NR.list]
theorem findTo_ok {s : List UInt8} {n : Nat} {k : UInt8} {b : List UInt8} (h : nextL (s.drop n) = .ok k b) : findTo s (n + 1) = findTo s n ++ [(k, b)] := by
  rw [findTo, h]; rfl

end Go.Proofs.YtollhemkjnkalaaGreatDoor
