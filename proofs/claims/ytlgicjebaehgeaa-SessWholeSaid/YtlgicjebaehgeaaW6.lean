/- Layer 7: the document's ends of a row of spans: contract. -/
import Derived.Test.YtlgicjebaehgeaaW5
import Derived.Lib.Hide
import Derived.Deep.RegionHeld3
namespace Go.Proofs.Ytlgicjebaehgeaa
open Go.RowKit
set_option linter.unusedVariables false
set_option maxRecDepth 100000
set_option maxRecDepth 100000

theorem own_low {w : World} {B B' e k n : Nat} {v : Value} {xs : List Value} (h : w.ownsRow B e k v n xs) (hb : B' ≤ B) : w.ownsRow B' e k v n xs := by
  refine ⟨h.1, ?_⟩
  rcases h.2 with h0 | ⟨g, cap, cur, e0, hg, h1⟩
  · exact .inl h0
  · exact .inr ⟨g, cap, cur, e0, Nat.le_trans hb hg, h1⟩

end Go.Proofs.Ytlgicjebaehgeaa
