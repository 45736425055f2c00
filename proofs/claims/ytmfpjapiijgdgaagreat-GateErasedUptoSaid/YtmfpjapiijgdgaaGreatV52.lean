/- Texts of mine, one behind the other, of each what is wanted. -/
import Derived.Test.YtmfpjapiijgdgaaGreatV00
import Derived.Test.YtmfpjapiijgdgaaGreatShelf
import Derived.Test.YtmfpjapiijgdgaaGreatRows
import Derived.Test.YtmfpjapiijgdgaaGreatV01
import Derived.Test.YtmfpjapiijgdgaaGreatV03
import Derived.Test.YtmfpjapiijgdgaaGreatV06
import Derived.Test.YtmfpjapiijgdgaaGreatV07
import Derived.Test.YtmfpjapiijgdgaaGreatV20
import Derived.Test.YtmfpjapiijgdgaaGreatV28
namespace Go.Proofs.YtmfpjapiijgdgaaGreat
open Go.RowKit Go.Proofs
set_option linter.unusedVariables false
set_option maxRecDepth 100000
structure S5 (w : World) (x : SaL) (q : AskM) (g : Nat) (y : SaL) (W : World) : Prop where
 k : SQ w w.heap.size (w.heap.size + 1) 27 86 x q W
 s5 : SB w g 39 y W
theorem S5.below {w W W' : World} {x : SaL} {q : AskM} {g : Nat} {y : SaL} (h : S5 w x q g y W) (b : Below W.heap.size W W') : S5 w x q g y W' := ⟨h.k.below b, h.s5.below b⟩
theorem S5.cells {w W : World} {x : SaL} {q : AskM} {g : Nat} {y : SaL} (h : S5 w x q g y W) : W.cell? ⟨g, 0, none⟩ = some (.int .i64 y.now) ∧ W.cell? ⟨g, 1, none⟩ = some (.int .i64 y.hor) ∧ W.cell? ⟨g, 2, none⟩ = some (.slice y.oa y.op.length y.oc) ∧ W.cell? ⟨g, 3, none⟩ = some (.slice y.ua y.us.length y.uc) ∧ W.cell? ⟨g, 4, none⟩ = some (.slice y.sa y.su.length y.sc) ∧ W.cell? ⟨g, 5, none⟩ = some (.slice y.ta y.tb.length y.tc) ∧ W.cell? ⟨w.heap.size + 1, 0, none⟩ = some (.string q.w) ∧ W.cell? ⟨w.heap.size + 1, 1, none⟩ = some (.string q.u) ∧ W.cell? ⟨w.heap.size + 1, 2, none⟩ = some (.int .i64 q.f) ∧ W.cell? ⟨w.heap.size + 1, 3, none⟩ = some (.int .i64 q.t) ∧ W.cell? ⟨w.heap.size + 1, 4, none⟩ = some (.int .i64 q.n) :=
 ⟨h.s5.cells.1, h.s5.cells.2.1, h.s5.cells.2.2.1, h.s5.cells.2.2.2.1, h.s5.cells.2.2.2.2.1, h.s5.cells.2.2.2.2.2, h.k.q.cells⟩
end Go.Proofs.YtmfpjapiijgdgaaGreat
