/- Texts of mine, one behind the other, of each what is wanted. -/
import Derived.Test.YtapacckmgmdnoaaGreatR00
import Derived.Test.YtapacckmgmdnoaaGreatR01
import Derived.Test.YtapacckmgmdnoaaGreatR04
import Derived.Test.YtapacckmgmdnoaaGreatR12
namespace Go.Proofs.YtapacckmgmdnoaaGreat
open Go.RowKit
set_option linter.unusedVariables false
set_option maxRecDepth 100000
set_option maxRecDepth 100000
set_option maxHeartbeats 1000000 in
theorem enone_any (f t : Int) (w : World) : Calls Tryz.prog 108 #[.agg #[.int .i64 f, .int .i64 t]] w fun e w' => e = .returned (.bool (decide (t ≤ f))) ∧ Below w.heap.size w w' := by
 go_enter Tryz.func108, Tryz.ntmps108
 go_wp2
 go_ret
 exact ⟨rfl, ebelow_one _ _⟩
structure RsE (w : World) (g : Nat) (x : EnM) (a : Option Addr) (l : List EnM) (W : World) : Prop where
 box : W.cell? ⟨g, 0, none⟩ = some (.string x.w) ∧ W.cell? ⟨g, 1, none⟩ = some (.string x.u) ∧ W.cell? ⟨g, 2, none⟩ = some (.int .i64 x.f) ∧ W.cell? ⟨g, 3, none⟩ = some (.int .i64 x.t)
 lt : g < W.heap.size
 row : EnSl W a l
 frame : Below w.heap.size w W
theorem RsE.below {w W W' : World} {g : Nat} {x : EnM} {a : Option Addr} {l : List EnM} (h : RsE w g x a l W) (q : Below W.heap.size W W') : RsE w g x a l W' :=
 ⟨⟨(q.cell (p := ⟨g, 0, none⟩) h.lt).trans h.box.1, (q.cell (p := ⟨g, 1, none⟩) h.lt).trans h.box.2.1, (q.cell (p := ⟨g, 2, none⟩) h.lt).trans h.box.2.2.1, (q.cell (p := ⟨g, 3, none⟩) h.lt).trans h.box.2.2.2⟩, Nat.lt_of_lt_of_le h.lt q.size, h.row.below q, h.frame.trans (q.mono h.frame.size)⟩
theorem RsE.at_ {w W : World} {g : Nat} {x : EnM} {b off : Nat} {l : List EnM} (h : RsE w g x (some ⟨b, off, none⟩) l W) {k : Nat} (hk : k < l.length) :
  W.cell? ⟨g, 0, none⟩ = some (.string x.w) ∧ W.cell? ⟨g, 1, none⟩ = some (.string x.u) ∧ W.cell? ⟨g, 2, none⟩ = some (.int .i64 x.f) ∧ W.cell? ⟨g, 3, none⟩ = some (.int .i64 x.t) ∧ W.cell? ⟨b, off + k * 4, none⟩ = some (.string l[k].w) ∧ W.cell? ⟨b, off + k * 4 + 1, none⟩ = some (.string l[k].u) ∧ W.cell? ⟨b, off + k * 4 + 2, none⟩ = some (.int .i64 l[k].f) ∧ W.cell? ⟨b, off + k * 4 + 3, none⟩ = some (.int .i64 l[k].t) := by
 obtain ⟨_, _, e, _, h0, h1, h2, h3⟩ := h.row.at_ hk
 cases e
 exact ⟨h.box.1, h.box.2.1, h.box.2.2.1, h.box.2.2.2, h0, h1, h2, h3⟩
theorem RsE.new {w W : World} {x : EnM} {a : Option Addr} {l : List EnM} (h : EnSl W a l) (hb : Below w.heap.size w W) (t : TypeId) : RsE w W.heap.size x a l (W.alloc (.cells #[.string x.w, .string x.u, .int .i64 x.f, .int .i64 x.t] t)) :=
 ⟨ecells4 (heap_alloc_new W _), by rw [size1]; omega, h.below (ebelow_one _ _), hb.alloc hb.size _⟩
end Go.Proofs.YtapacckmgmdnoaaGreat
