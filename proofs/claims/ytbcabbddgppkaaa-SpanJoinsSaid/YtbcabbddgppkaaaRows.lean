/-
  No cell of these rows narrows 'for every input' (looked for: loops, veiled, ifaces, maps, wideKeys, modest, calm, conditions, laid).
  DERIVED. THE GIVEN ROWS OF THIS SEAT. 10 by the template 'for every input the law returns true; each argument reads behind the call as it read before'; 0 by the template 'total and deterministic' (their statements: YtbcabbddgppkaaaTotals.lean).
  GIVEN WITH THE SEED: the statements are not yours to turn. If you find one false, say at which input.
  Laid BY PROGRAM, IN A SANDBOX (cutbox-rows.mjs): the forced cells as the released guide's own fill.sh prints them over the translation 290810f504e52d7d… (all of the seat's roots in one cut). By AI agents, Wed Nov 11 2026. No macro, syntax, notation, axiom, sorry.
-/
import Derived.Test.YtbcabbddgppkaaaChecked
import GoSem.Claim
import GoSem.ClaimJoined
import GoSem.ClaimMapViews
import Derived.JoinedTies
import Derived.KernelRfl
namespace Go.Proofs.Ytbcabbddgppkaaa
/- THE CELL 'sum', in the pinned program and in every row, IS THE sha256 OF THE DUMP (.gsa) THAT YtbcabbddgppkaaaProg.lean LOADS. Nothing in Lean hashes anything: it is a label: what it is worth is what the hold of that sum in a sandbox is worth. -/
noncomputable def Try.pinned : Pinned := { name := "ytbcabbddgppkaaa", sum := "290810f504e52d7db8cf50834a1437a2260a563115f2521d274992a8fdd3cd82", checked := Try.checked }
namespace Rows
def none {H : Type} : Left H := { results := [], args := [] }

/-- 'afterglowlaw07.SpanOnes': WHATEVER THE INPUT: true; the input reads as it did. -/
def spanOnesSpec : ChangeSpec := { name := "spanOnes", fn := fun _ => fun
  | [d1, d2, d3] => { results := [.lit (.bool true)], args := [d1, d2, d3] }
  | _ => none }
def spanOnesRow : OpenClaim := { program := "ytbcabbddgppkaaa", sum := "290810f504e52d7db8cf50834a1437a2260a563115f2521d274992a8fdd3cd82", func := "afterglow/afterglowlaw07.SpanOnes", spec := "spanOnes", unfollowed := true, recurses := true, apart := false }
def SpanOnesSaid : Prop := spanOnesRow.holds Try.pinned (OpenSpec.ofChange spanOnesSpec)

/-- ITS FALSE NEIGHBOUR: 'it returns false'. Refute it at one input. -/
def spanOnesWrong : ChangeSpec := { name := "spanOnes", fn := fun _ => fun
  | [d1, d2, d3] => { results := [.lit (.bool false)], args := [d1, d2, d3] }
  | _ => none }
def SpanOnesWrongFalsely : Prop := spanOnesRow.holds Try.pinned (OpenSpec.ofChange spanOnesWrong)

/-- 'afterglowlaw07.SpanJoins': WHATEVER THE INPUT: true; the input reads as it did. -/
def spanJoinsSpec : ChangeSpec := { name := "spanJoins", fn := fun _ => fun
  | [d] => { results := [.lit (.bool true)], args := [d] }
  | _ => none }
def spanJoinsRow : OpenClaim := { program := "ytbcabbddgppkaaa", sum := "290810f504e52d7db8cf50834a1437a2260a563115f2521d274992a8fdd3cd82", func := "afterglow/afterglowlaw07.SpanJoins", spec := "spanJoins", unfollowed := true, recurses := true, apart := false }
def SpanJoinsSaid : Prop := spanJoinsRow.holds Try.pinned (OpenSpec.ofChange spanJoinsSpec)

/-- ITS FALSE NEIGHBOUR: 'it returns false'. Refute it at one input. -/
def spanJoinsWrong : ChangeSpec := { name := "spanJoins", fn := fun _ => fun
  | [d] => { results := [.lit (.bool false)], args := [d] }
  | _ => none }
def SpanJoinsWrongFalsely : Prop := spanJoinsRow.holds Try.pinned (OpenSpec.ofChange spanJoinsWrong)

/-- 'afterglowlaw07.SpanMoves': WHATEVER THE INPUT: true; the input reads as it did. -/
def spanMovesSpec : ChangeSpec := { name := "spanMoves", fn := fun _ => fun
  | [d1, d2, d3] => { results := [.lit (.bool true)], args := [d1, d2, d3] }
  | _ => none }
def spanMovesRow : OpenClaim := { program := "ytbcabbddgppkaaa", sum := "290810f504e52d7db8cf50834a1437a2260a563115f2521d274992a8fdd3cd82", func := "afterglow/afterglowlaw07.SpanMoves", spec := "spanMoves", unfollowed := true, recurses := true, apart := false }
def SpanMovesSaid : Prop := spanMovesRow.holds Try.pinned (OpenSpec.ofChange spanMovesSpec)

/-- ITS FALSE NEIGHBOUR: 'it returns false'. Refute it at one input. -/
def spanMovesWrong : ChangeSpec := { name := "spanMoves", fn := fun _ => fun
  | [d1, d2, d3] => { results := [.lit (.bool false)], args := [d1, d2, d3] }
  | _ => none }
def SpanMovesWrongFalsely : Prop := spanMovesRow.holds Try.pinned (OpenSpec.ofChange spanMovesWrong)

/-- 'afterglowlaw08.HistOrders': WHATEVER THE INPUT: true; the input reads as it did. -/
def histOrdersSpec : ChangeSpec := { name := "histOrders", fn := fun _ => fun
  | [d1, d2] => { results := [.lit (.bool true)], args := [d1, d2] }
  | _ => none }
def histOrdersRow : OpenClaim := { program := "ytbcabbddgppkaaa", sum := "290810f504e52d7db8cf50834a1437a2260a563115f2521d274992a8fdd3cd82", func := "afterglow/afterglowlaw08.HistOrders", spec := "histOrders", unfollowed := true, recurses := true, apart := false }
def HistOrdersSaid : Prop := histOrdersRow.holds Try.pinned (OpenSpec.ofChange histOrdersSpec)

/-- ITS FALSE NEIGHBOUR: 'it returns false'. Refute it at one input. -/
def histOrdersWrong : ChangeSpec := { name := "histOrders", fn := fun _ => fun
  | [d1, d2] => { results := [.lit (.bool false)], args := [d1, d2] }
  | _ => none }
def HistOrdersWrongFalsely : Prop := histOrdersRow.holds Try.pinned (OpenSpec.ofChange histOrdersWrong)

/-- 'afterglowlaw08.HistAdds': WHATEVER THE INPUT: true; the input reads as it did. -/
def histAddsSpec : ChangeSpec := { name := "histAdds", fn := fun _ => fun
  | [d1, d2] => { results := [.lit (.bool true)], args := [d1, d2] }
  | _ => none }
def histAddsRow : OpenClaim := { program := "ytbcabbddgppkaaa", sum := "290810f504e52d7db8cf50834a1437a2260a563115f2521d274992a8fdd3cd82", func := "afterglow/afterglowlaw08.HistAdds", spec := "histAdds", unfollowed := true, recurses := true, apart := false }
def HistAddsSaid : Prop := histAddsRow.holds Try.pinned (OpenSpec.ofChange histAddsSpec)

/-- ITS FALSE NEIGHBOUR: 'it returns false'. Refute it at one input. -/
def histAddsWrong : ChangeSpec := { name := "histAdds", fn := fun _ => fun
  | [d1, d2] => { results := [.lit (.bool false)], args := [d1, d2] }
  | _ => none }
def HistAddsWrongFalsely : Prop := histAddsRow.holds Try.pinned (OpenSpec.ofChange histAddsWrong)

/-- 'afterglowlaw08.HistCuts': WHATEVER THE INPUT: true; the input reads as it did. -/
def histCutsSpec : ChangeSpec := { name := "histCuts", fn := fun _ => fun
  | [d1, d2] => { results := [.lit (.bool true)], args := [d1, d2] }
  | _ => none }
def histCutsRow : OpenClaim := { program := "ytbcabbddgppkaaa", sum := "290810f504e52d7db8cf50834a1437a2260a563115f2521d274992a8fdd3cd82", func := "afterglow/afterglowlaw08.HistCuts", spec := "histCuts", unfollowed := true, recurses := true, apart := false }
def HistCutsSaid : Prop := histCutsRow.holds Try.pinned (OpenSpec.ofChange histCutsSpec)

/-- ITS FALSE NEIGHBOUR: 'it returns false'. Refute it at one input. -/
def histCutsWrong : ChangeSpec := { name := "histCuts", fn := fun _ => fun
  | [d1, d2] => { results := [.lit (.bool false)], args := [d1, d2] }
  | _ => none }
def HistCutsWrongFalsely : Prop := histCutsRow.holds Try.pinned (OpenSpec.ofChange histCutsWrong)

/-- 'afterglowlaw08.HistAfter': WHATEVER THE INPUT: true; the input reads as it did. -/
def histAfterSpec : ChangeSpec := { name := "histAfter", fn := fun _ => fun
  | [d1, d2] => { results := [.lit (.bool true)], args := [d1, d2] }
  | _ => none }
def histAfterRow : OpenClaim := { program := "ytbcabbddgppkaaa", sum := "290810f504e52d7db8cf50834a1437a2260a563115f2521d274992a8fdd3cd82", func := "afterglow/afterglowlaw08.HistAfter", spec := "histAfter", unfollowed := true, recurses := true, apart := false }
def HistAfterSaid : Prop := histAfterRow.holds Try.pinned (OpenSpec.ofChange histAfterSpec)

/-- ITS FALSE NEIGHBOUR: 'it returns false'. Refute it at one input. -/
def histAfterWrong : ChangeSpec := { name := "histAfter", fn := fun _ => fun
  | [d1, d2] => { results := [.lit (.bool false)], args := [d1, d2] }
  | _ => none }
def HistAfterWrongFalsely : Prop := histAfterRow.holds Try.pinned (OpenSpec.ofChange histAfterWrong)

/-- 'afterglowlaw08.HistParts': WHATEVER THE INPUT: true; the input reads as it did. -/
def histPartsSpec : ChangeSpec := { name := "histParts", fn := fun _ => fun
  | [d1, d2, d3] => { results := [.lit (.bool true)], args := [d1, d2, d3] }
  | _ => none }
def histPartsRow : OpenClaim := { program := "ytbcabbddgppkaaa", sum := "290810f504e52d7db8cf50834a1437a2260a563115f2521d274992a8fdd3cd82", func := "afterglow/afterglowlaw08.HistParts", spec := "histParts", unfollowed := true, recurses := true, apart := false }
def HistPartsSaid : Prop := histPartsRow.holds Try.pinned (OpenSpec.ofChange histPartsSpec)

/-- ITS FALSE NEIGHBOUR: 'it returns false'. Refute it at one input. -/
def histPartsWrong : ChangeSpec := { name := "histParts", fn := fun _ => fun
  | [d1, d2, d3] => { results := [.lit (.bool false)], args := [d1, d2, d3] }
  | _ => none }
def HistPartsWrongFalsely : Prop := histPartsRow.holds Try.pinned (OpenSpec.ofChange histPartsWrong)

/-- 'afterglowlaw08.HistOrderless': WHATEVER THE INPUT: true; the input reads as it did. -/
def histOrderlessSpec : ChangeSpec := { name := "histOrderless", fn := fun _ => fun
  | [d1, d2, d3] => { results := [.lit (.bool true)], args := [d1, d2, d3] }
  | _ => none }
def histOrderlessRow : OpenClaim := { program := "ytbcabbddgppkaaa", sum := "290810f504e52d7db8cf50834a1437a2260a563115f2521d274992a8fdd3cd82", func := "afterglow/afterglowlaw08.HistOrderless", spec := "histOrderless", unfollowed := true, recurses := true, apart := false }
def HistOrderlessSaid : Prop := histOrderlessRow.holds Try.pinned (OpenSpec.ofChange histOrderlessSpec)

/-- ITS FALSE NEIGHBOUR: 'it returns false'. Refute it at one input. -/
def histOrderlessWrong : ChangeSpec := { name := "histOrderless", fn := fun _ => fun
  | [d1, d2, d3] => { results := [.lit (.bool false)], args := [d1, d2, d3] }
  | _ => none }
def HistOrderlessWrongFalsely : Prop := histOrderlessRow.holds Try.pinned (OpenSpec.ofChange histOrderlessWrong)

/-- 'afterglowlaw08.HistNarrows': WHATEVER THE INPUT: true; the input reads as it did. -/
def histNarrowsSpec : ChangeSpec := { name := "histNarrows", fn := fun _ => fun
  | [d1, d2, d3] => { results := [.lit (.bool true)], args := [d1, d2, d3] }
  | _ => none }
def histNarrowsRow : OpenClaim := { program := "ytbcabbddgppkaaa", sum := "290810f504e52d7db8cf50834a1437a2260a563115f2521d274992a8fdd3cd82", func := "afterglow/afterglowlaw08.HistNarrows", spec := "histNarrows", unfollowed := true, recurses := true, apart := false }
def HistNarrowsSaid : Prop := histNarrowsRow.holds Try.pinned (OpenSpec.ofChange histNarrowsSpec)

/-- ITS FALSE NEIGHBOUR: 'it returns false'. Refute it at one input. -/
def histNarrowsWrong : ChangeSpec := { name := "histNarrows", fn := fun _ => fun
  | [d1, d2, d3] => { results := [.lit (.bool false)], args := [d1, d2, d3] }
  | _ => none }
def HistNarrowsWrongFalsely : Prop := histNarrowsRow.holds Try.pinned (OpenSpec.ofChange histNarrowsWrong)

/- THE SECOND FORM. 'bulk': how many values and letters a reading holds, each counted each time it is reached (what is shared counts as often as it is met; a slice's spare places count too). A statement '..UptoSaid' is the law's where the arguments, and the package variables that the reading takes, are together of bulk at most 1048576: NARROWER than '..Said'. Prove '..Said' where nothing that the law and all that it calls make is longer than what came in: it says more and counts as full. Else prove '..UptoSaid'. A law counts once. -/
mutual
def uptoBulk {H : Type} : DataW H → Nat
  | .lit (.string bytes) => bytes.length + 1
  | .lit _ => 1
  | .nil => 1
  | .ptr d => uptoBulk d + 1
  | .slice elems spare => uptoBulkAll elems + uptoBulkAll spare + 1
  | .agg parts => uptoBulkAll parts + 1
  | .iface _ d => uptoBulk d + 1
  | .map entries => uptoBulkEntries entries + 1
  | .held _ => 1
def uptoBulkAll {H : Type} : List (DataW H) → Nat
  | [] => 0
  | d :: r => uptoBulk d + uptoBulkAll r
def uptoBulkEntries {H : Type} : List (Lit × DataW H) → Nat
  | [] => 0
  | x :: r => uptoBulkEntry x + uptoBulkEntries r
def uptoBulkEntry {H : Type} : Lit × DataW H → Nat
  | (.string bytes, d) => bytes.length + uptoBulk d + 1
  | (_, d) => uptoBulk d + 1
 end
def uptoSmall : (H : Type) → List (DataW H) → Bool := fun _ ds => decide (uptoBulkAll ds ≤ 1048576)
def OpenSpec.upto (s : _root_.Go.ChangeSpec) : _root_.Go.OpenSpec := { _root_.Go.OpenSpec.ofChange s with cond := some uptoSmall }

/-- 'afterglowlaw07.SpanOnes', WHERE WHAT IT READS IS OF BULK AT MOST 1048576: true; the input reads as it did. -/
def spanOnesUptoRow : OpenClaim := { program := "ytbcabbddgppkaaa", sum := "290810f504e52d7db8cf50834a1437a2260a563115f2521d274992a8fdd3cd82", func := "afterglow/afterglowlaw07.SpanOnes", spec := "spanOnes", unfollowed := true, recurses := true, apart := false, narrowed := true }
def SpanOnesUptoSaid : Prop := spanOnesUptoRow.holds Try.pinned (OpenSpec.upto spanOnesSpec)

/-- 'afterglowlaw07.SpanJoins', WHERE WHAT IT READS IS OF BULK AT MOST 1048576: true; the input reads as it did. -/
def spanJoinsUptoRow : OpenClaim := { program := "ytbcabbddgppkaaa", sum := "290810f504e52d7db8cf50834a1437a2260a563115f2521d274992a8fdd3cd82", func := "afterglow/afterglowlaw07.SpanJoins", spec := "spanJoins", unfollowed := true, recurses := true, apart := false, narrowed := true }
def SpanJoinsUptoSaid : Prop := spanJoinsUptoRow.holds Try.pinned (OpenSpec.upto spanJoinsSpec)

/-- 'afterglowlaw07.SpanMoves', WHERE WHAT IT READS IS OF BULK AT MOST 1048576: true; the input reads as it did. -/
def spanMovesUptoRow : OpenClaim := { program := "ytbcabbddgppkaaa", sum := "290810f504e52d7db8cf50834a1437a2260a563115f2521d274992a8fdd3cd82", func := "afterglow/afterglowlaw07.SpanMoves", spec := "spanMoves", unfollowed := true, recurses := true, apart := false, narrowed := true }
def SpanMovesUptoSaid : Prop := spanMovesUptoRow.holds Try.pinned (OpenSpec.upto spanMovesSpec)

/-- 'afterglowlaw08.HistOrders', WHERE WHAT IT READS IS OF BULK AT MOST 1048576: true; the input reads as it did. -/
def histOrdersUptoRow : OpenClaim := { program := "ytbcabbddgppkaaa", sum := "290810f504e52d7db8cf50834a1437a2260a563115f2521d274992a8fdd3cd82", func := "afterglow/afterglowlaw08.HistOrders", spec := "histOrders", unfollowed := true, recurses := true, apart := false, narrowed := true }
def HistOrdersUptoSaid : Prop := histOrdersUptoRow.holds Try.pinned (OpenSpec.upto histOrdersSpec)

/-- 'afterglowlaw08.HistAdds', WHERE WHAT IT READS IS OF BULK AT MOST 1048576: true; the input reads as it did. -/
def histAddsUptoRow : OpenClaim := { program := "ytbcabbddgppkaaa", sum := "290810f504e52d7db8cf50834a1437a2260a563115f2521d274992a8fdd3cd82", func := "afterglow/afterglowlaw08.HistAdds", spec := "histAdds", unfollowed := true, recurses := true, apart := false, narrowed := true }
def HistAddsUptoSaid : Prop := histAddsUptoRow.holds Try.pinned (OpenSpec.upto histAddsSpec)

/-- 'afterglowlaw08.HistCuts', WHERE WHAT IT READS IS OF BULK AT MOST 1048576: true; the input reads as it did. -/
def histCutsUptoRow : OpenClaim := { program := "ytbcabbddgppkaaa", sum := "290810f504e52d7db8cf50834a1437a2260a563115f2521d274992a8fdd3cd82", func := "afterglow/afterglowlaw08.HistCuts", spec := "histCuts", unfollowed := true, recurses := true, apart := false, narrowed := true }
def HistCutsUptoSaid : Prop := histCutsUptoRow.holds Try.pinned (OpenSpec.upto histCutsSpec)

/-- 'afterglowlaw08.HistAfter', WHERE WHAT IT READS IS OF BULK AT MOST 1048576: true; the input reads as it did. -/
def histAfterUptoRow : OpenClaim := { program := "ytbcabbddgppkaaa", sum := "290810f504e52d7db8cf50834a1437a2260a563115f2521d274992a8fdd3cd82", func := "afterglow/afterglowlaw08.HistAfter", spec := "histAfter", unfollowed := true, recurses := true, apart := false, narrowed := true }
def HistAfterUptoSaid : Prop := histAfterUptoRow.holds Try.pinned (OpenSpec.upto histAfterSpec)

/-- 'afterglowlaw08.HistParts', WHERE WHAT IT READS IS OF BULK AT MOST 1048576: true; the input reads as it did. -/
def histPartsUptoRow : OpenClaim := { program := "ytbcabbddgppkaaa", sum := "290810f504e52d7db8cf50834a1437a2260a563115f2521d274992a8fdd3cd82", func := "afterglow/afterglowlaw08.HistParts", spec := "histParts", unfollowed := true, recurses := true, apart := false, narrowed := true }
def HistPartsUptoSaid : Prop := histPartsUptoRow.holds Try.pinned (OpenSpec.upto histPartsSpec)

/-- 'afterglowlaw08.HistOrderless', WHERE WHAT IT READS IS OF BULK AT MOST 1048576: true; the input reads as it did. -/
def histOrderlessUptoRow : OpenClaim := { program := "ytbcabbddgppkaaa", sum := "290810f504e52d7db8cf50834a1437a2260a563115f2521d274992a8fdd3cd82", func := "afterglow/afterglowlaw08.HistOrderless", spec := "histOrderless", unfollowed := true, recurses := true, apart := false, narrowed := true }
def HistOrderlessUptoSaid : Prop := histOrderlessUptoRow.holds Try.pinned (OpenSpec.upto histOrderlessSpec)

/-- 'afterglowlaw08.HistNarrows', WHERE WHAT IT READS IS OF BULK AT MOST 1048576: true; the input reads as it did. -/
def histNarrowsUptoRow : OpenClaim := { program := "ytbcabbddgppkaaa", sum := "290810f504e52d7db8cf50834a1437a2260a563115f2521d274992a8fdd3cd82", func := "afterglow/afterglowlaw08.HistNarrows", spec := "histNarrows", unfollowed := true, recurses := true, apart := false, narrowed := true }
def HistNarrowsUptoSaid : Prop := histNarrowsUptoRow.holds Try.pinned (OpenSpec.upto histNarrowsSpec)

end Rows
end Go.Proofs.Ytbcabbddgppkaaa
