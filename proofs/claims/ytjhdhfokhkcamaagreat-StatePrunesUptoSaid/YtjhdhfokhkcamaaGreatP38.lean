/- Texts of mine, one behind the other, of each what is wanted: DF3. -/
import Derived.Test.YtjhdhfokhkcamaaGreatProg
import Derived.WalkKit
import Derived.WalkLawsBesides
import Derived.Lib.Hide
import Derived.Lib.Bytealg
import Derived.Deep.QuietTactic
import Derived.BigQuiet
import Derived.Deep.Draws
import Derived.Below
import Derived.WalkSmall
import Derived.OwnWalk
import Derived.Maps.AppendAt
import Derived.Laws.AppendOwnNone
import Derived.BigRegion
import Derived.Deep.MidRow
import Derived.Deep.RegionHeld3
import Derived.Shelf.SlSortCmp.QuietGrown
import Derived.Shelf.SlSorted.Search
import Derived.Laws.ResultCell
import Derived.WalkMore
import Derived.Shelf.Spec.SlicesGrow
import Derived.Test.YtjhdhfokhkcamaaGreatShelf
import Derived.Shelf.SlicesG.Cmp
import Derived.Lib.SliceRun
import Derived.Deep.WholeRow
import Derived.Shelf.SlSortCmp.WholeK
import Derived.Shelf.SlSortCmp.NoneTotal
import Derived.Lib.SlicesCompact
import Derived.Shelf.Slices.Clone
import Derived.Shelf.Slices.CompactS
import Derived.Sort.OwnSorted
import Derived.Sort.Grow
import Derived.Lib.OwnBridge
import Derived.Deep.AppendLies
import Derived.ArgAppend
import Derived.Test.YtjhdhfokhkcamaaGreatRows
import Derived.ProofKit
import Derived.OpenShut
import Derived.ShutString
import Derived.SliceStrings
import Derived.Carry
import Derived.Deep.SlicePairs
import Derived.Lib.SmallJoins
import Derived.Deep.DeepCutAuto
import Derived.Test.YtjhdhfokhkcamaaGreatP01
import Derived.Test.YtjhdhfokhkcamaaGreatP09
import Derived.Test.YtjhdhfokhkcamaaGreatP12
import Derived.Test.YtjhdhfokhkcamaaGreatP31
namespace Go.Proofs.YtjhdhfokhkcamaaGreat
open Go.RowKit Go.Proofs
set_option linter.unusedVariables false
set_option maxRecDepth 100000
theorem tbv_snoc (D : List TbM) (y : TbM) : tbv (D ++ [y]) = tbv D ++ [.string y.u, .int .i64 y.a] := by
  unfold tbv
  rw [List.map_append]
  exact pps_snoc _ _
end Go.Proofs.YtjhdhfokhkcamaaGreat
