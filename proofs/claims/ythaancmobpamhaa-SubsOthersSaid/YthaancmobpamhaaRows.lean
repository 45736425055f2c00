/-
  No cell of these rows narrows 'for every input' (looked for: loops, veiled, ifaces, maps, wideKeys, modest, calm, conditions, laid).
  DERIVED. THE GIVEN ROWS OF THIS SEAT. 7 by the template 'for every input the law returns true; each argument reads behind the call as it read before'; 0 by the template 'total and deterministic' (their statements: YthaancmobpamhaaTotals.lean).
  GIVEN WITH THE SEED: the statements are not yours to turn. If you find one false, say at which input.
  Laid BY PROGRAM, IN A SANDBOX (cutbox-rows.mjs): the forced cells as the released guide's own fill.sh prints them over the translation 5e5ba918d49f49cc… (all of the seat's roots in one cut). By AI agents, Wed Nov 11 2026. No macro, syntax, notation, axiom, sorry.
-/
import Derived.Test.YthaancmobpamhaaChecked
import GoSem.Claim
import GoSem.ClaimJoined
import GoSem.ClaimMapViews
import Derived.JoinedTies
import Derived.KernelRfl
namespace Go.Proofs.Ythaancmobpamhaa
/- THE CELL 'sum', in the pinned program and in every row, IS THE sha256 OF THE DUMP (.gsa) THAT YthaancmobpamhaaProg.lean LOADS. Nothing in Lean hashes anything: it is a label: what it is worth is what the hold of that sum in a sandbox is worth. -/
noncomputable def Try.pinned : Pinned := { name := "ythaancmobpamhaa", sum := "5e5ba918d49f49cc77127bad9dc38bc8615e2dc77c8fc2196834f655b3381857", checked := Try.checked }
namespace Rows
def none {H : Type} : Left H := { results := [], args := [] }

/-- 'afterglowlaw09.SubsGrants': WHATEVER THE INPUT: true; the input reads as it did. -/
def subsGrantsSpec : ChangeSpec := { name := "subsGrants", fn := fun _ => fun
  | [d1, d2, d3] => { results := [.lit (.bool true)], args := [d1, d2, d3] }
  | _ => none }
def subsGrantsRow : OpenClaim := { program := "ythaancmobpamhaa", sum := "5e5ba918d49f49cc77127bad9dc38bc8615e2dc77c8fc2196834f655b3381857", func := "afterglow/afterglowlaw09.SubsGrants", spec := "subsGrants", inPlace := ["internal/bytealg.abigen_runtime_cmpstring"], unfollowed := true, recurses := true, apart := false }
def SubsGrantsSaid : Prop := subsGrantsRow.holds Try.pinned (OpenSpec.ofChange subsGrantsSpec)

/-- ITS FALSE NEIGHBOUR: 'it returns false'. Refute it at one input. -/
def subsGrantsWrong : ChangeSpec := { name := "subsGrants", fn := fun _ => fun
  | [d1, d2, d3] => { results := [.lit (.bool false)], args := [d1, d2, d3] }
  | _ => none }
def SubsGrantsWrongFalsely : Prop := subsGrantsRow.holds Try.pinned (OpenSpec.ofChange subsGrantsWrong)

/-- 'afterglowlaw09.SubsPeriods': WHATEVER THE INPUT: true; the input reads as it did. -/
def subsPeriodsSpec : ChangeSpec := { name := "subsPeriods", fn := fun _ => fun
  | [d1, d2, d3] => { results := [.lit (.bool true)], args := [d1, d2, d3] }
  | _ => none }
def subsPeriodsRow : OpenClaim := { program := "ythaancmobpamhaa", sum := "5e5ba918d49f49cc77127bad9dc38bc8615e2dc77c8fc2196834f655b3381857", func := "afterglow/afterglowlaw09.SubsPeriods", spec := "subsPeriods", inPlace := ["internal/bytealg.abigen_runtime_cmpstring"], unfollowed := true, recurses := true, apart := false }
def SubsPeriodsSaid : Prop := subsPeriodsRow.holds Try.pinned (OpenSpec.ofChange subsPeriodsSpec)

/-- ITS FALSE NEIGHBOUR: 'it returns false'. Refute it at one input. -/
def subsPeriodsWrong : ChangeSpec := { name := "subsPeriods", fn := fun _ => fun
  | [d1, d2, d3] => { results := [.lit (.bool false)], args := [d1, d2, d3] }
  | _ => none }
def SubsPeriodsWrongFalsely : Prop := subsPeriodsRow.holds Try.pinned (OpenSpec.ofChange subsPeriodsWrong)

/-- 'afterglowlaw09.SubsRising': WHATEVER THE INPUT: true; the input reads as it did. -/
def subsRisingSpec : ChangeSpec := { name := "subsRising", fn := fun _ => fun
  | [d1, d2] => { results := [.lit (.bool true)], args := [d1, d2] }
  | _ => none }
def subsRisingRow : OpenClaim := { program := "ythaancmobpamhaa", sum := "5e5ba918d49f49cc77127bad9dc38bc8615e2dc77c8fc2196834f655b3381857", func := "afterglow/afterglowlaw09.SubsRising", spec := "subsRising", inPlace := ["internal/bytealg.abigen_runtime_cmpstring"], unfollowed := true, recurses := true, apart := false }
def SubsRisingSaid : Prop := subsRisingRow.holds Try.pinned (OpenSpec.ofChange subsRisingSpec)

/-- ITS FALSE NEIGHBOUR: 'it returns false'. Refute it at one input. -/
def subsRisingWrong : ChangeSpec := { name := "subsRising", fn := fun _ => fun
  | [d1, d2] => { results := [.lit (.bool false)], args := [d1, d2] }
  | _ => none }
def SubsRisingWrongFalsely : Prop := subsRisingRow.holds Try.pinned (OpenSpec.ofChange subsRisingWrong)

/-- 'afterglowlaw09.SubsGoes': WHATEVER THE INPUT: true; the input reads as it did. -/
def subsGoesSpec : ChangeSpec := { name := "subsGoes", fn := fun _ => fun
  | [d] => { results := [.lit (.bool true)], args := [d] }
  | _ => none }
def subsGoesRow : OpenClaim := { program := "ythaancmobpamhaa", sum := "5e5ba918d49f49cc77127bad9dc38bc8615e2dc77c8fc2196834f655b3381857", func := "afterglow/afterglowlaw09.SubsGoes", spec := "subsGoes", inPlace := ["internal/bytealg.abigen_runtime_cmpstring"], unfollowed := true, recurses := true, apart := false }
def SubsGoesSaid : Prop := subsGoesRow.holds Try.pinned (OpenSpec.ofChange subsGoesSpec)

/-- ITS FALSE NEIGHBOUR: 'it returns false'. Refute it at one input. -/
def subsGoesWrong : ChangeSpec := { name := "subsGoes", fn := fun _ => fun
  | [d] => { results := [.lit (.bool false)], args := [d] }
  | _ => none }
def SubsGoesWrongFalsely : Prop := subsGoesRow.holds Try.pinned (OpenSpec.ofChange subsGoesWrong)

/-- 'afterglowlaw09.SubsOthers': WHATEVER THE INPUT: true; the input reads as it did. -/
def subsOthersSpec : ChangeSpec := { name := "subsOthers", fn := fun _ => fun
  | [d1, d2, d3] => { results := [.lit (.bool true)], args := [d1, d2, d3] }
  | _ => none }
def subsOthersRow : OpenClaim := { program := "ythaancmobpamhaa", sum := "5e5ba918d49f49cc77127bad9dc38bc8615e2dc77c8fc2196834f655b3381857", func := "afterglow/afterglowlaw09.SubsOthers", spec := "subsOthers", inPlace := ["internal/bytealg.abigen_runtime_cmpstring"], unfollowed := true, recurses := true, apart := false }
def SubsOthersSaid : Prop := subsOthersRow.holds Try.pinned (OpenSpec.ofChange subsOthersSpec)

/-- ITS FALSE NEIGHBOUR: 'it returns false'. Refute it at one input. -/
def subsOthersWrong : ChangeSpec := { name := "subsOthers", fn := fun _ => fun
  | [d1, d2, d3] => { results := [.lit (.bool false)], args := [d1, d2, d3] }
  | _ => none }
def SubsOthersWrongFalsely : Prop := subsOthersRow.holds Try.pinned (OpenSpec.ofChange subsOthersWrong)

/-- 'afterglowlaw09.SubsErased': WHATEVER THE INPUT: true; the input reads as it did. -/
def subsErasedSpec : ChangeSpec := { name := "subsErased", fn := fun _ => fun
  | [d1, d2, d3] => { results := [.lit (.bool true)], args := [d1, d2, d3] }
  | _ => none }
def subsErasedRow : OpenClaim := { program := "ythaancmobpamhaa", sum := "5e5ba918d49f49cc77127bad9dc38bc8615e2dc77c8fc2196834f655b3381857", func := "afterglow/afterglowlaw09.SubsErased", spec := "subsErased", inPlace := ["internal/bytealg.abigen_runtime_cmpstring"], unfollowed := true, recurses := true, apart := false }
def SubsErasedSaid : Prop := subsErasedRow.holds Try.pinned (OpenSpec.ofChange subsErasedSpec)

/-- ITS FALSE NEIGHBOUR: 'it returns false'. Refute it at one input. -/
def subsErasedWrong : ChangeSpec := { name := "subsErased", fn := fun _ => fun
  | [d1, d2, d3] => { results := [.lit (.bool false)], args := [d1, d2, d3] }
  | _ => none }
def SubsErasedWrongFalsely : Prop := subsErasedRow.holds Try.pinned (OpenSpec.ofChange subsErasedWrong)

/-- 'afterglowlaw09.SubsBack': WHATEVER THE INPUT: true; the input reads as it did. -/
def subsBackSpec : ChangeSpec := { name := "subsBack", fn := fun _ => fun
  | [d1, d2, d3] => { results := [.lit (.bool true)], args := [d1, d2, d3] }
  | _ => none }
def subsBackRow : OpenClaim := { program := "ythaancmobpamhaa", sum := "5e5ba918d49f49cc77127bad9dc38bc8615e2dc77c8fc2196834f655b3381857", func := "afterglow/afterglowlaw09.SubsBack", spec := "subsBack", inPlace := ["internal/bytealg.abigen_runtime_cmpstring"], unfollowed := true, recurses := true, apart := false }
def SubsBackSaid : Prop := subsBackRow.holds Try.pinned (OpenSpec.ofChange subsBackSpec)

/-- ITS FALSE NEIGHBOUR: 'it returns false'. Refute it at one input. -/
def subsBackWrong : ChangeSpec := { name := "subsBack", fn := fun _ => fun
  | [d1, d2, d3] => { results := [.lit (.bool false)], args := [d1, d2, d3] }
  | _ => none }
def SubsBackWrongFalsely : Prop := subsBackRow.holds Try.pinned (OpenSpec.ofChange subsBackWrong)

/- THE SECOND FORM. 'bulk': how many values and letters a reading holds, each counted each time it is reached (what is shared counts as often as it is met; a slice's spare places count too). A statement '..UptoSaid' is the law's where the arguments, and the package variables that the reading takes, are together of bulk at most 1048576: NARROWER than '..Said'. Prove '..Said' where nothing that the law and all that it calls make is longer than what came in: it says more and counts as full. Else prove '..UptoSaid'. A law counts once. -/
mutual
def uptoBulk {H : Type} : DataW H → Nat
  | .lit (.string bytes) => bytes.length + 1
  | .lit _ => 1
  | .nil => 1
  | .ptr d => uptoBulk d + 1
  | .slice elems spare => uptoBulkAll elems + uptoBulkAll spare + 1
  | .agg parts => uptoBulkAll parts + 1
  | .iface _ d => uptoBulk d + 1
  | .map entries => uptoBulkEntries entries + 1
  | .held _ => 1
def uptoBulkAll {H : Type} : List (DataW H) → Nat
  | [] => 0
  | d :: r => uptoBulk d + uptoBulkAll r
def uptoBulkEntries {H : Type} : List (Lit × DataW H) → Nat
  | [] => 0
  | x :: r => uptoBulkEntry x + uptoBulkEntries r
def uptoBulkEntry {H : Type} : Lit × DataW H → Nat
  | (.string bytes, d) => bytes.length + uptoBulk d + 1
  | (_, d) => uptoBulk d + 1
 end
def uptoSmall : (H : Type) → List (DataW H) → Bool := fun _ ds => decide (uptoBulkAll ds ≤ 1048576)
def OpenSpec.upto (s : _root_.Go.ChangeSpec) : _root_.Go.OpenSpec := { _root_.Go.OpenSpec.ofChange s with cond := some uptoSmall }

/-- 'afterglowlaw09.SubsGrants', WHERE WHAT IT READS IS OF BULK AT MOST 1048576: true; the input reads as it did. -/
def subsGrantsUptoRow : OpenClaim := { program := "ythaancmobpamhaa", sum := "5e5ba918d49f49cc77127bad9dc38bc8615e2dc77c8fc2196834f655b3381857", func := "afterglow/afterglowlaw09.SubsGrants", spec := "subsGrants", inPlace := ["internal/bytealg.abigen_runtime_cmpstring"], unfollowed := true, recurses := true, apart := false, narrowed := true }
def SubsGrantsUptoSaid : Prop := subsGrantsUptoRow.holds Try.pinned (OpenSpec.upto subsGrantsSpec)

/-- 'afterglowlaw09.SubsPeriods', WHERE WHAT IT READS IS OF BULK AT MOST 1048576: true; the input reads as it did. -/
def subsPeriodsUptoRow : OpenClaim := { program := "ythaancmobpamhaa", sum := "5e5ba918d49f49cc77127bad9dc38bc8615e2dc77c8fc2196834f655b3381857", func := "afterglow/afterglowlaw09.SubsPeriods", spec := "subsPeriods", inPlace := ["internal/bytealg.abigen_runtime_cmpstring"], unfollowed := true, recurses := true, apart := false, narrowed := true }
def SubsPeriodsUptoSaid : Prop := subsPeriodsUptoRow.holds Try.pinned (OpenSpec.upto subsPeriodsSpec)

/-- 'afterglowlaw09.SubsRising', WHERE WHAT IT READS IS OF BULK AT MOST 1048576: true; the input reads as it did. -/
def subsRisingUptoRow : OpenClaim := { program := "ythaancmobpamhaa", sum := "5e5ba918d49f49cc77127bad9dc38bc8615e2dc77c8fc2196834f655b3381857", func := "afterglow/afterglowlaw09.SubsRising", spec := "subsRising", inPlace := ["internal/bytealg.abigen_runtime_cmpstring"], unfollowed := true, recurses := true, apart := false, narrowed := true }
def SubsRisingUptoSaid : Prop := subsRisingUptoRow.holds Try.pinned (OpenSpec.upto subsRisingSpec)

/-- 'afterglowlaw09.SubsGoes', WHERE WHAT IT READS IS OF BULK AT MOST 1048576: true; the input reads as it did. -/
def subsGoesUptoRow : OpenClaim := { program := "ythaancmobpamhaa", sum := "5e5ba918d49f49cc77127bad9dc38bc8615e2dc77c8fc2196834f655b3381857", func := "afterglow/afterglowlaw09.SubsGoes", spec := "subsGoes", inPlace := ["internal/bytealg.abigen_runtime_cmpstring"], unfollowed := true, recurses := true, apart := false, narrowed := true }
def SubsGoesUptoSaid : Prop := subsGoesUptoRow.holds Try.pinned (OpenSpec.upto subsGoesSpec)

/-- 'afterglowlaw09.SubsOthers', WHERE WHAT IT READS IS OF BULK AT MOST 1048576: true; the input reads as it did. -/
def subsOthersUptoRow : OpenClaim := { program := "ythaancmobpamhaa", sum := "5e5ba918d49f49cc77127bad9dc38bc8615e2dc77c8fc2196834f655b3381857", func := "afterglow/afterglowlaw09.SubsOthers", spec := "subsOthers", inPlace := ["internal/bytealg.abigen_runtime_cmpstring"], unfollowed := true, recurses := true, apart := false, narrowed := true }
def SubsOthersUptoSaid : Prop := subsOthersUptoRow.holds Try.pinned (OpenSpec.upto subsOthersSpec)

/-- 'afterglowlaw09.SubsErased', WHERE WHAT IT READS IS OF BULK AT MOST 1048576: true; the input reads as it did. -/
def subsErasedUptoRow : OpenClaim := { program := "ythaancmobpamhaa", sum := "5e5ba918d49f49cc77127bad9dc38bc8615e2dc77c8fc2196834f655b3381857", func := "afterglow/afterglowlaw09.SubsErased", spec := "subsErased", inPlace := ["internal/bytealg.abigen_runtime_cmpstring"], unfollowed := true, recurses := true, apart := false, narrowed := true }
def SubsErasedUptoSaid : Prop := subsErasedUptoRow.holds Try.pinned (OpenSpec.upto subsErasedSpec)

/-- 'afterglowlaw09.SubsBack', WHERE WHAT IT READS IS OF BULK AT MOST 1048576: true; the input reads as it did. -/
def subsBackUptoRow : OpenClaim := { program := "ythaancmobpamhaa", sum := "5e5ba918d49f49cc77127bad9dc38bc8615e2dc77c8fc2196834f655b3381857", func := "afterglow/afterglowlaw09.SubsBack", spec := "subsBack", inPlace := ["internal/bytealg.abigen_runtime_cmpstring"], unfollowed := true, recurses := true, apart := false, narrowed := true }
def SubsBackUptoSaid : Prop := subsBackUptoRow.holds Try.pinned (OpenSpec.upto subsBackSpec)

end Rows
end Go.Proofs.Ythaancmobpamhaa
