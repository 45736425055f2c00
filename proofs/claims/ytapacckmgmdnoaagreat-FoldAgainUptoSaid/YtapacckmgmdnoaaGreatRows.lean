/-
  No cell of these rows narrows 'for every input' (looked for: loops, veiled, ifaces, maps, wideKeys, modest, calm, conditions, laid).
  DERIVED. THE GIVEN ROWS OF THIS SEAT. 15 by the template 'for every input the law returns true; each argument reads behind the call as it read before'; 0 by the template 'total and deterministic' (their statements: YtapacckmgmdnoaaGreatTotals.lean).
  GIVEN WITH THE SEED: the statements are not yours to turn. If you find one false, say at which input.
  Laid BY PROGRAM, IN A SANDBOX (cutbox-rows.mjs): the forced cells as the released guide's own fill.sh prints them over the translation 99e22880200074b9… (all of the seat's roots in one cut). By AI agents, Wed Nov 11 2026. No macro, syntax, notation, axiom, sorry.
-/
import Derived.Test.YtapacckmgmdnoaaGreatChecked
import GoSem.Claim
import GoSem.ClaimJoined
import GoSem.ClaimMapViews
import Derived.JoinedTies
import Derived.KernelRfl
namespace Go.Proofs.YtapacckmgmdnoaaGreat
/- THE CELL 'sum', in the pinned program and in every row, IS THE sha256 OF THE DUMP (.gsa) THAT YtapacckmgmdnoaaGreatProg.lean LOADS. Nothing in Lean hashes anything: it is a label: what it is worth is what the hold of that sum in a sandbox is worth. -/
noncomputable def Tryz.pinned : Pinned := { name := "ytapacckmgmdnoaagreat", sum := "99e22880200074b93ca8c99f7873a5fe844cec216e3ec28c4ecc14c0f5feb159", checked := Tryz.checked }
namespace Rows
def none {H : Type} : Left H := { results := [], args := [] }

/-- 'afterglowlaw12.FoldAll': WHATEVER THE INPUT: true; the input reads as it did. -/
def foldAllSpec : ChangeSpec := { name := "foldAll", fn := fun _ => fun
  | [d1, d2, d3] => { results := [.lit (.bool true)], args := [d1, d2, d3] }
  | _ => none }
def foldAllRow : OpenClaim := { program := "ytapacckmgmdnoaagreat", sum := "99e22880200074b93ca8c99f7873a5fe844cec216e3ec28c4ecc14c0f5feb159", func := "afterglow/afterglowlaw12.FoldAll", spec := "foldAll", inPlace := ["internal/bytealg.abigen_runtime_cmpstring"], unfollowed := true, recurses := true, apart := false }
def FoldAllSaid : Prop := foldAllRow.holds Tryz.pinned (OpenSpec.ofChange foldAllSpec)

/-- ITS FALSE NEIGHBOUR: 'it returns false'. Refute it at one input. -/
def foldAllWrong : ChangeSpec := { name := "foldAll", fn := fun _ => fun
  | [d1, d2, d3] => { results := [.lit (.bool false)], args := [d1, d2, d3] }
  | _ => none }
def FoldAllWrongFalsely : Prop := foldAllRow.holds Tryz.pinned (OpenSpec.ofChange foldAllWrong)

/-- 'afterglowlaw12.FoldAgain': WHATEVER THE INPUT: true; the input reads as it did. -/
def foldAgainSpec : ChangeSpec := { name := "foldAgain", fn := fun _ => fun
  | [d1, d2, d3] => { results := [.lit (.bool true)], args := [d1, d2, d3] }
  | _ => none }
def foldAgainRow : OpenClaim := { program := "ytapacckmgmdnoaagreat", sum := "99e22880200074b93ca8c99f7873a5fe844cec216e3ec28c4ecc14c0f5feb159", func := "afterglow/afterglowlaw12.FoldAgain", spec := "foldAgain", inPlace := ["internal/bytealg.abigen_runtime_cmpstring"], unfollowed := true, recurses := true, apart := false }
def FoldAgainSaid : Prop := foldAgainRow.holds Tryz.pinned (OpenSpec.ofChange foldAgainSpec)

/-- ITS FALSE NEIGHBOUR: 'it returns false'. Refute it at one input. -/
def foldAgainWrong : ChangeSpec := { name := "foldAgain", fn := fun _ => fun
  | [d1, d2, d3] => { results := [.lit (.bool false)], args := [d1, d2, d3] }
  | _ => none }
def FoldAgainWrongFalsely : Prop := foldAgainRow.holds Tryz.pinned (OpenSpec.ofChange foldAgainWrong)

/-- 'afterglowlaw12.FoldErased': WHATEVER THE INPUT: true; the input reads as it did. -/
def foldErasedSpec : ChangeSpec := { name := "foldErased", fn := fun _ => fun
  | [d1, d2, d3] => { results := [.lit (.bool true)], args := [d1, d2, d3] }
  | _ => none }
def foldErasedRow : OpenClaim := { program := "ytapacckmgmdnoaagreat", sum := "99e22880200074b93ca8c99f7873a5fe844cec216e3ec28c4ecc14c0f5feb159", func := "afterglow/afterglowlaw12.FoldErased", spec := "foldErased", inPlace := ["internal/bytealg.abigen_runtime_cmpstring"], unfollowed := true, recurses := true, apart := false }
def FoldErasedSaid : Prop := foldErasedRow.holds Tryz.pinned (OpenSpec.ofChange foldErasedSpec)

/-- ITS FALSE NEIGHBOUR: 'it returns false'. Refute it at one input. -/
def foldErasedWrong : ChangeSpec := { name := "foldErased", fn := fun _ => fun
  | [d1, d2, d3] => { results := [.lit (.bool false)], args := [d1, d2, d3] }
  | _ => none }
def FoldErasedWrongFalsely : Prop := foldErasedRow.holds Tryz.pinned (OpenSpec.ofChange foldErasedWrong)

/-- 'afterglowlaw12.FoldModel': WHATEVER THE INPUT: true; the input reads as it did. -/
def foldModelSpec : ChangeSpec := { name := "foldModel", fn := fun _ => fun
  | [d1, d2, d3] => { results := [.lit (.bool true)], args := [d1, d2, d3] }
  | _ => none }
def foldModelRow : OpenClaim := { program := "ytapacckmgmdnoaagreat", sum := "99e22880200074b93ca8c99f7873a5fe844cec216e3ec28c4ecc14c0f5feb159", func := "afterglow/afterglowlaw12.FoldModel", spec := "foldModel", inPlace := ["internal/bytealg.abigen_runtime_cmpstring"], unfollowed := true, recurses := true, apart := false }
def FoldModelSaid : Prop := foldModelRow.holds Tryz.pinned (OpenSpec.ofChange foldModelSpec)

/-- ITS FALSE NEIGHBOUR: 'it returns false'. Refute it at one input. -/
def foldModelWrong : ChangeSpec := { name := "foldModel", fn := fun _ => fun
  | [d1, d2, d3] => { results := [.lit (.bool false)], args := [d1, d2, d3] }
  | _ => none }
def FoldModelWrongFalsely : Prop := foldModelRow.holds Tryz.pinned (OpenSpec.ofChange foldModelWrong)

/-- 'afterglowlaw12.FoldSees': WHATEVER THE INPUT: true; the input reads as it did. -/
def foldSeesSpec : ChangeSpec := { name := "foldSees", fn := fun _ => fun
  | [d1, d2, d3] => { results := [.lit (.bool true)], args := [d1, d2, d3] }
  | _ => none }
def foldSeesRow : OpenClaim := { program := "ytapacckmgmdnoaagreat", sum := "99e22880200074b93ca8c99f7873a5fe844cec216e3ec28c4ecc14c0f5feb159", func := "afterglow/afterglowlaw12.FoldSees", spec := "foldSees", inPlace := ["internal/bytealg.abigen_runtime_cmpstring"], unfollowed := true, recurses := true, apart := false }
def FoldSeesSaid : Prop := foldSeesRow.holds Tryz.pinned (OpenSpec.ofChange foldSeesSpec)

/-- ITS FALSE NEIGHBOUR: 'it returns false'. Refute it at one input. -/
def foldSeesWrong : ChangeSpec := { name := "foldSees", fn := fun _ => fun
  | [d1, d2, d3] => { results := [.lit (.bool false)], args := [d1, d2, d3] }
  | _ => none }
def FoldSeesWrongFalsely : Prop := foldSeesRow.holds Tryz.pinned (OpenSpec.ofChange foldSeesWrong)

/-- 'afterglowlaw12.FoldNow': WHATEVER THE INPUT: true; the input reads as it did. -/
def foldNowSpec : ChangeSpec := { name := "foldNow", fn := fun _ => fun
  | [d1, d2] => { results := [.lit (.bool true)], args := [d1, d2] }
  | _ => none }
def foldNowRow : OpenClaim := { program := "ytapacckmgmdnoaagreat", sum := "99e22880200074b93ca8c99f7873a5fe844cec216e3ec28c4ecc14c0f5feb159", func := "afterglow/afterglowlaw12.FoldNow", spec := "foldNow", inPlace := ["internal/bytealg.abigen_runtime_cmpstring"], unfollowed := true, recurses := true, apart := false }
def FoldNowSaid : Prop := foldNowRow.holds Tryz.pinned (OpenSpec.ofChange foldNowSpec)

/-- ITS FALSE NEIGHBOUR: 'it returns false'. Refute it at one input. -/
def foldNowWrong : ChangeSpec := { name := "foldNow", fn := fun _ => fun
  | [d1, d2] => { results := [.lit (.bool false)], args := [d1, d2] }
  | _ => none }
def FoldNowWrongFalsely : Prop := foldNowRow.holds Tryz.pinned (OpenSpec.ofChange foldNowWrong)

/-- 'afterglowlaw12.FoldOthers': WHATEVER THE INPUT: true; the input reads as it did. -/
def foldOthersSpec : ChangeSpec := { name := "foldOthers", fn := fun _ => fun
  | [d1, d2, d3] => { results := [.lit (.bool true)], args := [d1, d2, d3] }
  | _ => none }
def foldOthersRow : OpenClaim := { program := "ytapacckmgmdnoaagreat", sum := "99e22880200074b93ca8c99f7873a5fe844cec216e3ec28c4ecc14c0f5feb159", func := "afterglow/afterglowlaw12.FoldOthers", spec := "foldOthers", inPlace := ["internal/bytealg.abigen_runtime_cmpstring"], unfollowed := true, recurses := true, apart := false }
def FoldOthersSaid : Prop := foldOthersRow.holds Tryz.pinned (OpenSpec.ofChange foldOthersSpec)

/-- ITS FALSE NEIGHBOUR: 'it returns false'. Refute it at one input. -/
def foldOthersWrong : ChangeSpec := { name := "foldOthers", fn := fun _ => fun
  | [d1, d2, d3] => { results := [.lit (.bool false)], args := [d1, d2, d3] }
  | _ => none }
def FoldOthersWrongFalsely : Prop := foldOthersRow.holds Tryz.pinned (OpenSpec.ofChange foldOthersWrong)

/-- 'afterglowlaw13.GateRanges': WHATEVER THE INPUT: true; the input reads as it did. -/
def gateRangesSpec : ChangeSpec := { name := "gateRanges", fn := fun _ => fun
  | [d1, d2] => { results := [.lit (.bool true)], args := [d1, d2] }
  | _ => none }
def gateRangesRow : OpenClaim := { program := "ytapacckmgmdnoaagreat", sum := "99e22880200074b93ca8c99f7873a5fe844cec216e3ec28c4ecc14c0f5feb159", func := "afterglow/afterglowlaw13.GateRanges", spec := "gateRanges", inPlace := ["internal/bytealg.abigen_runtime_cmpstring"], unfollowed := true, recurses := true, apart := false }
def GateRangesSaid : Prop := gateRangesRow.holds Tryz.pinned (OpenSpec.ofChange gateRangesSpec)

/-- ITS FALSE NEIGHBOUR: 'it returns false'. Refute it at one input. -/
def gateRangesWrong : ChangeSpec := { name := "gateRanges", fn := fun _ => fun
  | [d1, d2] => { results := [.lit (.bool false)], args := [d1, d2] }
  | _ => none }
def GateRangesWrongFalsely : Prop := gateRangesRow.holds Tryz.pinned (OpenSpec.ofChange gateRangesWrong)

/-- 'afterglowlaw13.GateLasts': WHATEVER THE INPUT: true; the input reads as it did. -/
def gateLastsSpec : ChangeSpec := { name := "gateLasts", fn := fun _ => fun
  | [d1, d2, d3] => { results := [.lit (.bool true)], args := [d1, d2, d3] }
  | _ => none }
def gateLastsRow : OpenClaim := { program := "ytapacckmgmdnoaagreat", sum := "99e22880200074b93ca8c99f7873a5fe844cec216e3ec28c4ecc14c0f5feb159", func := "afterglow/afterglowlaw13.GateLasts", spec := "gateLasts", inPlace := ["internal/bytealg.abigen_runtime_cmpstring"], unfollowed := true, recurses := true, apart := false }
def GateLastsSaid : Prop := gateLastsRow.holds Tryz.pinned (OpenSpec.ofChange gateLastsSpec)

/-- ITS FALSE NEIGHBOUR: 'it returns false'. Refute it at one input. -/
def gateLastsWrong : ChangeSpec := { name := "gateLasts", fn := fun _ => fun
  | [d1, d2, d3] => { results := [.lit (.bool false)], args := [d1, d2, d3] }
  | _ => none }
def GateLastsWrongFalsely : Prop := gateLastsRow.holds Tryz.pinned (OpenSpec.ofChange gateLastsWrong)

/-- 'afterglowlaw13.GateBlind': WHATEVER THE INPUT: true; the input reads as it did. -/
def gateBlindSpec : ChangeSpec := { name := "gateBlind", fn := fun _ => fun
  | [d1, d2, d3] => { results := [.lit (.bool true)], args := [d1, d2, d3] }
  | _ => none }
def gateBlindRow : OpenClaim := { program := "ytapacckmgmdnoaagreat", sum := "99e22880200074b93ca8c99f7873a5fe844cec216e3ec28c4ecc14c0f5feb159", func := "afterglow/afterglowlaw13.GateBlind", spec := "gateBlind", inPlace := ["internal/bytealg.abigen_runtime_cmpstring"], unfollowed := true, recurses := true, apart := false }
def GateBlindSaid : Prop := gateBlindRow.holds Tryz.pinned (OpenSpec.ofChange gateBlindSpec)

/-- ITS FALSE NEIGHBOUR: 'it returns false'. Refute it at one input. -/
def gateBlindWrong : ChangeSpec := { name := "gateBlind", fn := fun _ => fun
  | [d1, d2, d3] => { results := [.lit (.bool false)], args := [d1, d2, d3] }
  | _ => none }
def GateBlindWrongFalsely : Prop := gateBlindRow.holds Tryz.pinned (OpenSpec.ofChange gateBlindWrong)

/-- 'afterglowlaw13.GateTimes': WHATEVER THE INPUT: true; the input reads as it did. -/
def gateTimesSpec : ChangeSpec := { name := "gateTimes", fn := fun _ => fun
  | [d1, d2, d3] => { results := [.lit (.bool true)], args := [d1, d2, d3] }
  | _ => none }
def gateTimesRow : OpenClaim := { program := "ytapacckmgmdnoaagreat", sum := "99e22880200074b93ca8c99f7873a5fe844cec216e3ec28c4ecc14c0f5feb159", func := "afterglow/afterglowlaw13.GateTimes", spec := "gateTimes", inPlace := ["internal/bytealg.abigen_runtime_cmpstring"], unfollowed := true, recurses := true, apart := false }
def GateTimesSaid : Prop := gateTimesRow.holds Tryz.pinned (OpenSpec.ofChange gateTimesSpec)

/-- ITS FALSE NEIGHBOUR: 'it returns false'. Refute it at one input. -/
def gateTimesWrong : ChangeSpec := { name := "gateTimes", fn := fun _ => fun
  | [d1, d2, d3] => { results := [.lit (.bool false)], args := [d1, d2, d3] }
  | _ => none }
def GateTimesWrongFalsely : Prop := gateTimesRow.holds Tryz.pinned (OpenSpec.ofChange gateTimesWrong)

/-- 'afterglowlaw13.GatePrunes': WHATEVER THE INPUT: true; the input reads as it did. -/
def gatePrunesSpec : ChangeSpec := { name := "gatePrunes", fn := fun _ => fun
  | [d1, d2] => { results := [.lit (.bool true)], args := [d1, d2] }
  | _ => none }
def gatePrunesRow : OpenClaim := { program := "ytapacckmgmdnoaagreat", sum := "99e22880200074b93ca8c99f7873a5fe844cec216e3ec28c4ecc14c0f5feb159", func := "afterglow/afterglowlaw13.GatePrunes", spec := "gatePrunes", inPlace := ["internal/bytealg.abigen_runtime_cmpstring"], unfollowed := true, recurses := true, apart := false }
def GatePrunesSaid : Prop := gatePrunesRow.holds Tryz.pinned (OpenSpec.ofChange gatePrunesSpec)

/-- ITS FALSE NEIGHBOUR: 'it returns false'. Refute it at one input. -/
def gatePrunesWrong : ChangeSpec := { name := "gatePrunes", fn := fun _ => fun
  | [d1, d2] => { results := [.lit (.bool false)], args := [d1, d2] }
  | _ => none }
def GatePrunesWrongFalsely : Prop := gatePrunesRow.holds Tryz.pinned (OpenSpec.ofChange gatePrunesWrong)

/-- 'afterglowlaw13.GateErased': WHATEVER THE INPUT: true; the input reads as it did. -/
def gateErasedSpec : ChangeSpec := { name := "gateErased", fn := fun _ => fun
  | [d1, d2, d3] => { results := [.lit (.bool true)], args := [d1, d2, d3] }
  | _ => none }
def gateErasedRow : OpenClaim := { program := "ytapacckmgmdnoaagreat", sum := "99e22880200074b93ca8c99f7873a5fe844cec216e3ec28c4ecc14c0f5feb159", func := "afterglow/afterglowlaw13.GateErased", spec := "gateErased", inPlace := ["internal/bytealg.abigen_runtime_cmpstring"], unfollowed := true, recurses := true, apart := false }
def GateErasedSaid : Prop := gateErasedRow.holds Tryz.pinned (OpenSpec.ofChange gateErasedSpec)

/-- ITS FALSE NEIGHBOUR: 'it returns false'. Refute it at one input. -/
def gateErasedWrong : ChangeSpec := { name := "gateErased", fn := fun _ => fun
  | [d1, d2, d3] => { results := [.lit (.bool false)], args := [d1, d2, d3] }
  | _ => none }
def GateErasedWrongFalsely : Prop := gateErasedRow.holds Tryz.pinned (OpenSpec.ofChange gateErasedWrong)

/-- 'afterglowlaw13.GateNarrows': WHATEVER THE INPUT: true; the input reads as it did. -/
def gateNarrowsSpec : ChangeSpec := { name := "gateNarrows", fn := fun _ => fun
  | [d1, d2, d3] => { results := [.lit (.bool true)], args := [d1, d2, d3] }
  | _ => none }
def gateNarrowsRow : OpenClaim := { program := "ytapacckmgmdnoaagreat", sum := "99e22880200074b93ca8c99f7873a5fe844cec216e3ec28c4ecc14c0f5feb159", func := "afterglow/afterglowlaw13.GateNarrows", spec := "gateNarrows", inPlace := ["internal/bytealg.abigen_runtime_cmpstring"], unfollowed := true, recurses := true, apart := false }
def GateNarrowsSaid : Prop := gateNarrowsRow.holds Tryz.pinned (OpenSpec.ofChange gateNarrowsSpec)

/-- ITS FALSE NEIGHBOUR: 'it returns false'. Refute it at one input. -/
def gateNarrowsWrong : ChangeSpec := { name := "gateNarrows", fn := fun _ => fun
  | [d1, d2, d3] => { results := [.lit (.bool false)], args := [d1, d2, d3] }
  | _ => none }
def GateNarrowsWrongFalsely : Prop := gateNarrowsRow.holds Tryz.pinned (OpenSpec.ofChange gateNarrowsWrong)

/-- 'afterglowlaw13.GateLater': WHATEVER THE INPUT: true; the input reads as it did. -/
def gateLaterSpec : ChangeSpec := { name := "gateLater", fn := fun _ => fun
  | [d1, d2, d3] => { results := [.lit (.bool true)], args := [d1, d2, d3] }
  | _ => none }
def gateLaterRow : OpenClaim := { program := "ytapacckmgmdnoaagreat", sum := "99e22880200074b93ca8c99f7873a5fe844cec216e3ec28c4ecc14c0f5feb159", func := "afterglow/afterglowlaw13.GateLater", spec := "gateLater", inPlace := ["internal/bytealg.abigen_runtime_cmpstring"], unfollowed := true, recurses := true, apart := false }
def GateLaterSaid : Prop := gateLaterRow.holds Tryz.pinned (OpenSpec.ofChange gateLaterSpec)

/-- ITS FALSE NEIGHBOUR: 'it returns false'. Refute it at one input. -/
def gateLaterWrong : ChangeSpec := { name := "gateLater", fn := fun _ => fun
  | [d1, d2, d3] => { results := [.lit (.bool false)], args := [d1, d2, d3] }
  | _ => none }
def GateLaterWrongFalsely : Prop := gateLaterRow.holds Tryz.pinned (OpenSpec.ofChange gateLaterWrong)

/- THE SECOND FORM. 'bulk': how many values and letters a reading holds, each counted each time it is reached (what is shared counts as often as it is met; a slice's spare places count too). A statement '..UptoSaid' is the law's where the arguments, and the package variables that the reading takes, are together of bulk at most 1048576: NARROWER than '..Said'. Prove '..Said' where nothing that the law and all that it calls make is longer than what came in: it says more and counts as full. Else prove '..UptoSaid'. A law counts once. -/
mutual
def uptoBulk {H : Type} : DataW H → Nat
  | .lit (.string bytes) => bytes.length + 1
  | .lit _ => 1
  | .nil => 1
  | .ptr d => uptoBulk d + 1
  | .slice elems spare => uptoBulkAll elems + uptoBulkAll spare + 1
  | .agg parts => uptoBulkAll parts + 1
  | .iface _ d => uptoBulk d + 1
  | .map entries => uptoBulkEntries entries + 1
  | .held _ => 1
def uptoBulkAll {H : Type} : List (DataW H) → Nat
  | [] => 0
  | d :: r => uptoBulk d + uptoBulkAll r
def uptoBulkEntries {H : Type} : List (Lit × DataW H) → Nat
  | [] => 0
  | x :: r => uptoBulkEntry x + uptoBulkEntries r
def uptoBulkEntry {H : Type} : Lit × DataW H → Nat
  | (.string bytes, d) => bytes.length + uptoBulk d + 1
  | (_, d) => uptoBulk d + 1
 end
def uptoSmall : (H : Type) → List (DataW H) → Bool := fun _ ds => decide (uptoBulkAll ds ≤ 1048576)
def OpenSpec.upto (s : _root_.Go.ChangeSpec) : _root_.Go.OpenSpec := { _root_.Go.OpenSpec.ofChange s with cond := some uptoSmall }

/-- 'afterglowlaw12.FoldAll', WHERE WHAT IT READS IS OF BULK AT MOST 1048576: true; the input reads as it did. -/
def foldAllUptoRow : OpenClaim := { program := "ytapacckmgmdnoaagreat", sum := "99e22880200074b93ca8c99f7873a5fe844cec216e3ec28c4ecc14c0f5feb159", func := "afterglow/afterglowlaw12.FoldAll", spec := "foldAll", inPlace := ["internal/bytealg.abigen_runtime_cmpstring"], unfollowed := true, recurses := true, apart := false, narrowed := true }
def FoldAllUptoSaid : Prop := foldAllUptoRow.holds Tryz.pinned (OpenSpec.upto foldAllSpec)

/-- 'afterglowlaw12.FoldAgain', WHERE WHAT IT READS IS OF BULK AT MOST 1048576: true; the input reads as it did. -/
def foldAgainUptoRow : OpenClaim := { program := "ytapacckmgmdnoaagreat", sum := "99e22880200074b93ca8c99f7873a5fe844cec216e3ec28c4ecc14c0f5feb159", func := "afterglow/afterglowlaw12.FoldAgain", spec := "foldAgain", inPlace := ["internal/bytealg.abigen_runtime_cmpstring"], unfollowed := true, recurses := true, apart := false, narrowed := true }
def FoldAgainUptoSaid : Prop := foldAgainUptoRow.holds Tryz.pinned (OpenSpec.upto foldAgainSpec)

/-- 'afterglowlaw12.FoldErased', WHERE WHAT IT READS IS OF BULK AT MOST 1048576: true; the input reads as it did. -/
def foldErasedUptoRow : OpenClaim := { program := "ytapacckmgmdnoaagreat", sum := "99e22880200074b93ca8c99f7873a5fe844cec216e3ec28c4ecc14c0f5feb159", func := "afterglow/afterglowlaw12.FoldErased", spec := "foldErased", inPlace := ["internal/bytealg.abigen_runtime_cmpstring"], unfollowed := true, recurses := true, apart := false, narrowed := true }
def FoldErasedUptoSaid : Prop := foldErasedUptoRow.holds Tryz.pinned (OpenSpec.upto foldErasedSpec)

/-- 'afterglowlaw12.FoldModel', WHERE WHAT IT READS IS OF BULK AT MOST 1048576: true; the input reads as it did. -/
def foldModelUptoRow : OpenClaim := { program := "ytapacckmgmdnoaagreat", sum := "99e22880200074b93ca8c99f7873a5fe844cec216e3ec28c4ecc14c0f5feb159", func := "afterglow/afterglowlaw12.FoldModel", spec := "foldModel", inPlace := ["internal/bytealg.abigen_runtime_cmpstring"], unfollowed := true, recurses := true, apart := false, narrowed := true }
def FoldModelUptoSaid : Prop := foldModelUptoRow.holds Tryz.pinned (OpenSpec.upto foldModelSpec)

/-- 'afterglowlaw12.FoldSees', WHERE WHAT IT READS IS OF BULK AT MOST 1048576: true; the input reads as it did. -/
def foldSeesUptoRow : OpenClaim := { program := "ytapacckmgmdnoaagreat", sum := "99e22880200074b93ca8c99f7873a5fe844cec216e3ec28c4ecc14c0f5feb159", func := "afterglow/afterglowlaw12.FoldSees", spec := "foldSees", inPlace := ["internal/bytealg.abigen_runtime_cmpstring"], unfollowed := true, recurses := true, apart := false, narrowed := true }
def FoldSeesUptoSaid : Prop := foldSeesUptoRow.holds Tryz.pinned (OpenSpec.upto foldSeesSpec)

/-- 'afterglowlaw12.FoldNow', WHERE WHAT IT READS IS OF BULK AT MOST 1048576: true; the input reads as it did. -/
def foldNowUptoRow : OpenClaim := { program := "ytapacckmgmdnoaagreat", sum := "99e22880200074b93ca8c99f7873a5fe844cec216e3ec28c4ecc14c0f5feb159", func := "afterglow/afterglowlaw12.FoldNow", spec := "foldNow", inPlace := ["internal/bytealg.abigen_runtime_cmpstring"], unfollowed := true, recurses := true, apart := false, narrowed := true }
def FoldNowUptoSaid : Prop := foldNowUptoRow.holds Tryz.pinned (OpenSpec.upto foldNowSpec)

/-- 'afterglowlaw12.FoldOthers', WHERE WHAT IT READS IS OF BULK AT MOST 1048576: true; the input reads as it did. -/
def foldOthersUptoRow : OpenClaim := { program := "ytapacckmgmdnoaagreat", sum := "99e22880200074b93ca8c99f7873a5fe844cec216e3ec28c4ecc14c0f5feb159", func := "afterglow/afterglowlaw12.FoldOthers", spec := "foldOthers", inPlace := ["internal/bytealg.abigen_runtime_cmpstring"], unfollowed := true, recurses := true, apart := false, narrowed := true }
def FoldOthersUptoSaid : Prop := foldOthersUptoRow.holds Tryz.pinned (OpenSpec.upto foldOthersSpec)

/-- 'afterglowlaw13.GateRanges', WHERE WHAT IT READS IS OF BULK AT MOST 1048576: true; the input reads as it did. -/
def gateRangesUptoRow : OpenClaim := { program := "ytapacckmgmdnoaagreat", sum := "99e22880200074b93ca8c99f7873a5fe844cec216e3ec28c4ecc14c0f5feb159", func := "afterglow/afterglowlaw13.GateRanges", spec := "gateRanges", inPlace := ["internal/bytealg.abigen_runtime_cmpstring"], unfollowed := true, recurses := true, apart := false, narrowed := true }
def GateRangesUptoSaid : Prop := gateRangesUptoRow.holds Tryz.pinned (OpenSpec.upto gateRangesSpec)

/-- 'afterglowlaw13.GateLasts', WHERE WHAT IT READS IS OF BULK AT MOST 1048576: true; the input reads as it did. -/
def gateLastsUptoRow : OpenClaim := { program := "ytapacckmgmdnoaagreat", sum := "99e22880200074b93ca8c99f7873a5fe844cec216e3ec28c4ecc14c0f5feb159", func := "afterglow/afterglowlaw13.GateLasts", spec := "gateLasts", inPlace := ["internal/bytealg.abigen_runtime_cmpstring"], unfollowed := true, recurses := true, apart := false, narrowed := true }
def GateLastsUptoSaid : Prop := gateLastsUptoRow.holds Tryz.pinned (OpenSpec.upto gateLastsSpec)

/-- 'afterglowlaw13.GateBlind', WHERE WHAT IT READS IS OF BULK AT MOST 1048576: true; the input reads as it did. -/
def gateBlindUptoRow : OpenClaim := { program := "ytapacckmgmdnoaagreat", sum := "99e22880200074b93ca8c99f7873a5fe844cec216e3ec28c4ecc14c0f5feb159", func := "afterglow/afterglowlaw13.GateBlind", spec := "gateBlind", inPlace := ["internal/bytealg.abigen_runtime_cmpstring"], unfollowed := true, recurses := true, apart := false, narrowed := true }
def GateBlindUptoSaid : Prop := gateBlindUptoRow.holds Tryz.pinned (OpenSpec.upto gateBlindSpec)

/-- 'afterglowlaw13.GateTimes', WHERE WHAT IT READS IS OF BULK AT MOST 1048576: true; the input reads as it did. -/
def gateTimesUptoRow : OpenClaim := { program := "ytapacckmgmdnoaagreat", sum := "99e22880200074b93ca8c99f7873a5fe844cec216e3ec28c4ecc14c0f5feb159", func := "afterglow/afterglowlaw13.GateTimes", spec := "gateTimes", inPlace := ["internal/bytealg.abigen_runtime_cmpstring"], unfollowed := true, recurses := true, apart := false, narrowed := true }
def GateTimesUptoSaid : Prop := gateTimesUptoRow.holds Tryz.pinned (OpenSpec.upto gateTimesSpec)

/-- 'afterglowlaw13.GatePrunes', WHERE WHAT IT READS IS OF BULK AT MOST 1048576: true; the input reads as it did. -/
def gatePrunesUptoRow : OpenClaim := { program := "ytapacckmgmdnoaagreat", sum := "99e22880200074b93ca8c99f7873a5fe844cec216e3ec28c4ecc14c0f5feb159", func := "afterglow/afterglowlaw13.GatePrunes", spec := "gatePrunes", inPlace := ["internal/bytealg.abigen_runtime_cmpstring"], unfollowed := true, recurses := true, apart := false, narrowed := true }
def GatePrunesUptoSaid : Prop := gatePrunesUptoRow.holds Tryz.pinned (OpenSpec.upto gatePrunesSpec)

/-- 'afterglowlaw13.GateErased', WHERE WHAT IT READS IS OF BULK AT MOST 1048576: true; the input reads as it did. -/
def gateErasedUptoRow : OpenClaim := { program := "ytapacckmgmdnoaagreat", sum := "99e22880200074b93ca8c99f7873a5fe844cec216e3ec28c4ecc14c0f5feb159", func := "afterglow/afterglowlaw13.GateErased", spec := "gateErased", inPlace := ["internal/bytealg.abigen_runtime_cmpstring"], unfollowed := true, recurses := true, apart := false, narrowed := true }
def GateErasedUptoSaid : Prop := gateErasedUptoRow.holds Tryz.pinned (OpenSpec.upto gateErasedSpec)

/-- 'afterglowlaw13.GateNarrows', WHERE WHAT IT READS IS OF BULK AT MOST 1048576: true; the input reads as it did. -/
def gateNarrowsUptoRow : OpenClaim := { program := "ytapacckmgmdnoaagreat", sum := "99e22880200074b93ca8c99f7873a5fe844cec216e3ec28c4ecc14c0f5feb159", func := "afterglow/afterglowlaw13.GateNarrows", spec := "gateNarrows", inPlace := ["internal/bytealg.abigen_runtime_cmpstring"], unfollowed := true, recurses := true, apart := false, narrowed := true }
def GateNarrowsUptoSaid : Prop := gateNarrowsUptoRow.holds Tryz.pinned (OpenSpec.upto gateNarrowsSpec)

/-- 'afterglowlaw13.GateLater', WHERE WHAT IT READS IS OF BULK AT MOST 1048576: true; the input reads as it did. -/
def gateLaterUptoRow : OpenClaim := { program := "ytapacckmgmdnoaagreat", sum := "99e22880200074b93ca8c99f7873a5fe844cec216e3ec28c4ecc14c0f5feb159", func := "afterglow/afterglowlaw13.GateLater", spec := "gateLater", inPlace := ["internal/bytealg.abigen_runtime_cmpstring"], unfollowed := true, recurses := true, apart := false, narrowed := true }
def GateLaterUptoSaid : Prop := gateLaterUptoRow.holds Tryz.pinned (OpenSpec.upto gateLaterSpec)

end Rows
end Go.Proofs.YtapacckmgmdnoaaGreat
