/-
  No cell of these rows narrows 'for every input' (looked for: loops, veiled, ifaces, maps, wideKeys, modest, calm, conditions, laid).
  DERIVED. THE GIVEN ROWS OF THIS SEAT. 9 by the template 'for every input the law returns true; each argument reads behind the call as it read before'; 0 by the template 'total and deterministic' (their statements: YtjhdhfokhkcamaaGreatTotals.lean).
  GIVEN WITH THE SEED: the statements are not yours to turn. If you find one false, say at which input.
  Laid BY PROGRAM, IN A SANDBOX (cutbox-rows.mjs): the forced cells as the released guide's own fill.sh prints them over the translation 523fea7771549fa8… (all of the seat's roots in one cut). By AI agents, Wed Nov 11 2026. No macro, syntax, notation, axiom, sorry.
-/
import Derived.Test.YtjhdhfokhkcamaaGreatChecked
import GoSem.Claim
import GoSem.ClaimJoined
import GoSem.ClaimMapViews
import Derived.JoinedTies
import Derived.KernelRfl
namespace Go.Proofs.YtjhdhfokhkcamaaGreat
/- THE CELL 'sum', in the pinned program and in every row, IS THE sha256 OF THE DUMP (.gsa) THAT YtjhdhfokhkcamaaGreatProg.lean LOADS. Nothing in Lean hashes anything: it is a label: what it is worth is what the hold of that sum in a sandbox is worth. -/
noncomputable def Tryz.pinned : Pinned := { name := "ytjhdhfokhkcamaagreat", sum := "523fea7771549fa839916c5c8dbc1c1ef5a636ceb26ca2c9e16c9114397af69a", checked := Tryz.checked }
namespace Rows
def none {H : Type} : Left H := { results := [], args := [] }

/-- 'afterglowlaw11.StateApplies': WHATEVER THE INPUT: true; the input reads as it did. -/
def stateAppliesSpec : ChangeSpec := { name := "stateApplies", fn := fun _ => fun
  | [d1, d2] => { results := [.lit (.bool true)], args := [d1, d2] }
  | _ => none }
def stateAppliesRow : OpenClaim := { program := "ytjhdhfokhkcamaagreat", sum := "523fea7771549fa839916c5c8dbc1c1ef5a636ceb26ca2c9e16c9114397af69a", func := "afterglow/afterglowlaw11.StateApplies", spec := "stateApplies", inPlace := ["internal/bytealg.abigen_runtime_cmpstring"], unfollowed := true, recurses := true, apart := false }
def StateAppliesSaid : Prop := stateAppliesRow.holds Tryz.pinned (OpenSpec.ofChange stateAppliesSpec)

/-- ITS FALSE NEIGHBOUR: 'it returns false'. Refute it at one input. -/
def stateAppliesWrong : ChangeSpec := { name := "stateApplies", fn := fun _ => fun
  | [d1, d2] => { results := [.lit (.bool false)], args := [d1, d2] }
  | _ => none }
def StateAppliesWrongFalsely : Prop := stateAppliesRow.holds Tryz.pinned (OpenSpec.ofChange stateAppliesWrong)

/-- 'afterglowlaw11.StateGoes': WHATEVER THE INPUT: true; the input reads as it did. -/
def stateGoesSpec : ChangeSpec := { name := "stateGoes", fn := fun _ => fun
  | [d] => { results := [.lit (.bool true)], args := [d] }
  | _ => none }
def stateGoesRow : OpenClaim := { program := "ytjhdhfokhkcamaagreat", sum := "523fea7771549fa839916c5c8dbc1c1ef5a636ceb26ca2c9e16c9114397af69a", func := "afterglow/afterglowlaw11.StateGoes", spec := "stateGoes", inPlace := ["internal/bytealg.abigen_runtime_cmpstring"], unfollowed := true, recurses := true, apart := false }
def StateGoesSaid : Prop := stateGoesRow.holds Tryz.pinned (OpenSpec.ofChange stateGoesSpec)

/-- ITS FALSE NEIGHBOUR: 'it returns false'. Refute it at one input. -/
def stateGoesWrong : ChangeSpec := { name := "stateGoes", fn := fun _ => fun
  | [d] => { results := [.lit (.bool false)], args := [d] }
  | _ => none }
def StateGoesWrongFalsely : Prop := stateGoesRow.holds Tryz.pinned (OpenSpec.ofChange stateGoesWrong)

/-- 'afterglowlaw11.StateResets': WHATEVER THE INPUT: true; the input reads as it did. -/
def stateResetsSpec : ChangeSpec := { name := "stateResets", fn := fun _ => fun
  | [d] => { results := [.lit (.bool true)], args := [d] }
  | _ => none }
def stateResetsRow : OpenClaim := { program := "ytjhdhfokhkcamaagreat", sum := "523fea7771549fa839916c5c8dbc1c1ef5a636ceb26ca2c9e16c9114397af69a", func := "afterglow/afterglowlaw11.StateResets", spec := "stateResets", inPlace := ["internal/bytealg.abigen_runtime_cmpstring"], unfollowed := true, recurses := true, apart := false }
def StateResetsSaid : Prop := stateResetsRow.holds Tryz.pinned (OpenSpec.ofChange stateResetsSpec)

/-- ITS FALSE NEIGHBOUR: 'it returns false'. Refute it at one input. -/
def stateResetsWrong : ChangeSpec := { name := "stateResets", fn := fun _ => fun
  | [d] => { results := [.lit (.bool false)], args := [d] }
  | _ => none }
def StateResetsWrongFalsely : Prop := stateResetsRow.holds Tryz.pinned (OpenSpec.ofChange stateResetsWrong)

/-- 'afterglowlaw11.StateTells': WHATEVER THE INPUT: true; the input reads as it did. -/
def stateTellsSpec : ChangeSpec := { name := "stateTells", fn := fun _ => fun
  | [d1, d2, d3] => { results := [.lit (.bool true)], args := [d1, d2, d3] }
  | _ => none }
def stateTellsRow : OpenClaim := { program := "ytjhdhfokhkcamaagreat", sum := "523fea7771549fa839916c5c8dbc1c1ef5a636ceb26ca2c9e16c9114397af69a", func := "afterglow/afterglowlaw11.StateTells", spec := "stateTells", inPlace := ["internal/bytealg.abigen_runtime_cmpstring"], unfollowed := true, recurses := true, apart := false }
def StateTellsSaid : Prop := stateTellsRow.holds Tryz.pinned (OpenSpec.ofChange stateTellsSpec)

/-- ITS FALSE NEIGHBOUR: 'it returns false'. Refute it at one input. -/
def stateTellsWrong : ChangeSpec := { name := "stateTells", fn := fun _ => fun
  | [d1, d2, d3] => { results := [.lit (.bool false)], args := [d1, d2, d3] }
  | _ => none }
def StateTellsWrongFalsely : Prop := stateTellsRow.holds Tryz.pinned (OpenSpec.ofChange stateTellsWrong)

/-- 'afterglowlaw11.StateRight': WHATEVER THE INPUT: true; the input reads as it did. -/
def stateRightSpec : ChangeSpec := { name := "stateRight", fn := fun _ => fun
  | [d1, d2] => { results := [.lit (.bool true)], args := [d1, d2] }
  | _ => none }
def stateRightRow : OpenClaim := { program := "ytjhdhfokhkcamaagreat", sum := "523fea7771549fa839916c5c8dbc1c1ef5a636ceb26ca2c9e16c9114397af69a", func := "afterglow/afterglowlaw11.StateRight", spec := "stateRight", inPlace := ["internal/bytealg.abigen_runtime_cmpstring"], unfollowed := true, recurses := true, apart := false }
def StateRightSaid : Prop := stateRightRow.holds Tryz.pinned (OpenSpec.ofChange stateRightSpec)

/-- ITS FALSE NEIGHBOUR: 'it returns false'. Refute it at one input. -/
def stateRightWrong : ChangeSpec := { name := "stateRight", fn := fun _ => fun
  | [d1, d2] => { results := [.lit (.bool false)], args := [d1, d2] }
  | _ => none }
def StateRightWrongFalsely : Prop := stateRightRow.holds Tryz.pinned (OpenSpec.ofChange stateRightWrong)

/-- 'afterglowlaw11.StateErases': WHATEVER THE INPUT: true; the input reads as it did. -/
def stateErasesSpec : ChangeSpec := { name := "stateErases", fn := fun _ => fun
  | [d1, d2, d3] => { results := [.lit (.bool true)], args := [d1, d2, d3] }
  | _ => none }
def stateErasesRow : OpenClaim := { program := "ytjhdhfokhkcamaagreat", sum := "523fea7771549fa839916c5c8dbc1c1ef5a636ceb26ca2c9e16c9114397af69a", func := "afterglow/afterglowlaw11.StateErases", spec := "stateErases", inPlace := ["internal/bytealg.abigen_runtime_cmpstring"], unfollowed := true, recurses := true, apart := false }
def StateErasesSaid : Prop := stateErasesRow.holds Tryz.pinned (OpenSpec.ofChange stateErasesSpec)

/-- ITS FALSE NEIGHBOUR: 'it returns false'. Refute it at one input. -/
def stateErasesWrong : ChangeSpec := { name := "stateErases", fn := fun _ => fun
  | [d1, d2, d3] => { results := [.lit (.bool false)], args := [d1, d2, d3] }
  | _ => none }
def StateErasesWrongFalsely : Prop := stateErasesRow.holds Tryz.pinned (OpenSpec.ofChange stateErasesWrong)

/-- 'afterglowlaw11.StateOthers': WHATEVER THE INPUT: true; the input reads as it did. -/
def stateOthersSpec : ChangeSpec := { name := "stateOthers", fn := fun _ => fun
  | [d1, d2, d3] => { results := [.lit (.bool true)], args := [d1, d2, d3] }
  | _ => none }
def stateOthersRow : OpenClaim := { program := "ytjhdhfokhkcamaagreat", sum := "523fea7771549fa839916c5c8dbc1c1ef5a636ceb26ca2c9e16c9114397af69a", func := "afterglow/afterglowlaw11.StateOthers", spec := "stateOthers", inPlace := ["internal/bytealg.abigen_runtime_cmpstring"], unfollowed := true, recurses := true, apart := false }
def StateOthersSaid : Prop := stateOthersRow.holds Tryz.pinned (OpenSpec.ofChange stateOthersSpec)

/-- ITS FALSE NEIGHBOUR: 'it returns false'. Refute it at one input. -/
def stateOthersWrong : ChangeSpec := { name := "stateOthers", fn := fun _ => fun
  | [d1, d2, d3] => { results := [.lit (.bool false)], args := [d1, d2, d3] }
  | _ => none }
def StateOthersWrongFalsely : Prop := stateOthersRow.holds Tryz.pinned (OpenSpec.ofChange stateOthersWrong)

/-- 'afterglowlaw11.StateGrows': WHATEVER THE INPUT: true; the input reads as it did. -/
def stateGrowsSpec : ChangeSpec := { name := "stateGrows", fn := fun _ => fun
  | [d1, d2] => { results := [.lit (.bool true)], args := [d1, d2] }
  | _ => none }
def stateGrowsRow : OpenClaim := { program := "ytjhdhfokhkcamaagreat", sum := "523fea7771549fa839916c5c8dbc1c1ef5a636ceb26ca2c9e16c9114397af69a", func := "afterglow/afterglowlaw11.StateGrows", spec := "stateGrows", inPlace := ["internal/bytealg.abigen_runtime_cmpstring"], unfollowed := true, recurses := true, apart := false }
def StateGrowsSaid : Prop := stateGrowsRow.holds Tryz.pinned (OpenSpec.ofChange stateGrowsSpec)

/-- ITS FALSE NEIGHBOUR: 'it returns false'. Refute it at one input. -/
def stateGrowsWrong : ChangeSpec := { name := "stateGrows", fn := fun _ => fun
  | [d1, d2] => { results := [.lit (.bool false)], args := [d1, d2] }
  | _ => none }
def StateGrowsWrongFalsely : Prop := stateGrowsRow.holds Tryz.pinned (OpenSpec.ofChange stateGrowsWrong)

/-- 'afterglowlaw11.StatePrunes': WHATEVER THE INPUT: true; the input reads as it did. -/
def statePrunesSpec : ChangeSpec := { name := "statePrunes", fn := fun _ => fun
  | [d1, d2] => { results := [.lit (.bool true)], args := [d1, d2] }
  | _ => none }
def statePrunesRow : OpenClaim := { program := "ytjhdhfokhkcamaagreat", sum := "523fea7771549fa839916c5c8dbc1c1ef5a636ceb26ca2c9e16c9114397af69a", func := "afterglow/afterglowlaw11.StatePrunes", spec := "statePrunes", inPlace := ["internal/bytealg.abigen_runtime_cmpstring"], unfollowed := true, recurses := true, apart := false }
def StatePrunesSaid : Prop := statePrunesRow.holds Tryz.pinned (OpenSpec.ofChange statePrunesSpec)

/-- ITS FALSE NEIGHBOUR: 'it returns false'. Refute it at one input. -/
def statePrunesWrong : ChangeSpec := { name := "statePrunes", fn := fun _ => fun
  | [d1, d2] => { results := [.lit (.bool false)], args := [d1, d2] }
  | _ => none }
def StatePrunesWrongFalsely : Prop := statePrunesRow.holds Tryz.pinned (OpenSpec.ofChange statePrunesWrong)

/- THE SECOND FORM. 'bulk': how many values and letters a reading holds, each counted each time it is reached (what is shared counts as often as it is met; a slice's spare places count too). A statement '..UptoSaid' is the law's where the arguments, and the package variables that the reading takes, are together of bulk at most 1048576: NARROWER than '..Said'. Prove '..Said' where nothing that the law and all that it calls make is longer than what came in: it says more and counts as full. Else prove '..UptoSaid'. A law counts once. -/
mutual
def uptoBulk {H : Type} : DataW H → Nat
  | .lit (.string bytes) => bytes.length + 1
  | .lit _ => 1
  | .nil => 1
  | .ptr d => uptoBulk d + 1
  | .slice elems spare => uptoBulkAll elems + uptoBulkAll spare + 1
  | .agg parts => uptoBulkAll parts + 1
  | .iface _ d => uptoBulk d + 1
  | .map entries => uptoBulkEntries entries + 1
  | .held _ => 1
def uptoBulkAll {H : Type} : List (DataW H) → Nat
  | [] => 0
  | d :: r => uptoBulk d + uptoBulkAll r
def uptoBulkEntries {H : Type} : List (Lit × DataW H) → Nat
  | [] => 0
  | x :: r => uptoBulkEntry x + uptoBulkEntries r
def uptoBulkEntry {H : Type} : Lit × DataW H → Nat
  | (.string bytes, d) => bytes.length + uptoBulk d + 1
  | (_, d) => uptoBulk d + 1
 end
def uptoSmall : (H : Type) → List (DataW H) → Bool := fun _ ds => decide (uptoBulkAll ds ≤ 1048576)
def OpenSpec.upto (s : _root_.Go.ChangeSpec) : _root_.Go.OpenSpec := { _root_.Go.OpenSpec.ofChange s with cond := some uptoSmall }

/-- 'afterglowlaw11.StateApplies', WHERE WHAT IT READS IS OF BULK AT MOST 1048576: true; the input reads as it did. -/
def stateAppliesUptoRow : OpenClaim := { program := "ytjhdhfokhkcamaagreat", sum := "523fea7771549fa839916c5c8dbc1c1ef5a636ceb26ca2c9e16c9114397af69a", func := "afterglow/afterglowlaw11.StateApplies", spec := "stateApplies", inPlace := ["internal/bytealg.abigen_runtime_cmpstring"], unfollowed := true, recurses := true, apart := false, narrowed := true }
def StateAppliesUptoSaid : Prop := stateAppliesUptoRow.holds Tryz.pinned (OpenSpec.upto stateAppliesSpec)

/-- 'afterglowlaw11.StateGoes', WHERE WHAT IT READS IS OF BULK AT MOST 1048576: true; the input reads as it did. -/
def stateGoesUptoRow : OpenClaim := { program := "ytjhdhfokhkcamaagreat", sum := "523fea7771549fa839916c5c8dbc1c1ef5a636ceb26ca2c9e16c9114397af69a", func := "afterglow/afterglowlaw11.StateGoes", spec := "stateGoes", inPlace := ["internal/bytealg.abigen_runtime_cmpstring"], unfollowed := true, recurses := true, apart := false, narrowed := true }
def StateGoesUptoSaid : Prop := stateGoesUptoRow.holds Tryz.pinned (OpenSpec.upto stateGoesSpec)

/-- 'afterglowlaw11.StateResets', WHERE WHAT IT READS IS OF BULK AT MOST 1048576: true; the input reads as it did. -/
def stateResetsUptoRow : OpenClaim := { program := "ytjhdhfokhkcamaagreat", sum := "523fea7771549fa839916c5c8dbc1c1ef5a636ceb26ca2c9e16c9114397af69a", func := "afterglow/afterglowlaw11.StateResets", spec := "stateResets", inPlace := ["internal/bytealg.abigen_runtime_cmpstring"], unfollowed := true, recurses := true, apart := false, narrowed := true }
def StateResetsUptoSaid : Prop := stateResetsUptoRow.holds Tryz.pinned (OpenSpec.upto stateResetsSpec)

/-- 'afterglowlaw11.StateTells', WHERE WHAT IT READS IS OF BULK AT MOST 1048576: true; the input reads as it did. -/
def stateTellsUptoRow : OpenClaim := { program := "ytjhdhfokhkcamaagreat", sum := "523fea7771549fa839916c5c8dbc1c1ef5a636ceb26ca2c9e16c9114397af69a", func := "afterglow/afterglowlaw11.StateTells", spec := "stateTells", inPlace := ["internal/bytealg.abigen_runtime_cmpstring"], unfollowed := true, recurses := true, apart := false, narrowed := true }
def StateTellsUptoSaid : Prop := stateTellsUptoRow.holds Tryz.pinned (OpenSpec.upto stateTellsSpec)

/-- 'afterglowlaw11.StateRight', WHERE WHAT IT READS IS OF BULK AT MOST 1048576: true; the input reads as it did. -/
def stateRightUptoRow : OpenClaim := { program := "ytjhdhfokhkcamaagreat", sum := "523fea7771549fa839916c5c8dbc1c1ef5a636ceb26ca2c9e16c9114397af69a", func := "afterglow/afterglowlaw11.StateRight", spec := "stateRight", inPlace := ["internal/bytealg.abigen_runtime_cmpstring"], unfollowed := true, recurses := true, apart := false, narrowed := true }
def StateRightUptoSaid : Prop := stateRightUptoRow.holds Tryz.pinned (OpenSpec.upto stateRightSpec)

/-- 'afterglowlaw11.StateErases', WHERE WHAT IT READS IS OF BULK AT MOST 1048576: true; the input reads as it did. -/
def stateErasesUptoRow : OpenClaim := { program := "ytjhdhfokhkcamaagreat", sum := "523fea7771549fa839916c5c8dbc1c1ef5a636ceb26ca2c9e16c9114397af69a", func := "afterglow/afterglowlaw11.StateErases", spec := "stateErases", inPlace := ["internal/bytealg.abigen_runtime_cmpstring"], unfollowed := true, recurses := true, apart := false, narrowed := true }
def StateErasesUptoSaid : Prop := stateErasesUptoRow.holds Tryz.pinned (OpenSpec.upto stateErasesSpec)

/-- 'afterglowlaw11.StateOthers', WHERE WHAT IT READS IS OF BULK AT MOST 1048576: true; the input reads as it did. -/
def stateOthersUptoRow : OpenClaim := { program := "ytjhdhfokhkcamaagreat", sum := "523fea7771549fa839916c5c8dbc1c1ef5a636ceb26ca2c9e16c9114397af69a", func := "afterglow/afterglowlaw11.StateOthers", spec := "stateOthers", inPlace := ["internal/bytealg.abigen_runtime_cmpstring"], unfollowed := true, recurses := true, apart := false, narrowed := true }
def StateOthersUptoSaid : Prop := stateOthersUptoRow.holds Tryz.pinned (OpenSpec.upto stateOthersSpec)

/-- 'afterglowlaw11.StateGrows', WHERE WHAT IT READS IS OF BULK AT MOST 1048576: true; the input reads as it did. -/
def stateGrowsUptoRow : OpenClaim := { program := "ytjhdhfokhkcamaagreat", sum := "523fea7771549fa839916c5c8dbc1c1ef5a636ceb26ca2c9e16c9114397af69a", func := "afterglow/afterglowlaw11.StateGrows", spec := "stateGrows", inPlace := ["internal/bytealg.abigen_runtime_cmpstring"], unfollowed := true, recurses := true, apart := false, narrowed := true }
def StateGrowsUptoSaid : Prop := stateGrowsUptoRow.holds Tryz.pinned (OpenSpec.upto stateGrowsSpec)

/-- 'afterglowlaw11.StatePrunes', WHERE WHAT IT READS IS OF BULK AT MOST 1048576: true; the input reads as it did. -/
def statePrunesUptoRow : OpenClaim := { program := "ytjhdhfokhkcamaagreat", sum := "523fea7771549fa839916c5c8dbc1c1ef5a636ceb26ca2c9e16c9114397af69a", func := "afterglow/afterglowlaw11.StatePrunes", spec := "statePrunes", inPlace := ["internal/bytealg.abigen_runtime_cmpstring"], unfollowed := true, recurses := true, apart := false, narrowed := true }
def StatePrunesUptoSaid : Prop := statePrunesUptoRow.holds Tryz.pinned (OpenSpec.upto statePrunesSpec)

end Rows
end Go.Proofs.YtjhdhfokhkcamaaGreat
