/-
  No cell of these rows narrows 'for every input' (looked for: loops, veiled, ifaces, maps, wideKeys, modest, calm, conditions, laid).
  DERIVED. THE GIVEN ROWS OF THIS SEAT. 7 by the template 'for every input the law returns true; each argument reads behind the call as it read before'; 0 by the template 'total and deterministic' (their statements: YtlgicjebaehgeaaTotals.lean).
  GIVEN WITH THE SEED: the statements are not yours to turn. If you find one false, say at which input.
  Laid BY PROGRAM, IN A SANDBOX (cutbox-rows.mjs): the forced cells as the released guide's own fill.sh prints them over the translation 0f1a7892ca6d2c35… (all of the seat's roots in one cut). By AI agents, Wed Nov 11 2026. No macro, syntax, notation, axiom, sorry.
-/
import Derived.Test.YtlgicjebaehgeaaChecked
import GoSem.Claim
import GoSem.ClaimJoined
import GoSem.ClaimMapViews
import Derived.JoinedTies
import Derived.KernelRfl
namespace Go.Proofs.Ytlgicjebaehgeaa
/- THE CELL 'sum', in the pinned program and in every row, IS THE sha256 OF THE DUMP (.gsa) THAT YtlgicjebaehgeaaProg.lean LOADS. Nothing in Lean hashes anything: it is a label: what it is worth is what the hold of that sum in a sandbox is worth. -/
noncomputable def Try.pinned : Pinned := { name := "ytlgicjebaehgeaa", sum := "0f1a7892ca6d2c359e53ebffe4a52e3cc0ff2e1690e5a9a1d12ff49c1faba509", checked := Try.checked }
namespace Rows
def none {H : Type} : Left H := { results := [], args := [] }

/-- 'afterglowlaw10.SessOpens': WHATEVER THE INPUT: true; the input reads as it did. -/
def sessOpensSpec : ChangeSpec := { name := "sessOpens", fn := fun _ => fun
  | [d1, d2] => { results := [.lit (.bool true)], args := [d1, d2] }
  | _ => none }
def sessOpensRow : OpenClaim := { program := "ytlgicjebaehgeaa", sum := "0f1a7892ca6d2c359e53ebffe4a52e3cc0ff2e1690e5a9a1d12ff49c1faba509", func := "afterglow/afterglowlaw10.SessOpens", spec := "sessOpens", inPlace := ["internal/bytealg.abigen_runtime_cmpstring"], unfollowed := true, recurses := true, apart := false }
def SessOpensSaid : Prop := sessOpensRow.holds Try.pinned (OpenSpec.ofChange sessOpensSpec)

/-- ITS FALSE NEIGHBOUR: 'it returns false'. Refute it at one input. -/
def sessOpensWrong : ChangeSpec := { name := "sessOpens", fn := fun _ => fun
  | [d1, d2] => { results := [.lit (.bool false)], args := [d1, d2] }
  | _ => none }
def SessOpensWrongFalsely : Prop := sessOpensRow.holds Try.pinned (OpenSpec.ofChange sessOpensWrong)

/-- 'afterglowlaw10.SessChanges': WHATEVER THE INPUT: true; the input reads as it did. -/
def sessChangesSpec : ChangeSpec := { name := "sessChanges", fn := fun _ => fun
  | [d1, d2] => { results := [.lit (.bool true)], args := [d1, d2] }
  | _ => none }
def sessChangesRow : OpenClaim := { program := "ytlgicjebaehgeaa", sum := "0f1a7892ca6d2c359e53ebffe4a52e3cc0ff2e1690e5a9a1d12ff49c1faba509", func := "afterglow/afterglowlaw10.SessChanges", spec := "sessChanges", inPlace := ["internal/bytealg.abigen_runtime_cmpstring"], unfollowed := true, recurses := true, apart := false }
def SessChangesSaid : Prop := sessChangesRow.holds Try.pinned (OpenSpec.ofChange sessChangesSpec)

/-- ITS FALSE NEIGHBOUR: 'it returns false'. Refute it at one input. -/
def sessChangesWrong : ChangeSpec := { name := "sessChanges", fn := fun _ => fun
  | [d1, d2] => { results := [.lit (.bool false)], args := [d1, d2] }
  | _ => none }
def SessChangesWrongFalsely : Prop := sessChangesRow.holds Try.pinned (OpenSpec.ofChange sessChangesWrong)

/-- 'afterglowlaw10.SessCloses': WHATEVER THE INPUT: true; the input reads as it did. -/
def sessClosesSpec : ChangeSpec := { name := "sessCloses", fn := fun _ => fun
  | [d1, d2] => { results := [.lit (.bool true)], args := [d1, d2] }
  | _ => none }
def sessClosesRow : OpenClaim := { program := "ytlgicjebaehgeaa", sum := "0f1a7892ca6d2c359e53ebffe4a52e3cc0ff2e1690e5a9a1d12ff49c1faba509", func := "afterglow/afterglowlaw10.SessCloses", spec := "sessCloses", inPlace := ["internal/bytealg.abigen_runtime_cmpstring"], unfollowed := true, recurses := true, apart := false }
def SessClosesSaid : Prop := sessClosesRow.holds Try.pinned (OpenSpec.ofChange sessClosesSpec)

/-- ITS FALSE NEIGHBOUR: 'it returns false'. Refute it at one input. -/
def sessClosesWrong : ChangeSpec := { name := "sessCloses", fn := fun _ => fun
  | [d1, d2] => { results := [.lit (.bool false)], args := [d1, d2] }
  | _ => none }
def SessClosesWrongFalsely : Prop := sessClosesRow.holds Try.pinned (OpenSpec.ofChange sessClosesWrong)

/-- 'afterglowlaw10.SessTells': WHATEVER THE INPUT: true; the input reads as it did. -/
def sessTellsSpec : ChangeSpec := { name := "sessTells", fn := fun _ => fun
  | [d1, d2, d3] => { results := [.lit (.bool true)], args := [d1, d2, d3] }
  | _ => none }
def sessTellsRow : OpenClaim := { program := "ytlgicjebaehgeaa", sum := "0f1a7892ca6d2c359e53ebffe4a52e3cc0ff2e1690e5a9a1d12ff49c1faba509", func := "afterglow/afterglowlaw10.SessTells", spec := "sessTells", inPlace := ["internal/bytealg.abigen_runtime_cmpstring"], unfollowed := true, recurses := true, apart := false }
def SessTellsSaid : Prop := sessTellsRow.holds Try.pinned (OpenSpec.ofChange sessTellsSpec)

/-- ITS FALSE NEIGHBOUR: 'it returns false'. Refute it at one input. -/
def sessTellsWrong : ChangeSpec := { name := "sessTells", fn := fun _ => fun
  | [d1, d2, d3] => { results := [.lit (.bool false)], args := [d1, d2, d3] }
  | _ => none }
def SessTellsWrongFalsely : Prop := sessTellsRow.holds Try.pinned (OpenSpec.ofChange sessTellsWrong)

/-- 'afterglowlaw10.SessWhole': WHATEVER THE INPUT: true; the input reads as it did. -/
def sessWholeSpec : ChangeSpec := { name := "sessWhole", fn := fun _ => fun
  | [d1, d2, d3] => { results := [.lit (.bool true)], args := [d1, d2, d3] }
  | _ => none }
def sessWholeRow : OpenClaim := { program := "ytlgicjebaehgeaa", sum := "0f1a7892ca6d2c359e53ebffe4a52e3cc0ff2e1690e5a9a1d12ff49c1faba509", func := "afterglow/afterglowlaw10.SessWhole", spec := "sessWhole", inPlace := ["internal/bytealg.abigen_runtime_cmpstring"], unfollowed := true, recurses := true, apart := false }
def SessWholeSaid : Prop := sessWholeRow.holds Try.pinned (OpenSpec.ofChange sessWholeSpec)

/-- ITS FALSE NEIGHBOUR: 'it returns false'. Refute it at one input. -/
def sessWholeWrong : ChangeSpec := { name := "sessWhole", fn := fun _ => fun
  | [d1, d2, d3] => { results := [.lit (.bool false)], args := [d1, d2, d3] }
  | _ => none }
def SessWholeWrongFalsely : Prop := sessWholeRow.holds Try.pinned (OpenSpec.ofChange sessWholeWrong)

/-- 'afterglowlaw10.SessOthers': WHATEVER THE INPUT: true; the input reads as it did. -/
def sessOthersSpec : ChangeSpec := { name := "sessOthers", fn := fun _ => fun
  | [d1, d2, d3] => { results := [.lit (.bool true)], args := [d1, d2, d3] }
  | _ => none }
def sessOthersRow : OpenClaim := { program := "ytlgicjebaehgeaa", sum := "0f1a7892ca6d2c359e53ebffe4a52e3cc0ff2e1690e5a9a1d12ff49c1faba509", func := "afterglow/afterglowlaw10.SessOthers", spec := "sessOthers", inPlace := ["internal/bytealg.abigen_runtime_cmpstring"], unfollowed := true, recurses := true, apart := false }
def SessOthersSaid : Prop := sessOthersRow.holds Try.pinned (OpenSpec.ofChange sessOthersSpec)

/-- ITS FALSE NEIGHBOUR: 'it returns false'. Refute it at one input. -/
def sessOthersWrong : ChangeSpec := { name := "sessOthers", fn := fun _ => fun
  | [d1, d2, d3] => { results := [.lit (.bool false)], args := [d1, d2, d3] }
  | _ => none }
def SessOthersWrongFalsely : Prop := sessOthersRow.holds Try.pinned (OpenSpec.ofChange sessOthersWrong)

/-- 'afterglowlaw10.SessBack': WHATEVER THE INPUT: true; the input reads as it did. -/
def sessBackSpec : ChangeSpec := { name := "sessBack", fn := fun _ => fun
  | [d1, d2] => { results := [.lit (.bool true)], args := [d1, d2] }
  | _ => none }
def sessBackRow : OpenClaim := { program := "ytlgicjebaehgeaa", sum := "0f1a7892ca6d2c359e53ebffe4a52e3cc0ff2e1690e5a9a1d12ff49c1faba509", func := "afterglow/afterglowlaw10.SessBack", spec := "sessBack", inPlace := ["internal/bytealg.abigen_runtime_cmpstring"], unfollowed := true, recurses := true, apart := false }
def SessBackSaid : Prop := sessBackRow.holds Try.pinned (OpenSpec.ofChange sessBackSpec)

/-- ITS FALSE NEIGHBOUR: 'it returns false'. Refute it at one input. -/
def sessBackWrong : ChangeSpec := { name := "sessBack", fn := fun _ => fun
  | [d1, d2] => { results := [.lit (.bool false)], args := [d1, d2] }
  | _ => none }
def SessBackWrongFalsely : Prop := sessBackRow.holds Try.pinned (OpenSpec.ofChange sessBackWrong)

/- THE SECOND FORM. 'bulk': how many values and letters a reading holds, each counted each time it is reached (what is shared counts as often as it is met; a slice's spare places count too). A statement '..UptoSaid' is the law's where the arguments, and the package variables that the reading takes, are together of bulk at most 1048576: NARROWER than '..Said'. Prove '..Said' where nothing that the law and all that it calls make is longer than what came in: it says more and counts as full. Else prove '..UptoSaid'. A law counts once. -/
mutual
def uptoBulk {H : Type} : DataW H → Nat
  | .lit (.string bytes) => bytes.length + 1
  | .lit _ => 1
  | .nil => 1
  | .ptr d => uptoBulk d + 1
  | .slice elems spare => uptoBulkAll elems + uptoBulkAll spare + 1
  | .agg parts => uptoBulkAll parts + 1
  | .iface _ d => uptoBulk d + 1
  | .map entries => uptoBulkEntries entries + 1
  | .held _ => 1
def uptoBulkAll {H : Type} : List (DataW H) → Nat
  | [] => 0
  | d :: r => uptoBulk d + uptoBulkAll r
def uptoBulkEntries {H : Type} : List (Lit × DataW H) → Nat
  | [] => 0
  | x :: r => uptoBulkEntry x + uptoBulkEntries r
def uptoBulkEntry {H : Type} : Lit × DataW H → Nat
  | (.string bytes, d) => bytes.length + uptoBulk d + 1
  | (_, d) => uptoBulk d + 1
 end
def uptoSmall : (H : Type) → List (DataW H) → Bool := fun _ ds => decide (uptoBulkAll ds ≤ 1048576)
def OpenSpec.upto (s : _root_.Go.ChangeSpec) : _root_.Go.OpenSpec := { _root_.Go.OpenSpec.ofChange s with cond := some uptoSmall }

/-- 'afterglowlaw10.SessOpens', WHERE WHAT IT READS IS OF BULK AT MOST 1048576: true; the input reads as it did. -/
def sessOpensUptoRow : OpenClaim := { program := "ytlgicjebaehgeaa", sum := "0f1a7892ca6d2c359e53ebffe4a52e3cc0ff2e1690e5a9a1d12ff49c1faba509", func := "afterglow/afterglowlaw10.SessOpens", spec := "sessOpens", inPlace := ["internal/bytealg.abigen_runtime_cmpstring"], unfollowed := true, recurses := true, apart := false, narrowed := true }
def SessOpensUptoSaid : Prop := sessOpensUptoRow.holds Try.pinned (OpenSpec.upto sessOpensSpec)

/-- 'afterglowlaw10.SessChanges', WHERE WHAT IT READS IS OF BULK AT MOST 1048576: true; the input reads as it did. -/
def sessChangesUptoRow : OpenClaim := { program := "ytlgicjebaehgeaa", sum := "0f1a7892ca6d2c359e53ebffe4a52e3cc0ff2e1690e5a9a1d12ff49c1faba509", func := "afterglow/afterglowlaw10.SessChanges", spec := "sessChanges", inPlace := ["internal/bytealg.abigen_runtime_cmpstring"], unfollowed := true, recurses := true, apart := false, narrowed := true }
def SessChangesUptoSaid : Prop := sessChangesUptoRow.holds Try.pinned (OpenSpec.upto sessChangesSpec)

/-- 'afterglowlaw10.SessCloses', WHERE WHAT IT READS IS OF BULK AT MOST 1048576: true; the input reads as it did. -/
def sessClosesUptoRow : OpenClaim := { program := "ytlgicjebaehgeaa", sum := "0f1a7892ca6d2c359e53ebffe4a52e3cc0ff2e1690e5a9a1d12ff49c1faba509", func := "afterglow/afterglowlaw10.SessCloses", spec := "sessCloses", inPlace := ["internal/bytealg.abigen_runtime_cmpstring"], unfollowed := true, recurses := true, apart := false, narrowed := true }
def SessClosesUptoSaid : Prop := sessClosesUptoRow.holds Try.pinned (OpenSpec.upto sessClosesSpec)

/-- 'afterglowlaw10.SessTells', WHERE WHAT IT READS IS OF BULK AT MOST 1048576: true; the input reads as it did. -/
def sessTellsUptoRow : OpenClaim := { program := "ytlgicjebaehgeaa", sum := "0f1a7892ca6d2c359e53ebffe4a52e3cc0ff2e1690e5a9a1d12ff49c1faba509", func := "afterglow/afterglowlaw10.SessTells", spec := "sessTells", inPlace := ["internal/bytealg.abigen_runtime_cmpstring"], unfollowed := true, recurses := true, apart := false, narrowed := true }
def SessTellsUptoSaid : Prop := sessTellsUptoRow.holds Try.pinned (OpenSpec.upto sessTellsSpec)

/-- 'afterglowlaw10.SessWhole', WHERE WHAT IT READS IS OF BULK AT MOST 1048576: true; the input reads as it did. -/
def sessWholeUptoRow : OpenClaim := { program := "ytlgicjebaehgeaa", sum := "0f1a7892ca6d2c359e53ebffe4a52e3cc0ff2e1690e5a9a1d12ff49c1faba509", func := "afterglow/afterglowlaw10.SessWhole", spec := "sessWhole", inPlace := ["internal/bytealg.abigen_runtime_cmpstring"], unfollowed := true, recurses := true, apart := false, narrowed := true }
def SessWholeUptoSaid : Prop := sessWholeUptoRow.holds Try.pinned (OpenSpec.upto sessWholeSpec)

/-- 'afterglowlaw10.SessOthers', WHERE WHAT IT READS IS OF BULK AT MOST 1048576: true; the input reads as it did. -/
def sessOthersUptoRow : OpenClaim := { program := "ytlgicjebaehgeaa", sum := "0f1a7892ca6d2c359e53ebffe4a52e3cc0ff2e1690e5a9a1d12ff49c1faba509", func := "afterglow/afterglowlaw10.SessOthers", spec := "sessOthers", inPlace := ["internal/bytealg.abigen_runtime_cmpstring"], unfollowed := true, recurses := true, apart := false, narrowed := true }
def SessOthersUptoSaid : Prop := sessOthersUptoRow.holds Try.pinned (OpenSpec.upto sessOthersSpec)

/-- 'afterglowlaw10.SessBack', WHERE WHAT IT READS IS OF BULK AT MOST 1048576: true; the input reads as it did. -/
def sessBackUptoRow : OpenClaim := { program := "ytlgicjebaehgeaa", sum := "0f1a7892ca6d2c359e53ebffe4a52e3cc0ff2e1690e5a9a1d12ff49c1faba509", func := "afterglow/afterglowlaw10.SessBack", spec := "sessBack", inPlace := ["internal/bytealg.abigen_runtime_cmpstring"], unfollowed := true, recurses := true, apart := false, narrowed := true }
def SessBackUptoSaid : Prop := sessBackUptoRow.holds Try.pinned (OpenSpec.upto sessBackSpec)

end Rows
end Go.Proofs.Ytlgicjebaehgeaa
