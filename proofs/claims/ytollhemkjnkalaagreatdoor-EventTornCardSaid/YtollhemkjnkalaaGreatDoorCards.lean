/-
  DERIVED. GIVEN WITH THE SEED: THE CARDS: each row of YtollhemkjnkalaaGreatDoorRows.lean that lists a variable, with what it lists TIED to the program's text (the seventh form; the later family's looks); each row that meets fmt, with fmt's text TOLD by the authors' own Lean function (tested against real Go, not proved from fmt's source: count such statements apart). THE CARD IS WHAT COUNTS. Prove the row's statement (the work); the ties are given (YtollhemkjnkalaaGreatDoorTie.lean); close each card by the builder's one call (the guide's Derived/Test/ToyasCard.lean, 'card_holds'). Laid BY PROGRAM, IN A SANDBOX (cutbox-door.mjs). By AI agents, Wed Nov 11 2026. No macro, syntax, notation, axiom, sorry.
-/
import Derived.Test.YtollhemkjnkalaaGreatDoorRows
import GoSem.ClaimSeven
namespace Go.Proofs.YtollhemkjnkalaaGreatDoor
namespace Rows

/-- THE TIED CARD OF 'afterglowlaw06.EventPacks'. -/
def eventPacksCard : Claim7 := { stood := { row := eventPacksRow, standIns := [], harness := (true, "fbbee6c09df63be0f851c8bdc61e1d474021e165fec3bd9cbb136f4f627d9bac"), looks := false }, kinds := [], alts := [], laidByText := true, laidKinds := [.data, .data, .data, .data, .pinned], laidTests := true, laidLooks := .later }
def EventPacksCardSaid : Prop := Claim7.holds Tryz.pinned (.plain (OpenSpec.ofChange eventPacksSpec)) eventPacksCard

/-- THE TIED CARD OF 'afterglowlaw06.EventReads'. -/
def eventReadsCard : Claim7 := { stood := { row := eventReadsRow, standIns := [], harness := (true, "fbbee6c09df63be0f851c8bdc61e1d474021e165fec3bd9cbb136f4f627d9bac"), looks := false }, kinds := [], alts := [], laidByText := true, laidKinds := [.data, .data, .data, .data, .pinned], laidTests := true, laidLooks := .later }
def EventReadsCardSaid : Prop := Claim7.holds Tryz.pinned (.plain (OpenSpec.ofChange eventReadsSpec)) eventReadsCard

/-- THE TIED CARD OF 'afterglowlaw06.EventTorn'. -/
def eventTornCard : Claim7 := { stood := { row := eventTornRow, standIns := [], harness := (true, "fbbee6c09df63be0f851c8bdc61e1d474021e165fec3bd9cbb136f4f627d9bac"), looks := false }, kinds := [], alts := [], laidByText := true, laidKinds := [.data, .data, .data, .data, .pinned], laidTests := true, laidLooks := .later }
def EventTornCardSaid : Prop := Claim7.holds Tryz.pinned (.plain (OpenSpec.ofChange eventTornSpec)) eventTornCard

/-- THE SECOND FORM's CARD OF 'afterglowlaw06.EventPacks'. -/
def eventPacksUptoCard : Claim7 := { stood := { row := eventPacksUptoRow, standIns := [], harness := (true, "fbbee6c09df63be0f851c8bdc61e1d474021e165fec3bd9cbb136f4f627d9bac"), looks := false }, kinds := [], alts := [], laidByText := true, laidKinds := [.data, .data, .data, .data, .pinned], laidTests := true, laidLooks := .later }
def EventPacksUptoCardSaid : Prop := Claim7.holds Tryz.pinned (.plain (OpenSpec.upto eventPacksSpec)) eventPacksUptoCard

/-- THE SECOND FORM's CARD OF 'afterglowlaw06.EventReads'. -/
def eventReadsUptoCard : Claim7 := { stood := { row := eventReadsUptoRow, standIns := [], harness := (true, "fbbee6c09df63be0f851c8bdc61e1d474021e165fec3bd9cbb136f4f627d9bac"), looks := false }, kinds := [], alts := [], laidByText := true, laidKinds := [.data, .data, .data, .data, .pinned], laidTests := true, laidLooks := .later }
def EventReadsUptoCardSaid : Prop := Claim7.holds Tryz.pinned (.plain (OpenSpec.upto eventReadsSpec)) eventReadsUptoCard

/-- THE SECOND FORM's CARD OF 'afterglowlaw06.EventTorn'. -/
def eventTornUptoCard : Claim7 := { stood := { row := eventTornUptoRow, standIns := [], harness := (true, "fbbee6c09df63be0f851c8bdc61e1d474021e165fec3bd9cbb136f4f627d9bac"), looks := false }, kinds := [], alts := [], laidByText := true, laidKinds := [.data, .data, .data, .data, .pinned], laidTests := true, laidLooks := .later }
def EventTornUptoCardSaid : Prop := Claim7.holds Tryz.pinned (.plain (OpenSpec.upto eventTornSpec)) eventTornUptoCard
end Rows
end Go.Proofs.YtollhemkjnkalaaGreatDoor
