/-
  DERIVED. GIVEN WITH THE SEED: THE CARDS: each row of YtollhemkjnkalaaDoorRows.lean that lists a variable, with what it lists TIED to the program's text (the seventh form; the later family's looks); each row that meets fmt, with fmt's text TOLD by the authors' own Lean function (tested against real Go, not proved from fmt's source: count such statements apart). THE CARD IS WHAT COUNTS. Prove the row's statement (the work); the ties are given (YtollhemkjnkalaaDoorTie.lean); close each card by the builder's one call (the guide's Derived/Test/ToyasCard.lean, 'card_holds'). Laid BY PROGRAM, IN A SANDBOX (cutbox-door.mjs). By AI agents, Wed Nov 11 2026. No macro, syntax, notation, axiom, sorry.
-/
import Derived.Test.YtollhemkjnkalaaDoorRows
import GoSem.ClaimSeven
namespace Go.Proofs.YtollhemkjnkalaaDoor
namespace Rows

/-- THE TIED CARD OF 'afterglowlaw06.EventRight'. -/
def eventRightCard : Claim7 := { stood := { row := eventRightRow, standIns := [], harness := (true, "ec0c2dcdd3fa7c7587d3adbafa98e318032a36588c47df2d358fb737a124c5da"), looks := false }, kinds := [], alts := [], laidByText := true, laidKinds := [.data, .data, .data, .data, .pinned], laidTests := true, laidLooks := .later }
def EventRightCardSaid : Prop := Claim7.holds Tryd.pinned (.plain (OpenSpec.ofChange eventRightSpec)) eventRightCard

/-- THE TIED CARD OF 'afterglowlaw06.EventFrames'. -/
def eventFramesCard : Claim7 := { stood := { row := eventFramesRow, standIns := [], harness := (true, "ec0c2dcdd3fa7c7587d3adbafa98e318032a36588c47df2d358fb737a124c5da"), looks := false }, kinds := [], alts := [], laidByText := true, laidKinds := [.data, .data, .data, .data, .pinned], laidTests := true, laidLooks := .later }
def EventFramesCardSaid : Prop := Claim7.holds Tryd.pinned (.plain (OpenSpec.ofChange eventFramesSpec)) eventFramesCard

/-- THE TIED CARD OF 'afterglowlaw06.EventOf'. -/
def eventOfCard : Claim7 := { stood := { row := eventOfRow, standIns := [], harness := (true, "ec0c2dcdd3fa7c7587d3adbafa98e318032a36588c47df2d358fb737a124c5da"), looks := false }, kinds := [], alts := [], laidByText := true, laidKinds := [.data, .data, .data, .data, .pinned], laidTests := true, laidLooks := .later }
def EventOfCardSaid : Prop := Claim7.holds Tryd.pinned (.plain (OpenSpec.ofChange eventOfSpec)) eventOfCard

/-- THE TIED CARD OF 'afterglowlaw06.EventApart'. -/
def eventApartCard : Claim7 := { stood := { row := eventApartRow, standIns := [], harness := (true, "ec0c2dcdd3fa7c7587d3adbafa98e318032a36588c47df2d358fb737a124c5da"), looks := false }, kinds := [], alts := [], laidByText := true, laidKinds := [.data, .data, .data, .data, .pinned], laidTests := true, laidLooks := .later }
def EventApartCardSaid : Prop := Claim7.holds Tryd.pinned (.plain (OpenSpec.ofChange eventApartSpec)) eventApartCard

/-- THE TIED CARD OF 'afterglowlaw06.EventFinds'. -/
def eventFindsCard : Claim7 := { stood := { row := eventFindsRow, standIns := [], harness := (true, "ec0c2dcdd3fa7c7587d3adbafa98e318032a36588c47df2d358fb737a124c5da"), looks := false }, kinds := [], alts := [], laidByText := true, laidKinds := [.data, .data, .data, .data, .pinned], laidTests := true, laidLooks := .later }
def EventFindsCardSaid : Prop := Claim7.holds Tryd.pinned (.plain (OpenSpec.ofChange eventFindsSpec)) eventFindsCard

/-- THE SECOND FORM's CARD OF 'afterglowlaw06.EventRight'. -/
def eventRightUptoCard : Claim7 := { stood := { row := eventRightUptoRow, standIns := [], harness := (true, "ec0c2dcdd3fa7c7587d3adbafa98e318032a36588c47df2d358fb737a124c5da"), looks := false }, kinds := [], alts := [], laidByText := true, laidKinds := [.data, .data, .data, .data, .pinned], laidTests := true, laidLooks := .later }
def EventRightUptoCardSaid : Prop := Claim7.holds Tryd.pinned (.plain (OpenSpec.upto eventRightSpec)) eventRightUptoCard

/-- THE SECOND FORM's CARD OF 'afterglowlaw06.EventFrames'. -/
def eventFramesUptoCard : Claim7 := { stood := { row := eventFramesUptoRow, standIns := [], harness := (true, "ec0c2dcdd3fa7c7587d3adbafa98e318032a36588c47df2d358fb737a124c5da"), looks := false }, kinds := [], alts := [], laidByText := true, laidKinds := [.data, .data, .data, .data, .pinned], laidTests := true, laidLooks := .later }
def EventFramesUptoCardSaid : Prop := Claim7.holds Tryd.pinned (.plain (OpenSpec.upto eventFramesSpec)) eventFramesUptoCard

/-- THE SECOND FORM's CARD OF 'afterglowlaw06.EventOf'. -/
def eventOfUptoCard : Claim7 := { stood := { row := eventOfUptoRow, standIns := [], harness := (true, "ec0c2dcdd3fa7c7587d3adbafa98e318032a36588c47df2d358fb737a124c5da"), looks := false }, kinds := [], alts := [], laidByText := true, laidKinds := [.data, .data, .data, .data, .pinned], laidTests := true, laidLooks := .later }
def EventOfUptoCardSaid : Prop := Claim7.holds Tryd.pinned (.plain (OpenSpec.upto eventOfSpec)) eventOfUptoCard

/-- THE SECOND FORM's CARD OF 'afterglowlaw06.EventApart'. -/
def eventApartUptoCard : Claim7 := { stood := { row := eventApartUptoRow, standIns := [], harness := (true, "ec0c2dcdd3fa7c7587d3adbafa98e318032a36588c47df2d358fb737a124c5da"), looks := false }, kinds := [], alts := [], laidByText := true, laidKinds := [.data, .data, .data, .data, .pinned], laidTests := true, laidLooks := .later }
def EventApartUptoCardSaid : Prop := Claim7.holds Tryd.pinned (.plain (OpenSpec.upto eventApartSpec)) eventApartUptoCard

/-- THE SECOND FORM's CARD OF 'afterglowlaw06.EventFinds'. -/
def eventFindsUptoCard : Claim7 := { stood := { row := eventFindsUptoRow, standIns := [], harness := (true, "ec0c2dcdd3fa7c7587d3adbafa98e318032a36588c47df2d358fb737a124c5da"), looks := false }, kinds := [], alts := [], laidByText := true, laidKinds := [.data, .data, .data, .data, .pinned], laidTests := true, laidLooks := .later }
def EventFindsUptoCardSaid : Prop := Claim7.holds Tryd.pinned (.plain (OpenSpec.upto eventFindsSpec)) eventFindsUptoCard
end Rows
end Go.Proofs.YtollhemkjnkalaaDoor
