/-
  DERIVED. GIVEN WITH THE SEED: THE CARDS: each row of YtnboagmibhllpaaGreatDoorRows.lean that lists a variable, with what it lists TIED to the program's text (the seventh form; the later family's looks); each row that meets fmt, with fmt's text TOLD by the authors' own Lean function (tested against real Go, not proved from fmt's source: count such statements apart). THE CARD IS WHAT COUNTS. Prove the row's statement (the work); the ties are given (YtnboagmibhllpaaGreatDoorTie.lean); close each card by the builder's one call (the guide's Derived/Test/ToyasCard.lean, 'card_holds'). Laid BY PROGRAM, IN A SANDBOX (cutbox-door.mjs). By AI agents, Wed Nov 11 2026. No macro, syntax, notation, axiom, sorry.
-/
import Derived.Test.YtnboagmibhllpaaGreatDoorRows
import GoSem.ClaimSeven
namespace Go.Proofs.YtnboagmibhllpaaGreatDoor
namespace Rows

/-- THE TIED CARD OF 'sacristylaw10.RootTells'. -/
def rootTellsCard : Claim7 := { stood := { row := rootTellsRow, standIns := [], harness := (true, "615e4fe8f2b2466ce2b2cc0d17f31763e9137642ebfc6187f09332c26cf4e6d0"), looks := true }, kinds := [], alts := [], laidByText := true, laidKinds := [.data, .data, .data, .data, .sentinel, .sentinel, .sentinel, .sentinel, .sentinel, .sentinel, .pinned], laidTests := true, laidLooks := .later }
def RootTellsCardSaid : Prop := Claim7.holds Tryz.pinned (.plain (OpenSpec.ofChange rootTellsSpec)) rootTellsCard

/-- THE TIED CARD OF 'sacristylaw10.RootBack'. -/
def rootBackCard : Claim7 := { stood := { row := rootBackRow, standIns := [], harness := (true, "615e4fe8f2b2466ce2b2cc0d17f31763e9137642ebfc6187f09332c26cf4e6d0"), looks := true }, kinds := [], alts := [], laidByText := true, laidKinds := [.data, .data, .data, .data, .sentinel, .sentinel, .sentinel, .sentinel, .sentinel, .sentinel, .pinned], laidTests := true, laidLooks := .later }
def RootBackCardSaid : Prop := Claim7.holds Tryz.pinned (.plain (OpenSpec.ofChange rootBackSpec)) rootBackCard

/-- THE TIED CARD OF 'sacristylaw10.RootCut'. -/
def rootCutCard : Claim7 := { stood := { row := rootCutRow, standIns := [], harness := (true, "615e4fe8f2b2466ce2b2cc0d17f31763e9137642ebfc6187f09332c26cf4e6d0"), looks := true }, kinds := [], alts := [], laidByText := true, laidKinds := [.data, .data, .data, .data, .sentinel, .sentinel, .sentinel, .sentinel, .sentinel, .sentinel, .pinned], laidTests := true, laidLooks := .later }
def RootCutCardSaid : Prop := Claim7.holds Tryz.pinned (.plain (OpenSpec.ofChange rootCutSpec)) rootCutCard

/-- THE TIED CARD OF 'sacristylaw10.RootLess'. -/
def rootLessCard : Claim7 := { stood := { row := rootLessRow, standIns := [], harness := (true, "615e4fe8f2b2466ce2b2cc0d17f31763e9137642ebfc6187f09332c26cf4e6d0"), looks := true }, kinds := [], alts := [], laidByText := true, laidKinds := [.data, .data, .data, .data, .sentinel, .sentinel, .sentinel, .sentinel, .sentinel, .sentinel, .pinned], laidTests := true, laidLooks := .later }
def RootLessCardSaid : Prop := Claim7.holds Tryz.pinned (.plain (OpenSpec.ofChange rootLessSpec)) rootLessCard

/-- THE TIED CARD OF 'sacristylaw10.RootForks'. -/
def rootForksCard : Claim7 := { stood := { row := rootForksRow, standIns := [], harness := (true, "615e4fe8f2b2466ce2b2cc0d17f31763e9137642ebfc6187f09332c26cf4e6d0"), looks := true }, kinds := [], alts := [], laidByText := true, laidKinds := [.data, .data, .data, .data, .sentinel, .sentinel, .sentinel, .sentinel, .sentinel, .sentinel, .pinned], laidTests := true, laidLooks := .later }
def RootForksCardSaid : Prop := Claim7.holds Tryz.pinned (.plain (OpenSpec.ofChange rootForksSpec)) rootForksCard

/-- THE TIED CARD OF 'sacristylaw10.RootLines'. -/
def rootLinesCard : Claim7 := { stood := { row := rootLinesRow, standIns := [], harness := (true, "615e4fe8f2b2466ce2b2cc0d17f31763e9137642ebfc6187f09332c26cf4e6d0"), looks := true }, kinds := [], alts := [], laidByText := true, laidKinds := [.data, .data, .data, .data, .sentinel, .sentinel, .sentinel, .sentinel, .sentinel, .sentinel, .pinned], laidTests := true, laidLooks := .later }
def RootLinesCardSaid : Prop := Claim7.holds Tryz.pinned (.plain (OpenSpec.ofChange rootLinesSpec)) rootLinesCard

/-- THE TIED CARD OF 'sacristylaw10.RootNames'. -/
def rootNamesCard : Claim7 := { stood := { row := rootNamesRow, standIns := [], harness := (true, "615e4fe8f2b2466ce2b2cc0d17f31763e9137642ebfc6187f09332c26cf4e6d0"), looks := true }, kinds := [], alts := [], laidByText := true, laidKinds := [.data, .data, .data, .data, .sentinel, .sentinel, .sentinel, .sentinel, .sentinel, .sentinel, .pinned], laidTests := true, laidLooks := .later }
def RootNamesCardSaid : Prop := Claim7.holds Tryz.pinned (.plain (OpenSpec.ofChange rootNamesSpec)) rootNamesCard

/-- THE SECOND FORM's CARD OF 'sacristylaw10.RootTells'. -/
def rootTellsUptoCard : Claim7 := { stood := { row := rootTellsUptoRow, standIns := [], harness := (true, "615e4fe8f2b2466ce2b2cc0d17f31763e9137642ebfc6187f09332c26cf4e6d0"), looks := true }, kinds := [], alts := [], laidByText := true, laidKinds := [.data, .data, .data, .data, .sentinel, .sentinel, .sentinel, .sentinel, .sentinel, .sentinel, .pinned], laidTests := true, laidLooks := .later }
def RootTellsUptoCardSaid : Prop := Claim7.holds Tryz.pinned (.plain (OpenSpec.upto rootTellsSpec)) rootTellsUptoCard

/-- THE SECOND FORM's CARD OF 'sacristylaw10.RootBack'. -/
def rootBackUptoCard : Claim7 := { stood := { row := rootBackUptoRow, standIns := [], harness := (true, "615e4fe8f2b2466ce2b2cc0d17f31763e9137642ebfc6187f09332c26cf4e6d0"), looks := true }, kinds := [], alts := [], laidByText := true, laidKinds := [.data, .data, .data, .data, .sentinel, .sentinel, .sentinel, .sentinel, .sentinel, .sentinel, .pinned], laidTests := true, laidLooks := .later }
def RootBackUptoCardSaid : Prop := Claim7.holds Tryz.pinned (.plain (OpenSpec.upto rootBackSpec)) rootBackUptoCard

/-- THE SECOND FORM's CARD OF 'sacristylaw10.RootCut'. -/
def rootCutUptoCard : Claim7 := { stood := { row := rootCutUptoRow, standIns := [], harness := (true, "615e4fe8f2b2466ce2b2cc0d17f31763e9137642ebfc6187f09332c26cf4e6d0"), looks := true }, kinds := [], alts := [], laidByText := true, laidKinds := [.data, .data, .data, .data, .sentinel, .sentinel, .sentinel, .sentinel, .sentinel, .sentinel, .pinned], laidTests := true, laidLooks := .later }
def RootCutUptoCardSaid : Prop := Claim7.holds Tryz.pinned (.plain (OpenSpec.upto rootCutSpec)) rootCutUptoCard

/-- THE SECOND FORM's CARD OF 'sacristylaw10.RootLess'. -/
def rootLessUptoCard : Claim7 := { stood := { row := rootLessUptoRow, standIns := [], harness := (true, "615e4fe8f2b2466ce2b2cc0d17f31763e9137642ebfc6187f09332c26cf4e6d0"), looks := true }, kinds := [], alts := [], laidByText := true, laidKinds := [.data, .data, .data, .data, .sentinel, .sentinel, .sentinel, .sentinel, .sentinel, .sentinel, .pinned], laidTests := true, laidLooks := .later }
def RootLessUptoCardSaid : Prop := Claim7.holds Tryz.pinned (.plain (OpenSpec.upto rootLessSpec)) rootLessUptoCard

/-- THE SECOND FORM's CARD OF 'sacristylaw10.RootForks'. -/
def rootForksUptoCard : Claim7 := { stood := { row := rootForksUptoRow, standIns := [], harness := (true, "615e4fe8f2b2466ce2b2cc0d17f31763e9137642ebfc6187f09332c26cf4e6d0"), looks := true }, kinds := [], alts := [], laidByText := true, laidKinds := [.data, .data, .data, .data, .sentinel, .sentinel, .sentinel, .sentinel, .sentinel, .sentinel, .pinned], laidTests := true, laidLooks := .later }
def RootForksUptoCardSaid : Prop := Claim7.holds Tryz.pinned (.plain (OpenSpec.upto rootForksSpec)) rootForksUptoCard

/-- THE SECOND FORM's CARD OF 'sacristylaw10.RootLines'. -/
def rootLinesUptoCard : Claim7 := { stood := { row := rootLinesUptoRow, standIns := [], harness := (true, "615e4fe8f2b2466ce2b2cc0d17f31763e9137642ebfc6187f09332c26cf4e6d0"), looks := true }, kinds := [], alts := [], laidByText := true, laidKinds := [.data, .data, .data, .data, .sentinel, .sentinel, .sentinel, .sentinel, .sentinel, .sentinel, .pinned], laidTests := true, laidLooks := .later }
def RootLinesUptoCardSaid : Prop := Claim7.holds Tryz.pinned (.plain (OpenSpec.upto rootLinesSpec)) rootLinesUptoCard

/-- THE SECOND FORM's CARD OF 'sacristylaw10.RootNames'. -/
def rootNamesUptoCard : Claim7 := { stood := { row := rootNamesUptoRow, standIns := [], harness := (true, "615e4fe8f2b2466ce2b2cc0d17f31763e9137642ebfc6187f09332c26cf4e6d0"), looks := true }, kinds := [], alts := [], laidByText := true, laidKinds := [.data, .data, .data, .data, .sentinel, .sentinel, .sentinel, .sentinel, .sentinel, .sentinel, .pinned], laidTests := true, laidLooks := .later }
def RootNamesUptoCardSaid : Prop := Claim7.holds Tryz.pinned (.plain (OpenSpec.upto rootNamesSpec)) rootNamesUptoCard
end Rows
end Go.Proofs.YtnboagmibhllpaaGreatDoor
