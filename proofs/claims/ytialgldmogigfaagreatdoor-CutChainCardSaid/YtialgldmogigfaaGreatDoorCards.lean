/-
  DERIVED. GIVEN WITH THE SEED: THE CARDS: each row of YtialgldmogigfaaGreatDoorRows.lean that lists a variable, with what it lists TIED to the program's text (the seventh form; the later family's looks); each row that meets fmt, with fmt's text TOLD by the authors' own Lean function (tested against real Go, not proved from fmt's source: count such statements apart). THE CARD IS WHAT COUNTS. Prove the row's statement (the work); the ties are given (YtialgldmogigfaaGreatDoorTie.lean); close each card by the builder's one call (the guide's Derived/Test/ToyasCard.lean, 'card_holds'). Laid BY PROGRAM, IN A SANDBOX (cutbox-door.mjs). By AI agents, Wed Nov 11 2026. No macro, syntax, notation, axiom, sorry.
-/
import Derived.Test.YtialgldmogigfaaGreatDoorRows
import GoSem.ClaimSeven
namespace Go.Proofs.YtialgldmogigfaaGreatDoor
namespace Rows

/-- THE TIED CARD OF 'sacristylaw11.CutTells'. -/
def cutTellsCard : Claim7 := { stood := { row := cutTellsRow, standIns := [], harness := (true, "b4923027e157d188f290ae67b82b29a9aca753cfafba1b4274e1c5b74ac8651f"), looks := true }, kinds := [], alts := [], laidByText := true, laidKinds := [.data, .data, .data, .handle, .sentinel, .sentinel, .sentinel], laidTests := true, laidLooks := .later }
def CutTellsCardSaid : Prop := Claim7.holds Tryz.pinned (.plain (OpenSpec.ofChange cutTellsSpec)) cutTellsCard

/-- THE TIED CARD OF 'sacristylaw11.CutEnough'. -/
def cutEnoughCard : Claim7 := { stood := { row := cutEnoughRow, standIns := [], harness := (true, "b4923027e157d188f290ae67b82b29a9aca753cfafba1b4274e1c5b74ac8651f"), looks := true }, kinds := [], alts := [], laidByText := true, laidKinds := [.data, .data, .data, .handle, .sentinel, .sentinel, .sentinel], laidTests := true, laidLooks := .later }
def CutEnoughCardSaid : Prop := Claim7.holds Tryz.pinned (.plain (OpenSpec.ofChange cutEnoughSpec)) cutEnoughCard

/-- THE TIED CARD OF 'sacristylaw11.CutNoMore'. -/
def cutNoMoreCard : Claim7 := { stood := { row := cutNoMoreRow, standIns := [], harness := (true, "b4923027e157d188f290ae67b82b29a9aca753cfafba1b4274e1c5b74ac8651f"), looks := true }, kinds := [], alts := [], laidByText := true, laidKinds := [.data, .data, .data, .handle, .sentinel, .sentinel, .sentinel], laidTests := true, laidLooks := .later }
def CutNoMoreCardSaid : Prop := Claim7.holds Tryz.pinned (.plain (OpenSpec.ofChange cutNoMoreSpec)) cutNoMoreCard

/-- THE TIED CARD OF 'sacristylaw11.CutLess'. -/
def cutLessCard : Claim7 := { stood := { row := cutLessRow, standIns := [], harness := (true, "b4923027e157d188f290ae67b82b29a9aca753cfafba1b4274e1c5b74ac8651f"), looks := true }, kinds := [], alts := [], laidByText := true, laidKinds := [.data, .data, .data, .handle, .sentinel, .sentinel, .sentinel], laidTests := true, laidLooks := .later }
def CutLessCardSaid : Prop := Claim7.holds Tryz.pinned (.plain (OpenSpec.ofChange cutLessSpec)) cutLessCard

/-- THE TIED CARD OF 'sacristylaw11.CutUnion'. -/
def cutUnionCard : Claim7 := { stood := { row := cutUnionRow, standIns := [], harness := (true, "b4923027e157d188f290ae67b82b29a9aca753cfafba1b4274e1c5b74ac8651f"), looks := true }, kinds := [], alts := [], laidByText := true, laidKinds := [.data, .data, .data, .handle, .sentinel, .sentinel, .sentinel], laidTests := true, laidLooks := .later }
def CutUnionCardSaid : Prop := Claim7.holds Tryz.pinned (.plain (OpenSpec.ofChange cutUnionSpec)) cutUnionCard

/-- THE TIED CARD OF 'sacristylaw11.CutChain'. -/
def cutChainCard : Claim7 := { stood := { row := cutChainRow, standIns := [], harness := (true, "b4923027e157d188f290ae67b82b29a9aca753cfafba1b4274e1c5b74ac8651f"), looks := true }, kinds := [], alts := [], laidByText := true, laidKinds := [.data, .data, .data, .handle, .sentinel, .sentinel, .sentinel], laidTests := true, laidLooks := .later }
def CutChainCardSaid : Prop := Claim7.holds Tryz.pinned (.plain (OpenSpec.ofChange cutChainSpec)) cutChainCard

/-- THE TIED CARD OF 'sacristylaw11.CutErrors'. -/
def cutErrorsCard : Claim7 := { stood := { row := cutErrorsRow, standIns := [], harness := (true, "b4923027e157d188f290ae67b82b29a9aca753cfafba1b4274e1c5b74ac8651f"), looks := true }, kinds := [], alts := [], laidByText := true, laidKinds := [.data, .data, .data, .handle, .sentinel, .sentinel, .sentinel], laidTests := true, laidLooks := .later }
def CutErrorsCardSaid : Prop := Claim7.holds Tryz.pinned (.plain (OpenSpec.ofChange cutErrorsSpec)) cutErrorsCard

/-- THE SECOND FORM's CARD OF 'sacristylaw11.CutTells'. -/
def cutTellsUptoCard : Claim7 := { stood := { row := cutTellsUptoRow, standIns := [], harness := (true, "b4923027e157d188f290ae67b82b29a9aca753cfafba1b4274e1c5b74ac8651f"), looks := true }, kinds := [], alts := [], laidByText := true, laidKinds := [.data, .data, .data, .handle, .sentinel, .sentinel, .sentinel], laidTests := true, laidLooks := .later }
def CutTellsUptoCardSaid : Prop := Claim7.holds Tryz.pinned (.plain (OpenSpec.upto cutTellsSpec)) cutTellsUptoCard

/-- THE SECOND FORM's CARD OF 'sacristylaw11.CutEnough'. -/
def cutEnoughUptoCard : Claim7 := { stood := { row := cutEnoughUptoRow, standIns := [], harness := (true, "b4923027e157d188f290ae67b82b29a9aca753cfafba1b4274e1c5b74ac8651f"), looks := true }, kinds := [], alts := [], laidByText := true, laidKinds := [.data, .data, .data, .handle, .sentinel, .sentinel, .sentinel], laidTests := true, laidLooks := .later }
def CutEnoughUptoCardSaid : Prop := Claim7.holds Tryz.pinned (.plain (OpenSpec.upto cutEnoughSpec)) cutEnoughUptoCard

/-- THE SECOND FORM's CARD OF 'sacristylaw11.CutNoMore'. -/
def cutNoMoreUptoCard : Claim7 := { stood := { row := cutNoMoreUptoRow, standIns := [], harness := (true, "b4923027e157d188f290ae67b82b29a9aca753cfafba1b4274e1c5b74ac8651f"), looks := true }, kinds := [], alts := [], laidByText := true, laidKinds := [.data, .data, .data, .handle, .sentinel, .sentinel, .sentinel], laidTests := true, laidLooks := .later }
def CutNoMoreUptoCardSaid : Prop := Claim7.holds Tryz.pinned (.plain (OpenSpec.upto cutNoMoreSpec)) cutNoMoreUptoCard

/-- THE SECOND FORM's CARD OF 'sacristylaw11.CutLess'. -/
def cutLessUptoCard : Claim7 := { stood := { row := cutLessUptoRow, standIns := [], harness := (true, "b4923027e157d188f290ae67b82b29a9aca753cfafba1b4274e1c5b74ac8651f"), looks := true }, kinds := [], alts := [], laidByText := true, laidKinds := [.data, .data, .data, .handle, .sentinel, .sentinel, .sentinel], laidTests := true, laidLooks := .later }
def CutLessUptoCardSaid : Prop := Claim7.holds Tryz.pinned (.plain (OpenSpec.upto cutLessSpec)) cutLessUptoCard

/-- THE SECOND FORM's CARD OF 'sacristylaw11.CutUnion'. -/
def cutUnionUptoCard : Claim7 := { stood := { row := cutUnionUptoRow, standIns := [], harness := (true, "b4923027e157d188f290ae67b82b29a9aca753cfafba1b4274e1c5b74ac8651f"), looks := true }, kinds := [], alts := [], laidByText := true, laidKinds := [.data, .data, .data, .handle, .sentinel, .sentinel, .sentinel], laidTests := true, laidLooks := .later }
def CutUnionUptoCardSaid : Prop := Claim7.holds Tryz.pinned (.plain (OpenSpec.upto cutUnionSpec)) cutUnionUptoCard

/-- THE SECOND FORM's CARD OF 'sacristylaw11.CutChain'. -/
def cutChainUptoCard : Claim7 := { stood := { row := cutChainUptoRow, standIns := [], harness := (true, "b4923027e157d188f290ae67b82b29a9aca753cfafba1b4274e1c5b74ac8651f"), looks := true }, kinds := [], alts := [], laidByText := true, laidKinds := [.data, .data, .data, .handle, .sentinel, .sentinel, .sentinel], laidTests := true, laidLooks := .later }
def CutChainUptoCardSaid : Prop := Claim7.holds Tryz.pinned (.plain (OpenSpec.upto cutChainSpec)) cutChainUptoCard

/-- THE SECOND FORM's CARD OF 'sacristylaw11.CutErrors'. -/
def cutErrorsUptoCard : Claim7 := { stood := { row := cutErrorsUptoRow, standIns := [], harness := (true, "b4923027e157d188f290ae67b82b29a9aca753cfafba1b4274e1c5b74ac8651f"), looks := true }, kinds := [], alts := [], laidByText := true, laidKinds := [.data, .data, .data, .handle, .sentinel, .sentinel, .sentinel], laidTests := true, laidLooks := .later }
def CutErrorsUptoCardSaid : Prop := Claim7.holds Tryz.pinned (.plain (OpenSpec.upto cutErrorsSpec)) cutErrorsUptoCard
end Rows
end Go.Proofs.YtialgldmogigfaaGreatDoor
