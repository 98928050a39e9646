/-
  DERIVED. GIVEN WITH THE SEED: THE CARDS: each row of YtehcdnaoiidlbaaGreatDoorRows.lean that lists a variable, with what it lists TIED to the program's text (the seventh form; the later family's looks); each row that meets fmt, with fmt's text TOLD by the authors' own Lean function (tested against real Go, not proved from fmt's source: count such statements apart). THE CARD IS WHAT COUNTS. Prove the row's statement (the work); the ties are given (YtehcdnaoiidlbaaGreatDoorTie.lean); close each card by the builder's one call (the guide's Derived/Test/ToyasCard.lean, 'card_holds'). Laid BY PROGRAM, IN A SANDBOX (cutbox-door.mjs). By AI agents, Wed Nov 11 2026. No macro, syntax, notation, axiom, sorry.
-/
import Derived.Test.YtehcdnaoiidlbaaGreatDoorRows
import GoSem.ClaimSeven
namespace Go.Proofs.YtehcdnaoiidlbaaGreatDoor
namespace Rows

/-- THE TIED CARD OF 'sacristylaw01.ShelfRefused'. -/
def shelfRefusedCard : Claim7 := { stood := { row := shelfRefusedRow, standIns := [], harness := (true, "92552395e78ca3ba57f5a8692f9c5e5c7f2e5e25c9bd98ae2085c0a4f6edf3d8"), looks := true }, kinds := [], alts := [], laidByText := true, laidKinds := [.handle], laidTests := true, laidLooks := .later }
def ShelfRefusedCardSaid : Prop := Claim7.holds Tryz.pinned (.plain (OpenSpec.ofChange shelfRefusedSpec)) shelfRefusedCard

/-- THE TIED CARD OF 'sacristylaw01.ShelfMoves'. -/
def shelfMovesCard : Claim7 := { stood := { row := shelfMovesRow, standIns := [], harness := (true, "92552395e78ca3ba57f5a8692f9c5e5c7f2e5e25c9bd98ae2085c0a4f6edf3d8"), looks := true }, kinds := [], alts := [], laidByText := true, laidKinds := [.handle], laidTests := true, laidLooks := .later }
def ShelfMovesCardSaid : Prop := Claim7.holds Tryz.pinned (.plain (OpenSpec.ofChange shelfMovesSpec)) shelfMovesCard

/-- THE TIED CARD OF 'sacristylaw01.ShelfOrder'. -/
def shelfOrderCard : Claim7 := { stood := { row := shelfOrderRow, standIns := [], harness := (true, "92552395e78ca3ba57f5a8692f9c5e5c7f2e5e25c9bd98ae2085c0a4f6edf3d8"), looks := true }, kinds := [], alts := [], laidByText := true, laidKinds := [.handle], laidTests := true, laidLooks := .later }
def ShelfOrderCardSaid : Prop := Claim7.holds Tryz.pinned (.plain (OpenSpec.ofChange shelfOrderSpec)) shelfOrderCard

/-- THE SECOND FORM's CARD OF 'sacristylaw01.ShelfRefused'. -/
def shelfRefusedUptoCard : Claim7 := { stood := { row := shelfRefusedUptoRow, standIns := [], harness := (true, "92552395e78ca3ba57f5a8692f9c5e5c7f2e5e25c9bd98ae2085c0a4f6edf3d8"), looks := true }, kinds := [], alts := [], laidByText := true, laidKinds := [.handle], laidTests := true, laidLooks := .later }
def ShelfRefusedUptoCardSaid : Prop := Claim7.holds Tryz.pinned (.plain (OpenSpec.upto shelfRefusedSpec)) shelfRefusedUptoCard

/-- THE SECOND FORM's CARD OF 'sacristylaw01.ShelfMoves'. -/
def shelfMovesUptoCard : Claim7 := { stood := { row := shelfMovesUptoRow, standIns := [], harness := (true, "92552395e78ca3ba57f5a8692f9c5e5c7f2e5e25c9bd98ae2085c0a4f6edf3d8"), looks := true }, kinds := [], alts := [], laidByText := true, laidKinds := [.handle], laidTests := true, laidLooks := .later }
def ShelfMovesUptoCardSaid : Prop := Claim7.holds Tryz.pinned (.plain (OpenSpec.upto shelfMovesSpec)) shelfMovesUptoCard

/-- THE SECOND FORM's CARD OF 'sacristylaw01.ShelfOrder'. -/
def shelfOrderUptoCard : Claim7 := { stood := { row := shelfOrderUptoRow, standIns := [], harness := (true, "92552395e78ca3ba57f5a8692f9c5e5c7f2e5e25c9bd98ae2085c0a4f6edf3d8"), looks := true }, kinds := [], alts := [], laidByText := true, laidKinds := [.handle], laidTests := true, laidLooks := .later }
def ShelfOrderUptoCardSaid : Prop := Claim7.holds Tryz.pinned (.plain (OpenSpec.upto shelfOrderSpec)) shelfOrderUptoCard
end Rows
end Go.Proofs.YtehcdnaoiidlbaaGreatDoor
