/-
  DERIVED. GIVEN WITH THE SEED: THE CARDS: each row of YtccloieikkdcoaaGreatDoorRows.lean that lists a variable, with what it lists TIED to the program's text (the seventh form; the later family's looks); each row that meets fmt, with fmt's text TOLD by the authors' own Lean function (tested against real Go, not proved from fmt's source: count such statements apart). THE CARD IS WHAT COUNTS. Prove the row's statement (the work); the ties are given (YtccloieikkdcoaaGreatDoorTie.lean); close each card by the builder's one call (the guide's Derived/Test/ToyasCard.lean, 'card_holds'). Laid BY PROGRAM, IN A SANDBOX (cutbox-door.mjs). By AI agents, Wed Nov 11 2026. No macro, syntax, notation, axiom, sorry.
-/
import Derived.Test.YtccloieikkdcoaaGreatDoorRows
import GoSem.ClaimSeven
namespace Go.Proofs.YtccloieikkdcoaaGreatDoor
namespace Rows

/-- THE TIED CARD OF 'sacristylaw01.ShelfPlays'. -/
def shelfPlaysCard : Claim7 := { stood := { row := shelfPlaysRow, standIns := [], harness := (true, "275412147f492db48f98a00dfe6af26ff74c22c9c3adea015d17c206411f6920"), looks := true }, kinds := [], alts := [], laidByText := true, laidKinds := [.handle], laidTests := true, laidLooks := .later }
def ShelfPlaysCardSaid : Prop := Claim7.holds Tryz.pinned (.plain (OpenSpec.ofChange shelfPlaysSpec)) shelfPlaysCard

/-- THE TIED CARD OF 'sacristylaw01.ShelfStays'. -/
def shelfStaysCard : Claim7 := { stood := { row := shelfStaysRow, standIns := [], harness := (true, "275412147f492db48f98a00dfe6af26ff74c22c9c3adea015d17c206411f6920"), looks := true }, kinds := [], alts := [], laidByText := true, laidKinds := [.handle], laidTests := true, laidLooks := .later }
def ShelfStaysCardSaid : Prop := Claim7.holds Tryz.pinned (.plain (OpenSpec.ofChange shelfStaysSpec)) shelfStaysCard

/-- THE TIED CARD OF 'sacristylaw01.ShelfOrder'. -/
def shelfOrderCard : Claim7 := { stood := { row := shelfOrderRow, standIns := [], harness := (true, "275412147f492db48f98a00dfe6af26ff74c22c9c3adea015d17c206411f6920"), looks := true }, kinds := [], alts := [], laidByText := true, laidKinds := [.handle], laidTests := true, laidLooks := .later }
def ShelfOrderCardSaid : Prop := Claim7.holds Tryz.pinned (.plain (OpenSpec.ofChange shelfOrderSpec)) shelfOrderCard

/-- THE SECOND FORM's CARD OF 'sacristylaw01.ShelfPlays'. -/
def shelfPlaysUptoCard : Claim7 := { stood := { row := shelfPlaysUptoRow, standIns := [], harness := (true, "275412147f492db48f98a00dfe6af26ff74c22c9c3adea015d17c206411f6920"), looks := true }, kinds := [], alts := [], laidByText := true, laidKinds := [.handle], laidTests := true, laidLooks := .later }
def ShelfPlaysUptoCardSaid : Prop := Claim7.holds Tryz.pinned (.plain (OpenSpec.upto shelfPlaysSpec)) shelfPlaysUptoCard

/-- THE SECOND FORM's CARD OF 'sacristylaw01.ShelfStays'. -/
def shelfStaysUptoCard : Claim7 := { stood := { row := shelfStaysUptoRow, standIns := [], harness := (true, "275412147f492db48f98a00dfe6af26ff74c22c9c3adea015d17c206411f6920"), looks := true }, kinds := [], alts := [], laidByText := true, laidKinds := [.handle], laidTests := true, laidLooks := .later }
def ShelfStaysUptoCardSaid : Prop := Claim7.holds Tryz.pinned (.plain (OpenSpec.upto shelfStaysSpec)) shelfStaysUptoCard

/-- THE SECOND FORM's CARD OF 'sacristylaw01.ShelfOrder'. -/
def shelfOrderUptoCard : Claim7 := { stood := { row := shelfOrderUptoRow, standIns := [], harness := (true, "275412147f492db48f98a00dfe6af26ff74c22c9c3adea015d17c206411f6920"), looks := true }, kinds := [], alts := [], laidByText := true, laidKinds := [.handle], laidTests := true, laidLooks := .later }
def ShelfOrderUptoCardSaid : Prop := Claim7.holds Tryz.pinned (.plain (OpenSpec.upto shelfOrderSpec)) shelfOrderUptoCard
end Rows
end Go.Proofs.YtccloieikkdcoaaGreatDoor
