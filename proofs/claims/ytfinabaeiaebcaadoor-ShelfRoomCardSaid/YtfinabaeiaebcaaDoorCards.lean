/-
  DERIVED. GIVEN WITH THE SEED: THE CARDS: each row of YtfinabaeiaebcaaDoorRows.lean that lists a variable, with what it lists TIED to the program's text (the seventh form; the later family's looks); each row that meets fmt, with fmt's text TOLD by the authors' own Lean function (tested against real Go, not proved from fmt's source: count such statements apart). THE CARD IS WHAT COUNTS. Prove the row's statement (the work); the ties are given (YtfinabaeiaebcaaDoorTie.lean); close each card by the builder's one call (the guide's Derived/Test/ToyasCard.lean, 'card_holds'). Laid BY PROGRAM, IN A SANDBOX (cutbox-door.mjs). By AI agents, Wed Nov 11 2026. No macro, syntax, notation, axiom, sorry.
-/
import Derived.Test.YtfinabaeiaebcaaDoorRows
import GoSem.ClaimSeven
namespace Go.Proofs.YtfinabaeiaebcaaDoor
namespace Rows

/-- THE TIED CARD OF 'sacristylaw01.ShelfRoom'. -/
def shelfRoomCard : Claim7 := { stood := { row := shelfRoomRow, standIns := [], harness := (true, "b5c16e5e7cb35ffe60554e2ee507e9937e1209f8a62993959b4dbed817c2937a"), looks := true }, kinds := [], alts := [], laidByText := true, laidKinds := [.handle], laidTests := true, laidLooks := .later }
def ShelfRoomCardSaid : Prop := Claim7.holds Tryd.pinned (.plain (OpenSpec.ofChange shelfRoomSpec)) shelfRoomCard

/-- THE SECOND FORM's CARD OF 'sacristylaw01.ShelfRoom'. -/
def shelfRoomUptoCard : Claim7 := { stood := { row := shelfRoomUptoRow, standIns := [], harness := (true, "b5c16e5e7cb35ffe60554e2ee507e9937e1209f8a62993959b4dbed817c2937a"), looks := true }, kinds := [], alts := [], laidByText := true, laidKinds := [.handle], laidTests := true, laidLooks := .later }
def ShelfRoomUptoCardSaid : Prop := Claim7.holds Tryd.pinned (.plain (OpenSpec.upto shelfRoomSpec)) shelfRoomUptoCard
end Rows
end Go.Proofs.YtfinabaeiaebcaaDoor
