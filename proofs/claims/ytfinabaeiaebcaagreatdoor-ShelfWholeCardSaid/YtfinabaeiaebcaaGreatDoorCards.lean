/-
  DERIVED. GIVEN WITH THE SEED: THE CARDS: each row of YtfinabaeiaebcaaGreatDoorRows.lean that lists a variable, with what it lists TIED to the program's text (the seventh form; the later family's looks); each row that meets fmt, with fmt's text TOLD by the authors' own Lean function (tested against real Go, not proved from fmt's source: count such statements apart). THE CARD IS WHAT COUNTS. Prove the row's statement (the work); the ties are given (YtfinabaeiaebcaaGreatDoorTie.lean); close each card by the builder's one call (the guide's Derived/Test/ToyasCard.lean, 'card_holds'). Laid BY PROGRAM, IN A SANDBOX (cutbox-door.mjs). By AI agents, Wed Nov 11 2026. No macro, syntax, notation, axiom, sorry.
-/
import Derived.Test.YtfinabaeiaebcaaGreatDoorRows
import GoSem.ClaimSeven
namespace Go.Proofs.YtfinabaeiaebcaaGreatDoor
namespace Rows

/-- THE TIED CARD OF 'sacristylaw01.ShelfPlays'. -/
def shelfPlaysCard : Claim7 := { stood := { row := shelfPlaysRow, standIns := [], harness := (true, "7b70adb8d90dadfae17ab65f9e511816147d8f691b886dcf447466a254748c34"), looks := true }, kinds := [], alts := [], laidByText := true, laidKinds := [.handle], laidTests := true, laidLooks := .later }
def ShelfPlaysCardSaid : Prop := Claim7.holds Tryz.pinned (.plain (OpenSpec.ofChange shelfPlaysSpec)) shelfPlaysCard

/-- THE TIED CARD OF 'sacristylaw01.ShelfStays'. -/
def shelfStaysCard : Claim7 := { stood := { row := shelfStaysRow, standIns := [], harness := (true, "7b70adb8d90dadfae17ab65f9e511816147d8f691b886dcf447466a254748c34"), looks := true }, kinds := [], alts := [], laidByText := true, laidKinds := [.handle], laidTests := true, laidLooks := .later }
def ShelfStaysCardSaid : Prop := Claim7.holds Tryz.pinned (.plain (OpenSpec.ofChange shelfStaysSpec)) shelfStaysCard

/-- THE TIED CARD OF 'sacristylaw01.ShelfRefused'. -/
def shelfRefusedCard : Claim7 := { stood := { row := shelfRefusedRow, standIns := [], harness := (true, "7b70adb8d90dadfae17ab65f9e511816147d8f691b886dcf447466a254748c34"), looks := true }, kinds := [], alts := [], laidByText := true, laidKinds := [.handle], laidTests := true, laidLooks := .later }
def ShelfRefusedCardSaid : Prop := Claim7.holds Tryz.pinned (.plain (OpenSpec.ofChange shelfRefusedSpec)) shelfRefusedCard

/-- THE TIED CARD OF 'sacristylaw01.ShelfWhole'. -/
def shelfWholeCard : Claim7 := { stood := { row := shelfWholeRow, standIns := [], harness := (true, "7b70adb8d90dadfae17ab65f9e511816147d8f691b886dcf447466a254748c34"), looks := true }, kinds := [], alts := [], laidByText := true, laidKinds := [.handle], laidTests := true, laidLooks := .later }
def ShelfWholeCardSaid : Prop := Claim7.holds Tryz.pinned (.plain (OpenSpec.ofChange shelfWholeSpec)) shelfWholeCard

/-- THE TIED CARD OF 'sacristylaw01.ShelfFuse'. -/
def shelfFuseCard : Claim7 := { stood := { row := shelfFuseRow, standIns := [], harness := (true, "7b70adb8d90dadfae17ab65f9e511816147d8f691b886dcf447466a254748c34"), looks := true }, kinds := [], alts := [], laidByText := true, laidKinds := [.handle], laidTests := true, laidLooks := .later }
def ShelfFuseCardSaid : Prop := Claim7.holds Tryz.pinned (.plain (OpenSpec.ofChange shelfFuseSpec)) shelfFuseCard

/-- THE TIED CARD OF 'sacristylaw01.ShelfMoves'. -/
def shelfMovesCard : Claim7 := { stood := { row := shelfMovesRow, standIns := [], harness := (true, "7b70adb8d90dadfae17ab65f9e511816147d8f691b886dcf447466a254748c34"), looks := true }, kinds := [], alts := [], laidByText := true, laidKinds := [.handle], laidTests := true, laidLooks := .later }
def ShelfMovesCardSaid : Prop := Claim7.holds Tryz.pinned (.plain (OpenSpec.ofChange shelfMovesSpec)) shelfMovesCard

/-- THE TIED CARD OF 'sacristylaw01.ShelfOrder'. -/
def shelfOrderCard : Claim7 := { stood := { row := shelfOrderRow, standIns := [], harness := (true, "7b70adb8d90dadfae17ab65f9e511816147d8f691b886dcf447466a254748c34"), looks := true }, kinds := [], alts := [], laidByText := true, laidKinds := [.handle], laidTests := true, laidLooks := .later }
def ShelfOrderCardSaid : Prop := Claim7.holds Tryz.pinned (.plain (OpenSpec.ofChange shelfOrderSpec)) shelfOrderCard

/-- THE SECOND FORM's CARD OF 'sacristylaw01.ShelfPlays'. -/
def shelfPlaysUptoCard : Claim7 := { stood := { row := shelfPlaysUptoRow, standIns := [], harness := (true, "7b70adb8d90dadfae17ab65f9e511816147d8f691b886dcf447466a254748c34"), looks := true }, kinds := [], alts := [], laidByText := true, laidKinds := [.handle], laidTests := true, laidLooks := .later }
def ShelfPlaysUptoCardSaid : Prop := Claim7.holds Tryz.pinned (.plain (OpenSpec.upto shelfPlaysSpec)) shelfPlaysUptoCard

/-- THE SECOND FORM's CARD OF 'sacristylaw01.ShelfStays'. -/
def shelfStaysUptoCard : Claim7 := { stood := { row := shelfStaysUptoRow, standIns := [], harness := (true, "7b70adb8d90dadfae17ab65f9e511816147d8f691b886dcf447466a254748c34"), looks := true }, kinds := [], alts := [], laidByText := true, laidKinds := [.handle], laidTests := true, laidLooks := .later }
def ShelfStaysUptoCardSaid : Prop := Claim7.holds Tryz.pinned (.plain (OpenSpec.upto shelfStaysSpec)) shelfStaysUptoCard

/-- THE SECOND FORM's CARD OF 'sacristylaw01.ShelfRefused'. -/
def shelfRefusedUptoCard : Claim7 := { stood := { row := shelfRefusedUptoRow, standIns := [], harness := (true, "7b70adb8d90dadfae17ab65f9e511816147d8f691b886dcf447466a254748c34"), looks := true }, kinds := [], alts := [], laidByText := true, laidKinds := [.handle], laidTests := true, laidLooks := .later }
def ShelfRefusedUptoCardSaid : Prop := Claim7.holds Tryz.pinned (.plain (OpenSpec.upto shelfRefusedSpec)) shelfRefusedUptoCard

/-- THE SECOND FORM's CARD OF 'sacristylaw01.ShelfWhole'. -/
def shelfWholeUptoCard : Claim7 := { stood := { row := shelfWholeUptoRow, standIns := [], harness := (true, "7b70adb8d90dadfae17ab65f9e511816147d8f691b886dcf447466a254748c34"), looks := true }, kinds := [], alts := [], laidByText := true, laidKinds := [.handle], laidTests := true, laidLooks := .later }
def ShelfWholeUptoCardSaid : Prop := Claim7.holds Tryz.pinned (.plain (OpenSpec.upto shelfWholeSpec)) shelfWholeUptoCard

/-- THE SECOND FORM's CARD OF 'sacristylaw01.ShelfFuse'. -/
def shelfFuseUptoCard : Claim7 := { stood := { row := shelfFuseUptoRow, standIns := [], harness := (true, "7b70adb8d90dadfae17ab65f9e511816147d8f691b886dcf447466a254748c34"), looks := true }, kinds := [], alts := [], laidByText := true, laidKinds := [.handle], laidTests := true, laidLooks := .later }
def ShelfFuseUptoCardSaid : Prop := Claim7.holds Tryz.pinned (.plain (OpenSpec.upto shelfFuseSpec)) shelfFuseUptoCard

/-- THE SECOND FORM's CARD OF 'sacristylaw01.ShelfMoves'. -/
def shelfMovesUptoCard : Claim7 := { stood := { row := shelfMovesUptoRow, standIns := [], harness := (true, "7b70adb8d90dadfae17ab65f9e511816147d8f691b886dcf447466a254748c34"), looks := true }, kinds := [], alts := [], laidByText := true, laidKinds := [.handle], laidTests := true, laidLooks := .later }
def ShelfMovesUptoCardSaid : Prop := Claim7.holds Tryz.pinned (.plain (OpenSpec.upto shelfMovesSpec)) shelfMovesUptoCard

/-- THE SECOND FORM's CARD OF 'sacristylaw01.ShelfOrder'. -/
def shelfOrderUptoCard : Claim7 := { stood := { row := shelfOrderUptoRow, standIns := [], harness := (true, "7b70adb8d90dadfae17ab65f9e511816147d8f691b886dcf447466a254748c34"), looks := true }, kinds := [], alts := [], laidByText := true, laidKinds := [.handle], laidTests := true, laidLooks := .later }
def ShelfOrderUptoCardSaid : Prop := Claim7.holds Tryz.pinned (.plain (OpenSpec.upto shelfOrderSpec)) shelfOrderUptoCard
end Rows
end Go.Proofs.YtfinabaeiaebcaaGreatDoor
