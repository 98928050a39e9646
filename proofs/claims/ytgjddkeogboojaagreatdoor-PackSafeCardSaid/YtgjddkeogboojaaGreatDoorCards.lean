/-
  DERIVED. GIVEN WITH THE SEED: THE CARDS: each row of YtgjddkeogboojaaGreatDoorRows.lean that lists a variable, with what it lists TIED to the program's text (the seventh form; the later family's looks); each row that meets fmt, with fmt's text TOLD by the authors' own Lean function (tested against real Go, not proved from fmt's source: count such statements apart). THE CARD IS WHAT COUNTS. Prove the row's statement (the work); the ties are given (YtgjddkeogboojaaGreatDoorTie.lean); close each card by the builder's one call (the guide's Derived/Test/ToyasCard.lean, 'card_holds'). Laid BY PROGRAM, IN A SANDBOX (cutbox-door.mjs). By AI agents, Wed Nov 11 2026. No macro, syntax, notation, axiom, sorry.
-/
import Derived.Test.YtgjddkeogboojaaGreatDoorRows
import GoSem.ClaimSeven
namespace Go.Proofs.YtgjddkeogboojaaGreatDoor
namespace Rows

/-- THE TIED CARD OF 'sacristylaw07.PackTells'. -/
def packTellsCard : Claim7 := { stood := { row := packTellsRow, standIns := [], harness := (true, "2ddca94f1c4b44997bda50bf1d2b78514dd7d640474c6b70dff82a7d57d45c03"), looks := true }, kinds := [], alts := [], laidByText := true, laidKinds := [.data, .data, .data, .data, .handle, .sentinel, .sentinel, .sentinel], laidTests := true, laidLooks := .later }
def PackTellsCardSaid : Prop := Claim7.holds Tryz.pinned (.plain (OpenSpec.ofChange packTellsSpec)) packTellsCard

/-- THE TIED CARD OF 'sacristylaw07.PackBack'. -/
def packBackCard : Claim7 := { stood := { row := packBackRow, standIns := [], harness := (true, "2ddca94f1c4b44997bda50bf1d2b78514dd7d640474c6b70dff82a7d57d45c03"), looks := true }, kinds := [], alts := [], laidByText := true, laidKinds := [.data, .data, .data, .data, .handle, .sentinel, .sentinel, .sentinel], laidTests := true, laidLooks := .later }
def PackBackCardSaid : Prop := Claim7.holds Tryz.pinned (.plain (OpenSpec.ofChange packBackSpec)) packBackCard

/-- THE TIED CARD OF 'sacristylaw07.PackWhole'. -/
def packWholeCard : Claim7 := { stood := { row := packWholeRow, standIns := [], harness := (true, "2ddca94f1c4b44997bda50bf1d2b78514dd7d640474c6b70dff82a7d57d45c03"), looks := true }, kinds := [], alts := [], laidByText := true, laidKinds := [.data, .data, .data, .data, .handle, .sentinel, .sentinel, .sentinel], laidTests := true, laidLooks := .later }
def PackWholeCardSaid : Prop := Claim7.holds Tryz.pinned (.plain (OpenSpec.ofChange packWholeSpec)) packWholeCard

/-- THE TIED CARD OF 'sacristylaw07.PackDelta'. -/
def packDeltaCard : Claim7 := { stood := { row := packDeltaRow, standIns := [], harness := (true, "2ddca94f1c4b44997bda50bf1d2b78514dd7d640474c6b70dff82a7d57d45c03"), looks := true }, kinds := [], alts := [], laidByText := true, laidKinds := [.data, .data, .data, .data, .handle, .sentinel, .sentinel, .sentinel], laidTests := true, laidLooks := .later }
def PackDeltaCardSaid : Prop := Claim7.holds Tryz.pinned (.plain (OpenSpec.ofChange packDeltaSpec)) packDeltaCard

/-- THE TIED CARD OF 'sacristylaw07.PackSafe'. -/
def packSafeCard : Claim7 := { stood := { row := packSafeRow, standIns := [], harness := (true, "2ddca94f1c4b44997bda50bf1d2b78514dd7d640474c6b70dff82a7d57d45c03"), looks := true }, kinds := [], alts := [], laidByText := true, laidKinds := [.data, .data, .data, .data, .handle, .sentinel, .sentinel, .sentinel], laidTests := true, laidLooks := .later }
def PackSafeCardSaid : Prop := Claim7.holds Tryz.pinned (.plain (OpenSpec.ofChange packSafeSpec)) packSafeCard

/-- THE TIED CARD OF 'sacristylaw07.PackChain'. -/
def packChainCard : Claim7 := { stood := { row := packChainRow, standIns := [], harness := (true, "2ddca94f1c4b44997bda50bf1d2b78514dd7d640474c6b70dff82a7d57d45c03"), looks := true }, kinds := [], alts := [], laidByText := true, laidKinds := [.data, .data, .data, .data, .handle, .sentinel, .sentinel, .sentinel], laidTests := true, laidLooks := .later }
def PackChainCardSaid : Prop := Claim7.holds Tryz.pinned (.plain (OpenSpec.ofChange packChainSpec)) packChainCard

/-- THE TIED CARD OF 'sacristylaw07.PackWrong'. -/
def packWrongCard : Claim7 := { stood := { row := packWrongRow, standIns := [], harness := (true, "2ddca94f1c4b44997bda50bf1d2b78514dd7d640474c6b70dff82a7d57d45c03"), looks := true }, kinds := [], alts := [], laidByText := true, laidKinds := [.data, .data, .data, .data, .handle, .sentinel, .sentinel, .sentinel], laidTests := true, laidLooks := .later }
def PackWrongCardSaid : Prop := Claim7.holds Tryz.pinned (.plain (OpenSpec.ofChange packWrongSpec)) packWrongCard

/-- THE SECOND FORM's CARD OF 'sacristylaw07.PackTells'. -/
def packTellsUptoCard : Claim7 := { stood := { row := packTellsUptoRow, standIns := [], harness := (true, "2ddca94f1c4b44997bda50bf1d2b78514dd7d640474c6b70dff82a7d57d45c03"), looks := true }, kinds := [], alts := [], laidByText := true, laidKinds := [.data, .data, .data, .data, .handle, .sentinel, .sentinel, .sentinel], laidTests := true, laidLooks := .later }
def PackTellsUptoCardSaid : Prop := Claim7.holds Tryz.pinned (.plain (OpenSpec.upto packTellsSpec)) packTellsUptoCard

/-- THE SECOND FORM's CARD OF 'sacristylaw07.PackBack'. -/
def packBackUptoCard : Claim7 := { stood := { row := packBackUptoRow, standIns := [], harness := (true, "2ddca94f1c4b44997bda50bf1d2b78514dd7d640474c6b70dff82a7d57d45c03"), looks := true }, kinds := [], alts := [], laidByText := true, laidKinds := [.data, .data, .data, .data, .handle, .sentinel, .sentinel, .sentinel], laidTests := true, laidLooks := .later }
def PackBackUptoCardSaid : Prop := Claim7.holds Tryz.pinned (.plain (OpenSpec.upto packBackSpec)) packBackUptoCard

/-- THE SECOND FORM's CARD OF 'sacristylaw07.PackWhole'. -/
def packWholeUptoCard : Claim7 := { stood := { row := packWholeUptoRow, standIns := [], harness := (true, "2ddca94f1c4b44997bda50bf1d2b78514dd7d640474c6b70dff82a7d57d45c03"), looks := true }, kinds := [], alts := [], laidByText := true, laidKinds := [.data, .data, .data, .data, .handle, .sentinel, .sentinel, .sentinel], laidTests := true, laidLooks := .later }
def PackWholeUptoCardSaid : Prop := Claim7.holds Tryz.pinned (.plain (OpenSpec.upto packWholeSpec)) packWholeUptoCard

/-- THE SECOND FORM's CARD OF 'sacristylaw07.PackDelta'. -/
def packDeltaUptoCard : Claim7 := { stood := { row := packDeltaUptoRow, standIns := [], harness := (true, "2ddca94f1c4b44997bda50bf1d2b78514dd7d640474c6b70dff82a7d57d45c03"), looks := true }, kinds := [], alts := [], laidByText := true, laidKinds := [.data, .data, .data, .data, .handle, .sentinel, .sentinel, .sentinel], laidTests := true, laidLooks := .later }
def PackDeltaUptoCardSaid : Prop := Claim7.holds Tryz.pinned (.plain (OpenSpec.upto packDeltaSpec)) packDeltaUptoCard

/-- THE SECOND FORM's CARD OF 'sacristylaw07.PackSafe'. -/
def packSafeUptoCard : Claim7 := { stood := { row := packSafeUptoRow, standIns := [], harness := (true, "2ddca94f1c4b44997bda50bf1d2b78514dd7d640474c6b70dff82a7d57d45c03"), looks := true }, kinds := [], alts := [], laidByText := true, laidKinds := [.data, .data, .data, .data, .handle, .sentinel, .sentinel, .sentinel], laidTests := true, laidLooks := .later }
def PackSafeUptoCardSaid : Prop := Claim7.holds Tryz.pinned (.plain (OpenSpec.upto packSafeSpec)) packSafeUptoCard

/-- THE SECOND FORM's CARD OF 'sacristylaw07.PackChain'. -/
def packChainUptoCard : Claim7 := { stood := { row := packChainUptoRow, standIns := [], harness := (true, "2ddca94f1c4b44997bda50bf1d2b78514dd7d640474c6b70dff82a7d57d45c03"), looks := true }, kinds := [], alts := [], laidByText := true, laidKinds := [.data, .data, .data, .data, .handle, .sentinel, .sentinel, .sentinel], laidTests := true, laidLooks := .later }
def PackChainUptoCardSaid : Prop := Claim7.holds Tryz.pinned (.plain (OpenSpec.upto packChainSpec)) packChainUptoCard

/-- THE SECOND FORM's CARD OF 'sacristylaw07.PackWrong'. -/
def packWrongUptoCard : Claim7 := { stood := { row := packWrongUptoRow, standIns := [], harness := (true, "2ddca94f1c4b44997bda50bf1d2b78514dd7d640474c6b70dff82a7d57d45c03"), looks := true }, kinds := [], alts := [], laidByText := true, laidKinds := [.data, .data, .data, .data, .handle, .sentinel, .sentinel, .sentinel], laidTests := true, laidLooks := .later }
def PackWrongUptoCardSaid : Prop := Claim7.holds Tryz.pinned (.plain (OpenSpec.upto packWrongSpec)) packWrongUptoCard
end Rows
end Go.Proofs.YtgjddkeogboojaaGreatDoor
