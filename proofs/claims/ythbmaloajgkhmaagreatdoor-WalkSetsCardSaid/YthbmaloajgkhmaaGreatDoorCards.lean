/-
  DERIVED. GIVEN WITH THE SEED: THE CARDS: each row of YthbmaloajgkhmaaGreatDoorRows.lean that lists a variable, with what it lists TIED to the program's text (the seventh form; the later family's looks); each row that meets fmt, with fmt's text TOLD by the authors' own Lean function (tested against real Go, not proved from fmt's source: count such statements apart). THE CARD IS WHAT COUNTS. Prove the row's statement (the work); the ties are given (YthbmaloajgkhmaaGreatDoorTie.lean); close each card by the builder's one call (the guide's Derived/Test/ToyasCard.lean, 'card_holds'). Laid BY PROGRAM, IN A SANDBOX (cutbox-door.mjs). By AI agents, Wed Nov 11 2026. No macro, syntax, notation, axiom, sorry.
-/
import Derived.Test.YthbmaloajgkhmaaGreatDoorRows
import GoSem.ClaimSeven
namespace Go.Proofs.YthbmaloajgkhmaaGreatDoor
namespace Rows

/-- THE TIED CARD OF 'sacristylaw05.WalkSets'. -/
def walkSetsCard : Claim7 := { stood := { row := walkSetsRow, standIns := [], harness := (true, "2a03e472331917516b954082b52618e329f4438f7140a768ddaa47d7b4f76df7"), looks := true }, kinds := [], alts := [], laidByText := true, laidKinds := [.data, .data, .data, .data, .handle, .sentinel, .sentinel, .sentinel], laidTests := true, laidLooks := .later }
def WalkSetsCardSaid : Prop := Claim7.holds Tryz.pinned (.plain (OpenSpec.ofChange walkSetsSpec)) walkSetsCard

/-- THE TIED CARD OF 'sacristylaw05.WalkJoins'. -/
def walkJoinsCard : Claim7 := { stood := { row := walkJoinsRow, standIns := [], harness := (true, "2a03e472331917516b954082b52618e329f4438f7140a768ddaa47d7b4f76df7"), looks := true }, kinds := [], alts := [], laidByText := true, laidKinds := [.data, .data, .data, .data, .handle, .sentinel, .sentinel, .sentinel], laidTests := true, laidLooks := .later }
def WalkJoinsCardSaid : Prop := Claim7.holds Tryz.pinned (.plain (OpenSpec.ofChange walkJoinsSpec)) walkJoinsCard

/-- THE SECOND FORM's CARD OF 'sacristylaw05.WalkSets'. -/
def walkSetsUptoCard : Claim7 := { stood := { row := walkSetsUptoRow, standIns := [], harness := (true, "2a03e472331917516b954082b52618e329f4438f7140a768ddaa47d7b4f76df7"), looks := true }, kinds := [], alts := [], laidByText := true, laidKinds := [.data, .data, .data, .data, .handle, .sentinel, .sentinel, .sentinel], laidTests := true, laidLooks := .later }
def WalkSetsUptoCardSaid : Prop := Claim7.holds Tryz.pinned (.plain (OpenSpec.upto walkSetsSpec)) walkSetsUptoCard

/-- THE SECOND FORM's CARD OF 'sacristylaw05.WalkJoins'. -/
def walkJoinsUptoCard : Claim7 := { stood := { row := walkJoinsUptoRow, standIns := [], harness := (true, "2a03e472331917516b954082b52618e329f4438f7140a768ddaa47d7b4f76df7"), looks := true }, kinds := [], alts := [], laidByText := true, laidKinds := [.data, .data, .data, .data, .handle, .sentinel, .sentinel, .sentinel], laidTests := true, laidLooks := .later }
def WalkJoinsUptoCardSaid : Prop := Claim7.holds Tryz.pinned (.plain (OpenSpec.upto walkJoinsSpec)) walkJoinsUptoCard
end Rows
end Go.Proofs.YthbmaloajgkhmaaGreatDoor
