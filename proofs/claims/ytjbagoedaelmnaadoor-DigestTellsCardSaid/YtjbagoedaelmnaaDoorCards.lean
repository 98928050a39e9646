/-
  DERIVED. GIVEN WITH THE SEED: THE CARDS: each row of YtjbagoedaelmnaaDoorRows.lean that lists a variable, with what it lists TIED to the program's text (the seventh form; the later family's looks); each row that meets fmt, with fmt's text TOLD by the authors' own Lean function (tested against real Go, not proved from fmt's source: count such statements apart). THE CARD IS WHAT COUNTS. Prove the row's statement (the work); the ties are given (YtjbagoedaelmnaaDoorTie.lean); close each card by the builder's one call (the guide's Derived/Test/ToyasCard.lean, 'card_holds'). Laid BY PROGRAM, IN A SANDBOX (cutbox-door.mjs). By AI agents, Wed Nov 11 2026. No macro, syntax, notation, axiom, sorry.
-/
import Derived.Test.YtjbagoedaelmnaaDoorRows
import GoSem.ClaimSeven
namespace Go.Proofs.YtjbagoedaelmnaaDoor
namespace Rows

/-- THE TIED CARD OF 'sacristylaw02.DigestTells'. -/
def digestTellsCard : Claim7 := { stood := { row := digestTellsRow, standIns := [], harness := (true, "9f71921702b9a25ca4a1966cf3e3300468d16c933013a5b3d00d369387bb8cfa"), looks := false }, kinds := [], alts := [], laidByText := true, laidKinds := [.data], laidTests := true, laidLooks := .later }
def DigestTellsCardSaid : Prop := Claim7.holds Tryd.pinned (.plain (OpenSpec.ofChange digestTellsSpec)) digestTellsCard

/-- THE TIED CARD OF 'sacristylaw02.DigestNames'. -/
def digestNamesCard : Claim7 := { stood := { row := digestNamesRow, standIns := [], harness := (true, "9f71921702b9a25ca4a1966cf3e3300468d16c933013a5b3d00d369387bb8cfa"), looks := false }, kinds := [], alts := [], laidByText := true, laidKinds := [.data], laidTests := true, laidLooks := .later }
def DigestNamesCardSaid : Prop := Claim7.holds Tryd.pinned (.plain (OpenSpec.ofChange digestNamesSpec)) digestNamesCard

/-- THE TIED CARD OF 'sacristylaw02.DigestPads'. -/
def digestPadsCard : Claim7 := { stood := { row := digestPadsRow, standIns := [], harness := (true, "9f71921702b9a25ca4a1966cf3e3300468d16c933013a5b3d00d369387bb8cfa"), looks := false }, kinds := [], alts := [], laidByText := true, laidKinds := [.data], laidTests := true, laidLooks := .later }
def DigestPadsCardSaid : Prop := Claim7.holds Tryd.pinned (.plain (OpenSpec.ofChange digestPadsSpec)) digestPadsCard

/-- THE TIED CARD OF 'sacristylaw02.DigestWords'. -/
def digestWordsCard : Claim7 := { stood := { row := digestWordsRow, standIns := [], harness := (true, "9f71921702b9a25ca4a1966cf3e3300468d16c933013a5b3d00d369387bb8cfa"), looks := false }, kinds := [], alts := [], laidByText := true, laidKinds := [.data], laidTests := true, laidLooks := .later }
def DigestWordsCardSaid : Prop := Claim7.holds Tryd.pinned (.plain (OpenSpec.ofChange digestWordsSpec)) digestWordsCard

/-- THE TIED CARD OF 'sacristylaw02.DigestStill'. -/
def digestStillCard : Claim7 := { stood := { row := digestStillRow, standIns := [], harness := (true, "9f71921702b9a25ca4a1966cf3e3300468d16c933013a5b3d00d369387bb8cfa"), looks := false }, kinds := [], alts := [], laidByText := true, laidKinds := [.data], laidTests := true, laidLooks := .later }
def DigestStillCardSaid : Prop := Claim7.holds Tryd.pinned (.plain (OpenSpec.ofChange digestStillSpec)) digestStillCard

/-- THE TIED CARD OF 'sacristylaw02.DigestLong'. -/
def digestLongCard : Claim7 := { stood := { row := digestLongRow, standIns := [], harness := (true, "9f71921702b9a25ca4a1966cf3e3300468d16c933013a5b3d00d369387bb8cfa"), looks := false }, kinds := [], alts := [], laidByText := true, laidKinds := [.data], laidTests := true, laidLooks := .later }
def DigestLongCardSaid : Prop := Claim7.holds Tryd.pinned (.plain (OpenSpec.ofChange digestLongSpec)) digestLongCard

/-- THE SECOND FORM's CARD OF 'sacristylaw02.DigestTells'. -/
def digestTellsUptoCard : Claim7 := { stood := { row := digestTellsUptoRow, standIns := [], harness := (true, "9f71921702b9a25ca4a1966cf3e3300468d16c933013a5b3d00d369387bb8cfa"), looks := false }, kinds := [], alts := [], laidByText := true, laidKinds := [.data], laidTests := true, laidLooks := .later }
def DigestTellsUptoCardSaid : Prop := Claim7.holds Tryd.pinned (.plain (OpenSpec.upto digestTellsSpec)) digestTellsUptoCard

/-- THE SECOND FORM's CARD OF 'sacristylaw02.DigestNames'. -/
def digestNamesUptoCard : Claim7 := { stood := { row := digestNamesUptoRow, standIns := [], harness := (true, "9f71921702b9a25ca4a1966cf3e3300468d16c933013a5b3d00d369387bb8cfa"), looks := false }, kinds := [], alts := [], laidByText := true, laidKinds := [.data], laidTests := true, laidLooks := .later }
def DigestNamesUptoCardSaid : Prop := Claim7.holds Tryd.pinned (.plain (OpenSpec.upto digestNamesSpec)) digestNamesUptoCard

/-- THE SECOND FORM's CARD OF 'sacristylaw02.DigestPads'. -/
def digestPadsUptoCard : Claim7 := { stood := { row := digestPadsUptoRow, standIns := [], harness := (true, "9f71921702b9a25ca4a1966cf3e3300468d16c933013a5b3d00d369387bb8cfa"), looks := false }, kinds := [], alts := [], laidByText := true, laidKinds := [.data], laidTests := true, laidLooks := .later }
def DigestPadsUptoCardSaid : Prop := Claim7.holds Tryd.pinned (.plain (OpenSpec.upto digestPadsSpec)) digestPadsUptoCard

/-- THE SECOND FORM's CARD OF 'sacristylaw02.DigestWords'. -/
def digestWordsUptoCard : Claim7 := { stood := { row := digestWordsUptoRow, standIns := [], harness := (true, "9f71921702b9a25ca4a1966cf3e3300468d16c933013a5b3d00d369387bb8cfa"), looks := false }, kinds := [], alts := [], laidByText := true, laidKinds := [.data], laidTests := true, laidLooks := .later }
def DigestWordsUptoCardSaid : Prop := Claim7.holds Tryd.pinned (.plain (OpenSpec.upto digestWordsSpec)) digestWordsUptoCard

/-- THE SECOND FORM's CARD OF 'sacristylaw02.DigestStill'. -/
def digestStillUptoCard : Claim7 := { stood := { row := digestStillUptoRow, standIns := [], harness := (true, "9f71921702b9a25ca4a1966cf3e3300468d16c933013a5b3d00d369387bb8cfa"), looks := false }, kinds := [], alts := [], laidByText := true, laidKinds := [.data], laidTests := true, laidLooks := .later }
def DigestStillUptoCardSaid : Prop := Claim7.holds Tryd.pinned (.plain (OpenSpec.upto digestStillSpec)) digestStillUptoCard

/-- THE SECOND FORM's CARD OF 'sacristylaw02.DigestLong'. -/
def digestLongUptoCard : Claim7 := { stood := { row := digestLongUptoRow, standIns := [], harness := (true, "9f71921702b9a25ca4a1966cf3e3300468d16c933013a5b3d00d369387bb8cfa"), looks := false }, kinds := [], alts := [], laidByText := true, laidKinds := [.data], laidTests := true, laidLooks := .later }
def DigestLongUptoCardSaid : Prop := Claim7.holds Tryd.pinned (.plain (OpenSpec.upto digestLongSpec)) digestLongUptoCard
end Rows
end Go.Proofs.YtjbagoedaelmnaaDoor
