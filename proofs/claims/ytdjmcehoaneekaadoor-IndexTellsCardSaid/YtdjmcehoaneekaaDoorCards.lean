/-
  DERIVED. GIVEN WITH THE SEED: THE CARDS: each row of YtdjmcehoaneekaaDoorRows.lean that lists a variable, with what it lists TIED to the program's text (the seventh form; the later family's looks); each row that meets fmt, with fmt's text TOLD by the authors' own Lean function (tested against real Go, not proved from fmt's source: count such statements apart). THE CARD IS WHAT COUNTS. Prove the row's statement (the work); the ties are given (YtdjmcehoaneekaaDoorTie.lean); close each card by the builder's one call (the guide's Derived/Test/ToyasCard.lean, 'card_holds'). Laid BY PROGRAM, IN A SANDBOX (cutbox-door.mjs). By AI agents, Wed Nov 11 2026. No macro, syntax, notation, axiom, sorry.
-/
import Derived.Test.YtdjmcehoaneekaaDoorRows
import GoSem.ClaimSeven
namespace Go.Proofs.YtdjmcehoaneekaaDoor
namespace Rows

/-- THE TIED CARD OF 'sacristylaw08.IndexTells'. -/
def indexTellsCard : Claim7 := { stood := { row := indexTellsRow, standIns := [], harness := (true, "f4fee3040ba9d7b460c0a94c0fc7d60de8726d5a9e510d425ba1d0629eaad1bb"), looks := false }, kinds := [], alts := [], laidByText := true, laidKinds := [.data], laidTests := true, laidLooks := .later }
def IndexTellsCardSaid : Prop := Claim7.holds Tryd.pinned (.plain (OpenSpec.ofChange indexTellsSpec)) indexTellsCard

/-- THE TIED CARD OF 'sacristylaw08.IndexFinds'. -/
def indexFindsCard : Claim7 := { stood := { row := indexFindsRow, standIns := [], harness := (true, "f4fee3040ba9d7b460c0a94c0fc7d60de8726d5a9e510d425ba1d0629eaad1bb"), looks := false }, kinds := [], alts := [], laidByText := true, laidKinds := [.data], laidTests := true, laidLooks := .later }
def IndexFindsCardSaid : Prop := Claim7.holds Tryd.pinned (.plain (OpenSpec.ofChange indexFindsSpec)) indexFindsCard

/-- THE TIED CARD OF 'sacristylaw08.IndexBack'. -/
def indexBackCard : Claim7 := { stood := { row := indexBackRow, standIns := [], harness := (true, "f4fee3040ba9d7b460c0a94c0fc7d60de8726d5a9e510d425ba1d0629eaad1bb"), looks := false }, kinds := [], alts := [], laidByText := true, laidKinds := [.data], laidTests := true, laidLooks := .later }
def IndexBackCardSaid : Prop := Claim7.holds Tryd.pinned (.plain (OpenSpec.ofChange indexBackSpec)) indexBackCard

/-- THE TIED CARD OF 'sacristylaw08.IndexOrder'. -/
def indexOrderCard : Claim7 := { stood := { row := indexOrderRow, standIns := [], harness := (true, "f4fee3040ba9d7b460c0a94c0fc7d60de8726d5a9e510d425ba1d0629eaad1bb"), looks := false }, kinds := [], alts := [], laidByText := true, laidKinds := [.data], laidTests := true, laidLooks := .later }
def IndexOrderCardSaid : Prop := Claim7.holds Tryd.pinned (.plain (OpenSpec.ofChange indexOrderSpec)) indexOrderCard

/-- THE TIED CARD OF 'sacristylaw08.IndexFan'. -/
def indexFanCard : Claim7 := { stood := { row := indexFanRow, standIns := [], harness := (true, "f4fee3040ba9d7b460c0a94c0fc7d60de8726d5a9e510d425ba1d0629eaad1bb"), looks := false }, kinds := [], alts := [], laidByText := true, laidKinds := [.data], laidTests := true, laidLooks := .later }
def IndexFanCardSaid : Prop := Claim7.holds Tryd.pinned (.plain (OpenSpec.ofChange indexFanSpec)) indexFanCard

/-- THE TIED CARD OF 'sacristylaw08.IndexMore'. -/
def indexMoreCard : Claim7 := { stood := { row := indexMoreRow, standIns := [], harness := (true, "f4fee3040ba9d7b460c0a94c0fc7d60de8726d5a9e510d425ba1d0629eaad1bb"), looks := false }, kinds := [], alts := [], laidByText := true, laidKinds := [.data], laidTests := true, laidLooks := .later }
def IndexMoreCardSaid : Prop := Claim7.holds Tryd.pinned (.plain (OpenSpec.ofChange indexMoreSpec)) indexMoreCard

/-- THE SECOND FORM's CARD OF 'sacristylaw08.IndexTells'. -/
def indexTellsUptoCard : Claim7 := { stood := { row := indexTellsUptoRow, standIns := [], harness := (true, "f4fee3040ba9d7b460c0a94c0fc7d60de8726d5a9e510d425ba1d0629eaad1bb"), looks := false }, kinds := [], alts := [], laidByText := true, laidKinds := [.data], laidTests := true, laidLooks := .later }
def IndexTellsUptoCardSaid : Prop := Claim7.holds Tryd.pinned (.plain (OpenSpec.upto indexTellsSpec)) indexTellsUptoCard

/-- THE SECOND FORM's CARD OF 'sacristylaw08.IndexFinds'. -/
def indexFindsUptoCard : Claim7 := { stood := { row := indexFindsUptoRow, standIns := [], harness := (true, "f4fee3040ba9d7b460c0a94c0fc7d60de8726d5a9e510d425ba1d0629eaad1bb"), looks := false }, kinds := [], alts := [], laidByText := true, laidKinds := [.data], laidTests := true, laidLooks := .later }
def IndexFindsUptoCardSaid : Prop := Claim7.holds Tryd.pinned (.plain (OpenSpec.upto indexFindsSpec)) indexFindsUptoCard

/-- THE SECOND FORM's CARD OF 'sacristylaw08.IndexBack'. -/
def indexBackUptoCard : Claim7 := { stood := { row := indexBackUptoRow, standIns := [], harness := (true, "f4fee3040ba9d7b460c0a94c0fc7d60de8726d5a9e510d425ba1d0629eaad1bb"), looks := false }, kinds := [], alts := [], laidByText := true, laidKinds := [.data], laidTests := true, laidLooks := .later }
def IndexBackUptoCardSaid : Prop := Claim7.holds Tryd.pinned (.plain (OpenSpec.upto indexBackSpec)) indexBackUptoCard

/-- THE SECOND FORM's CARD OF 'sacristylaw08.IndexOrder'. -/
def indexOrderUptoCard : Claim7 := { stood := { row := indexOrderUptoRow, standIns := [], harness := (true, "f4fee3040ba9d7b460c0a94c0fc7d60de8726d5a9e510d425ba1d0629eaad1bb"), looks := false }, kinds := [], alts := [], laidByText := true, laidKinds := [.data], laidTests := true, laidLooks := .later }
def IndexOrderUptoCardSaid : Prop := Claim7.holds Tryd.pinned (.plain (OpenSpec.upto indexOrderSpec)) indexOrderUptoCard

/-- THE SECOND FORM's CARD OF 'sacristylaw08.IndexFan'. -/
def indexFanUptoCard : Claim7 := { stood := { row := indexFanUptoRow, standIns := [], harness := (true, "f4fee3040ba9d7b460c0a94c0fc7d60de8726d5a9e510d425ba1d0629eaad1bb"), looks := false }, kinds := [], alts := [], laidByText := true, laidKinds := [.data], laidTests := true, laidLooks := .later }
def IndexFanUptoCardSaid : Prop := Claim7.holds Tryd.pinned (.plain (OpenSpec.upto indexFanSpec)) indexFanUptoCard

/-- THE SECOND FORM's CARD OF 'sacristylaw08.IndexMore'. -/
def indexMoreUptoCard : Claim7 := { stood := { row := indexMoreUptoRow, standIns := [], harness := (true, "f4fee3040ba9d7b460c0a94c0fc7d60de8726d5a9e510d425ba1d0629eaad1bb"), looks := false }, kinds := [], alts := [], laidByText := true, laidKinds := [.data], laidTests := true, laidLooks := .later }
def IndexMoreUptoCardSaid : Prop := Claim7.holds Tryd.pinned (.plain (OpenSpec.upto indexMoreSpec)) indexMoreUptoCard
end Rows
end Go.Proofs.YtdjmcehoaneekaaDoor
