/-
  DERIVED. GIVEN WITH THE SEED: THE CARDS: each row of YtmhmmemmdekjhaaDoorRows.lean that lists a variable, with what it lists TIED to the program's text (the seventh form; the later family's looks); each row that meets fmt, with fmt's text TOLD by the authors' own Lean function (tested against real Go, not proved from fmt's source: count such statements apart). THE CARD IS WHAT COUNTS. Prove the row's statement (the work); the ties are given (YtmhmmemmdekjhaaDoorTie.lean); close each card by the builder's one call (the guide's Derived/Test/ToyasCard.lean, 'card_holds'). Laid BY PROGRAM, IN A SANDBOX (cutbox-door.mjs). By AI agents, Wed Nov 11 2026. No macro, syntax, notation, axiom, sorry.
-/
import Derived.Test.YtmhmmemmdekjhaaDoorRows
import GoSem.ClaimSeven
namespace Go.Proofs.YtmhmmemmdekjhaaDoor
namespace Rows

/-- THE TIED CARD OF 'drawbarlaw09.ScanBlocks'. -/
def scanBlocksCard : Claim7 := { stood := { row := scanBlocksRow, standIns := [], harness := (true, "6d4bb8dc4c2833f7e69a3ccde7a87f95c93dfaa2205c61cd34b70e48d8a96d3e"), looks := false }, kinds := [], alts := [], laidByText := true, laidKinds := [.data], laidTests := true, laidLooks := .later }
def ScanBlocksCardSaid : Prop := Claim7.holds Tryd.pinned (.plain (OpenSpec.ofChange scanBlocksSpec)) scanBlocksCard

/-- THE TIED CARD OF 'drawbarlaw09.ScanAll'. -/
def scanAllCard : Claim7 := { stood := { row := scanAllRow, standIns := [], harness := (true, "6d4bb8dc4c2833f7e69a3ccde7a87f95c93dfaa2205c61cd34b70e48d8a96d3e"), looks := false }, kinds := [], alts := [], laidByText := true, laidKinds := [.data], laidTests := true, laidLooks := .later }
def ScanAllCardSaid : Prop := Claim7.holds Tryd.pinned (.plain (OpenSpec.ofChange scanAllSpec)) scanAllCard

/-- THE TIED CARD OF 'drawbarlaw09.ScanCopies'. -/
def scanCopiesCard : Claim7 := { stood := { row := scanCopiesRow, standIns := [], harness := (true, "6d4bb8dc4c2833f7e69a3ccde7a87f95c93dfaa2205c61cd34b70e48d8a96d3e"), looks := false }, kinds := [], alts := [], laidByText := true, laidKinds := [.data], laidTests := true, laidLooks := .later }
def ScanCopiesCardSaid : Prop := Claim7.holds Tryd.pinned (.plain (OpenSpec.ofChange scanCopiesSpec)) scanCopiesCard

/-- THE TIED CARD OF 'drawbarlaw09.ScanErrs'. -/
def scanErrsCard : Claim7 := { stood := { row := scanErrsRow, standIns := [], harness := (true, "6d4bb8dc4c2833f7e69a3ccde7a87f95c93dfaa2205c61cd34b70e48d8a96d3e"), looks := false }, kinds := [], alts := [], laidByText := true, laidKinds := [.data], laidTests := true, laidLooks := .later }
def ScanErrsCardSaid : Prop := Claim7.holds Tryd.pinned (.plain (OpenSpec.ofChange scanErrsSpec)) scanErrsCard

/-- THE TIED CARD OF 'drawbarlaw09.ScanNewest'. -/
def scanNewestCard : Claim7 := { stood := { row := scanNewestRow, standIns := [], harness := (true, "6d4bb8dc4c2833f7e69a3ccde7a87f95c93dfaa2205c61cd34b70e48d8a96d3e"), looks := false }, kinds := [], alts := [], laidByText := true, laidKinds := [.data], laidTests := true, laidLooks := .later }
def ScanNewestCardSaid : Prop := Claim7.holds Tryd.pinned (.plain (OpenSpec.ofChange scanNewestSpec)) scanNewestCard

/-- THE TIED CARD OF 'drawbarlaw09.ScanForeign'. -/
def scanForeignCard : Claim7 := { stood := { row := scanForeignRow, standIns := [], harness := (true, "6d4bb8dc4c2833f7e69a3ccde7a87f95c93dfaa2205c61cd34b70e48d8a96d3e"), looks := false }, kinds := [], alts := [], laidByText := true, laidKinds := [.data], laidTests := true, laidLooks := .later }
def ScanForeignCardSaid : Prop := Claim7.holds Tryd.pinned (.plain (OpenSpec.ofChange scanForeignSpec)) scanForeignCard

/-- THE SECOND FORM's CARD OF 'drawbarlaw09.ScanBlocks'. -/
def scanBlocksUptoCard : Claim7 := { stood := { row := scanBlocksUptoRow, standIns := [], harness := (true, "6d4bb8dc4c2833f7e69a3ccde7a87f95c93dfaa2205c61cd34b70e48d8a96d3e"), looks := false }, kinds := [], alts := [], laidByText := true, laidKinds := [.data], laidTests := true, laidLooks := .later }
def ScanBlocksUptoCardSaid : Prop := Claim7.holds Tryd.pinned (.plain (OpenSpec.upto scanBlocksSpec)) scanBlocksUptoCard

/-- THE SECOND FORM's CARD OF 'drawbarlaw09.ScanAll'. -/
def scanAllUptoCard : Claim7 := { stood := { row := scanAllUptoRow, standIns := [], harness := (true, "6d4bb8dc4c2833f7e69a3ccde7a87f95c93dfaa2205c61cd34b70e48d8a96d3e"), looks := false }, kinds := [], alts := [], laidByText := true, laidKinds := [.data], laidTests := true, laidLooks := .later }
def ScanAllUptoCardSaid : Prop := Claim7.holds Tryd.pinned (.plain (OpenSpec.upto scanAllSpec)) scanAllUptoCard

/-- THE SECOND FORM's CARD OF 'drawbarlaw09.ScanCopies'. -/
def scanCopiesUptoCard : Claim7 := { stood := { row := scanCopiesUptoRow, standIns := [], harness := (true, "6d4bb8dc4c2833f7e69a3ccde7a87f95c93dfaa2205c61cd34b70e48d8a96d3e"), looks := false }, kinds := [], alts := [], laidByText := true, laidKinds := [.data], laidTests := true, laidLooks := .later }
def ScanCopiesUptoCardSaid : Prop := Claim7.holds Tryd.pinned (.plain (OpenSpec.upto scanCopiesSpec)) scanCopiesUptoCard

/-- THE SECOND FORM's CARD OF 'drawbarlaw09.ScanErrs'. -/
def scanErrsUptoCard : Claim7 := { stood := { row := scanErrsUptoRow, standIns := [], harness := (true, "6d4bb8dc4c2833f7e69a3ccde7a87f95c93dfaa2205c61cd34b70e48d8a96d3e"), looks := false }, kinds := [], alts := [], laidByText := true, laidKinds := [.data], laidTests := true, laidLooks := .later }
def ScanErrsUptoCardSaid : Prop := Claim7.holds Tryd.pinned (.plain (OpenSpec.upto scanErrsSpec)) scanErrsUptoCard

/-- THE SECOND FORM's CARD OF 'drawbarlaw09.ScanNewest'. -/
def scanNewestUptoCard : Claim7 := { stood := { row := scanNewestUptoRow, standIns := [], harness := (true, "6d4bb8dc4c2833f7e69a3ccde7a87f95c93dfaa2205c61cd34b70e48d8a96d3e"), looks := false }, kinds := [], alts := [], laidByText := true, laidKinds := [.data], laidTests := true, laidLooks := .later }
def ScanNewestUptoCardSaid : Prop := Claim7.holds Tryd.pinned (.plain (OpenSpec.upto scanNewestSpec)) scanNewestUptoCard

/-- THE SECOND FORM's CARD OF 'drawbarlaw09.ScanForeign'. -/
def scanForeignUptoCard : Claim7 := { stood := { row := scanForeignUptoRow, standIns := [], harness := (true, "6d4bb8dc4c2833f7e69a3ccde7a87f95c93dfaa2205c61cd34b70e48d8a96d3e"), looks := false }, kinds := [], alts := [], laidByText := true, laidKinds := [.data], laidTests := true, laidLooks := .later }
def ScanForeignUptoCardSaid : Prop := Claim7.holds Tryd.pinned (.plain (OpenSpec.upto scanForeignSpec)) scanForeignUptoCard
end Rows
end Go.Proofs.YtmhmmemmdekjhaaDoor
