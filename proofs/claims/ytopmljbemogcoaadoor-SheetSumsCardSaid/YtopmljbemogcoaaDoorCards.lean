/-
  DERIVED. GIVEN WITH THE SEED: THE CARDS: each row of YtopmljbemogcoaaDoorRows.lean that lists a variable, with what it lists TIED to the program's text (the seventh form; the later family's looks); each row that meets fmt, with fmt's text TOLD by the authors' own Lean function (tested against real Go, not proved from fmt's source: count such statements apart). THE CARD IS WHAT COUNTS. Prove the row's statement (the work); the ties are given (YtopmljbemogcoaaDoorTie.lean); close each card by the builder's one call (the guide's Derived/Test/ToyasCard.lean, 'card_holds'). Laid BY PROGRAM, IN A SANDBOX (cutbox-door.mjs). By AI agents, Wed Nov 11 2026. No macro, syntax, notation, axiom, sorry.
-/
import Derived.Test.YtopmljbemogcoaaDoorRows
import GoSem.ClaimSeven
namespace Go.Proofs.YtopmljbemogcoaaDoor
namespace Rows

/-- THE TIED CARD OF 'drawbarlaw04.SheetForms'. -/
def sheetFormsCard : Claim7 := { stood := { row := sheetFormsRow, standIns := [], harness := (true, "fd4cacc0d85c3e4278537590cac1a0bd116254926d99c19676b4b841331e5d57"), looks := false }, kinds := [], alts := [], laidByText := true, laidKinds := [.data], laidTests := true, laidLooks := .later }
def SheetFormsCardSaid : Prop := Claim7.holds Tryd.pinned (.plain (OpenSpec.ofChange sheetFormsSpec)) sheetFormsCard

/-- THE TIED CARD OF 'drawbarlaw04.SheetBack'. -/
def sheetBackCard : Claim7 := { stood := { row := sheetBackRow, standIns := [], harness := (true, "fd4cacc0d85c3e4278537590cac1a0bd116254926d99c19676b4b841331e5d57"), looks := false }, kinds := [], alts := [], laidByText := true, laidKinds := [.data], laidTests := true, laidLooks := .later }
def SheetBackCardSaid : Prop := Claim7.holds Tryd.pinned (.plain (OpenSpec.ofChange sheetBackSpec)) sheetBackCard

/-- THE TIED CARD OF 'drawbarlaw04.SheetReads'. -/
def sheetReadsCard : Claim7 := { stood := { row := sheetReadsRow, standIns := [], harness := (true, "fd4cacc0d85c3e4278537590cac1a0bd116254926d99c19676b4b841331e5d57"), looks := false }, kinds := [], alts := [], laidByText := true, laidKinds := [.data], laidTests := true, laidLooks := .later }
def SheetReadsCardSaid : Prop := Claim7.holds Tryd.pinned (.plain (OpenSpec.ofChange sheetReadsSpec)) sheetReadsCard

/-- THE TIED CARD OF 'drawbarlaw04.SheetTorn'. -/
def sheetTornCard : Claim7 := { stood := { row := sheetTornRow, standIns := [], harness := (true, "fd4cacc0d85c3e4278537590cac1a0bd116254926d99c19676b4b841331e5d57"), looks := false }, kinds := [], alts := [], laidByText := true, laidKinds := [.data], laidTests := true, laidLooks := .later }
def SheetTornCardSaid : Prop := Claim7.holds Tryd.pinned (.plain (OpenSpec.ofChange sheetTornSpec)) sheetTornCard

/-- THE TIED CARD OF 'drawbarlaw04.SheetApart'. -/
def sheetApartCard : Claim7 := { stood := { row := sheetApartRow, standIns := [], harness := (true, "fd4cacc0d85c3e4278537590cac1a0bd116254926d99c19676b4b841331e5d57"), looks := false }, kinds := [], alts := [], laidByText := true, laidKinds := [.data], laidTests := true, laidLooks := .later }
def SheetApartCardSaid : Prop := Claim7.holds Tryd.pinned (.plain (OpenSpec.ofChange sheetApartSpec)) sheetApartCard

/-- THE TIED CARD OF 'drawbarlaw04.SheetParts'. -/
def sheetPartsCard : Claim7 := { stood := { row := sheetPartsRow, standIns := [], harness := (true, "fd4cacc0d85c3e4278537590cac1a0bd116254926d99c19676b4b841331e5d57"), looks := false }, kinds := [], alts := [], laidByText := true, laidKinds := [.data], laidTests := true, laidLooks := .later }
def SheetPartsCardSaid : Prop := Claim7.holds Tryd.pinned (.plain (OpenSpec.ofChange sheetPartsSpec)) sheetPartsCard

/-- THE TIED CARD OF 'drawbarlaw04.SheetSums'. -/
def sheetSumsCard : Claim7 := { stood := { row := sheetSumsRow, standIns := [], harness := (true, "fd4cacc0d85c3e4278537590cac1a0bd116254926d99c19676b4b841331e5d57"), looks := false }, kinds := [], alts := [], laidByText := true, laidKinds := [.data], laidTests := true, laidLooks := .later }
def SheetSumsCardSaid : Prop := Claim7.holds Tryd.pinned (.plain (OpenSpec.ofChange sheetSumsSpec)) sheetSumsCard

/-- THE SECOND FORM's CARD OF 'drawbarlaw04.SheetForms'. -/
def sheetFormsUptoCard : Claim7 := { stood := { row := sheetFormsUptoRow, standIns := [], harness := (true, "fd4cacc0d85c3e4278537590cac1a0bd116254926d99c19676b4b841331e5d57"), looks := false }, kinds := [], alts := [], laidByText := true, laidKinds := [.data], laidTests := true, laidLooks := .later }
def SheetFormsUptoCardSaid : Prop := Claim7.holds Tryd.pinned (.plain (OpenSpec.upto sheetFormsSpec)) sheetFormsUptoCard

/-- THE SECOND FORM's CARD OF 'drawbarlaw04.SheetBack'. -/
def sheetBackUptoCard : Claim7 := { stood := { row := sheetBackUptoRow, standIns := [], harness := (true, "fd4cacc0d85c3e4278537590cac1a0bd116254926d99c19676b4b841331e5d57"), looks := false }, kinds := [], alts := [], laidByText := true, laidKinds := [.data], laidTests := true, laidLooks := .later }
def SheetBackUptoCardSaid : Prop := Claim7.holds Tryd.pinned (.plain (OpenSpec.upto sheetBackSpec)) sheetBackUptoCard

/-- THE SECOND FORM's CARD OF 'drawbarlaw04.SheetReads'. -/
def sheetReadsUptoCard : Claim7 := { stood := { row := sheetReadsUptoRow, standIns := [], harness := (true, "fd4cacc0d85c3e4278537590cac1a0bd116254926d99c19676b4b841331e5d57"), looks := false }, kinds := [], alts := [], laidByText := true, laidKinds := [.data], laidTests := true, laidLooks := .later }
def SheetReadsUptoCardSaid : Prop := Claim7.holds Tryd.pinned (.plain (OpenSpec.upto sheetReadsSpec)) sheetReadsUptoCard

/-- THE SECOND FORM's CARD OF 'drawbarlaw04.SheetTorn'. -/
def sheetTornUptoCard : Claim7 := { stood := { row := sheetTornUptoRow, standIns := [], harness := (true, "fd4cacc0d85c3e4278537590cac1a0bd116254926d99c19676b4b841331e5d57"), looks := false }, kinds := [], alts := [], laidByText := true, laidKinds := [.data], laidTests := true, laidLooks := .later }
def SheetTornUptoCardSaid : Prop := Claim7.holds Tryd.pinned (.plain (OpenSpec.upto sheetTornSpec)) sheetTornUptoCard

/-- THE SECOND FORM's CARD OF 'drawbarlaw04.SheetApart'. -/
def sheetApartUptoCard : Claim7 := { stood := { row := sheetApartUptoRow, standIns := [], harness := (true, "fd4cacc0d85c3e4278537590cac1a0bd116254926d99c19676b4b841331e5d57"), looks := false }, kinds := [], alts := [], laidByText := true, laidKinds := [.data], laidTests := true, laidLooks := .later }
def SheetApartUptoCardSaid : Prop := Claim7.holds Tryd.pinned (.plain (OpenSpec.upto sheetApartSpec)) sheetApartUptoCard

/-- THE SECOND FORM's CARD OF 'drawbarlaw04.SheetParts'. -/
def sheetPartsUptoCard : Claim7 := { stood := { row := sheetPartsUptoRow, standIns := [], harness := (true, "fd4cacc0d85c3e4278537590cac1a0bd116254926d99c19676b4b841331e5d57"), looks := false }, kinds := [], alts := [], laidByText := true, laidKinds := [.data], laidTests := true, laidLooks := .later }
def SheetPartsUptoCardSaid : Prop := Claim7.holds Tryd.pinned (.plain (OpenSpec.upto sheetPartsSpec)) sheetPartsUptoCard

/-- THE SECOND FORM's CARD OF 'drawbarlaw04.SheetSums'. -/
def sheetSumsUptoCard : Claim7 := { stood := { row := sheetSumsUptoRow, standIns := [], harness := (true, "fd4cacc0d85c3e4278537590cac1a0bd116254926d99c19676b4b841331e5d57"), looks := false }, kinds := [], alts := [], laidByText := true, laidKinds := [.data], laidTests := true, laidLooks := .later }
def SheetSumsUptoCardSaid : Prop := Claim7.holds Tryd.pinned (.plain (OpenSpec.upto sheetSumsSpec)) sheetSumsUptoCard
end Rows
end Go.Proofs.YtopmljbemogcoaaDoor
