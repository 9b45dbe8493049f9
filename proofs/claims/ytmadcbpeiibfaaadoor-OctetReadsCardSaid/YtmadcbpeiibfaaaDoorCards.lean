/-
  DERIVED. GIVEN WITH THE SEED: THE CARDS: each row of YtmadcbpeiibfaaaDoorRows.lean that lists a variable, with what it lists TIED to the program's text (the seventh form; the later family's looks); each row that meets fmt, with fmt's text TOLD by the authors' own Lean function (tested against real Go, not proved from fmt's source: count such statements apart). THE CARD IS WHAT COUNTS. Prove the row's statement (the work); the ties are given (YtmadcbpeiibfaaaDoorTie.lean); close each card by the builder's one call (the guide's Derived/Test/ToyasCard.lean, 'card_holds'). Laid BY PROGRAM, IN A SANDBOX (cutbox-door.mjs). By AI agents, Wed Nov 11 2026. No macro, syntax, notation, axiom, sorry.
-/
import Derived.Test.YtmadcbpeiibfaaaDoorRows
import GoSem.ClaimSeven
namespace Go.Proofs.YtmadcbpeiibfaaaDoor
namespace Rows

/-- THE TIED CARD OF 'drawbarlaw01.OctetNumbers'. -/
def octetNumbersCard : Claim7 := { stood := { row := octetNumbersRow, standIns := [], harness := (true, "7e900939a86a40689e8f8c9f87eeb8cc1eb17e76cbaf05069a0c0d4be666ae5e"), looks := false }, kinds := [], alts := [], laidByText := true, laidKinds := [.data], laidTests := true, laidLooks := .later }
def OctetNumbersCardSaid : Prop := Claim7.holds Tryd.pinned (.plain (OpenSpec.ofChange octetNumbersSpec)) octetNumbersCard

/-- THE TIED CARD OF 'drawbarlaw01.OctetSeals'. -/
def octetSealsCard : Claim7 := { stood := { row := octetSealsRow, standIns := [], harness := (true, "7e900939a86a40689e8f8c9f87eeb8cc1eb17e76cbaf05069a0c0d4be666ae5e"), looks := false }, kinds := [], alts := [], laidByText := true, laidKinds := [.data], laidTests := true, laidLooks := .later }
def OctetSealsCardSaid : Prop := Claim7.holds Tryd.pinned (.plain (OpenSpec.ofChange octetSealsSpec)) octetSealsCard

/-- THE TIED CARD OF 'drawbarlaw01.OctetBursts'. -/
def octetBurstsCard : Claim7 := { stood := { row := octetBurstsRow, standIns := [], harness := (true, "7e900939a86a40689e8f8c9f87eeb8cc1eb17e76cbaf05069a0c0d4be666ae5e"), looks := false }, kinds := [], alts := [], laidByText := true, laidKinds := [.data], laidTests := true, laidLooks := .later }
def OctetBurstsCardSaid : Prop := Claim7.holds Tryd.pinned (.plain (OpenSpec.ofChange octetBurstsSpec)) octetBurstsCard

/-- THE TIED CARD OF 'drawbarlaw01.OctetReads'. -/
def octetReadsCard : Claim7 := { stood := { row := octetReadsRow, standIns := [], harness := (true, "7e900939a86a40689e8f8c9f87eeb8cc1eb17e76cbaf05069a0c0d4be666ae5e"), looks := false }, kinds := [], alts := [], laidByText := true, laidKinds := [.data], laidTests := true, laidLooks := .later }
def OctetReadsCardSaid : Prop := Claim7.holds Tryd.pinned (.plain (OpenSpec.ofChange octetReadsSpec)) octetReadsCard

/-- THE TIED CARD OF 'drawbarlaw01.OctetLists'. -/
def octetListsCard : Claim7 := { stood := { row := octetListsRow, standIns := [], harness := (true, "7e900939a86a40689e8f8c9f87eeb8cc1eb17e76cbaf05069a0c0d4be666ae5e"), looks := false }, kinds := [], alts := [], laidByText := true, laidKinds := [.data], laidTests := true, laidLooks := .later }
def OctetListsCardSaid : Prop := Claim7.holds Tryd.pinned (.plain (OpenSpec.ofChange octetListsSpec)) octetListsCard

/-- THE TIED CARD OF 'drawbarlaw01.OctetNil'. -/
def octetNilCard : Claim7 := { stood := { row := octetNilRow, standIns := [], harness := (true, "7e900939a86a40689e8f8c9f87eeb8cc1eb17e76cbaf05069a0c0d4be666ae5e"), looks := false }, kinds := [], alts := [], laidByText := true, laidKinds := [.data], laidTests := true, laidLooks := .later }
def OctetNilCardSaid : Prop := Claim7.holds Tryd.pinned (.plain (OpenSpec.ofChange octetNilSpec)) octetNilCard

/-- THE TIED CARD OF 'drawbarlaw01.OctetOne'. -/
def octetOneCard : Claim7 := { stood := { row := octetOneRow, standIns := [], harness := (true, "7e900939a86a40689e8f8c9f87eeb8cc1eb17e76cbaf05069a0c0d4be666ae5e"), looks := false }, kinds := [], alts := [], laidByText := true, laidKinds := [.data], laidTests := true, laidLooks := .later }
def OctetOneCardSaid : Prop := Claim7.holds Tryd.pinned (.plain (OpenSpec.ofChange octetOneSpec)) octetOneCard

/-- THE TIED CARD OF 'drawbarlaw01.OctetGets'. -/
def octetGetsCard : Claim7 := { stood := { row := octetGetsRow, standIns := [], harness := (true, "7e900939a86a40689e8f8c9f87eeb8cc1eb17e76cbaf05069a0c0d4be666ae5e"), looks := false }, kinds := [], alts := [], laidByText := true, laidKinds := [.data], laidTests := true, laidLooks := .later }
def OctetGetsCardSaid : Prop := Claim7.holds Tryd.pinned (.plain (OpenSpec.ofChange octetGetsSpec)) octetGetsCard

/-- THE TIED CARD OF 'drawbarlaw01.OctetEnds'. -/
def octetEndsCard : Claim7 := { stood := { row := octetEndsRow, standIns := [], harness := (true, "7e900939a86a40689e8f8c9f87eeb8cc1eb17e76cbaf05069a0c0d4be666ae5e"), looks := false }, kinds := [], alts := [], laidByText := true, laidKinds := [.data], laidTests := true, laidLooks := .later }
def OctetEndsCardSaid : Prop := Claim7.holds Tryd.pinned (.plain (OpenSpec.ofChange octetEndsSpec)) octetEndsCard

/-- THE SECOND FORM's CARD OF 'drawbarlaw01.OctetNumbers'. -/
def octetNumbersUptoCard : Claim7 := { stood := { row := octetNumbersUptoRow, standIns := [], harness := (true, "7e900939a86a40689e8f8c9f87eeb8cc1eb17e76cbaf05069a0c0d4be666ae5e"), looks := false }, kinds := [], alts := [], laidByText := true, laidKinds := [.data], laidTests := true, laidLooks := .later }
def OctetNumbersUptoCardSaid : Prop := Claim7.holds Tryd.pinned (.plain (OpenSpec.upto octetNumbersSpec)) octetNumbersUptoCard

/-- THE SECOND FORM's CARD OF 'drawbarlaw01.OctetSeals'. -/
def octetSealsUptoCard : Claim7 := { stood := { row := octetSealsUptoRow, standIns := [], harness := (true, "7e900939a86a40689e8f8c9f87eeb8cc1eb17e76cbaf05069a0c0d4be666ae5e"), looks := false }, kinds := [], alts := [], laidByText := true, laidKinds := [.data], laidTests := true, laidLooks := .later }
def OctetSealsUptoCardSaid : Prop := Claim7.holds Tryd.pinned (.plain (OpenSpec.upto octetSealsSpec)) octetSealsUptoCard

/-- THE SECOND FORM's CARD OF 'drawbarlaw01.OctetBursts'. -/
def octetBurstsUptoCard : Claim7 := { stood := { row := octetBurstsUptoRow, standIns := [], harness := (true, "7e900939a86a40689e8f8c9f87eeb8cc1eb17e76cbaf05069a0c0d4be666ae5e"), looks := false }, kinds := [], alts := [], laidByText := true, laidKinds := [.data], laidTests := true, laidLooks := .later }
def OctetBurstsUptoCardSaid : Prop := Claim7.holds Tryd.pinned (.plain (OpenSpec.upto octetBurstsSpec)) octetBurstsUptoCard

/-- THE SECOND FORM's CARD OF 'drawbarlaw01.OctetReads'. -/
def octetReadsUptoCard : Claim7 := { stood := { row := octetReadsUptoRow, standIns := [], harness := (true, "7e900939a86a40689e8f8c9f87eeb8cc1eb17e76cbaf05069a0c0d4be666ae5e"), looks := false }, kinds := [], alts := [], laidByText := true, laidKinds := [.data], laidTests := true, laidLooks := .later }
def OctetReadsUptoCardSaid : Prop := Claim7.holds Tryd.pinned (.plain (OpenSpec.upto octetReadsSpec)) octetReadsUptoCard

/-- THE SECOND FORM's CARD OF 'drawbarlaw01.OctetLists'. -/
def octetListsUptoCard : Claim7 := { stood := { row := octetListsUptoRow, standIns := [], harness := (true, "7e900939a86a40689e8f8c9f87eeb8cc1eb17e76cbaf05069a0c0d4be666ae5e"), looks := false }, kinds := [], alts := [], laidByText := true, laidKinds := [.data], laidTests := true, laidLooks := .later }
def OctetListsUptoCardSaid : Prop := Claim7.holds Tryd.pinned (.plain (OpenSpec.upto octetListsSpec)) octetListsUptoCard

/-- THE SECOND FORM's CARD OF 'drawbarlaw01.OctetNil'. -/
def octetNilUptoCard : Claim7 := { stood := { row := octetNilUptoRow, standIns := [], harness := (true, "7e900939a86a40689e8f8c9f87eeb8cc1eb17e76cbaf05069a0c0d4be666ae5e"), looks := false }, kinds := [], alts := [], laidByText := true, laidKinds := [.data], laidTests := true, laidLooks := .later }
def OctetNilUptoCardSaid : Prop := Claim7.holds Tryd.pinned (.plain (OpenSpec.upto octetNilSpec)) octetNilUptoCard

/-- THE SECOND FORM's CARD OF 'drawbarlaw01.OctetOne'. -/
def octetOneUptoCard : Claim7 := { stood := { row := octetOneUptoRow, standIns := [], harness := (true, "7e900939a86a40689e8f8c9f87eeb8cc1eb17e76cbaf05069a0c0d4be666ae5e"), looks := false }, kinds := [], alts := [], laidByText := true, laidKinds := [.data], laidTests := true, laidLooks := .later }
def OctetOneUptoCardSaid : Prop := Claim7.holds Tryd.pinned (.plain (OpenSpec.upto octetOneSpec)) octetOneUptoCard

/-- THE SECOND FORM's CARD OF 'drawbarlaw01.OctetGets'. -/
def octetGetsUptoCard : Claim7 := { stood := { row := octetGetsUptoRow, standIns := [], harness := (true, "7e900939a86a40689e8f8c9f87eeb8cc1eb17e76cbaf05069a0c0d4be666ae5e"), looks := false }, kinds := [], alts := [], laidByText := true, laidKinds := [.data], laidTests := true, laidLooks := .later }
def OctetGetsUptoCardSaid : Prop := Claim7.holds Tryd.pinned (.plain (OpenSpec.upto octetGetsSpec)) octetGetsUptoCard

/-- THE SECOND FORM's CARD OF 'drawbarlaw01.OctetEnds'. -/
def octetEndsUptoCard : Claim7 := { stood := { row := octetEndsUptoRow, standIns := [], harness := (true, "7e900939a86a40689e8f8c9f87eeb8cc1eb17e76cbaf05069a0c0d4be666ae5e"), looks := false }, kinds := [], alts := [], laidByText := true, laidKinds := [.data], laidTests := true, laidLooks := .later }
def OctetEndsUptoCardSaid : Prop := Claim7.holds Tryd.pinned (.plain (OpenSpec.upto octetEndsSpec)) octetEndsUptoCard
end Rows
end Go.Proofs.YtmadcbpeiibfaaaDoor
