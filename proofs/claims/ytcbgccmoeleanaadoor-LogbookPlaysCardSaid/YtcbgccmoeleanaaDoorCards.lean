/-
  DERIVED. GIVEN WITH THE SEED: THE CARDS: each row of YtcbgccmoeleanaaDoorRows.lean that lists a variable, with what it lists TIED to the program's text (the seventh form; the later family's looks); each row that meets fmt, with fmt's text TOLD by the authors' own Lean function (tested against real Go, not proved from fmt's source: count such statements apart). THE CARD IS WHAT COUNTS. Prove the row's statement (the work); the ties are given (YtcbgccmoeleanaaDoorTie.lean); close each card by the builder's one call (the guide's Derived/Test/ToyasCard.lean, 'card_holds'). Laid BY PROGRAM, IN A SANDBOX (cutbox-door.mjs). By AI agents, Wed Nov 11 2026. No macro, syntax, notation, axiom, sorry.
-/
import Derived.Test.YtcbgccmoeleanaaDoorRows
import GoSem.ClaimSeven
namespace Go.Proofs.YtcbgccmoeleanaaDoor
namespace Rows

/-- THE TIED CARD OF 'drawbarlaw06.LogbookPlays'. -/
def logbookPlaysCard : Claim7 := { stood := { row := logbookPlaysRow, standIns := [], harness := (true, "a4ced3a1323477aabbabb7b69a8189aca81c39d24c331245cfd670e55118ba36"), looks := false }, kinds := [], alts := [], laidByText := true, laidKinds := [.data], laidTests := true, laidLooks := .later }
def LogbookPlaysCardSaid : Prop := Claim7.holds Tryd.pinned (.plain (OpenSpec.ofChange logbookPlaysSpec)) logbookPlaysCard

/-- THE TIED CARD OF 'drawbarlaw06.LogbookFalls'. -/
def logbookFallsCard : Claim7 := { stood := { row := logbookFallsRow, standIns := [], harness := (true, "a4ced3a1323477aabbabb7b69a8189aca81c39d24c331245cfd670e55118ba36"), looks := false }, kinds := [], alts := [], laidByText := true, laidKinds := [.data], laidTests := true, laidLooks := .later }
def LogbookFallsCardSaid : Prop := Claim7.holds Tryd.pinned (.plain (OpenSpec.ofChange logbookFallsSpec)) logbookFallsCard

/-- THE TIED CARD OF 'drawbarlaw06.LogbookFails'. -/
def logbookFailsCard : Claim7 := { stood := { row := logbookFailsRow, standIns := [], harness := (true, "a4ced3a1323477aabbabb7b69a8189aca81c39d24c331245cfd670e55118ba36"), looks := false }, kinds := [], alts := [], laidByText := true, laidKinds := [.data], laidTests := true, laidLooks := .later }
def LogbookFailsCardSaid : Prop := Claim7.holds Tryd.pinned (.plain (OpenSpec.ofChange logbookFailsSpec)) logbookFailsCard

/-- THE TIED CARD OF 'drawbarlaw06.LogbookFenced'. -/
def logbookFencedCard : Claim7 := { stood := { row := logbookFencedRow, standIns := [], harness := (true, "a4ced3a1323477aabbabb7b69a8189aca81c39d24c331245cfd670e55118ba36"), looks := false }, kinds := [], alts := [], laidByText := true, laidKinds := [.data], laidTests := true, laidLooks := .later }
def LogbookFencedCardSaid : Prop := Claim7.holds Tryd.pinned (.plain (OpenSpec.ofChange logbookFencedSpec)) logbookFencedCard

/-- THE TIED CARD OF 'drawbarlaw06.LogbookErrs'. -/
def logbookErrsCard : Claim7 := { stood := { row := logbookErrsRow, standIns := [], harness := (true, "a4ced3a1323477aabbabb7b69a8189aca81c39d24c331245cfd670e55118ba36"), looks := false }, kinds := [], alts := [], laidByText := true, laidKinds := [.data], laidTests := true, laidLooks := .later }
def LogbookErrsCardSaid : Prop := Claim7.holds Tryd.pinned (.plain (OpenSpec.ofChange logbookErrsSpec)) logbookErrsCard

/-- THE TIED CARD OF 'drawbarlaw06.LogbookMany'. -/
def logbookManyCard : Claim7 := { stood := { row := logbookManyRow, standIns := [], harness := (true, "a4ced3a1323477aabbabb7b69a8189aca81c39d24c331245cfd670e55118ba36"), looks := false }, kinds := [], alts := [], laidByText := true, laidKinds := [.data], laidTests := true, laidLooks := .later }
def LogbookManyCardSaid : Prop := Claim7.holds Tryd.pinned (.plain (OpenSpec.ofChange logbookManySpec)) logbookManyCard

/-- THE TIED CARD OF 'drawbarlaw06.LogbookOnce'. -/
def logbookOnceCard : Claim7 := { stood := { row := logbookOnceRow, standIns := [], harness := (true, "a4ced3a1323477aabbabb7b69a8189aca81c39d24c331245cfd670e55118ba36"), looks := false }, kinds := [], alts := [], laidByText := true, laidKinds := [.data], laidTests := true, laidLooks := .later }
def LogbookOnceCardSaid : Prop := Claim7.holds Tryd.pinned (.plain (OpenSpec.ofChange logbookOnceSpec)) logbookOnceCard

/-- THE SECOND FORM's CARD OF 'drawbarlaw06.LogbookPlays'. -/
def logbookPlaysUptoCard : Claim7 := { stood := { row := logbookPlaysUptoRow, standIns := [], harness := (true, "a4ced3a1323477aabbabb7b69a8189aca81c39d24c331245cfd670e55118ba36"), looks := false }, kinds := [], alts := [], laidByText := true, laidKinds := [.data], laidTests := true, laidLooks := .later }
def LogbookPlaysUptoCardSaid : Prop := Claim7.holds Tryd.pinned (.plain (OpenSpec.upto logbookPlaysSpec)) logbookPlaysUptoCard

/-- THE SECOND FORM's CARD OF 'drawbarlaw06.LogbookFalls'. -/
def logbookFallsUptoCard : Claim7 := { stood := { row := logbookFallsUptoRow, standIns := [], harness := (true, "a4ced3a1323477aabbabb7b69a8189aca81c39d24c331245cfd670e55118ba36"), looks := false }, kinds := [], alts := [], laidByText := true, laidKinds := [.data], laidTests := true, laidLooks := .later }
def LogbookFallsUptoCardSaid : Prop := Claim7.holds Tryd.pinned (.plain (OpenSpec.upto logbookFallsSpec)) logbookFallsUptoCard

/-- THE SECOND FORM's CARD OF 'drawbarlaw06.LogbookFails'. -/
def logbookFailsUptoCard : Claim7 := { stood := { row := logbookFailsUptoRow, standIns := [], harness := (true, "a4ced3a1323477aabbabb7b69a8189aca81c39d24c331245cfd670e55118ba36"), looks := false }, kinds := [], alts := [], laidByText := true, laidKinds := [.data], laidTests := true, laidLooks := .later }
def LogbookFailsUptoCardSaid : Prop := Claim7.holds Tryd.pinned (.plain (OpenSpec.upto logbookFailsSpec)) logbookFailsUptoCard

/-- THE SECOND FORM's CARD OF 'drawbarlaw06.LogbookFenced'. -/
def logbookFencedUptoCard : Claim7 := { stood := { row := logbookFencedUptoRow, standIns := [], harness := (true, "a4ced3a1323477aabbabb7b69a8189aca81c39d24c331245cfd670e55118ba36"), looks := false }, kinds := [], alts := [], laidByText := true, laidKinds := [.data], laidTests := true, laidLooks := .later }
def LogbookFencedUptoCardSaid : Prop := Claim7.holds Tryd.pinned (.plain (OpenSpec.upto logbookFencedSpec)) logbookFencedUptoCard

/-- THE SECOND FORM's CARD OF 'drawbarlaw06.LogbookErrs'. -/
def logbookErrsUptoCard : Claim7 := { stood := { row := logbookErrsUptoRow, standIns := [], harness := (true, "a4ced3a1323477aabbabb7b69a8189aca81c39d24c331245cfd670e55118ba36"), looks := false }, kinds := [], alts := [], laidByText := true, laidKinds := [.data], laidTests := true, laidLooks := .later }
def LogbookErrsUptoCardSaid : Prop := Claim7.holds Tryd.pinned (.plain (OpenSpec.upto logbookErrsSpec)) logbookErrsUptoCard

/-- THE SECOND FORM's CARD OF 'drawbarlaw06.LogbookMany'. -/
def logbookManyUptoCard : Claim7 := { stood := { row := logbookManyUptoRow, standIns := [], harness := (true, "a4ced3a1323477aabbabb7b69a8189aca81c39d24c331245cfd670e55118ba36"), looks := false }, kinds := [], alts := [], laidByText := true, laidKinds := [.data], laidTests := true, laidLooks := .later }
def LogbookManyUptoCardSaid : Prop := Claim7.holds Tryd.pinned (.plain (OpenSpec.upto logbookManySpec)) logbookManyUptoCard

/-- THE SECOND FORM's CARD OF 'drawbarlaw06.LogbookOnce'. -/
def logbookOnceUptoCard : Claim7 := { stood := { row := logbookOnceUptoRow, standIns := [], harness := (true, "a4ced3a1323477aabbabb7b69a8189aca81c39d24c331245cfd670e55118ba36"), looks := false }, kinds := [], alts := [], laidByText := true, laidKinds := [.data], laidTests := true, laidLooks := .later }
def LogbookOnceUptoCardSaid : Prop := Claim7.holds Tryd.pinned (.plain (OpenSpec.upto logbookOnceSpec)) logbookOnceUptoCard
end Rows
end Go.Proofs.YtcbgccmoeleanaaDoor
