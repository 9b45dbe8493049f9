/-
  DERIVED. GIVEN WITH THE SEED: THE CARDS: each row of YtkapnpcolmhdbaaDoorRows.lean that lists a variable, with what it lists TIED to the program's text (the seventh form; the later family's looks); each row that meets fmt, with fmt's text TOLD by the authors' own Lean function (tested against real Go, not proved from fmt's source: count such statements apart). THE CARD IS WHAT COUNTS. Prove the row's statement (the work); the ties are given (YtkapnpcolmhdbaaDoorTie.lean); close each card by the builder's one call (the guide's Derived/Test/ToyasCard.lean, 'card_holds'). Laid BY PROGRAM, IN A SANDBOX (cutbox-door.mjs). By AI agents, Wed Nov 11 2026. No macro, syntax, notation, axiom, sorry.
-/
import Derived.Test.YtkapnpcolmhdbaaDoorRows
import GoSem.ClaimSeven
namespace Go.Proofs.YtkapnpcolmhdbaaDoor
namespace Rows

/-- THE TIED CARD OF 'drawbarlaw09.ScanBlocks'. -/
def scanBlocksCard : Claim7 := { stood := { row := scanBlocksRow, standIns := [], harness := (true, "ac7a8a5c7e2ac2817151f8d481214d20c7d5372887906e3c3ce39f03d78bdb95"), looks := false }, kinds := [], alts := [], laidByText := true, laidKinds := [.data], laidTests := true, laidLooks := .later }
def ScanBlocksCardSaid : Prop := Claim7.holds Tryd.pinned (.plain (OpenSpec.ofChange scanBlocksSpec)) scanBlocksCard

/-- THE TIED CARD OF 'drawbarlaw09.ScanAll'. -/
def scanAllCard : Claim7 := { stood := { row := scanAllRow, standIns := [], harness := (true, "ac7a8a5c7e2ac2817151f8d481214d20c7d5372887906e3c3ce39f03d78bdb95"), looks := false }, kinds := [], alts := [], laidByText := true, laidKinds := [.data], laidTests := true, laidLooks := .later }
def ScanAllCardSaid : Prop := Claim7.holds Tryd.pinned (.plain (OpenSpec.ofChange scanAllSpec)) scanAllCard

/-- THE SECOND FORM's CARD OF 'drawbarlaw09.ScanBlocks'. -/
def scanBlocksUptoCard : Claim7 := { stood := { row := scanBlocksUptoRow, standIns := [], harness := (true, "ac7a8a5c7e2ac2817151f8d481214d20c7d5372887906e3c3ce39f03d78bdb95"), looks := false }, kinds := [], alts := [], laidByText := true, laidKinds := [.data], laidTests := true, laidLooks := .later }
def ScanBlocksUptoCardSaid : Prop := Claim7.holds Tryd.pinned (.plain (OpenSpec.upto scanBlocksSpec)) scanBlocksUptoCard

/-- THE SECOND FORM's CARD OF 'drawbarlaw09.ScanAll'. -/
def scanAllUptoCard : Claim7 := { stood := { row := scanAllUptoRow, standIns := [], harness := (true, "ac7a8a5c7e2ac2817151f8d481214d20c7d5372887906e3c3ce39f03d78bdb95"), looks := false }, kinds := [], alts := [], laidByText := true, laidKinds := [.data], laidTests := true, laidLooks := .later }
def ScanAllUptoCardSaid : Prop := Claim7.holds Tryd.pinned (.plain (OpenSpec.upto scanAllSpec)) scanAllUptoCard
end Rows
end Go.Proofs.YtkapnpcolmhdbaaDoor
