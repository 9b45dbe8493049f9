/-
  NARROWER THAN 'FOR EVERY INPUT', by the rows' own cells (each row's printed sentence says how): SheetForms: laid · SheetBack: laid · SheetReads: laid · SheetTorn: laid · SheetApart: laid · SheetParts: laid · SheetSums: laid.
  DERIVED. THE GIVEN ROWS OF THIS SEAT. 7 by the template 'for every input the law returns true; each argument reads behind the call as it read before'; 0 by the template 'total and deterministic' (their statements: YtopmljbemogcoaaDoorTotals.lean).
  GIVEN WITH THE SEED: the statements are not yours to turn. If you find one false, say at which input.
  Laid BY PROGRAM, IN A SANDBOX (cutbox-rows.mjs): the forced cells as the released guide's own fill.sh prints them over the translation 2a6d2cbde50cd45e… (all of the seat's roots in one cut). By AI agents, Wed Nov 11 2026. No macro, syntax, notation, axiom, sorry.
-/
import Derived.Test.YtopmljbemogcoaaDoorChecked
import GoSem.Claim
import GoSem.ClaimJoined
import GoSem.ClaimMapViews
import Derived.JoinedTies
import Derived.KernelRfl
namespace Go.Proofs.YtopmljbemogcoaaDoor
/- THE CELL 'sum', in the pinned program and in every row, IS THE sha256 OF THE DUMP (.gsa) THAT YtopmljbemogcoaaDoorProg.lean LOADS. Nothing in Lean hashes anything: it is a label: what it is worth is what the hold of that sum in a sandbox is worth. -/
noncomputable def Tryd.pinned : Pinned := { name := "ytopmljbemogcoaadoor", sum := "2a6d2cbde50cd45e4110ef957c6590aae466b4f153faa40ba3b1e1f865512a94", checked := Tryd.checked }
namespace Rows
def none {H : Type} : Left H := { results := [], args := [] }

/- WHAT THE LISTED PACKAGE-LEVEL VARIABLES READ AS WHEN THE CALL BEGINS. Each datum BY PROGRAM (the guide's laid-datum.mjs) off the statement by which the dump's own 'gosem.cut.vars' lays the variable. In a bare row this is a premise. The card (YtopmljbemogcoaaDoorCards.lean) ties it to the program's text. -/
def laid_drawbar_octet_nibbles {H : Type} : DataW H := .agg [.lit (.int .u32 0), .lit (.int .u32 498536548), .lit (.int .u32 997073096), .lit (.int .u32 651767980), .lit (.int .u32 1994146192), .lit (.int .u32 1802195444), .lit (.int .u32 1303535960), .lit (.int .u32 1342533948), .lit (.int .u32 3988292384), .lit (.int .u32 4027552580), .lit (.int .u32 3604390888), .lit (.int .u32 3412177804), .lit (.int .u32 2607071920), .lit (.int .u32 2262029012), .lit (.int .u32 2685067896), .lit (.int .u32 3183342108)]

/-- 'drawbarlaw04.SheetForms': WHATEVER THE INPUT: true; the input reads as it did. -/
def sheetFormsSpec : ChangeSpec := { name := "sheetForms", fn := fun _ => fun
  | [d] => { results := [.lit (.bool true)], args := [d] }
  | _ => none }
def sheetFormsRow : OpenClaim := { program := "ytopmljbemogcoaadoor", sum := "2a6d2cbde50cd45e4110ef957c6590aae466b4f153faa40ba3b1e1f865512a94", func := "drawbar/drawbarlaw04.SheetForms", spec := "sheetForms", named := ["drawbar/octet.nibbles"], apart := false, laid := [("drawbar/octet.nibbles", laid_drawbar_octet_nibbles)] }
def SheetFormsSaid : Prop := sheetFormsRow.holds Tryd.pinned (OpenSpec.ofChange sheetFormsSpec)

/-- ITS FALSE NEIGHBOUR: 'it returns false'. Refute it at one input. -/
def sheetFormsWrong : ChangeSpec := { name := "sheetForms", fn := fun _ => fun
  | [d] => { results := [.lit (.bool false)], args := [d] }
  | _ => none }
def SheetFormsWrongFalsely : Prop := sheetFormsRow.holds Tryd.pinned (OpenSpec.ofChange sheetFormsWrong)

/-- 'drawbarlaw04.SheetBack': WHATEVER THE INPUT: true; the input reads as it did. -/
def sheetBackSpec : ChangeSpec := { name := "sheetBack", fn := fun _ => fun
  | [d] => { results := [.lit (.bool true)], args := [d] }
  | _ => none }
def sheetBackRow : OpenClaim := { program := "ytopmljbemogcoaadoor", sum := "2a6d2cbde50cd45e4110ef957c6590aae466b4f153faa40ba3b1e1f865512a94", func := "drawbar/drawbarlaw04.SheetBack", spec := "sheetBack", named := ["drawbar/octet.nibbles"], apart := false, laid := [("drawbar/octet.nibbles", laid_drawbar_octet_nibbles)] }
def SheetBackSaid : Prop := sheetBackRow.holds Tryd.pinned (OpenSpec.ofChange sheetBackSpec)

/-- ITS FALSE NEIGHBOUR: 'it returns false'. Refute it at one input. -/
def sheetBackWrong : ChangeSpec := { name := "sheetBack", fn := fun _ => fun
  | [d] => { results := [.lit (.bool false)], args := [d] }
  | _ => none }
def SheetBackWrongFalsely : Prop := sheetBackRow.holds Tryd.pinned (OpenSpec.ofChange sheetBackWrong)

/-- 'drawbarlaw04.SheetReads': WHATEVER THE INPUT: true; the input reads as it did. -/
def sheetReadsSpec : ChangeSpec := { name := "sheetReads", fn := fun _ => fun
  | [d1, d2] => { results := [.lit (.bool true)], args := [d1, d2] }
  | _ => none }
def sheetReadsRow : OpenClaim := { program := "ytopmljbemogcoaadoor", sum := "2a6d2cbde50cd45e4110ef957c6590aae466b4f153faa40ba3b1e1f865512a94", func := "drawbar/drawbarlaw04.SheetReads", spec := "sheetReads", named := ["drawbar/octet.nibbles"], apart := false, laid := [("drawbar/octet.nibbles", laid_drawbar_octet_nibbles)] }
def SheetReadsSaid : Prop := sheetReadsRow.holds Tryd.pinned (OpenSpec.ofChange sheetReadsSpec)

/-- ITS FALSE NEIGHBOUR: 'it returns false'. Refute it at one input. -/
def sheetReadsWrong : ChangeSpec := { name := "sheetReads", fn := fun _ => fun
  | [d1, d2] => { results := [.lit (.bool false)], args := [d1, d2] }
  | _ => none }
def SheetReadsWrongFalsely : Prop := sheetReadsRow.holds Tryd.pinned (OpenSpec.ofChange sheetReadsWrong)

/-- 'drawbarlaw04.SheetTorn': WHATEVER THE INPUT: true; the input reads as it did. -/
def sheetTornSpec : ChangeSpec := { name := "sheetTorn", fn := fun _ => fun
  | [d1, d2, d3] => { results := [.lit (.bool true)], args := [d1, d2, d3] }
  | _ => none }
def sheetTornRow : OpenClaim := { program := "ytopmljbemogcoaadoor", sum := "2a6d2cbde50cd45e4110ef957c6590aae466b4f153faa40ba3b1e1f865512a94", func := "drawbar/drawbarlaw04.SheetTorn", spec := "sheetTorn", named := ["drawbar/octet.nibbles"], apart := false, laid := [("drawbar/octet.nibbles", laid_drawbar_octet_nibbles)] }
def SheetTornSaid : Prop := sheetTornRow.holds Tryd.pinned (OpenSpec.ofChange sheetTornSpec)

/-- ITS FALSE NEIGHBOUR: 'it returns false'. Refute it at one input. -/
def sheetTornWrong : ChangeSpec := { name := "sheetTorn", fn := fun _ => fun
  | [d1, d2, d3] => { results := [.lit (.bool false)], args := [d1, d2, d3] }
  | _ => none }
def SheetTornWrongFalsely : Prop := sheetTornRow.holds Tryd.pinned (OpenSpec.ofChange sheetTornWrong)

/-- 'drawbarlaw04.SheetApart': WHATEVER THE INPUT: true; the input reads as it did. -/
def sheetApartSpec : ChangeSpec := { name := "sheetApart", fn := fun _ => fun
  | [d1, d2] => { results := [.lit (.bool true)], args := [d1, d2] }
  | _ => none }
def sheetApartRow : OpenClaim := { program := "ytopmljbemogcoaadoor", sum := "2a6d2cbde50cd45e4110ef957c6590aae466b4f153faa40ba3b1e1f865512a94", func := "drawbar/drawbarlaw04.SheetApart", spec := "sheetApart", named := ["drawbar/octet.nibbles"], apart := false, laid := [("drawbar/octet.nibbles", laid_drawbar_octet_nibbles)] }
def SheetApartSaid : Prop := sheetApartRow.holds Tryd.pinned (OpenSpec.ofChange sheetApartSpec)

/-- ITS FALSE NEIGHBOUR: 'it returns false'. Refute it at one input. -/
def sheetApartWrong : ChangeSpec := { name := "sheetApart", fn := fun _ => fun
  | [d1, d2] => { results := [.lit (.bool false)], args := [d1, d2] }
  | _ => none }
def SheetApartWrongFalsely : Prop := sheetApartRow.holds Tryd.pinned (OpenSpec.ofChange sheetApartWrong)

/-- 'drawbarlaw04.SheetParts': WHATEVER THE INPUT: true; the input reads as it did. -/
def sheetPartsSpec : ChangeSpec := { name := "sheetParts", fn := fun _ => fun
  | [d1, d2, d3] => { results := [.lit (.bool true)], args := [d1, d2, d3] }
  | _ => none }
def sheetPartsRow : OpenClaim := { program := "ytopmljbemogcoaadoor", sum := "2a6d2cbde50cd45e4110ef957c6590aae466b4f153faa40ba3b1e1f865512a94", func := "drawbar/drawbarlaw04.SheetParts", spec := "sheetParts", named := ["drawbar/octet.nibbles"], apart := false, laid := [("drawbar/octet.nibbles", laid_drawbar_octet_nibbles)] }
def SheetPartsSaid : Prop := sheetPartsRow.holds Tryd.pinned (OpenSpec.ofChange sheetPartsSpec)

/-- ITS FALSE NEIGHBOUR: 'it returns false'. Refute it at one input. -/
def sheetPartsWrong : ChangeSpec := { name := "sheetParts", fn := fun _ => fun
  | [d1, d2, d3] => { results := [.lit (.bool false)], args := [d1, d2, d3] }
  | _ => none }
def SheetPartsWrongFalsely : Prop := sheetPartsRow.holds Tryd.pinned (OpenSpec.ofChange sheetPartsWrong)

/-- 'drawbarlaw04.SheetSums': WHATEVER THE INPUT: true; the input reads as it did. -/
def sheetSumsSpec : ChangeSpec := { name := "sheetSums", fn := fun _ => fun
  | [d1, d2, d3] => { results := [.lit (.bool true)], args := [d1, d2, d3] }
  | _ => none }
def sheetSumsRow : OpenClaim := { program := "ytopmljbemogcoaadoor", sum := "2a6d2cbde50cd45e4110ef957c6590aae466b4f153faa40ba3b1e1f865512a94", func := "drawbar/drawbarlaw04.SheetSums", spec := "sheetSums", named := ["drawbar/octet.nibbles"], apart := false, laid := [("drawbar/octet.nibbles", laid_drawbar_octet_nibbles)] }
def SheetSumsSaid : Prop := sheetSumsRow.holds Tryd.pinned (OpenSpec.ofChange sheetSumsSpec)

/-- ITS FALSE NEIGHBOUR: 'it returns false'. Refute it at one input. -/
def sheetSumsWrong : ChangeSpec := { name := "sheetSums", fn := fun _ => fun
  | [d1, d2, d3] => { results := [.lit (.bool false)], args := [d1, d2, d3] }
  | _ => none }
def SheetSumsWrongFalsely : Prop := sheetSumsRow.holds Tryd.pinned (OpenSpec.ofChange sheetSumsWrong)

/- THE SECOND FORM. 'bulk': how many values and letters a reading holds, each counted each time it is reached (what is shared counts as often as it is met; a slice's spare places count too). A statement '..UptoSaid' is the law's where the arguments, and the package variables that the reading takes, are together of bulk at most 1048576: NARROWER than '..Said'. Prove '..Said' where nothing that the law and all that it calls make is longer than what came in: it says more and counts as full. Else prove '..UptoSaid'. A law counts once. -/
mutual
def uptoBulk {H : Type} : DataW H → Nat
  | .lit (.string bytes) => bytes.length + 1
  | .lit _ => 1
  | .nil => 1
  | .ptr d => uptoBulk d + 1
  | .slice elems spare => uptoBulkAll elems + uptoBulkAll spare + 1
  | .agg parts => uptoBulkAll parts + 1
  | .iface _ d => uptoBulk d + 1
  | .map entries => uptoBulkEntries entries + 1
  | .held _ => 1
def uptoBulkAll {H : Type} : List (DataW H) → Nat
  | [] => 0
  | d :: r => uptoBulk d + uptoBulkAll r
def uptoBulkEntries {H : Type} : List (Lit × DataW H) → Nat
  | [] => 0
  | x :: r => uptoBulkEntry x + uptoBulkEntries r
def uptoBulkEntry {H : Type} : Lit × DataW H → Nat
  | (.string bytes, d) => bytes.length + uptoBulk d + 1
  | (_, d) => uptoBulk d + 1
 end
def uptoSmall : (H : Type) → List (DataW H) → Bool := fun _ ds => decide (uptoBulkAll ds ≤ 1048576)
def OpenSpec.upto (s : _root_.Go.ChangeSpec) : _root_.Go.OpenSpec := { _root_.Go.OpenSpec.ofChange s with cond := some uptoSmall }

/-- 'drawbarlaw04.SheetForms', WHERE WHAT IT READS IS OF BULK AT MOST 1048576: true; the input reads as it did. -/
def sheetFormsUptoRow : OpenClaim := { program := "ytopmljbemogcoaadoor", sum := "2a6d2cbde50cd45e4110ef957c6590aae466b4f153faa40ba3b1e1f865512a94", func := "drawbar/drawbarlaw04.SheetForms", spec := "sheetForms", named := ["drawbar/octet.nibbles"], apart := false, laid := [("drawbar/octet.nibbles", laid_drawbar_octet_nibbles)], narrowed := true }
def SheetFormsUptoSaid : Prop := sheetFormsUptoRow.holds Tryd.pinned (OpenSpec.upto sheetFormsSpec)

/-- 'drawbarlaw04.SheetBack', WHERE WHAT IT READS IS OF BULK AT MOST 1048576: true; the input reads as it did. -/
def sheetBackUptoRow : OpenClaim := { program := "ytopmljbemogcoaadoor", sum := "2a6d2cbde50cd45e4110ef957c6590aae466b4f153faa40ba3b1e1f865512a94", func := "drawbar/drawbarlaw04.SheetBack", spec := "sheetBack", named := ["drawbar/octet.nibbles"], apart := false, laid := [("drawbar/octet.nibbles", laid_drawbar_octet_nibbles)], narrowed := true }
def SheetBackUptoSaid : Prop := sheetBackUptoRow.holds Tryd.pinned (OpenSpec.upto sheetBackSpec)

/-- 'drawbarlaw04.SheetReads', WHERE WHAT IT READS IS OF BULK AT MOST 1048576: true; the input reads as it did. -/
def sheetReadsUptoRow : OpenClaim := { program := "ytopmljbemogcoaadoor", sum := "2a6d2cbde50cd45e4110ef957c6590aae466b4f153faa40ba3b1e1f865512a94", func := "drawbar/drawbarlaw04.SheetReads", spec := "sheetReads", named := ["drawbar/octet.nibbles"], apart := false, laid := [("drawbar/octet.nibbles", laid_drawbar_octet_nibbles)], narrowed := true }
def SheetReadsUptoSaid : Prop := sheetReadsUptoRow.holds Tryd.pinned (OpenSpec.upto sheetReadsSpec)

/-- 'drawbarlaw04.SheetTorn', WHERE WHAT IT READS IS OF BULK AT MOST 1048576: true; the input reads as it did. -/
def sheetTornUptoRow : OpenClaim := { program := "ytopmljbemogcoaadoor", sum := "2a6d2cbde50cd45e4110ef957c6590aae466b4f153faa40ba3b1e1f865512a94", func := "drawbar/drawbarlaw04.SheetTorn", spec := "sheetTorn", named := ["drawbar/octet.nibbles"], apart := false, laid := [("drawbar/octet.nibbles", laid_drawbar_octet_nibbles)], narrowed := true }
def SheetTornUptoSaid : Prop := sheetTornUptoRow.holds Tryd.pinned (OpenSpec.upto sheetTornSpec)

/-- 'drawbarlaw04.SheetApart', WHERE WHAT IT READS IS OF BULK AT MOST 1048576: true; the input reads as it did. -/
def sheetApartUptoRow : OpenClaim := { program := "ytopmljbemogcoaadoor", sum := "2a6d2cbde50cd45e4110ef957c6590aae466b4f153faa40ba3b1e1f865512a94", func := "drawbar/drawbarlaw04.SheetApart", spec := "sheetApart", named := ["drawbar/octet.nibbles"], apart := false, laid := [("drawbar/octet.nibbles", laid_drawbar_octet_nibbles)], narrowed := true }
def SheetApartUptoSaid : Prop := sheetApartUptoRow.holds Tryd.pinned (OpenSpec.upto sheetApartSpec)

/-- 'drawbarlaw04.SheetParts', WHERE WHAT IT READS IS OF BULK AT MOST 1048576: true; the input reads as it did. -/
def sheetPartsUptoRow : OpenClaim := { program := "ytopmljbemogcoaadoor", sum := "2a6d2cbde50cd45e4110ef957c6590aae466b4f153faa40ba3b1e1f865512a94", func := "drawbar/drawbarlaw04.SheetParts", spec := "sheetParts", named := ["drawbar/octet.nibbles"], apart := false, laid := [("drawbar/octet.nibbles", laid_drawbar_octet_nibbles)], narrowed := true }
def SheetPartsUptoSaid : Prop := sheetPartsUptoRow.holds Tryd.pinned (OpenSpec.upto sheetPartsSpec)

/-- 'drawbarlaw04.SheetSums', WHERE WHAT IT READS IS OF BULK AT MOST 1048576: true; the input reads as it did. -/
def sheetSumsUptoRow : OpenClaim := { program := "ytopmljbemogcoaadoor", sum := "2a6d2cbde50cd45e4110ef957c6590aae466b4f153faa40ba3b1e1f865512a94", func := "drawbar/drawbarlaw04.SheetSums", spec := "sheetSums", named := ["drawbar/octet.nibbles"], apart := false, laid := [("drawbar/octet.nibbles", laid_drawbar_octet_nibbles)], narrowed := true }
def SheetSumsUptoSaid : Prop := sheetSumsUptoRow.holds Tryd.pinned (OpenSpec.upto sheetSumsSpec)

end Rows
end Go.Proofs.YtopmljbemogcoaaDoor
