/-
  NARROWER THAN 'FOR EVERY INPUT', by the rows' own cells (each row's printed sentence says how): OctetNumbers: laid · OctetSeals: laid · OctetBursts: laid · OctetReads: laid · OctetLists: laid · OctetNil: laid · OctetOne: laid · OctetGets: laid · OctetEnds: laid.
  DERIVED. THE GIVEN ROWS OF THIS SEAT. 9 by the template 'for every input the law returns true; each argument reads behind the call as it read before'; 0 by the template 'total and deterministic' (their statements: YtmadcbpeiibfaaaDoorTotals.lean).
  GIVEN WITH THE SEED: the statements are not yours to turn. If you find one false, say at which input.
  Laid BY PROGRAM, IN A SANDBOX (cutbox-rows.mjs): the forced cells as the released guide's own fill.sh prints them over the translation b0065d815789b061… (all of the seat's roots in one cut). By AI agents, Wed Nov 11 2026. No macro, syntax, notation, axiom, sorry.
-/
import Derived.Test.YtmadcbpeiibfaaaDoorChecked
import GoSem.Claim
import GoSem.ClaimJoined
import GoSem.ClaimMapViews
import Derived.JoinedTies
import Derived.KernelRfl
namespace Go.Proofs.YtmadcbpeiibfaaaDoor
/- THE CELL 'sum', in the pinned program and in every row, IS THE sha256 OF THE DUMP (.gsa) THAT YtmadcbpeiibfaaaDoorProg.lean LOADS. Nothing in Lean hashes anything: it is a label: what it is worth is what the hold of that sum in a sandbox is worth. -/
noncomputable def Tryd.pinned : Pinned := { name := "ytmadcbpeiibfaaadoor", sum := "b0065d815789b0617e172caa2b3b89c710aa03b2f3d9dbe4464307e5a9994b2d", checked := Tryd.checked }
namespace Rows
def none {H : Type} : Left H := { results := [], args := [] }

/- WHAT THE LISTED PACKAGE-LEVEL VARIABLES READ AS WHEN THE CALL BEGINS. Each datum BY PROGRAM (the guide's laid-datum.mjs) off the statement by which the dump's own 'gosem.cut.vars' lays the variable. In a bare row this is a premise. The card (YtmadcbpeiibfaaaDoorCards.lean) ties it to the program's text. -/
def laid_drawbar_octet_nibbles {H : Type} : DataW H := .agg [.lit (.int .u32 0), .lit (.int .u32 498536548), .lit (.int .u32 997073096), .lit (.int .u32 651767980), .lit (.int .u32 1994146192), .lit (.int .u32 1802195444), .lit (.int .u32 1303535960), .lit (.int .u32 1342533948), .lit (.int .u32 3988292384), .lit (.int .u32 4027552580), .lit (.int .u32 3604390888), .lit (.int .u32 3412177804), .lit (.int .u32 2607071920), .lit (.int .u32 2262029012), .lit (.int .u32 2685067896), .lit (.int .u32 3183342108)]

/-- 'drawbarlaw01.OctetNumbers': WHATEVER THE INPUT: true; the input reads as it did. -/
def octetNumbersSpec : ChangeSpec := { name := "octetNumbers", fn := fun _ => fun
  | [d1, d2, d3] => { results := [.lit (.bool true)], args := [d1, d2, d3] }
  | _ => none }
def octetNumbersRow : OpenClaim := { program := "ytmadcbpeiibfaaadoor", sum := "b0065d815789b0617e172caa2b3b89c710aa03b2f3d9dbe4464307e5a9994b2d", func := "drawbar/drawbarlaw01.OctetNumbers", spec := "octetNumbers", named := ["drawbar/octet.nibbles"], apart := false, laid := [("drawbar/octet.nibbles", laid_drawbar_octet_nibbles)] }
def OctetNumbersSaid : Prop := octetNumbersRow.holds Tryd.pinned (OpenSpec.ofChange octetNumbersSpec)

/-- ITS FALSE NEIGHBOUR: 'it returns false'. Refute it at one input. -/
def octetNumbersWrong : ChangeSpec := { name := "octetNumbers", fn := fun _ => fun
  | [d1, d2, d3] => { results := [.lit (.bool false)], args := [d1, d2, d3] }
  | _ => none }
def OctetNumbersWrongFalsely : Prop := octetNumbersRow.holds Tryd.pinned (OpenSpec.ofChange octetNumbersWrong)

/-- 'drawbarlaw01.OctetSeals': WHATEVER THE INPUT: true; the input reads as it did. -/
def octetSealsSpec : ChangeSpec := { name := "octetSeals", fn := fun _ => fun
  | [d1, d2] => { results := [.lit (.bool true)], args := [d1, d2] }
  | _ => none }
def octetSealsRow : OpenClaim := { program := "ytmadcbpeiibfaaadoor", sum := "b0065d815789b0617e172caa2b3b89c710aa03b2f3d9dbe4464307e5a9994b2d", func := "drawbar/drawbarlaw01.OctetSeals", spec := "octetSeals", named := ["drawbar/octet.nibbles"], apart := false, laid := [("drawbar/octet.nibbles", laid_drawbar_octet_nibbles)] }
def OctetSealsSaid : Prop := octetSealsRow.holds Tryd.pinned (OpenSpec.ofChange octetSealsSpec)

/-- ITS FALSE NEIGHBOUR: 'it returns false'. Refute it at one input. -/
def octetSealsWrong : ChangeSpec := { name := "octetSeals", fn := fun _ => fun
  | [d1, d2] => { results := [.lit (.bool false)], args := [d1, d2] }
  | _ => none }
def OctetSealsWrongFalsely : Prop := octetSealsRow.holds Tryd.pinned (OpenSpec.ofChange octetSealsWrong)

/-- 'drawbarlaw01.OctetBursts': WHATEVER THE INPUT: true; the input reads as it did. -/
def octetBurstsSpec : ChangeSpec := { name := "octetBursts", fn := fun _ => fun
  | [d1, d2, d3] => { results := [.lit (.bool true)], args := [d1, d2, d3] }
  | _ => none }
def octetBurstsRow : OpenClaim := { program := "ytmadcbpeiibfaaadoor", sum := "b0065d815789b0617e172caa2b3b89c710aa03b2f3d9dbe4464307e5a9994b2d", func := "drawbar/drawbarlaw01.OctetBursts", spec := "octetBursts", named := ["drawbar/octet.nibbles"], apart := false, laid := [("drawbar/octet.nibbles", laid_drawbar_octet_nibbles)] }
def OctetBurstsSaid : Prop := octetBurstsRow.holds Tryd.pinned (OpenSpec.ofChange octetBurstsSpec)

/-- ITS FALSE NEIGHBOUR: 'it returns false'. Refute it at one input. -/
def octetBurstsWrong : ChangeSpec := { name := "octetBursts", fn := fun _ => fun
  | [d1, d2, d3] => { results := [.lit (.bool false)], args := [d1, d2, d3] }
  | _ => none }
def OctetBurstsWrongFalsely : Prop := octetBurstsRow.holds Tryd.pinned (OpenSpec.ofChange octetBurstsWrong)

/-- 'drawbarlaw01.OctetReads': WHATEVER THE INPUT: true; the input reads as it did. -/
def octetReadsSpec : ChangeSpec := { name := "octetReads", fn := fun _ => fun
  | [d1, d2] => { results := [.lit (.bool true)], args := [d1, d2] }
  | _ => none }
def octetReadsRow : OpenClaim := { program := "ytmadcbpeiibfaaadoor", sum := "b0065d815789b0617e172caa2b3b89c710aa03b2f3d9dbe4464307e5a9994b2d", func := "drawbar/drawbarlaw01.OctetReads", spec := "octetReads", named := ["drawbar/octet.nibbles"], apart := false, laid := [("drawbar/octet.nibbles", laid_drawbar_octet_nibbles)] }
def OctetReadsSaid : Prop := octetReadsRow.holds Tryd.pinned (OpenSpec.ofChange octetReadsSpec)

/-- ITS FALSE NEIGHBOUR: 'it returns false'. Refute it at one input. -/
def octetReadsWrong : ChangeSpec := { name := "octetReads", fn := fun _ => fun
  | [d1, d2] => { results := [.lit (.bool false)], args := [d1, d2] }
  | _ => none }
def OctetReadsWrongFalsely : Prop := octetReadsRow.holds Tryd.pinned (OpenSpec.ofChange octetReadsWrong)

/-- 'drawbarlaw01.OctetLists': WHATEVER THE INPUT: true; the input reads as it did. -/
def octetListsSpec : ChangeSpec := { name := "octetLists", fn := fun _ => fun
  | [d] => { results := [.lit (.bool true)], args := [d] }
  | _ => none }
def octetListsRow : OpenClaim := { program := "ytmadcbpeiibfaaadoor", sum := "b0065d815789b0617e172caa2b3b89c710aa03b2f3d9dbe4464307e5a9994b2d", func := "drawbar/drawbarlaw01.OctetLists", spec := "octetLists", named := ["drawbar/octet.nibbles"], apart := false, laid := [("drawbar/octet.nibbles", laid_drawbar_octet_nibbles)] }
def OctetListsSaid : Prop := octetListsRow.holds Tryd.pinned (OpenSpec.ofChange octetListsSpec)

/-- ITS FALSE NEIGHBOUR: 'it returns false'. Refute it at one input. -/
def octetListsWrong : ChangeSpec := { name := "octetLists", fn := fun _ => fun
  | [d] => { results := [.lit (.bool false)], args := [d] }
  | _ => none }
def OctetListsWrongFalsely : Prop := octetListsRow.holds Tryd.pinned (OpenSpec.ofChange octetListsWrong)

/-- 'drawbarlaw01.OctetNil': WHATEVER THE INPUT: true; the input reads as it did. -/
def octetNilSpec : ChangeSpec := { name := "octetNil", fn := fun _ => fun
  | [d1, d2] => { results := [.lit (.bool true)], args := [d1, d2] }
  | _ => none }
def octetNilRow : OpenClaim := { program := "ytmadcbpeiibfaaadoor", sum := "b0065d815789b0617e172caa2b3b89c710aa03b2f3d9dbe4464307e5a9994b2d", func := "drawbar/drawbarlaw01.OctetNil", spec := "octetNil", named := ["drawbar/octet.nibbles"], apart := false, laid := [("drawbar/octet.nibbles", laid_drawbar_octet_nibbles)] }
def OctetNilSaid : Prop := octetNilRow.holds Tryd.pinned (OpenSpec.ofChange octetNilSpec)

/-- ITS FALSE NEIGHBOUR: 'it returns false'. Refute it at one input. -/
def octetNilWrong : ChangeSpec := { name := "octetNil", fn := fun _ => fun
  | [d1, d2] => { results := [.lit (.bool false)], args := [d1, d2] }
  | _ => none }
def OctetNilWrongFalsely : Prop := octetNilRow.holds Tryd.pinned (OpenSpec.ofChange octetNilWrong)

/-- 'drawbarlaw01.OctetOne': WHATEVER THE INPUT: true; the input reads as it did. -/
def octetOneSpec : ChangeSpec := { name := "octetOne", fn := fun _ => fun
  | [d1, d2] => { results := [.lit (.bool true)], args := [d1, d2] }
  | _ => none }
def octetOneRow : OpenClaim := { program := "ytmadcbpeiibfaaadoor", sum := "b0065d815789b0617e172caa2b3b89c710aa03b2f3d9dbe4464307e5a9994b2d", func := "drawbar/drawbarlaw01.OctetOne", spec := "octetOne", named := ["drawbar/octet.nibbles"], apart := false, laid := [("drawbar/octet.nibbles", laid_drawbar_octet_nibbles)] }
def OctetOneSaid : Prop := octetOneRow.holds Tryd.pinned (OpenSpec.ofChange octetOneSpec)

/-- ITS FALSE NEIGHBOUR: 'it returns false'. Refute it at one input. -/
def octetOneWrong : ChangeSpec := { name := "octetOne", fn := fun _ => fun
  | [d1, d2] => { results := [.lit (.bool false)], args := [d1, d2] }
  | _ => none }
def OctetOneWrongFalsely : Prop := octetOneRow.holds Tryd.pinned (OpenSpec.ofChange octetOneWrong)

/-- 'drawbarlaw01.OctetGets': WHATEVER THE INPUT: true; the input reads as it did. -/
def octetGetsSpec : ChangeSpec := { name := "octetGets", fn := fun _ => fun
  | [d1, d2, d3] => { results := [.lit (.bool true)], args := [d1, d2, d3] }
  | _ => none }
def octetGetsRow : OpenClaim := { program := "ytmadcbpeiibfaaadoor", sum := "b0065d815789b0617e172caa2b3b89c710aa03b2f3d9dbe4464307e5a9994b2d", func := "drawbar/drawbarlaw01.OctetGets", spec := "octetGets", named := ["drawbar/octet.nibbles"], apart := false, laid := [("drawbar/octet.nibbles", laid_drawbar_octet_nibbles)] }
def OctetGetsSaid : Prop := octetGetsRow.holds Tryd.pinned (OpenSpec.ofChange octetGetsSpec)

/-- ITS FALSE NEIGHBOUR: 'it returns false'. Refute it at one input. -/
def octetGetsWrong : ChangeSpec := { name := "octetGets", fn := fun _ => fun
  | [d1, d2, d3] => { results := [.lit (.bool false)], args := [d1, d2, d3] }
  | _ => none }
def OctetGetsWrongFalsely : Prop := octetGetsRow.holds Tryd.pinned (OpenSpec.ofChange octetGetsWrong)

/-- 'drawbarlaw01.OctetEnds': WHATEVER THE INPUT: true; the input reads as it did. -/
def octetEndsSpec : ChangeSpec := { name := "octetEnds", fn := fun _ => fun
  | [d1, d2] => { results := [.lit (.bool true)], args := [d1, d2] }
  | _ => none }
def octetEndsRow : OpenClaim := { program := "ytmadcbpeiibfaaadoor", sum := "b0065d815789b0617e172caa2b3b89c710aa03b2f3d9dbe4464307e5a9994b2d", func := "drawbar/drawbarlaw01.OctetEnds", spec := "octetEnds", named := ["drawbar/octet.nibbles"], apart := false, laid := [("drawbar/octet.nibbles", laid_drawbar_octet_nibbles)] }
def OctetEndsSaid : Prop := octetEndsRow.holds Tryd.pinned (OpenSpec.ofChange octetEndsSpec)

/-- ITS FALSE NEIGHBOUR: 'it returns false'. Refute it at one input. -/
def octetEndsWrong : ChangeSpec := { name := "octetEnds", fn := fun _ => fun
  | [d1, d2] => { results := [.lit (.bool false)], args := [d1, d2] }
  | _ => none }
def OctetEndsWrongFalsely : Prop := octetEndsRow.holds Tryd.pinned (OpenSpec.ofChange octetEndsWrong)

/- THE SECOND FORM. 'bulk': how many values and letters a reading holds, each counted each time it is reached (what is shared counts as often as it is met; a slice's spare places count too). A statement '..UptoSaid' is the law's where the arguments, and the package variables that the reading takes, are together of bulk at most 1048576: NARROWER than '..Said'. Prove '..Said' where nothing that the law and all that it calls make is longer than what came in: it says more and counts as full. Else prove '..UptoSaid'. A law counts once. -/
mutual
def uptoBulk {H : Type} : DataW H → Nat
  | .lit (.string bytes) => bytes.length + 1
  | .lit _ => 1
  | .nil => 1
  | .ptr d => uptoBulk d + 1
  | .slice elems spare => uptoBulkAll elems + uptoBulkAll spare + 1
  | .agg parts => uptoBulkAll parts + 1
  | .iface _ d => uptoBulk d + 1
  | .map entries => uptoBulkEntries entries + 1
  | .held _ => 1
def uptoBulkAll {H : Type} : List (DataW H) → Nat
  | [] => 0
  | d :: r => uptoBulk d + uptoBulkAll r
def uptoBulkEntries {H : Type} : List (Lit × DataW H) → Nat
  | [] => 0
  | x :: r => uptoBulkEntry x + uptoBulkEntries r
def uptoBulkEntry {H : Type} : Lit × DataW H → Nat
  | (.string bytes, d) => bytes.length + uptoBulk d + 1
  | (_, d) => uptoBulk d + 1
 end
def uptoSmall : (H : Type) → List (DataW H) → Bool := fun _ ds => decide (uptoBulkAll ds ≤ 1048576)
def OpenSpec.upto (s : _root_.Go.ChangeSpec) : _root_.Go.OpenSpec := { _root_.Go.OpenSpec.ofChange s with cond := some uptoSmall }

/-- 'drawbarlaw01.OctetNumbers', WHERE WHAT IT READS IS OF BULK AT MOST 1048576: true; the input reads as it did. -/
def octetNumbersUptoRow : OpenClaim := { program := "ytmadcbpeiibfaaadoor", sum := "b0065d815789b0617e172caa2b3b89c710aa03b2f3d9dbe4464307e5a9994b2d", func := "drawbar/drawbarlaw01.OctetNumbers", spec := "octetNumbers", named := ["drawbar/octet.nibbles"], apart := false, laid := [("drawbar/octet.nibbles", laid_drawbar_octet_nibbles)], narrowed := true }
def OctetNumbersUptoSaid : Prop := octetNumbersUptoRow.holds Tryd.pinned (OpenSpec.upto octetNumbersSpec)

/-- 'drawbarlaw01.OctetSeals', WHERE WHAT IT READS IS OF BULK AT MOST 1048576: true; the input reads as it did. -/
def octetSealsUptoRow : OpenClaim := { program := "ytmadcbpeiibfaaadoor", sum := "b0065d815789b0617e172caa2b3b89c710aa03b2f3d9dbe4464307e5a9994b2d", func := "drawbar/drawbarlaw01.OctetSeals", spec := "octetSeals", named := ["drawbar/octet.nibbles"], apart := false, laid := [("drawbar/octet.nibbles", laid_drawbar_octet_nibbles)], narrowed := true }
def OctetSealsUptoSaid : Prop := octetSealsUptoRow.holds Tryd.pinned (OpenSpec.upto octetSealsSpec)

/-- 'drawbarlaw01.OctetBursts', WHERE WHAT IT READS IS OF BULK AT MOST 1048576: true; the input reads as it did. -/
def octetBurstsUptoRow : OpenClaim := { program := "ytmadcbpeiibfaaadoor", sum := "b0065d815789b0617e172caa2b3b89c710aa03b2f3d9dbe4464307e5a9994b2d", func := "drawbar/drawbarlaw01.OctetBursts", spec := "octetBursts", named := ["drawbar/octet.nibbles"], apart := false, laid := [("drawbar/octet.nibbles", laid_drawbar_octet_nibbles)], narrowed := true }
def OctetBurstsUptoSaid : Prop := octetBurstsUptoRow.holds Tryd.pinned (OpenSpec.upto octetBurstsSpec)

/-- 'drawbarlaw01.OctetReads', WHERE WHAT IT READS IS OF BULK AT MOST 1048576: true; the input reads as it did. -/
def octetReadsUptoRow : OpenClaim := { program := "ytmadcbpeiibfaaadoor", sum := "b0065d815789b0617e172caa2b3b89c710aa03b2f3d9dbe4464307e5a9994b2d", func := "drawbar/drawbarlaw01.OctetReads", spec := "octetReads", named := ["drawbar/octet.nibbles"], apart := false, laid := [("drawbar/octet.nibbles", laid_drawbar_octet_nibbles)], narrowed := true }
def OctetReadsUptoSaid : Prop := octetReadsUptoRow.holds Tryd.pinned (OpenSpec.upto octetReadsSpec)

/-- 'drawbarlaw01.OctetLists', WHERE WHAT IT READS IS OF BULK AT MOST 1048576: true; the input reads as it did. -/
def octetListsUptoRow : OpenClaim := { program := "ytmadcbpeiibfaaadoor", sum := "b0065d815789b0617e172caa2b3b89c710aa03b2f3d9dbe4464307e5a9994b2d", func := "drawbar/drawbarlaw01.OctetLists", spec := "octetLists", named := ["drawbar/octet.nibbles"], apart := false, laid := [("drawbar/octet.nibbles", laid_drawbar_octet_nibbles)], narrowed := true }
def OctetListsUptoSaid : Prop := octetListsUptoRow.holds Tryd.pinned (OpenSpec.upto octetListsSpec)

/-- 'drawbarlaw01.OctetNil', WHERE WHAT IT READS IS OF BULK AT MOST 1048576: true; the input reads as it did. -/
def octetNilUptoRow : OpenClaim := { program := "ytmadcbpeiibfaaadoor", sum := "b0065d815789b0617e172caa2b3b89c710aa03b2f3d9dbe4464307e5a9994b2d", func := "drawbar/drawbarlaw01.OctetNil", spec := "octetNil", named := ["drawbar/octet.nibbles"], apart := false, laid := [("drawbar/octet.nibbles", laid_drawbar_octet_nibbles)], narrowed := true }
def OctetNilUptoSaid : Prop := octetNilUptoRow.holds Tryd.pinned (OpenSpec.upto octetNilSpec)

/-- 'drawbarlaw01.OctetOne', WHERE WHAT IT READS IS OF BULK AT MOST 1048576: true; the input reads as it did. -/
def octetOneUptoRow : OpenClaim := { program := "ytmadcbpeiibfaaadoor", sum := "b0065d815789b0617e172caa2b3b89c710aa03b2f3d9dbe4464307e5a9994b2d", func := "drawbar/drawbarlaw01.OctetOne", spec := "octetOne", named := ["drawbar/octet.nibbles"], apart := false, laid := [("drawbar/octet.nibbles", laid_drawbar_octet_nibbles)], narrowed := true }
def OctetOneUptoSaid : Prop := octetOneUptoRow.holds Tryd.pinned (OpenSpec.upto octetOneSpec)

/-- 'drawbarlaw01.OctetGets', WHERE WHAT IT READS IS OF BULK AT MOST 1048576: true; the input reads as it did. -/
def octetGetsUptoRow : OpenClaim := { program := "ytmadcbpeiibfaaadoor", sum := "b0065d815789b0617e172caa2b3b89c710aa03b2f3d9dbe4464307e5a9994b2d", func := "drawbar/drawbarlaw01.OctetGets", spec := "octetGets", named := ["drawbar/octet.nibbles"], apart := false, laid := [("drawbar/octet.nibbles", laid_drawbar_octet_nibbles)], narrowed := true }
def OctetGetsUptoSaid : Prop := octetGetsUptoRow.holds Tryd.pinned (OpenSpec.upto octetGetsSpec)

/-- 'drawbarlaw01.OctetEnds', WHERE WHAT IT READS IS OF BULK AT MOST 1048576: true; the input reads as it did. -/
def octetEndsUptoRow : OpenClaim := { program := "ytmadcbpeiibfaaadoor", sum := "b0065d815789b0617e172caa2b3b89c710aa03b2f3d9dbe4464307e5a9994b2d", func := "drawbar/drawbarlaw01.OctetEnds", spec := "octetEnds", named := ["drawbar/octet.nibbles"], apart := false, laid := [("drawbar/octet.nibbles", laid_drawbar_octet_nibbles)], narrowed := true }
def OctetEndsUptoSaid : Prop := octetEndsUptoRow.holds Tryd.pinned (OpenSpec.upto octetEndsSpec)

end Rows
end Go.Proofs.YtmadcbpeiibfaaaDoor
