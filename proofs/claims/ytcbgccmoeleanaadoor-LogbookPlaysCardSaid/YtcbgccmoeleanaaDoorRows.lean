/-
  NARROWER THAN 'FOR EVERY INPUT', by the rows' own cells (each row's printed sentence says how): LogbookPlays: laid · LogbookFalls: laid · LogbookFails: laid · LogbookFenced: laid · LogbookErrs: laid · LogbookMany: laid · LogbookOnce: laid.
  DERIVED. THE GIVEN ROWS OF THIS SEAT. 7 by the template 'for every input the law returns true; each argument reads behind the call as it read before'; 0 by the template 'total and deterministic' (their statements: YtcbgccmoeleanaaDoorTotals.lean).
  GIVEN WITH THE SEED: the statements are not yours to turn. If you find one false, say at which input.
  Laid BY PROGRAM, IN A SANDBOX (cutbox-rows.mjs): the forced cells as the released guide's own fill.sh prints them over the translation b1e9fdd37c573444… (all of the seat's roots in one cut). By AI agents, Wed Nov 11 2026. No macro, syntax, notation, axiom, sorry.
-/
import Derived.Test.YtcbgccmoeleanaaDoorChecked
import GoSem.Claim
import GoSem.ClaimJoined
import GoSem.ClaimMapViews
import Derived.JoinedTies
import Derived.KernelRfl
namespace Go.Proofs.YtcbgccmoeleanaaDoor
/- THE CELL 'sum', in the pinned program and in every row, IS THE sha256 OF THE DUMP (.gsa) THAT YtcbgccmoeleanaaDoorProg.lean LOADS. Nothing in Lean hashes anything: it is a label: what it is worth is what the hold of that sum in a sandbox is worth. -/
noncomputable def Tryd.pinned : Pinned := { name := "ytcbgccmoeleanaadoor", sum := "b1e9fdd37c573444e987b9eee2f882fab3a04092dbc5bedc8a7b48aa9eeeb9c7", checked := Tryd.checked }
namespace Rows
def none {H : Type} : Left H := { results := [], args := [] }

/- WHAT THE LISTED PACKAGE-LEVEL VARIABLES READ AS WHEN THE CALL BEGINS. Each datum BY PROGRAM (the guide's laid-datum.mjs) off the statement by which the dump's own 'gosem.cut.vars' lays the variable. In a bare row this is a premise. The card (YtcbgccmoeleanaaDoorCards.lean) ties it to the program's text. -/
def laid_drawbar_octet_nibbles {H : Type} : DataW H := .agg [.lit (.int .u32 0), .lit (.int .u32 498536548), .lit (.int .u32 997073096), .lit (.int .u32 651767980), .lit (.int .u32 1994146192), .lit (.int .u32 1802195444), .lit (.int .u32 1303535960), .lit (.int .u32 1342533948), .lit (.int .u32 3988292384), .lit (.int .u32 4027552580), .lit (.int .u32 3604390888), .lit (.int .u32 3412177804), .lit (.int .u32 2607071920), .lit (.int .u32 2262029012), .lit (.int .u32 2685067896), .lit (.int .u32 3183342108)]

/-- 'drawbarlaw06.LogbookPlays': WHATEVER THE INPUT: true; the input reads as it did. -/
def logbookPlaysSpec : ChangeSpec := { name := "logbookPlays", fn := fun _ => fun
  | [d1, d2] => { results := [.lit (.bool true)], args := [d1, d2] }
  | _ => none }
def logbookPlaysRow : OpenClaim := { program := "ytcbgccmoeleanaadoor", sum := "b1e9fdd37c573444e987b9eee2f882fab3a04092dbc5bedc8a7b48aa9eeeb9c7", func := "drawbar/drawbarlaw06.LogbookPlays", spec := "logbookPlays", unfollowed := true, recurses := true, named := ["drawbar/octet.nibbles"], apart := false, laid := [("drawbar/octet.nibbles", laid_drawbar_octet_nibbles)] }
def LogbookPlaysSaid : Prop := logbookPlaysRow.holds Tryd.pinned (OpenSpec.ofChange logbookPlaysSpec)

/-- ITS FALSE NEIGHBOUR: 'it returns false'. Refute it at one input. -/
def logbookPlaysWrong : ChangeSpec := { name := "logbookPlays", fn := fun _ => fun
  | [d1, d2] => { results := [.lit (.bool false)], args := [d1, d2] }
  | _ => none }
def LogbookPlaysWrongFalsely : Prop := logbookPlaysRow.holds Tryd.pinned (OpenSpec.ofChange logbookPlaysWrong)

/-- 'drawbarlaw06.LogbookFalls': WHATEVER THE INPUT: true; the input reads as it did. -/
def logbookFallsSpec : ChangeSpec := { name := "logbookFalls", fn := fun _ => fun
  | [d1, d2] => { results := [.lit (.bool true)], args := [d1, d2] }
  | _ => none }
def logbookFallsRow : OpenClaim := { program := "ytcbgccmoeleanaadoor", sum := "b1e9fdd37c573444e987b9eee2f882fab3a04092dbc5bedc8a7b48aa9eeeb9c7", func := "drawbar/drawbarlaw06.LogbookFalls", spec := "logbookFalls", unfollowed := true, recurses := true, named := ["drawbar/octet.nibbles"], apart := false, laid := [("drawbar/octet.nibbles", laid_drawbar_octet_nibbles)] }
def LogbookFallsSaid : Prop := logbookFallsRow.holds Tryd.pinned (OpenSpec.ofChange logbookFallsSpec)

/-- ITS FALSE NEIGHBOUR: 'it returns false'. Refute it at one input. -/
def logbookFallsWrong : ChangeSpec := { name := "logbookFalls", fn := fun _ => fun
  | [d1, d2] => { results := [.lit (.bool false)], args := [d1, d2] }
  | _ => none }
def LogbookFallsWrongFalsely : Prop := logbookFallsRow.holds Tryd.pinned (OpenSpec.ofChange logbookFallsWrong)

/-- 'drawbarlaw06.LogbookFails': WHATEVER THE INPUT: true; the input reads as it did. -/
def logbookFailsSpec : ChangeSpec := { name := "logbookFails", fn := fun _ => fun
  | [d1, d2, d3, d4] => { results := [.lit (.bool true)], args := [d1, d2, d3, d4] }
  | _ => none }
def logbookFailsRow : OpenClaim := { program := "ytcbgccmoeleanaadoor", sum := "b1e9fdd37c573444e987b9eee2f882fab3a04092dbc5bedc8a7b48aa9eeeb9c7", func := "drawbar/drawbarlaw06.LogbookFails", spec := "logbookFails", unfollowed := true, recurses := true, named := ["drawbar/octet.nibbles"], apart := false, laid := [("drawbar/octet.nibbles", laid_drawbar_octet_nibbles)] }
def LogbookFailsSaid : Prop := logbookFailsRow.holds Tryd.pinned (OpenSpec.ofChange logbookFailsSpec)

/-- ITS FALSE NEIGHBOUR: 'it returns false'. Refute it at one input. -/
def logbookFailsWrong : ChangeSpec := { name := "logbookFails", fn := fun _ => fun
  | [d1, d2, d3, d4] => { results := [.lit (.bool false)], args := [d1, d2, d3, d4] }
  | _ => none }
def LogbookFailsWrongFalsely : Prop := logbookFailsRow.holds Tryd.pinned (OpenSpec.ofChange logbookFailsWrong)

/-- 'drawbarlaw06.LogbookFenced': WHATEVER THE INPUT: true; the input reads as it did. -/
def logbookFencedSpec : ChangeSpec := { name := "logbookFenced", fn := fun _ => fun
  | [d1, d2] => { results := [.lit (.bool true)], args := [d1, d2] }
  | _ => none }
def logbookFencedRow : OpenClaim := { program := "ytcbgccmoeleanaadoor", sum := "b1e9fdd37c573444e987b9eee2f882fab3a04092dbc5bedc8a7b48aa9eeeb9c7", func := "drawbar/drawbarlaw06.LogbookFenced", spec := "logbookFenced", unfollowed := true, recurses := true, named := ["drawbar/octet.nibbles"], apart := false, laid := [("drawbar/octet.nibbles", laid_drawbar_octet_nibbles)] }
def LogbookFencedSaid : Prop := logbookFencedRow.holds Tryd.pinned (OpenSpec.ofChange logbookFencedSpec)

/-- ITS FALSE NEIGHBOUR: 'it returns false'. Refute it at one input. -/
def logbookFencedWrong : ChangeSpec := { name := "logbookFenced", fn := fun _ => fun
  | [d1, d2] => { results := [.lit (.bool false)], args := [d1, d2] }
  | _ => none }
def LogbookFencedWrongFalsely : Prop := logbookFencedRow.holds Tryd.pinned (OpenSpec.ofChange logbookFencedWrong)

/-- 'drawbarlaw06.LogbookErrs': WHATEVER THE INPUT: true; the input reads as it did. -/
def logbookErrsSpec : ChangeSpec := { name := "logbookErrs", fn := fun _ => fun
  | [d] => { results := [.lit (.bool true)], args := [d] }
  | _ => none }
def logbookErrsRow : OpenClaim := { program := "ytcbgccmoeleanaadoor", sum := "b1e9fdd37c573444e987b9eee2f882fab3a04092dbc5bedc8a7b48aa9eeeb9c7", func := "drawbar/drawbarlaw06.LogbookErrs", spec := "logbookErrs", unfollowed := true, recurses := true, named := ["drawbar/octet.nibbles"], apart := false, laid := [("drawbar/octet.nibbles", laid_drawbar_octet_nibbles)] }
def LogbookErrsSaid : Prop := logbookErrsRow.holds Tryd.pinned (OpenSpec.ofChange logbookErrsSpec)

/-- ITS FALSE NEIGHBOUR: 'it returns false'. Refute it at one input. -/
def logbookErrsWrong : ChangeSpec := { name := "logbookErrs", fn := fun _ => fun
  | [d] => { results := [.lit (.bool false)], args := [d] }
  | _ => none }
def LogbookErrsWrongFalsely : Prop := logbookErrsRow.holds Tryd.pinned (OpenSpec.ofChange logbookErrsWrong)

/-- 'drawbarlaw06.LogbookMany': WHATEVER THE INPUT: true; the input reads as it did. -/
def logbookManySpec : ChangeSpec := { name := "logbookMany", fn := fun _ => fun
  | [d1, d2] => { results := [.lit (.bool true)], args := [d1, d2] }
  | _ => none }
def logbookManyRow : OpenClaim := { program := "ytcbgccmoeleanaadoor", sum := "b1e9fdd37c573444e987b9eee2f882fab3a04092dbc5bedc8a7b48aa9eeeb9c7", func := "drawbar/drawbarlaw06.LogbookMany", spec := "logbookMany", unfollowed := true, recurses := true, named := ["drawbar/octet.nibbles"], apart := false, laid := [("drawbar/octet.nibbles", laid_drawbar_octet_nibbles)] }
def LogbookManySaid : Prop := logbookManyRow.holds Tryd.pinned (OpenSpec.ofChange logbookManySpec)

/-- ITS FALSE NEIGHBOUR: 'it returns false'. Refute it at one input. -/
def logbookManyWrong : ChangeSpec := { name := "logbookMany", fn := fun _ => fun
  | [d1, d2] => { results := [.lit (.bool false)], args := [d1, d2] }
  | _ => none }
def LogbookManyWrongFalsely : Prop := logbookManyRow.holds Tryd.pinned (OpenSpec.ofChange logbookManyWrong)

/-- 'drawbarlaw06.LogbookOnce': WHATEVER THE INPUT: true; the input reads as it did. -/
def logbookOnceSpec : ChangeSpec := { name := "logbookOnce", fn := fun _ => fun
  | [d1, d2, d3] => { results := [.lit (.bool true)], args := [d1, d2, d3] }
  | _ => none }
def logbookOnceRow : OpenClaim := { program := "ytcbgccmoeleanaadoor", sum := "b1e9fdd37c573444e987b9eee2f882fab3a04092dbc5bedc8a7b48aa9eeeb9c7", func := "drawbar/drawbarlaw06.LogbookOnce", spec := "logbookOnce", unfollowed := true, recurses := true, named := ["drawbar/octet.nibbles"], apart := false, laid := [("drawbar/octet.nibbles", laid_drawbar_octet_nibbles)] }
def LogbookOnceSaid : Prop := logbookOnceRow.holds Tryd.pinned (OpenSpec.ofChange logbookOnceSpec)

/-- ITS FALSE NEIGHBOUR: 'it returns false'. Refute it at one input. -/
def logbookOnceWrong : ChangeSpec := { name := "logbookOnce", fn := fun _ => fun
  | [d1, d2, d3] => { results := [.lit (.bool false)], args := [d1, d2, d3] }
  | _ => none }
def LogbookOnceWrongFalsely : Prop := logbookOnceRow.holds Tryd.pinned (OpenSpec.ofChange logbookOnceWrong)

/- THE SECOND FORM. 'bulk': how many values and letters a reading holds, each counted each time it is reached (what is shared counts as often as it is met; a slice's spare places count too). A statement '..UptoSaid' is the law's where the arguments, and the package variables that the reading takes, are together of bulk at most 1048576: NARROWER than '..Said'. Prove '..Said' where nothing that the law and all that it calls make is longer than what came in: it says more and counts as full. Else prove '..UptoSaid'. A law counts once. -/
mutual
def uptoBulk {H : Type} : DataW H → Nat
  | .lit (.string bytes) => bytes.length + 1
  | .lit _ => 1
  | .nil => 1
  | .ptr d => uptoBulk d + 1
  | .slice elems spare => uptoBulkAll elems + uptoBulkAll spare + 1
  | .agg parts => uptoBulkAll parts + 1
  | .iface _ d => uptoBulk d + 1
  | .map entries => uptoBulkEntries entries + 1
  | .held _ => 1
def uptoBulkAll {H : Type} : List (DataW H) → Nat
  | [] => 0
  | d :: r => uptoBulk d + uptoBulkAll r
def uptoBulkEntries {H : Type} : List (Lit × DataW H) → Nat
  | [] => 0
  | x :: r => uptoBulkEntry x + uptoBulkEntries r
def uptoBulkEntry {H : Type} : Lit × DataW H → Nat
  | (.string bytes, d) => bytes.length + uptoBulk d + 1
  | (_, d) => uptoBulk d + 1
 end
def uptoSmall : (H : Type) → List (DataW H) → Bool := fun _ ds => decide (uptoBulkAll ds ≤ 1048576)
def OpenSpec.upto (s : _root_.Go.ChangeSpec) : _root_.Go.OpenSpec := { _root_.Go.OpenSpec.ofChange s with cond := some uptoSmall }

/-- 'drawbarlaw06.LogbookPlays', WHERE WHAT IT READS IS OF BULK AT MOST 1048576: true; the input reads as it did. -/
def logbookPlaysUptoRow : OpenClaim := { program := "ytcbgccmoeleanaadoor", sum := "b1e9fdd37c573444e987b9eee2f882fab3a04092dbc5bedc8a7b48aa9eeeb9c7", func := "drawbar/drawbarlaw06.LogbookPlays", spec := "logbookPlays", unfollowed := true, recurses := true, named := ["drawbar/octet.nibbles"], apart := false, laid := [("drawbar/octet.nibbles", laid_drawbar_octet_nibbles)], narrowed := true }
def LogbookPlaysUptoSaid : Prop := logbookPlaysUptoRow.holds Tryd.pinned (OpenSpec.upto logbookPlaysSpec)

/-- 'drawbarlaw06.LogbookFalls', WHERE WHAT IT READS IS OF BULK AT MOST 1048576: true; the input reads as it did. -/
def logbookFallsUptoRow : OpenClaim := { program := "ytcbgccmoeleanaadoor", sum := "b1e9fdd37c573444e987b9eee2f882fab3a04092dbc5bedc8a7b48aa9eeeb9c7", func := "drawbar/drawbarlaw06.LogbookFalls", spec := "logbookFalls", unfollowed := true, recurses := true, named := ["drawbar/octet.nibbles"], apart := false, laid := [("drawbar/octet.nibbles", laid_drawbar_octet_nibbles)], narrowed := true }
def LogbookFallsUptoSaid : Prop := logbookFallsUptoRow.holds Tryd.pinned (OpenSpec.upto logbookFallsSpec)

/-- 'drawbarlaw06.LogbookFails', WHERE WHAT IT READS IS OF BULK AT MOST 1048576: true; the input reads as it did. -/
def logbookFailsUptoRow : OpenClaim := { program := "ytcbgccmoeleanaadoor", sum := "b1e9fdd37c573444e987b9eee2f882fab3a04092dbc5bedc8a7b48aa9eeeb9c7", func := "drawbar/drawbarlaw06.LogbookFails", spec := "logbookFails", unfollowed := true, recurses := true, named := ["drawbar/octet.nibbles"], apart := false, laid := [("drawbar/octet.nibbles", laid_drawbar_octet_nibbles)], narrowed := true }
def LogbookFailsUptoSaid : Prop := logbookFailsUptoRow.holds Tryd.pinned (OpenSpec.upto logbookFailsSpec)

/-- 'drawbarlaw06.LogbookFenced', WHERE WHAT IT READS IS OF BULK AT MOST 1048576: true; the input reads as it did. -/
def logbookFencedUptoRow : OpenClaim := { program := "ytcbgccmoeleanaadoor", sum := "b1e9fdd37c573444e987b9eee2f882fab3a04092dbc5bedc8a7b48aa9eeeb9c7", func := "drawbar/drawbarlaw06.LogbookFenced", spec := "logbookFenced", unfollowed := true, recurses := true, named := ["drawbar/octet.nibbles"], apart := false, laid := [("drawbar/octet.nibbles", laid_drawbar_octet_nibbles)], narrowed := true }
def LogbookFencedUptoSaid : Prop := logbookFencedUptoRow.holds Tryd.pinned (OpenSpec.upto logbookFencedSpec)

/-- 'drawbarlaw06.LogbookErrs', WHERE WHAT IT READS IS OF BULK AT MOST 1048576: true; the input reads as it did. -/
def logbookErrsUptoRow : OpenClaim := { program := "ytcbgccmoeleanaadoor", sum := "b1e9fdd37c573444e987b9eee2f882fab3a04092dbc5bedc8a7b48aa9eeeb9c7", func := "drawbar/drawbarlaw06.LogbookErrs", spec := "logbookErrs", unfollowed := true, recurses := true, named := ["drawbar/octet.nibbles"], apart := false, laid := [("drawbar/octet.nibbles", laid_drawbar_octet_nibbles)], narrowed := true }
def LogbookErrsUptoSaid : Prop := logbookErrsUptoRow.holds Tryd.pinned (OpenSpec.upto logbookErrsSpec)

/-- 'drawbarlaw06.LogbookMany', WHERE WHAT IT READS IS OF BULK AT MOST 1048576: true; the input reads as it did. -/
def logbookManyUptoRow : OpenClaim := { program := "ytcbgccmoeleanaadoor", sum := "b1e9fdd37c573444e987b9eee2f882fab3a04092dbc5bedc8a7b48aa9eeeb9c7", func := "drawbar/drawbarlaw06.LogbookMany", spec := "logbookMany", unfollowed := true, recurses := true, named := ["drawbar/octet.nibbles"], apart := false, laid := [("drawbar/octet.nibbles", laid_drawbar_octet_nibbles)], narrowed := true }
def LogbookManyUptoSaid : Prop := logbookManyUptoRow.holds Tryd.pinned (OpenSpec.upto logbookManySpec)

/-- 'drawbarlaw06.LogbookOnce', WHERE WHAT IT READS IS OF BULK AT MOST 1048576: true; the input reads as it did. -/
def logbookOnceUptoRow : OpenClaim := { program := "ytcbgccmoeleanaadoor", sum := "b1e9fdd37c573444e987b9eee2f882fab3a04092dbc5bedc8a7b48aa9eeeb9c7", func := "drawbar/drawbarlaw06.LogbookOnce", spec := "logbookOnce", unfollowed := true, recurses := true, named := ["drawbar/octet.nibbles"], apart := false, laid := [("drawbar/octet.nibbles", laid_drawbar_octet_nibbles)], narrowed := true }
def LogbookOnceUptoSaid : Prop := logbookOnceUptoRow.holds Tryd.pinned (OpenSpec.upto logbookOnceSpec)

end Rows
end Go.Proofs.YtcbgccmoeleanaaDoor
