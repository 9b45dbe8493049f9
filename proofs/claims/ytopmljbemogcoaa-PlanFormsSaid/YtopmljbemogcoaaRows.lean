/-
  No cell of these rows narrows 'for every input' (looked for: loops, veiled, ifaces, maps, wideKeys, modest, calm, conditions, laid).
  DERIVED. THE GIVEN ROWS OF THIS SEAT. 5 by the template 'for every input the law returns true; each argument reads behind the call as it read before'; 0 by the template 'total and deterministic' (their statements: YtopmljbemogcoaaTotals.lean).
  GIVEN WITH THE SEED: the statements are not yours to turn. If you find one false, say at which input.
  Laid BY PROGRAM, IN A SANDBOX (cutbox-rows.mjs): the forced cells as the released guide's own fill.sh prints them over the translation d8e35a8e708ce1e3… (all of the seat's roots in one cut). By AI agents, Wed Nov 11 2026. No macro, syntax, notation, axiom, sorry.
-/
import Derived.Test.YtopmljbemogcoaaChecked
import GoSem.Claim
import GoSem.ClaimJoined
import GoSem.ClaimMapViews
import Derived.JoinedTies
import Derived.KernelRfl
namespace Go.Proofs.Ytopmljbemogcoaa
/- THE CELL 'sum', in the pinned program and in every row, IS THE sha256 OF THE DUMP (.gsa) THAT YtopmljbemogcoaaProg.lean LOADS. Nothing in Lean hashes anything: it is a label: what it is worth is what the hold of that sum in a sandbox is worth. -/
noncomputable def Try.pinned : Pinned := { name := "ytopmljbemogcoaa", sum := "d8e35a8e708ce1e3c8dcbbee9a48c515f7e32537395b426e13abe1be1df50ece", checked := Try.checked }
namespace Rows
def none {H : Type} : Left H := { results := [], args := [] }

/-- 'drawbarlaw05.PlanForms': WHATEVER THE INPUT: true; the input reads as it did. -/
def planFormsSpec : ChangeSpec := { name := "planForms", fn := fun _ => fun
  | [d] => { results := [.lit (.bool true)], args := [d] }
  | _ => none }
def planFormsRow : OpenClaim := { program := "ytopmljbemogcoaa", sum := "d8e35a8e708ce1e3c8dcbbee9a48c515f7e32537395b426e13abe1be1df50ece", func := "drawbar/drawbarlaw05.PlanForms", spec := "planForms", apart := false }
def PlanFormsSaid : Prop := planFormsRow.holds Try.pinned (OpenSpec.ofChange planFormsSpec)

/-- ITS FALSE NEIGHBOUR: 'it returns false'. Refute it at one input. -/
def planFormsWrong : ChangeSpec := { name := "planForms", fn := fun _ => fun
  | [d] => { results := [.lit (.bool false)], args := [d] }
  | _ => none }
def PlanFormsWrongFalsely : Prop := planFormsRow.holds Try.pinned (OpenSpec.ofChange planFormsWrong)

/-- 'drawbarlaw05.PlanRooms': WHATEVER THE INPUT: true; the input reads as it did. -/
def planRoomsSpec : ChangeSpec := { name := "planRooms", fn := fun _ => fun
  | [d1, d2] => { results := [.lit (.bool true)], args := [d1, d2] }
  | _ => none }
def planRoomsRow : OpenClaim := { program := "ytopmljbemogcoaa", sum := "d8e35a8e708ce1e3c8dcbbee9a48c515f7e32537395b426e13abe1be1df50ece", func := "drawbar/drawbarlaw05.PlanRooms", spec := "planRooms", apart := false }
def PlanRoomsSaid : Prop := planRoomsRow.holds Try.pinned (OpenSpec.ofChange planRoomsSpec)

/-- ITS FALSE NEIGHBOUR: 'it returns false'. Refute it at one input. -/
def planRoomsWrong : ChangeSpec := { name := "planRooms", fn := fun _ => fun
  | [d1, d2] => { results := [.lit (.bool false)], args := [d1, d2] }
  | _ => none }
def PlanRoomsWrongFalsely : Prop := planRoomsRow.holds Try.pinned (OpenSpec.ofChange planRoomsWrong)

/-- 'drawbarlaw05.PlanGrows': WHATEVER THE INPUT: true; the input reads as it did. -/
def planGrowsSpec : ChangeSpec := { name := "planGrows", fn := fun _ => fun
  | [d] => { results := [.lit (.bool true)], args := [d] }
  | _ => none }
def planGrowsRow : OpenClaim := { program := "ytopmljbemogcoaa", sum := "d8e35a8e708ce1e3c8dcbbee9a48c515f7e32537395b426e13abe1be1df50ece", func := "drawbar/drawbarlaw05.PlanGrows", spec := "planGrows", apart := false }
def PlanGrowsSaid : Prop := planGrowsRow.holds Try.pinned (OpenSpec.ofChange planGrowsSpec)

/-- ITS FALSE NEIGHBOUR: 'it returns false'. Refute it at one input. -/
def planGrowsWrong : ChangeSpec := { name := "planGrows", fn := fun _ => fun
  | [d] => { results := [.lit (.bool false)], args := [d] }
  | _ => none }
def PlanGrowsWrongFalsely : Prop := planGrowsRow.holds Try.pinned (OpenSpec.ofChange planGrowsWrong)

/-- 'drawbarlaw05.PlanBad': WHATEVER THE INPUT: true; the input reads as it did. -/
def planBadSpec : ChangeSpec := { name := "planBad", fn := fun _ => fun
  | [d1, d2] => { results := [.lit (.bool true)], args := [d1, d2] }
  | _ => none }
def planBadRow : OpenClaim := { program := "ytopmljbemogcoaa", sum := "d8e35a8e708ce1e3c8dcbbee9a48c515f7e32537395b426e13abe1be1df50ece", func := "drawbar/drawbarlaw05.PlanBad", spec := "planBad", apart := false }
def PlanBadSaid : Prop := planBadRow.holds Try.pinned (OpenSpec.ofChange planBadSpec)

/-- ITS FALSE NEIGHBOUR: 'it returns false'. Refute it at one input. -/
def planBadWrong : ChangeSpec := { name := "planBad", fn := fun _ => fun
  | [d1, d2] => { results := [.lit (.bool false)], args := [d1, d2] }
  | _ => none }
def PlanBadWrongFalsely : Prop := planBadRow.holds Try.pinned (OpenSpec.ofChange planBadWrong)

/-- 'drawbarlaw05.PlanFew': WHATEVER THE INPUT: true; the input reads as it did. -/
def planFewSpec : ChangeSpec := { name := "planFew", fn := fun _ => fun
  | [d1, d2, d3] => { results := [.lit (.bool true)], args := [d1, d2, d3] }
  | _ => none }
def planFewRow : OpenClaim := { program := "ytopmljbemogcoaa", sum := "d8e35a8e708ce1e3c8dcbbee9a48c515f7e32537395b426e13abe1be1df50ece", func := "drawbar/drawbarlaw05.PlanFew", spec := "planFew", apart := false }
def PlanFewSaid : Prop := planFewRow.holds Try.pinned (OpenSpec.ofChange planFewSpec)

/-- ITS FALSE NEIGHBOUR: 'it returns false'. Refute it at one input. -/
def planFewWrong : ChangeSpec := { name := "planFew", fn := fun _ => fun
  | [d1, d2, d3] => { results := [.lit (.bool false)], args := [d1, d2, d3] }
  | _ => none }
def PlanFewWrongFalsely : Prop := planFewRow.holds Try.pinned (OpenSpec.ofChange planFewWrong)

/- THE SECOND FORM. 'bulk': how many values and letters a reading holds, each counted each time it is reached (what is shared counts as often as it is met; a slice's spare places count too). A statement '..UptoSaid' is the law's where the arguments, and the package variables that the reading takes, are together of bulk at most 1048576: NARROWER than '..Said'. Prove '..Said' where nothing that the law and all that it calls make is longer than what came in: it says more and counts as full. Else prove '..UptoSaid'. A law counts once. -/
mutual
def uptoBulk {H : Type} : DataW H → Nat
  | .lit (.string bytes) => bytes.length + 1
  | .lit _ => 1
  | .nil => 1
  | .ptr d => uptoBulk d + 1
  | .slice elems spare => uptoBulkAll elems + uptoBulkAll spare + 1
  | .agg parts => uptoBulkAll parts + 1
  | .iface _ d => uptoBulk d + 1
  | .map entries => uptoBulkEntries entries + 1
  | .held _ => 1
def uptoBulkAll {H : Type} : List (DataW H) → Nat
  | [] => 0
  | d :: r => uptoBulk d + uptoBulkAll r
def uptoBulkEntries {H : Type} : List (Lit × DataW H) → Nat
  | [] => 0
  | x :: r => uptoBulkEntry x + uptoBulkEntries r
def uptoBulkEntry {H : Type} : Lit × DataW H → Nat
  | (.string bytes, d) => bytes.length + uptoBulk d + 1
  | (_, d) => uptoBulk d + 1
 end
def uptoSmall : (H : Type) → List (DataW H) → Bool := fun _ ds => decide (uptoBulkAll ds ≤ 1048576)
def OpenSpec.upto (s : _root_.Go.ChangeSpec) : _root_.Go.OpenSpec := { _root_.Go.OpenSpec.ofChange s with cond := some uptoSmall }

/-- 'drawbarlaw05.PlanForms', WHERE WHAT IT READS IS OF BULK AT MOST 1048576: true; the input reads as it did. -/
def planFormsUptoRow : OpenClaim := { program := "ytopmljbemogcoaa", sum := "d8e35a8e708ce1e3c8dcbbee9a48c515f7e32537395b426e13abe1be1df50ece", func := "drawbar/drawbarlaw05.PlanForms", spec := "planForms", apart := false, narrowed := true }
def PlanFormsUptoSaid : Prop := planFormsUptoRow.holds Try.pinned (OpenSpec.upto planFormsSpec)

/-- 'drawbarlaw05.PlanRooms', WHERE WHAT IT READS IS OF BULK AT MOST 1048576: true; the input reads as it did. -/
def planRoomsUptoRow : OpenClaim := { program := "ytopmljbemogcoaa", sum := "d8e35a8e708ce1e3c8dcbbee9a48c515f7e32537395b426e13abe1be1df50ece", func := "drawbar/drawbarlaw05.PlanRooms", spec := "planRooms", apart := false, narrowed := true }
def PlanRoomsUptoSaid : Prop := planRoomsUptoRow.holds Try.pinned (OpenSpec.upto planRoomsSpec)

/-- 'drawbarlaw05.PlanGrows', WHERE WHAT IT READS IS OF BULK AT MOST 1048576: true; the input reads as it did. -/
def planGrowsUptoRow : OpenClaim := { program := "ytopmljbemogcoaa", sum := "d8e35a8e708ce1e3c8dcbbee9a48c515f7e32537395b426e13abe1be1df50ece", func := "drawbar/drawbarlaw05.PlanGrows", spec := "planGrows", apart := false, narrowed := true }
def PlanGrowsUptoSaid : Prop := planGrowsUptoRow.holds Try.pinned (OpenSpec.upto planGrowsSpec)

/-- 'drawbarlaw05.PlanBad', WHERE WHAT IT READS IS OF BULK AT MOST 1048576: true; the input reads as it did. -/
def planBadUptoRow : OpenClaim := { program := "ytopmljbemogcoaa", sum := "d8e35a8e708ce1e3c8dcbbee9a48c515f7e32537395b426e13abe1be1df50ece", func := "drawbar/drawbarlaw05.PlanBad", spec := "planBad", apart := false, narrowed := true }
def PlanBadUptoSaid : Prop := planBadUptoRow.holds Try.pinned (OpenSpec.upto planBadSpec)

/-- 'drawbarlaw05.PlanFew', WHERE WHAT IT READS IS OF BULK AT MOST 1048576: true; the input reads as it did. -/
def planFewUptoRow : OpenClaim := { program := "ytopmljbemogcoaa", sum := "d8e35a8e708ce1e3c8dcbbee9a48c515f7e32537395b426e13abe1be1df50ece", func := "drawbar/drawbarlaw05.PlanFew", spec := "planFew", apart := false, narrowed := true }
def PlanFewUptoSaid : Prop := planFewUptoRow.holds Try.pinned (OpenSpec.upto planFewSpec)

end Rows
end Go.Proofs.Ytopmljbemogcoaa
