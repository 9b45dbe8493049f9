/-
  No cell of these rows narrows 'for every input' (looked for: loops, veiled, ifaces, maps, wideKeys, modest, calm, conditions, laid).
  DERIVED. THE GIVEN ROWS OF THIS SEAT. 8 by the template 'for every input the law returns true; each argument reads behind the call as it read before'; 0 by the template 'total and deterministic' (their statements: YtfehioapjoihkaaTotals.lean).
  GIVEN WITH THE SEED: the statements are not yours to turn. If you find one false, say at which input.
  Laid BY PROGRAM, IN A SANDBOX (cutbox-rows.mjs): the forced cells as the released guide's own fill.sh prints them over the translation e056977734cd552d… (all of the seat's roots in one cut). By AI agents, Wed Nov 11 2026. No macro, syntax, notation, axiom, sorry.
-/
import Derived.Test.YtfehioapjoihkaaChecked
import GoSem.Claim
import GoSem.ClaimJoined
import GoSem.ClaimMapViews
import Derived.JoinedTies
import Derived.KernelRfl
namespace Go.Proofs.Ytfehioapjoihkaa
/- THE CELL 'sum', in the pinned program and in every row, IS THE sha256 OF THE DUMP (.gsa) THAT YtfehioapjoihkaaProg.lean LOADS. Nothing in Lean hashes anything: it is a label: what it is worth is what the hold of that sum in a sandbox is worth. -/
noncomputable def Try.pinned : Pinned := { name := "ytfehioapjoihkaa", sum := "e056977734cd552d5a66f5e2c8bbb04eb3f4ace6bc4cb9a28c4ebd21bc2fe6ad", checked := Try.checked }
namespace Rows
def none {H : Type} : Left H := { results := [], args := [] }

/-- 'drawbarlaw07.PmapPlays': WHATEVER THE INPUT: true; the input reads as it did. -/
def pmapPlaysSpec : ChangeSpec := { name := "pmapPlays", fn := fun _ => fun
  | [d1, d2, d3] => { results := [.lit (.bool true)], args := [d1, d2, d3] }
  | _ => none }
def pmapPlaysRow : OpenClaim := { program := "ytfehioapjoihkaa", sum := "e056977734cd552d5a66f5e2c8bbb04eb3f4ace6bc4cb9a28c4ebd21bc2fe6ad", func := "drawbar/drawbarlaw07.PmapPlays", spec := "pmapPlays", unfollowed := true, recurses := true, apart := false }
def PmapPlaysSaid : Prop := pmapPlaysRow.holds Try.pinned (OpenSpec.ofChange pmapPlaysSpec)

/-- ITS FALSE NEIGHBOUR: 'it returns false'. Refute it at one input. -/
def pmapPlaysWrong : ChangeSpec := { name := "pmapPlays", fn := fun _ => fun
  | [d1, d2, d3] => { results := [.lit (.bool false)], args := [d1, d2, d3] }
  | _ => none }
def PmapPlaysWrongFalsely : Prop := pmapPlaysRow.holds Try.pinned (OpenSpec.ofChange pmapPlaysWrong)

/-- 'drawbarlaw07.PmapNil': WHATEVER THE INPUT: true; the input reads as it did. -/
def pmapNilSpec : ChangeSpec := { name := "pmapNil", fn := fun _ => fun
  | [d1, d2] => { results := [.lit (.bool true)], args := [d1, d2] }
  | _ => none }
def pmapNilRow : OpenClaim := { program := "ytfehioapjoihkaa", sum := "e056977734cd552d5a66f5e2c8bbb04eb3f4ace6bc4cb9a28c4ebd21bc2fe6ad", func := "drawbar/drawbarlaw07.PmapNil", spec := "pmapNil", unfollowed := true, recurses := true, apart := false }
def PmapNilSaid : Prop := pmapNilRow.holds Try.pinned (OpenSpec.ofChange pmapNilSpec)

/-- ITS FALSE NEIGHBOUR: 'it returns false'. Refute it at one input. -/
def pmapNilWrong : ChangeSpec := { name := "pmapNil", fn := fun _ => fun
  | [d1, d2] => { results := [.lit (.bool false)], args := [d1, d2] }
  | _ => none }
def PmapNilWrongFalsely : Prop := pmapNilRow.holds Try.pinned (OpenSpec.ofChange pmapNilWrong)

/-- 'drawbarlaw07.PmapMoves': WHATEVER THE INPUT: true; the input reads as it did. -/
def pmapMovesSpec : ChangeSpec := { name := "pmapMoves", fn := fun _ => fun
  | [d] => { results := [.lit (.bool true)], args := [d] }
  | _ => none }
def pmapMovesRow : OpenClaim := { program := "ytfehioapjoihkaa", sum := "e056977734cd552d5a66f5e2c8bbb04eb3f4ace6bc4cb9a28c4ebd21bc2fe6ad", func := "drawbar/drawbarlaw07.PmapMoves", spec := "pmapMoves", unfollowed := true, recurses := true, apart := false }
def PmapMovesSaid : Prop := pmapMovesRow.holds Try.pinned (OpenSpec.ofChange pmapMovesSpec)

/-- ITS FALSE NEIGHBOUR: 'it returns false'. Refute it at one input. -/
def pmapMovesWrong : ChangeSpec := { name := "pmapMoves", fn := fun _ => fun
  | [d] => { results := [.lit (.bool false)], args := [d] }
  | _ => none }
def PmapMovesWrongFalsely : Prop := pmapMovesRow.holds Try.pinned (OpenSpec.ofChange pmapMovesWrong)

/-- 'drawbarlaw07.PmapFull': WHATEVER THE INPUT: true; the input reads as it did. -/
def pmapFullSpec : ChangeSpec := { name := "pmapFull", fn := fun _ => fun
  | [d1, d2] => { results := [.lit (.bool true)], args := [d1, d2] }
  | _ => none }
def pmapFullRow : OpenClaim := { program := "ytfehioapjoihkaa", sum := "e056977734cd552d5a66f5e2c8bbb04eb3f4ace6bc4cb9a28c4ebd21bc2fe6ad", func := "drawbar/drawbarlaw07.PmapFull", spec := "pmapFull", unfollowed := true, recurses := true, apart := false }
def PmapFullSaid : Prop := pmapFullRow.holds Try.pinned (OpenSpec.ofChange pmapFullSpec)

/-- ITS FALSE NEIGHBOUR: 'it returns false'. Refute it at one input. -/
def pmapFullWrong : ChangeSpec := { name := "pmapFull", fn := fun _ => fun
  | [d1, d2] => { results := [.lit (.bool false)], args := [d1, d2] }
  | _ => none }
def PmapFullWrongFalsely : Prop := pmapFullRow.holds Try.pinned (OpenSpec.ofChange pmapFullWrong)

/-- 'drawbarlaw08.PoolPlays': WHATEVER THE INPUT: true; the input reads as it did. -/
def poolPlaysSpec : ChangeSpec := { name := "poolPlays", fn := fun _ => fun
  | [d1, d2] => { results := [.lit (.bool true)], args := [d1, d2] }
  | _ => none }
def poolPlaysRow : OpenClaim := { program := "ytfehioapjoihkaa", sum := "e056977734cd552d5a66f5e2c8bbb04eb3f4ace6bc4cb9a28c4ebd21bc2fe6ad", func := "drawbar/drawbarlaw08.PoolPlays", spec := "poolPlays", recurses := true, apart := false }
def PoolPlaysSaid : Prop := poolPlaysRow.holds Try.pinned (OpenSpec.ofChange poolPlaysSpec)

/-- ITS FALSE NEIGHBOUR: 'it returns false'. Refute it at one input. -/
def poolPlaysWrong : ChangeSpec := { name := "poolPlays", fn := fun _ => fun
  | [d1, d2] => { results := [.lit (.bool false)], args := [d1, d2] }
  | _ => none }
def PoolPlaysWrongFalsely : Prop := poolPlaysRow.holds Try.pinned (OpenSpec.ofChange poolPlaysWrong)

/-- 'drawbarlaw08.PoolLeast': WHATEVER THE INPUT: true; the input reads as it did. -/
def poolLeastSpec : ChangeSpec := { name := "poolLeast", fn := fun _ => fun
  | [d1, d2, d3] => { results := [.lit (.bool true)], args := [d1, d2, d3] }
  | _ => none }
def poolLeastRow : OpenClaim := { program := "ytfehioapjoihkaa", sum := "e056977734cd552d5a66f5e2c8bbb04eb3f4ace6bc4cb9a28c4ebd21bc2fe6ad", func := "drawbar/drawbarlaw08.PoolLeast", spec := "poolLeast", recurses := true, apart := false }
def PoolLeastSaid : Prop := poolLeastRow.holds Try.pinned (OpenSpec.ofChange poolLeastSpec)

/-- ITS FALSE NEIGHBOUR: 'it returns false'. Refute it at one input. -/
def poolLeastWrong : ChangeSpec := { name := "poolLeast", fn := fun _ => fun
  | [d1, d2, d3] => { results := [.lit (.bool false)], args := [d1, d2, d3] }
  | _ => none }
def PoolLeastWrongFalsely : Prop := poolLeastRow.holds Try.pinned (OpenSpec.ofChange poolLeastWrong)

/-- 'drawbarlaw08.PoolNil': WHATEVER THE INPUT: true; the input reads as it did. -/
def poolNilSpec : ChangeSpec := { name := "poolNil", fn := fun _ => fun
  | [d1, d2, d3] => { results := [.lit (.bool true)], args := [d1, d2, d3] }
  | _ => none }
def poolNilRow : OpenClaim := { program := "ytfehioapjoihkaa", sum := "e056977734cd552d5a66f5e2c8bbb04eb3f4ace6bc4cb9a28c4ebd21bc2fe6ad", func := "drawbar/drawbarlaw08.PoolNil", spec := "poolNil", recurses := true, apart := false }
def PoolNilSaid : Prop := poolNilRow.holds Try.pinned (OpenSpec.ofChange poolNilSpec)

/-- ITS FALSE NEIGHBOUR: 'it returns false'. Refute it at one input. -/
def poolNilWrong : ChangeSpec := { name := "poolNil", fn := fun _ => fun
  | [d1, d2, d3] => { results := [.lit (.bool false)], args := [d1, d2, d3] }
  | _ => none }
def PoolNilWrongFalsely : Prop := poolNilRow.holds Try.pinned (OpenSpec.ofChange poolNilWrong)

/-- 'drawbarlaw08.PoolDead': WHATEVER THE INPUT: true; the input reads as it did. -/
def poolDeadSpec : ChangeSpec := { name := "poolDead", fn := fun _ => fun
  | [d] => { results := [.lit (.bool true)], args := [d] }
  | _ => none }
def poolDeadRow : OpenClaim := { program := "ytfehioapjoihkaa", sum := "e056977734cd552d5a66f5e2c8bbb04eb3f4ace6bc4cb9a28c4ebd21bc2fe6ad", func := "drawbar/drawbarlaw08.PoolDead", spec := "poolDead", recurses := true, apart := false }
def PoolDeadSaid : Prop := poolDeadRow.holds Try.pinned (OpenSpec.ofChange poolDeadSpec)

/-- ITS FALSE NEIGHBOUR: 'it returns false'. Refute it at one input. -/
def poolDeadWrong : ChangeSpec := { name := "poolDead", fn := fun _ => fun
  | [d] => { results := [.lit (.bool false)], args := [d] }
  | _ => none }
def PoolDeadWrongFalsely : Prop := poolDeadRow.holds Try.pinned (OpenSpec.ofChange poolDeadWrong)

/- THE SECOND FORM. 'bulk': how many values and letters a reading holds, each counted each time it is reached (what is shared counts as often as it is met; a slice's spare places count too). A statement '..UptoSaid' is the law's where the arguments, and the package variables that the reading takes, are together of bulk at most 1048576: NARROWER than '..Said'. Prove '..Said' where nothing that the law and all that it calls make is longer than what came in: it says more and counts as full. Else prove '..UptoSaid'. A law counts once. -/
mutual
def uptoBulk {H : Type} : DataW H → Nat
  | .lit (.string bytes) => bytes.length + 1
  | .lit _ => 1
  | .nil => 1
  | .ptr d => uptoBulk d + 1
  | .slice elems spare => uptoBulkAll elems + uptoBulkAll spare + 1
  | .agg parts => uptoBulkAll parts + 1
  | .iface _ d => uptoBulk d + 1
  | .map entries => uptoBulkEntries entries + 1
  | .held _ => 1
def uptoBulkAll {H : Type} : List (DataW H) → Nat
  | [] => 0
  | d :: r => uptoBulk d + uptoBulkAll r
def uptoBulkEntries {H : Type} : List (Lit × DataW H) → Nat
  | [] => 0
  | x :: r => uptoBulkEntry x + uptoBulkEntries r
def uptoBulkEntry {H : Type} : Lit × DataW H → Nat
  | (.string bytes, d) => bytes.length + uptoBulk d + 1
  | (_, d) => uptoBulk d + 1
 end
def uptoSmall : (H : Type) → List (DataW H) → Bool := fun _ ds => decide (uptoBulkAll ds ≤ 1048576)
def OpenSpec.upto (s : _root_.Go.ChangeSpec) : _root_.Go.OpenSpec := { _root_.Go.OpenSpec.ofChange s with cond := some uptoSmall }

/-- 'drawbarlaw07.PmapPlays', WHERE WHAT IT READS IS OF BULK AT MOST 1048576: true; the input reads as it did. -/
def pmapPlaysUptoRow : OpenClaim := { program := "ytfehioapjoihkaa", sum := "e056977734cd552d5a66f5e2c8bbb04eb3f4ace6bc4cb9a28c4ebd21bc2fe6ad", func := "drawbar/drawbarlaw07.PmapPlays", spec := "pmapPlays", unfollowed := true, recurses := true, apart := false, narrowed := true }
def PmapPlaysUptoSaid : Prop := pmapPlaysUptoRow.holds Try.pinned (OpenSpec.upto pmapPlaysSpec)

/-- 'drawbarlaw07.PmapNil', WHERE WHAT IT READS IS OF BULK AT MOST 1048576: true; the input reads as it did. -/
def pmapNilUptoRow : OpenClaim := { program := "ytfehioapjoihkaa", sum := "e056977734cd552d5a66f5e2c8bbb04eb3f4ace6bc4cb9a28c4ebd21bc2fe6ad", func := "drawbar/drawbarlaw07.PmapNil", spec := "pmapNil", unfollowed := true, recurses := true, apart := false, narrowed := true }
def PmapNilUptoSaid : Prop := pmapNilUptoRow.holds Try.pinned (OpenSpec.upto pmapNilSpec)

/-- 'drawbarlaw07.PmapMoves', WHERE WHAT IT READS IS OF BULK AT MOST 1048576: true; the input reads as it did. -/
def pmapMovesUptoRow : OpenClaim := { program := "ytfehioapjoihkaa", sum := "e056977734cd552d5a66f5e2c8bbb04eb3f4ace6bc4cb9a28c4ebd21bc2fe6ad", func := "drawbar/drawbarlaw07.PmapMoves", spec := "pmapMoves", unfollowed := true, recurses := true, apart := false, narrowed := true }
def PmapMovesUptoSaid : Prop := pmapMovesUptoRow.holds Try.pinned (OpenSpec.upto pmapMovesSpec)

/-- 'drawbarlaw07.PmapFull', WHERE WHAT IT READS IS OF BULK AT MOST 1048576: true; the input reads as it did. -/
def pmapFullUptoRow : OpenClaim := { program := "ytfehioapjoihkaa", sum := "e056977734cd552d5a66f5e2c8bbb04eb3f4ace6bc4cb9a28c4ebd21bc2fe6ad", func := "drawbar/drawbarlaw07.PmapFull", spec := "pmapFull", unfollowed := true, recurses := true, apart := false, narrowed := true }
def PmapFullUptoSaid : Prop := pmapFullUptoRow.holds Try.pinned (OpenSpec.upto pmapFullSpec)

/-- 'drawbarlaw08.PoolPlays', WHERE WHAT IT READS IS OF BULK AT MOST 1048576: true; the input reads as it did. -/
def poolPlaysUptoRow : OpenClaim := { program := "ytfehioapjoihkaa", sum := "e056977734cd552d5a66f5e2c8bbb04eb3f4ace6bc4cb9a28c4ebd21bc2fe6ad", func := "drawbar/drawbarlaw08.PoolPlays", spec := "poolPlays", recurses := true, apart := false, narrowed := true }
def PoolPlaysUptoSaid : Prop := poolPlaysUptoRow.holds Try.pinned (OpenSpec.upto poolPlaysSpec)

/-- 'drawbarlaw08.PoolLeast', WHERE WHAT IT READS IS OF BULK AT MOST 1048576: true; the input reads as it did. -/
def poolLeastUptoRow : OpenClaim := { program := "ytfehioapjoihkaa", sum := "e056977734cd552d5a66f5e2c8bbb04eb3f4ace6bc4cb9a28c4ebd21bc2fe6ad", func := "drawbar/drawbarlaw08.PoolLeast", spec := "poolLeast", recurses := true, apart := false, narrowed := true }
def PoolLeastUptoSaid : Prop := poolLeastUptoRow.holds Try.pinned (OpenSpec.upto poolLeastSpec)

/-- 'drawbarlaw08.PoolNil', WHERE WHAT IT READS IS OF BULK AT MOST 1048576: true; the input reads as it did. -/
def poolNilUptoRow : OpenClaim := { program := "ytfehioapjoihkaa", sum := "e056977734cd552d5a66f5e2c8bbb04eb3f4ace6bc4cb9a28c4ebd21bc2fe6ad", func := "drawbar/drawbarlaw08.PoolNil", spec := "poolNil", recurses := true, apart := false, narrowed := true }
def PoolNilUptoSaid : Prop := poolNilUptoRow.holds Try.pinned (OpenSpec.upto poolNilSpec)

/-- 'drawbarlaw08.PoolDead', WHERE WHAT IT READS IS OF BULK AT MOST 1048576: true; the input reads as it did. -/
def poolDeadUptoRow : OpenClaim := { program := "ytfehioapjoihkaa", sum := "e056977734cd552d5a66f5e2c8bbb04eb3f4ace6bc4cb9a28c4ebd21bc2fe6ad", func := "drawbar/drawbarlaw08.PoolDead", spec := "poolDead", recurses := true, apart := false, narrowed := true }
def PoolDeadUptoSaid : Prop := poolDeadUptoRow.holds Try.pinned (OpenSpec.upto poolDeadSpec)

end Rows
end Go.Proofs.Ytfehioapjoihkaa
