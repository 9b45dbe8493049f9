/- What ScanBlocks' walk takes: its array, the document's Pages. -/
import Derived.Test.YtkapnpcolmhdbaaDoorArr
import Derived.Test.YtkapnpcolmhdbaaDoorPgs
import Derived.Test.YtkapnpcolmhdbaaDoorZBl
namespace Go.Proofs.YtkapnpcolmhdbaaDoor.Sc
open Go.RowKit
open Drawbar Drawbar.Sheet Drawbar.Nand Drawbar.Scan Drawbar.Gm Go.Proofs.YtkapnpcolmhdbaaDoor.Nd
theorem arr_all (n : Nat) (hn : n < 256) : ArrAny n := fun W ga gc l la lc hT hB hP => arr_any n hn W ga gc hT hB l la lc hP
theorem pgs_all (n : Nat) (hn : n < 256) : PgsAny n := fun W ga gc s oa oc hB hO h1 h2 => pages_any n hn W ga gc hB s oa oc hO h1 h2
end Go.Proofs.YtkapnpcolmhdbaaDoor.Sc
