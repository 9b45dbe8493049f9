/- The walk of the law SheetForms. -/
import Derived.Test.YtkapnpcolmhdbaaDoorLay
import Derived.Deep.RegionHeld
namespace Go.Proofs.YtkapnpcolmhdbaaDoor
open Go.RowKit
open Drawbar Drawbar.Sheet
set_option maxRecDepth 100000 in
theorem drew_below (w : World) : Below w.heap.size w w.drew := (Below.refl _ _).drew

end Go.Proofs.YtkapnpcolmhdbaaDoor
