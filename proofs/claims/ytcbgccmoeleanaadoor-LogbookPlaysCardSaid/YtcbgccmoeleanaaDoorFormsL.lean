/- The walk of the law SheetForms. -/
import Derived.Test.YtcbgccmoeleanaaDoorLay
import Derived.Deep.RegionHeld
namespace Go.Proofs.YtcbgccmoeleanaaDoor
open Go.RowKit
open Drawbar Drawbar.Sheet
theorem drew_below (w : World) : Below w.heap.size w w.drew := (Below.refl _ _).drew

end Go.Proofs.YtcbgccmoeleanaaDoor
