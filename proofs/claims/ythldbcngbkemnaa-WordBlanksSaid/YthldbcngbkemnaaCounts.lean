/- The walk of WordCounts. -/
import Derived.Test.YthldbcngbkemnaaAwake
import Derived.Test.YthldbcngbkemnaaRefCount
namespace Go.Proofs.Ythldbcngbkemnaa
open Go.RowKit
open Drawbar Drawbar.Line Drawbar.Sign

theorem Yes.trans {w w1 : World} {e : Ending} {w2 : World} (hb : Below w.heap.size w w1) (h : Yes w1 e w2) : Yes w e w2 := ⟨h.1, hb.trans (h.2.mono hb.size)⟩
theorem below_step {w w1 w2 : World} (hb : Below w.heap.size w w1) (h : Below w1.heap.size w1 w2) : Below w.heap.size w w2 := hb.trans (h.mono hb.size)

end Go.Proofs.Ythldbcngbkemnaa
