/- The walk of WordAdds. -/
import Derived.Test.YthldbcngbkemnaaCounts
import Derived.Test.YthldbcngbkemnaaJoin
namespace Go.Proofs.Ythldbcngbkemnaa
open Go.RowKit
open Drawbar Drawbar.Line Drawbar.Sign

theorem cntR_le (s : ByteArray) : (cntR s).1 ≤ s.size := by
  have h := eachR_count s s.size 0 0
  unfold cntR
  split
  · have := h.1
    omega
  · simp

theorem below3 {w w1 w2 w3 : World} (h1 : Below w.heap.size w w1) (h2 : Below w1.heap.size w1 w2) (h3 : Below w2.heap.size w2 w3) : Below w.heap.size w w3 := below_step (below_step h1 h2) h3
theorem below4 {w w1 w2 w3 w4 : World} (h1 : Below w.heap.size w w1) (h2 : Below w1.heap.size w1 w2) (h3 : Below w2.heap.size w2 w3) (h4 : Below w3.heap.size w3 w4) : Below w.heap.size w w4 := below_step (below3 h1 h2 h3) h4

end Go.Proofs.Ythldbcngbkemnaa
