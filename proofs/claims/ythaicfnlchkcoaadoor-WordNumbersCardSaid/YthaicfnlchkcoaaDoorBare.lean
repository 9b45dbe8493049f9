/- word.isBare: are the signs of a text those of a word that needs no quotes? -/
import Derived.Test.YthaicfnlchkcoaaDoorProg
import Derived.Test.YthaicfnlchkcoaaDoorSign
import Derived.Test.YthaicfnlchkcoaaDoorEach
import Derived.WalkKit
import Derived.Handy
import Derived.Lib.Hide
import Derived.Lib.OthersKept
namespace Go.Proofs.YthaicfnlchkcoaaDoor
open Go.RowKit
open Drawbar.Sign

/-- a sign that can stand in a word without quotes -/
def plain (r : Nat) : Bool := decide (32 < (r : Int)) && ((r : Int) != 127 && (r : Int) != 34 && (r : Int) != 12288)

set_option maxHeartbeats 1000000 in
theorem plain_any (r : Nat) (w : World) :
    Calls Tryd.prog 33 #[.int .i32 (r : Int)] w fun e w' => e = .returned (.bool (plain r)) ∧ w = w' := by
  by_cases h : 32 < (r : Int)
  · have e : plain r = ((r : Int) != 127 && (r : Int) != 34 && (r : Int) != 12288) := by simp only [plain, h, decide_true, Bool.true_and]
    rw [e]
    go_enter Tryd.func33, Tryd.ntmps33
    go_wp2
    all_goals go_ret
    all_goals first | exact ⟨rfl, rfl⟩ | (refine ⟨?_, rfl⟩; simp; omega)
  · have e : plain r = false := by simp only [plain, h, decide_false, Bool.false_and]
    rw [e]
    go_enter Tryd.func33, Tryd.ntmps33
    go_wp2
    all_goals go_ret
    all_goals first | exact ⟨rfl, rfl⟩ | (refine ⟨?_, rfl⟩; simp; omega)

end Go.Proofs.YthaicfnlchkcoaaDoor
