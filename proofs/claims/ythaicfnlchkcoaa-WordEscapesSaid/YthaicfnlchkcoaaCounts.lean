/- The walk of WordCounts. -/
import Derived.Test.YthaicfnlchkcoaaAwake
import Derived.Test.YthaicfnlchkcoaaRefCount
namespace Go.Proofs.Ythaicfnlchkcoaa
open Go.RowKit
open Drawbar Drawbar.Line Drawbar.Sign

theorem Yes.trans {w w1 : World} {e : Ending} {w2 : World} (hb : Below w.heap.size w w1) (h : Yes w1 e w2) : Yes w e w2 := ⟨h.1, hb.trans (h.2.mono hb.size)⟩
theorem below_step {w w1 w2 : World} (hb : Below w.heap.size w w1) (h : Below w1.heap.size w1 w2) : Below w.heap.size w w2 := hb.trans (h.mono hb.size)

theorem counts_any (s : ByteArray) (W : World) : Calls Try.prog 4 #[.string s] W (Yes W) := by
  have HA := Lib.hid awake_any
  by_cases h : 2000 < s.size
  · have i1 : decide ((2000 : Int) < (s.size : Int)) = true := by simp; omega
    clear h
    go_enter Try.func4, Try.ntmps4
    go_wp2_with (first | (go_at_call 11; refine (HA.out W).mono ?_; rintro e w2 ⟨rfl, hb⟩) | (go_at_call 11; refine (HA.out w2).mono ?_; rintro e w3 ⟨rfl, hb3⟩))
    go_ret
    exact ⟨rfl, below_step hb hb3⟩
  · have i1 : decide ((2000 : Int) < (s.size : Int)) = false := by simp; omega
    have HC := Lib.hid (fun w => count_any s (by omega) w)
    have HR := Lib.hid (fun w => refcount_any s (by omega) w)
    generalize cntR s = Z at HC HR
    clear h
    go_enter Try.func4, Try.ntmps4
    go_wp2_with (first | (go_at_call 11; refine (HA.out W).mono ?_; rintro e w2 ⟨rfl, hb⟩) | (go_at_call 15; refine (HC.out w2).mono ?_; rintro e w3 ⟨rfl, hb3⟩) | (go_at_call 16; refine (HR.out w3).mono ?_; rintro e w4 ⟨rfl, rfl⟩))
    go_ret
    exact ⟨rfl, below_step hb hb3⟩
end Go.Proofs.Ythaicfnlchkcoaa
