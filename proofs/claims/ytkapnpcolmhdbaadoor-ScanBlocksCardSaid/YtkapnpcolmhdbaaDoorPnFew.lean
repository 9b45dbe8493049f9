/- The walk of the law PlanFew; the contract of small. -/
import Derived.Test.YtkapnpcolmhdbaaDoorPlans
namespace Go.Proofs.YtkapnpcolmhdbaaDoor.Pn
open Go.RowKit
open Drawbar Drawbar.Plan

def Yes (w : World) (e : Ending) (w' : World) : Prop := e = .returned (.bool true) ∧ Below w.heap.size w w'

set_option maxRecDepth 100000 in
theorem few_form (b p s : Int) (hs : 0 ≤ s) :
    form b p s [] = decide (4 ≤ b ∧ b ≤ 64 ∧ 2 ≤ p ∧ p ≤ 32 ∧ s ≤ 8 ∧ 3 ≤ p * (b - 3 - s)) := by
  unfold form cap
  rw [us_nil]
  rw [Bool.eq_iff_iff, decide_eq_true_eq, decide_eq_true_eq]
  have hk : 4 ≤ b → b ≤ 64 → ((kk b : Nat) : Int) = b - 2 := fun h1 h2 => by unfold kk; omega
  constructor
  · rintro ⟨h1, h2, h3, h4, h5, h6, h7, h8⟩
    rw [hk h1 h2, show b - 2 - s - 1 = b - 3 - s by omega] at h8
    exact ⟨h1, h2, h3, h4, h6, by omega⟩
  · rintro ⟨h1, h2, h3, h4, h6, h8⟩
    rw [hk h1 h2, show b - 2 - s - 1 = b - 3 - s by omega]
    refine ⟨h1, h2, h3, h4, hs, h6, by simp, by omega⟩

end Go.Proofs.YtkapnpcolmhdbaaDoor.Pn
