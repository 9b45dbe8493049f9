/- The contract of small: can it be asked? -/
import Derived.Test.YtkapnpcolmhdbaaDoorPnFew
namespace Go.Proofs.YtkapnpcolmhdbaaDoor.Pn
open Go.RowKit
open Drawbar Drawbar.Plan
def Sm (b p s : Int) (n : Nat) : Prop := b ≤ 64 ∧ -100 ≤ b ∧ p ≤ 1000 ∧ -1000 ≤ p ∧ s ≤ 1000 ∧ -1000 ≤ s ∧ (n : Int) ≤ 100
instance (b p s : Int) (n : Nat) : Decidable (Sm b p s n) := by unfold Sm; exact inferInstance
set_option maxRecDepth 100000 in
theorem Sm.small {b p s : Int} {n : Nat} (h : Sm b p s n) : Small b p s ∧ n ≤ 1000 ∧ b ≤ 64 := by
  obtain ⟨h1, h2, h3, h4, h5, h6, h7⟩ := h
  exact ⟨⟨by omega, by omega, by omega⟩, by omega, h1⟩

end Go.Proofs.YtkapnpcolmhdbaaDoor.Pn
