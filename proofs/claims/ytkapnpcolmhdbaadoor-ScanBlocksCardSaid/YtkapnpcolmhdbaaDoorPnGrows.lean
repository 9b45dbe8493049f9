/- The walk of the law PlanGrows. -/
import Derived.Test.YtkapnpcolmhdbaaDoorPnSmall
namespace Go.Proofs.YtkapnpcolmhdbaaDoor.Pn
open Go.RowKit
open Drawbar Drawbar.Plan

set_option maxRecDepth 100000 in
theorem form_true {b p s : Int} {B : List Int} (h : form b p s B = true) : (4 ≤ b ∧ b ≤ 64) ∧ (2 ≤ p ∧ p ≤ 32) ∧ (0 ≤ s ∧ s ≤ 8) ∧ Ok B (kk b) ∧ ((us B (kk b)).length : Int) + B.length = b - 2 ∧ 0 < cap b p s B ∧ ((kk b : Nat) : Int) = b - 2 := by
  unfold form at h
  obtain ⟨h1, h2, h3, h4, h5, h6, h7, h8⟩ := of_decide_eq_true h
  have hk : ((kk b : Nat) : Int) = b - 2 := by unfold kk; omega
  exact ⟨⟨h1, h2⟩, ⟨h3, h4⟩, ⟨h5, h6⟩, (us_ok B (kk b)).2.1 (by omega), h7, h8, hk⟩

set_option maxRecDepth 100000 in
theorem grown {b p s : Int} {B : List Int} (h : form b p s B = true) (hb : b ≠ 64) : cap (b + 1) p s B = cap b p s B + p ∧ cap b p (s + 1) B = cap b p s B - p ∧ form (b + 1) p s B = true := by
  obtain ⟨h1, h2, h3, h4, h5, h6, h7⟩ := form_true h
  have hk : kk (b + 1) = kk b + 1 := by unfold kk; omega
  have hl : (us B (kk (b + 1))).length = (us B (kk b)).length + 1 := by rw [hk, us_more h4]; simp
  have hc : cap (b + 1) p s B = cap b p s B + p := by
    unfold cap
    rw [hl, show (((us B (kk b)).length + 1 : Nat) : Int) - s - 1 = ((us B (kk b)).length - s - 1) + 1 by omega, Int.mul_add]
    omega
  refine ⟨hc, ?_, ?_⟩
  · unfold cap
    rw [show ((us B (kk b)).length : Int) - (s + 1) - 1 = ((us B (kk b)).length - s - 1) - 1 by omega, Int.mul_sub]
    omega
  · unfold form
    rw [hc, hl]
    exact decide_eq_true ⟨by omega, by omega, h2.1, h2.2, h3.1, h3.2, by omega, by omega⟩

end Go.Proofs.YtkapnpcolmhdbaaDoor.Pn
