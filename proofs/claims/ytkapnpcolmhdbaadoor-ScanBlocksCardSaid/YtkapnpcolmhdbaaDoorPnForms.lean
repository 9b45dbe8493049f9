/- The walk of the law PlanForms, and the contract of the document's Form. -/
import Derived.Test.YtkapnpcolmhdbaaDoorPnGrows
import Derived.BigQuiet
namespace Go.Proofs.YtkapnpcolmhdbaaDoor.Pn
open Go.RowKit
open Drawbar Drawbar.Plan

set_option maxRecDepth 100000 in
theorem below_drewN {B : Nat} {a w : World} (h : Below B a w) (n : Nat) : Below B a (w.drewN n) := ⟨h.os, h.tape, h.output, h.size, h.block⟩

set_option maxRecDepth 100000 in
theorem form_ref (b p s : Int) (B : List Int) : form b p s B = decide ((4 ≤ b ∧ b ≤ 64 ∧ 2 ≤ p ∧ p ≤ 32 ∧ 0 ≤ s ∧ s ≤ 8) ∧ (B.Nodup ∧ ∀ x ∈ B, 2 ≤ x ∧ x < b) ∧ 1 ≤ cap b p s B) := by
  unfold form
  rw [Bool.eq_iff_iff, decide_eq_true_eq, decide_eq_true_eq]
  have hu := (us_ok B (kk b)).2
  have hk : 4 ≤ b → b ≤ 64 → ((kk b : Nat) : Int) = b - 2 := fun h1 h2 => by unfold kk; omega
  unfold Ok at hu
  constructor
  · rintro ⟨h1, h2, h3, h4, h5, h6, h7, h8⟩
    obtain ⟨u1, u2⟩ := hu.1 (by have := hk h1 h2; omega)
    exact ⟨⟨h1, h2, h3, h4, h5, h6⟩, ⟨u1, fun x hx => ⟨(u2 x hx).1, by have := (u2 x hx).2; have := hk h1 h2; omega⟩⟩, by omega⟩
  · rintro ⟨⟨h1, h2, h3, h4, h5, h6⟩, ⟨u1, u2⟩, h8⟩
    have := hu.2 ⟨u1, fun x hx => ⟨(u2 x hx).1, by have := (u2 x hx).2; have := hk h1 h2; omega⟩⟩
    exact ⟨h1, h2, h3, h4, h5, h6, by have := hk h1 h2; omega, by omega⟩

/-- The first k blocks are each told once, and may be bad. -/
def good (b : Int) (B : List Int) (k : Nat) : Prop := ∀ i, i < k → (∀ j, j < i → B.getD j 0 ≠ B.getD i 0) ∧ 2 ≤ B.getD i 0 ∧ B.getD i 0 < b
set_option maxRecDepth 100000 in
theorem good_all (b : Int) (B : List Int) : good b B B.length ↔ (B.Nodup ∧ ∀ x ∈ B, 2 ≤ x ∧ x < b) := by
  have hg : ∀ i (h : i < B.length), B.getD i 0 = B[i] := fun i h => by rw [List.getD_eq_getElem?_getD, List.getElem?_eq_getElem h]; rfl
  constructor
  · intro h
    refine ⟨List.pairwise_iff_getElem.2 fun i j hi hj hij => ?_, fun x hx => ?_⟩
    · have := (h j hj).1 i hij
      rwa [hg i hi, hg j hj] at this
    · obtain ⟨i, hi, rfl⟩ := List.mem_iff_getElem.1 hx
      have := (h i hi).2
      rwa [hg i hi] at this
  · rintro ⟨h1, h2⟩ i hi
    refine ⟨fun j hj => ?_, ?_⟩
    · have := List.pairwise_iff_getElem.1 h1 j i (by omega) hi hj
      rwa [hg i hi, hg j (by omega)]
    · rw [hg i hi]
      exact h2 _ (List.getElem_mem hi)

end Go.Proofs.YtkapnpcolmhdbaaDoor.Pn
