/- The contract of small: can it be asked? -/
import Derived.Test.YtopmljbemogcoaaFew
namespace Go.Proofs.Ytopmljbemogcoaa
open Go.RowKit
open Drawbar Drawbar.Plan
def Sm (b p s : Int) (n : Nat) : Prop := b ≤ 64 ∧ -100 ≤ b ∧ p ≤ 1000 ∧ -1000 ≤ p ∧ s ≤ 1000 ∧ -1000 ≤ s ∧ (n : Int) ≤ 100
instance (b p s : Int) (n : Nat) : Decidable (Sm b p s n) := by unfold Sm; exact inferInstance
theorem Sm.small {b p s : Int} {n : Nat} (h : Sm b p s n) : Small b p s ∧ n ≤ 1000 ∧ b ≤ 64 := by
  obtain ⟨h1, h2, h3, h4, h5, h6, h7⟩ := h
  exact ⟨⟨by omega, by omega, by omega⟩, by omega, h1⟩

set_option maxHeartbeats 2000000 in
theorem small_any (b p s : Int) (a : Option Addr) (n c : Nat) (w : World) :
    Calls Try.prog 9 #[geo b p s a n c] w fun e w' => e = .returned (.bool (decide (Sm b p s n))) ∧ Below w.heap.size w w' := by
  obtain ⟨q0, q1, q2, q3⟩ := boxed_cells w b p s a n c _ (Below.refl _ _)
  generalize hq : decide (Sm b p s n) = q
  unfold geo
  go_enter Try.func9, Try.ntmps9
  by_cases h0 : b ≤ 64
  rotate_left
  · obtain rfl : q = false := hq.symm.trans (decide_eq_false fun k => h0 k.1)
    clear hq
    go_wp2
    go_ret
    exact ⟨rfl, (Below.refl _ _).alloc (Nat.le_refl _) _⟩
  by_cases h1 : -100 ≤ b
  rotate_left
  · obtain rfl : q = false := hq.symm.trans (decide_eq_false fun k => h1 k.2.1)
    clear hq
    go_wp2
    go_ret
    exact ⟨rfl, (Below.refl _ _).alloc (Nat.le_refl _) _⟩
  by_cases h2 : p ≤ 1000
  rotate_left
  · obtain rfl : q = false := hq.symm.trans (decide_eq_false fun k => h2 k.2.2.1)
    clear hq
    go_wp2
    go_ret
    exact ⟨rfl, (Below.refl _ _).alloc (Nat.le_refl _) _⟩
  by_cases h3 : -1000 ≤ p
  rotate_left
  · obtain rfl : q = false := hq.symm.trans (decide_eq_false fun k => h3 k.2.2.2.1)
    clear hq
    go_wp2
    go_ret
    exact ⟨rfl, (Below.refl _ _).alloc (Nat.le_refl _) _⟩
  by_cases h4 : s ≤ 1000
  rotate_left
  · obtain rfl : q = false := hq.symm.trans (decide_eq_false fun k => h4 k.2.2.2.2.1)
    clear hq
    go_wp2
    go_ret
    exact ⟨rfl, (Below.refl _ _).alloc (Nat.le_refl _) _⟩
  by_cases h5 : -1000 ≤ s
  rotate_left
  · obtain rfl : q = false := hq.symm.trans (decide_eq_false fun k => h5 k.2.2.2.2.2.1)
    clear hq
    go_wp2
    go_ret
    exact ⟨rfl, (Below.refl _ _).alloc (Nat.le_refl _) _⟩
  by_cases h6 : (n : Int) ≤ 100
  rotate_left
  · obtain rfl : q = false := hq.symm.trans (decide_eq_false fun k => h6 k.2.2.2.2.2.2)
    clear hq
    go_wp2
    go_ret
    exact ⟨rfl, (Below.refl _ _).alloc (Nat.le_refl _) _⟩
  · obtain rfl : q = true := hq.symm.trans (decide_eq_true ⟨h0, h1, h2, h3, h4, h5, h6⟩)
    clear hq
    go_wp2
    go_ret
    exact ⟨rfl, (Below.refl _ _).alloc (Nat.le_refl _) _⟩
end Go.Proofs.Ytopmljbemogcoaa
