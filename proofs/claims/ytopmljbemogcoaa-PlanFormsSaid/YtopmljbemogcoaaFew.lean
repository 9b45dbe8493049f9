/- The walk of the law PlanFew; the contract of small. -/
import Derived.Test.YtopmljbemogcoaaForm
namespace Go.Proofs.Ytopmljbemogcoaa
open Go.RowKit
open Drawbar Drawbar.Plan

def Yes (w : World) (e : Ending) (w' : World) : Prop := e = .returned (.bool true) ∧ Below w.heap.size w w'

theorem few_form (b p s : Int) (hs : 0 ≤ s) :
    form b p s [] = decide (4 ≤ b ∧ b ≤ 64 ∧ 2 ≤ p ∧ p ≤ 32 ∧ s ≤ 8 ∧ 3 ≤ p * (b - 3 - s)) := by
  unfold form cap
  rw [us_nil]
  rw [Bool.eq_iff_iff, decide_eq_true_eq, decide_eq_true_eq]
  have hk : 4 ≤ b → b ≤ 64 → ((kk b : Nat) : Int) = b - 2 := fun h1 h2 => by unfold kk; omega
  constructor
  · rintro ⟨h1, h2, h3, h4, h5, h6, h7, h8⟩
    rw [hk h1 h2, show b - 2 - s - 1 = b - 3 - s by omega] at h8
    exact ⟨h1, h2, h3, h4, h6, by omega⟩
  · rintro ⟨h1, h2, h3, h4, h6, h8⟩
    rw [hk h1 h2, show b - 2 - s - 1 = b - 3 - s by omega]
    refine ⟨h1, h2, h3, h4, hs, h6, by simp, by omega⟩

set_option maxHeartbeats 2000000 in
theorem few_any (x y z : Nat) (w : World) (hx : x < 256) (hy : y < 256) (hz : z < 256) :
    Calls Try.prog 7 #[.int .u8 x, .int .u8 y, .int .u8 z] w (Yes w) := by
  obtain ⟨b, hb, hb0⟩ : ∃ b : Int, (x : Int) % 70 = b ∧ 0 ≤ b ∧ b ≤ 69 := ⟨_, rfl, by omega, by omega⟩
  obtain ⟨p, hp, hp0⟩ : ∃ b : Int, (y : Int) % 40 = b ∧ 0 ≤ b ∧ b ≤ 39 := ⟨_, rfl, by omega, by omega⟩
  obtain ⟨s, hs, hs0⟩ : ∃ b : Int, (z : Int) % 10 = b ∧ 0 ≤ b ∧ b ≤ 9 := ⟨_, rfl, by omega, by omega⟩
  have hA := fun W => awake_any W
  have hcells := boxed_cells w b p s none 0 0
  have hF : ∀ W, Calls Try.prog 12 #[.agg #[.int .i64 b, .int .i64 p, .int .i64 s, .slice none 0 0]] W fun e w' => e = .returned (.bool (decide (4 ≤ b ∧ b ≤ 64 ∧ 2 ≤ p ∧ p ≤ 32 ∧ s ≤ 8 ∧ 3 ≤ p * (b - 3 - s)))) ∧ Below W.heap.size W w' := fun W => by
    rw [← few_form b p s hs0.1]
    exact form_any b p s [] none 0 W (rdI_nil _ _) (by simp) ⟨by omega, by omega, by omega⟩
  have HF := Lib.hid hF
  have HA := Lib.hid hA
  have HC := Lib.hid hcells
  clear hF hA hcells
  have hm : -2000 ≤ p * (b - 3 - s) ∧ p * (b - 3 - s) ≤ 3000 := by
    have a1 := Int.mul_nonneg (show 0 ≤ p by omega) (show 0 ≤ 70 - (b - 3 - s) by omega)
    have a2 := Int.mul_nonneg (show 0 ≤ p by omega) (show 0 ≤ (b - 3 - s) + 20 by omega)
    simp only [Int.mul_sub, Int.mul_add] at a1 a2 ⊢
    omega
  generalize hq : decide (4 ≤ b ∧ b ≤ 64 ∧ 2 ≤ p ∧ p ≤ 32 ∧ s ≤ 8 ∧ 3 ≤ p * (b - 3 - s)) = q at HF
  go_enter Try.func7, Try.ntmps7
  by_cases h1 : 4 ≤ b
  rotate_left
  · obtain rfl : q = false := hq.symm.trans (decide_eq_false fun k => h1 k.1)
    clear hq
    go_wp2_with (first
      | (go_at_call 12; (with_reducible refine (HF.out _).mono ?_); rintro e w1 ⟨rfl, hb1⟩; obtain ⟨q0, q1, q2, q3⟩ := HC.out _ hb1)
      | (go_at_call 8; (with_reducible refine (HA.out _).mono ?_); rintro e w2 ⟨rfl, hb2⟩; obtain ⟨r0, r1, r2, r3⟩ := HC.out _ (hb1.trans (hb2.mono hb1.size))))
    go_ret
    exact ⟨rfl, ((Below.refl _ _).alloc (Nat.le_refl _) _).trans ((hb1.trans (hb2.mono hb1.size)).mono (by simp))⟩
  by_cases h2 : b ≤ 64
  rotate_left
  · obtain rfl : q = false := hq.symm.trans (decide_eq_false fun k => h2 k.2.1)
    clear hq
    go_wp2_with (first
      | (go_at_call 12; (with_reducible refine (HF.out _).mono ?_); rintro e w1 ⟨rfl, hb1⟩; obtain ⟨q0, q1, q2, q3⟩ := HC.out _ hb1)
      | (go_at_call 8; (with_reducible refine (HA.out _).mono ?_); rintro e w2 ⟨rfl, hb2⟩; obtain ⟨r0, r1, r2, r3⟩ := HC.out _ (hb1.trans (hb2.mono hb1.size))))
    go_ret
    exact ⟨rfl, ((Below.refl _ _).alloc (Nat.le_refl _) _).trans ((hb1.trans (hb2.mono hb1.size)).mono (by simp))⟩
  by_cases h3 : 2 ≤ p
  rotate_left
  · obtain rfl : q = false := hq.symm.trans (decide_eq_false fun k => h3 k.2.2.1)
    clear hq
    go_wp2_with (first
      | (go_at_call 12; (with_reducible refine (HF.out _).mono ?_); rintro e w1 ⟨rfl, hb1⟩; obtain ⟨q0, q1, q2, q3⟩ := HC.out _ hb1)
      | (go_at_call 8; (with_reducible refine (HA.out _).mono ?_); rintro e w2 ⟨rfl, hb2⟩; obtain ⟨r0, r1, r2, r3⟩ := HC.out _ (hb1.trans (hb2.mono hb1.size))))
    go_ret
    exact ⟨rfl, ((Below.refl _ _).alloc (Nat.le_refl _) _).trans ((hb1.trans (hb2.mono hb1.size)).mono (by simp))⟩
  by_cases h4 : p ≤ 32
  rotate_left
  · obtain rfl : q = false := hq.symm.trans (decide_eq_false fun k => h4 k.2.2.2.1)
    clear hq
    go_wp2_with (first
      | (go_at_call 12; (with_reducible refine (HF.out _).mono ?_); rintro e w1 ⟨rfl, hb1⟩; obtain ⟨q0, q1, q2, q3⟩ := HC.out _ hb1)
      | (go_at_call 8; (with_reducible refine (HA.out _).mono ?_); rintro e w2 ⟨rfl, hb2⟩; obtain ⟨r0, r1, r2, r3⟩ := HC.out _ (hb1.trans (hb2.mono hb1.size))))
    go_ret
    exact ⟨rfl, ((Below.refl _ _).alloc (Nat.le_refl _) _).trans ((hb1.trans (hb2.mono hb1.size)).mono (by simp))⟩
  by_cases h5 : s ≤ 8
  rotate_left
  · obtain rfl : q = false := hq.symm.trans (decide_eq_false fun k => h5 k.2.2.2.2.1)
    clear hq
    go_wp2_with (first
      | (go_at_call 12; (with_reducible refine (HF.out _).mono ?_); rintro e w1 ⟨rfl, hb1⟩; obtain ⟨q0, q1, q2, q3⟩ := HC.out _ hb1)
      | (go_at_call 8; (with_reducible refine (HA.out _).mono ?_); rintro e w2 ⟨rfl, hb2⟩; obtain ⟨r0, r1, r2, r3⟩ := HC.out _ (hb1.trans (hb2.mono hb1.size))))
    go_ret
    exact ⟨rfl, ((Below.refl _ _).alloc (Nat.le_refl _) _).trans ((hb1.trans (hb2.mono hb1.size)).mono (by simp))⟩
  by_cases h6 : 3 ≤ p * (b - 3 - s)
  rotate_left
  · obtain rfl : q = false := hq.symm.trans (decide_eq_false fun k => h6 k.2.2.2.2.2)
    clear hq
    go_wp2_with (first
      | (go_at_call 12; (with_reducible refine (HF.out _).mono ?_); rintro e w1 ⟨rfl, hb1⟩; obtain ⟨q0, q1, q2, q3⟩ := HC.out _ hb1)
      | (go_at_call 8; (with_reducible refine (HA.out _).mono ?_); rintro e w2 ⟨rfl, hb2⟩; obtain ⟨r0, r1, r2, r3⟩ := HC.out _ (hb1.trans (hb2.mono hb1.size))))
    go_ret
    exact ⟨by show Ending.returned (.bool (!decide (3 ≤ p * (b - 3 - s)))) = _; rw [decide_eq_false (Int.not_le.2 h6)]; rfl, ((Below.refl _ _).alloc (Nat.le_refl _) _).trans ((hb1.trans (hb2.mono hb1.size)).mono (by simp))⟩
  · obtain rfl : q = true := hq.symm.trans (decide_eq_true ⟨h1, h2, h3, h4, h5, h6⟩)
    clear hq
    go_wp2_with (first
      | (go_at_call 12; (with_reducible refine (HF.out _).mono ?_); rintro e w1 ⟨rfl, hb1⟩; obtain ⟨q0, q1, q2, q3⟩ := HC.out _ hb1)
      | (go_at_call 8; (with_reducible refine (HA.out _).mono ?_); rintro e w2 ⟨rfl, hb2⟩; obtain ⟨r0, r1, r2, r3⟩ := HC.out _ (hb1.trans (hb2.mono hb1.size))))
    go_ret
    first
      | exact ⟨rfl, ((Below.refl _ _).alloc (Nat.le_refl _) _).trans ((hb1.trans (hb2.mono hb1.size)).mono (by simp))⟩
      | exact ⟨by show Ending.returned (.bool (decide (3 ≤ p * (b - 3 - s)))) = _; rw [decide_eq_true h6], ((Below.refl _ _).alloc (Nat.le_refl _) _).trans ((hb1.trans (hb2.mono hb1.size)).mono (by simp))⟩
end Go.Proofs.Ytopmljbemogcoaa
