/- The contracts of plan.Form, and of the laws' small and awake. -/
import Derived.Test.YtopmljbemogcoaaCap
namespace Go.Proofs.Ytopmljbemogcoaa
open Go.RowKit
open Drawbar Drawbar.Plan

theorem within_any (x l m : Int) (w : World) :
    Calls Try.prog 19 #[.int .i64 x, .int .i64 l, .int .i64 m] w fun e w' => e = .returned (.bool (decide (l ≤ x ∧ x ≤ m))) ∧ w = w' := by
  by_cases h1 : l ≤ x
  · by_cases h2 : x ≤ m
    · rw [decide_eq_true (show l ≤ x ∧ x ≤ m from ⟨h1, h2⟩)]
      go_enter Try.func19, Try.ntmps19
      go_wp2
      go_ret
      exact ⟨rfl, rfl⟩
    · rw [decide_eq_false (show ¬ (l ≤ x ∧ x ≤ m) from fun h => h2 h.2)]
      go_enter Try.func19, Try.ntmps19
      go_wp2
      go_ret
      exact ⟨rfl, rfl⟩
  · rw [decide_eq_false (show ¬ (l ≤ x ∧ x ≤ m) from fun h => h1 h.1)]
    go_enter Try.func19, Try.ntmps19
    go_wp2
    go_ret
    exact ⟨rfl, rfl⟩

theorem apart_any (b p s : Int) (B : List Int) (a : Option Addr) (c : Nat) (w : World) (h : RdI w a B) (hB : B.length ≤ 1000) (hs : -100 ≤ b ∧ b ≤ 100) :
    Calls Try.prog 20 #[geo b p s a B.length c] w fun e w' => e = .returned (.bool (decide (((us B (kk b)).length : Int) + B.length = b - 2))) ∧ Below w.heap.size w w' := by
  have hU := fun W (hb : Below (w.alloc (boxed b p s a B.length c)).heap.size (w.alloc (boxed b p s a B.length c)) W) => usable_any b p s B a c W ((h.alloc _).below hb) hB
  have hcells := boxed_cells w b p s a B.length c
  have hle := us_le B b
  unfold NewInts at hU
  unfold geo at hU ⊢
  generalize (us B (kk b)).length = n at *
  have HU := Lib.hid hU
  have HC := Lib.hid hcells
  have hb0 := drew_below (w.alloc (boxed b p s a B.length c))
  have hq0 := hcells _ hb0
  clear hU hcells h
  generalize hbl : B.length = bl at *
  go_enter Try.func20, Try.ntmps20
  go_wp2_with fail
  go_region_held (fun W => W.cell? ⟨w.heap.size, 0, none⟩ = some (.int .i64 b) ∧ W.cell? ⟨w.heap.size, 1, none⟩ = some (.int .i64 p) ∧ W.cell? ⟨w.heap.size, 2, none⟩ = some (.int .i64 s) ∧ W.cell? ⟨w.heap.size, 3, none⟩ = some (.slice a bl c)) (first | exact hq0 | exact hq9) (first
    | (go_at_call 10; ((with_reducible refine (HU.out _ (by assumption)).mono ?_); rintro e w9 ⟨a2, c2, rfl, _, hb9⟩; have hb19 := hb0.trans (hb9.mono hb0.size); have hq9 := HC.out _ hb19)))
  all_goals
    go_wp2
    go_ret
    refine ⟨?_, ((Below.refl _ _).alloc (Nat.le_refl _) _).trans (hb19.mono (by simp))⟩
    have e1 : IntKind.i64.wrap ((n : Int) + bl) = n + bl := IntWalk.i64_in _ (by omega)
    have e2 : IntKind.i64.wrap (b - 2) = b - 2 := IntWalk.i64_in _ (by omega)
    show Ending.returned (.bool (IntKind.i64.wrap ((n : Int) + bl) == IntKind.i64.wrap (b - 2))) = _
    rw [e1, e2]
    rfl

theorem form_eq (b p s : Int) (B : List Int) : form b p s B = ((((decide (4 ≤ b ∧ b ≤ 64) && decide (2 ≤ p ∧ p ≤ 32)) && decide (0 ≤ s ∧ s ≤ 8)) && decide (((us B (kk b)).length : Int) + B.length = b - 2)) && decide (0 < cap b p s B)) := by
  unfold form
  rw [Bool.eq_iff_iff]
  simp only [Bool.and_eq_true, decide_eq_true_eq]
  constructor
  · rintro ⟨h1, h2, h3, h4, h5, h6, h7, h8⟩; exact ⟨⟨⟨⟨⟨h1, h2⟩, h3, h4⟩, h5, h6⟩, h7⟩, h8⟩
  · rintro ⟨⟨⟨⟨⟨h1, h2⟩, h3, h4⟩, h5, h6⟩, h7⟩, h8⟩; exact ⟨h1, h2, h3, h4, h5, h6, h7, h8⟩

theorem form_any (b p s : Int) (B : List Int) (a : Option Addr) (c : Nat) (w : World) (h : RdI w a B) (hB : B.length ≤ 1000) (hs : Small b p s) :
    Calls Try.prog 12 #[geo b p s a B.length c] w fun e w' => e = .returned (.bool (form b p s B)) ∧ Below w.heap.size w w' := by
  have hA := fun W (hb : Below (w.alloc (boxed b p s a B.length c)).heap.size (w.alloc (boxed b p s a B.length c)) W) => apart_any b p s B a c W ((h.alloc _).below hb) hB hs.b
  have hK := fun W (hb : Below (w.alloc (boxed b p s a B.length c)).heap.size (w.alloc (boxed b p s a B.length c)) W) => cap_any b p s B a c W ((h.alloc _).below hb) hB hs
  have hcells := boxed_cells w b p s a B.length c
  have hw1 := fun W => within_any b 4 64 W
  have hw2 := fun W => within_any p 2 32 W
  have hw3 := fun W => within_any s 0 8 W
  rw [form_eq]
  unfold geo at hA hK ⊢
  generalize decide (4 ≤ b ∧ b ≤ 64) = d1 at *
  generalize decide (2 ≤ p ∧ p ≤ 32) = d2 at *
  generalize decide (0 ≤ s ∧ s ≤ 8) = d3 at *
  generalize decide (((us B (kk b)).length : Int) + B.length = b - 2) = d4 at *
  generalize cap b p s B = v at *
  have hfin : ∀ W, Below (w.alloc (boxed b p s a B.length c)).heap.size (w.alloc (boxed b p s a B.length c)) W → Below w.heap.size w W := fun W hb => ((Below.refl _ _).alloc (Nat.le_refl _) _).trans (hb.mono (by simp))
  have hb0 : Below (w.alloc (boxed b p s a B.length c)).heap.size (w.alloc (boxed b p s a B.length c)) (w.alloc (boxed b p s a B.length c)) := Below.refl _ _
  obtain ⟨q0, q1, q2, q3⟩ := hcells _ hb0
  have HA := Lib.hid hA
  have HK := Lib.hid hK
  have H1 := Lib.hid hw1
  have H2 := Lib.hid hw2
  have H3 := Lib.hid hw3
  have HC := Lib.hid hcells
  have HF := Lib.hid hfin
  clear hA hK hw1 hw2 hw3 hcells hfin h hs
  go_enter Try.func12, Try.ntmps12
  cases d1
  · go_wp2_with (go_at_call 19; first | ((with_reducible refine (H1.out _).mono ?_); rintro e w1 ⟨rfl, rfl⟩))
    go_ret
    exact ⟨rfl, HF.out _ hb0⟩
  cases d2
  · go_wp2_with (go_at_call 19; first | ((with_reducible refine (H1.out _).mono ?_); rintro e w1 ⟨rfl, rfl⟩) | ((with_reducible refine (H2.out _).mono ?_); rintro e w1 ⟨rfl, rfl⟩))
    go_ret
    exact ⟨rfl, HF.out _ hb0⟩
  cases d3
  · go_wp2_with (go_at_call 19; first | ((with_reducible refine (H1.out _).mono ?_); rintro e w1 ⟨rfl, rfl⟩) | ((with_reducible refine (H2.out _).mono ?_); rintro e w1 ⟨rfl, rfl⟩) | ((with_reducible refine (H3.out _).mono ?_); rintro e w1 ⟨rfl, rfl⟩))
    go_ret
    exact ⟨rfl, HF.out _ hb0⟩
  have hb9 := fun w9 hb => (HC.out w9 hb)
  have H9 := Lib.hid hb9
  clear hb9
  cases d4
  · go_wp2_with (first
      | (go_at_call 19; first | ((with_reducible refine (H1.out _).mono ?_); rintro e w1 ⟨rfl, rfl⟩) | ((with_reducible refine (H2.out _).mono ?_); rintro e w1 ⟨rfl, rfl⟩) | ((with_reducible refine (H3.out _).mono ?_); rintro e w1 ⟨rfl, rfl⟩))
      | (go_at_call 20; ((with_reducible refine (HA.out _ hb0).mono ?_); rintro e w9 ⟨rfl, hb9⟩)))
    go_ret
    exact ⟨rfl, HF.out _ hb9⟩
  · go_wp2_with (first
      | (go_at_call 19; first | ((with_reducible refine (H1.out _).mono ?_); rintro e w1 ⟨rfl, rfl⟩) | ((with_reducible refine (H2.out _).mono ?_); rintro e w1 ⟨rfl, rfl⟩) | ((with_reducible refine (H3.out _).mono ?_); rintro e w1 ⟨rfl, rfl⟩))
      | (go_at_call 20; ((with_reducible refine (HA.out _ hb0).mono ?_); rintro e w9 ⟨rfl, hb9⟩; obtain ⟨r0, r1, r2, r3⟩ := H9.out _ hb9))
      | (go_at_call 14; ((with_reducible refine (HK.out _ hb9).mono ?_); rintro e w8 ⟨rfl, hb8⟩)))
    go_ret
    exact ⟨rfl, HF.out _ (hb9.trans (hb8.mono hb9.size))⟩

theorem awake_any (w : World) : Calls Try.prog 8 #[] w fun e w' => e = .returned (.bool true) ∧ Below w.heap.size w w' := by
  have hC := cap_any 8 4 1 [] none 0 w (rdI_nil _ _) (by simp) ⟨by omega, by omega, by omega⟩
  rw [show cap 8 4 1 [] = 14 by decide] at hC
  have hC2 : Calls Try.prog 14 #[.agg #[.int .i64 8, .int .i64 4, .int .i64 1, .slice none 0 0]] w fun e w' => e = .returned (.int .i64 14) ∧ Below w.heap.size w w' := hC
  have HC := Lib.hid hC2
  clear hC hC2
  go_enter Try.func8, Try.ntmps8
  go_wp2_with (go_at_call 14; refine HC.out.mono ?_; rintro e w9 ⟨rfl, hb9⟩)
  go_ret
  exact ⟨rfl, hb9⟩
end Go.Proofs.Ytopmljbemogcoaa
