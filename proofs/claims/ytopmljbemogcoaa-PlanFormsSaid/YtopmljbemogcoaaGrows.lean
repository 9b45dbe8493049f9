/- The walk of the law PlanGrows. -/
import Derived.Test.YtopmljbemogcoaaSmall
namespace Go.Proofs.Ytopmljbemogcoaa
open Go.RowKit
open Drawbar Drawbar.Plan

theorem form_true {b p s : Int} {B : List Int} (h : form b p s B = true) : (4 ≤ b ∧ b ≤ 64) ∧ (2 ≤ p ∧ p ≤ 32) ∧ (0 ≤ s ∧ s ≤ 8) ∧ Ok B (kk b) ∧ ((us B (kk b)).length : Int) + B.length = b - 2 ∧ 0 < cap b p s B ∧ ((kk b : Nat) : Int) = b - 2 := by
  unfold form at h
  obtain ⟨h1, h2, h3, h4, h5, h6, h7, h8⟩ := of_decide_eq_true h
  have hk : ((kk b : Nat) : Int) = b - 2 := by unfold kk; omega
  exact ⟨⟨h1, h2⟩, ⟨h3, h4⟩, ⟨h5, h6⟩, (us_ok B (kk b)).2.1 (by omega), h7, h8, hk⟩

theorem grown {b p s : Int} {B : List Int} (h : form b p s B = true) (hb : b ≠ 64) : cap (b + 1) p s B = cap b p s B + p ∧ cap b p (s + 1) B = cap b p s B - p ∧ form (b + 1) p s B = true := by
  obtain ⟨h1, h2, h3, h4, h5, h6, h7⟩ := form_true h
  have hk : kk (b + 1) = kk b + 1 := by unfold kk; omega
  have hl : (us B (kk (b + 1))).length = (us B (kk b)).length + 1 := by rw [hk, us_more h4]; simp
  have hc : cap (b + 1) p s B = cap b p s B + p := by
    unfold cap
    rw [hl, show (((us B (kk b)).length + 1 : Nat) : Int) - s - 1 = ((us B (kk b)).length - s - 1) + 1 by omega, Int.mul_add]
    omega
  refine ⟨hc, ?_, ?_⟩
  · unfold cap
    rw [show ((us B (kk b)).length : Int) - (s + 1) - 1 = ((us B (kk b)).length - s - 1) - 1 by omega, Int.mul_sub]
    omega
  · unfold form
    rw [hc, hl]
    exact decide_eq_true ⟨by omega, by omega, h2.1, h2.2, h3.1, h3.2, by omega, by omega⟩

set_option maxHeartbeats 4000000 in
theorem grows_any (b p s : Int) (B : List Int) (a : Option Addr) (c : Nat) (w : World) (h : RdI w a B) :
    Calls Try.prog 5 #[geo b p s a B.length c] w (Yes w) := by
  have hw1 : Below w.heap.size w (w.alloc (boxed b p s a B.length c)) := (Below.refl _ _).alloc (Nat.le_refl _) _
  have hsz : (w.alloc (boxed b p s a B.length c)).heap.size = w.heap.size + 1 := by simp
  have hA := fun W => awake_any W
  have hS := fun W => small_any b p s a B.length c W
  have hcells := boxed_cells w b p s a B.length c
  have hR1 := fun W hb => ((h.alloc (boxed b p s a B.length c)).below (w' := W) hb)
  generalize hw1' : w.alloc (boxed b p s a B.length c) = w1 at *
  have hw1w : ∀ W, Below w1.heap.size w1 W → Below w.heap.size w W := fun W hb => hw1.trans (hb.mono hw1.size)
  have hb0 := Below.refl w1.heap.size w1
  obtain ⟨p0, p1, p2, p3⟩ := hcells _ hb0
  by_cases hsm : Sm b p s B.length
  · rw [decide_eq_true hsm] at hS
    obtain ⟨hs, hB, hb64⟩ := hsm.small
    have hF := fun W (hb : Below w1.heap.size w1 W) => form_any b p s B a c W (hR1 W hb) hB hs
    unfold geo at hS hF ⊢
    cases hf : form b p s B with
    | false =>
      rw [hf] at hF
      have HA := Lib.hid hA
      have HS := Lib.hid hS
      have HF := Lib.hid hF
      have HC := Lib.hid hcells
      clear hA hS hF hcells hR1 h hs hsm hf
      go_enter Try.func5, Try.ntmps5
      go_wp2_with (first
        | (go_at_call 8; (with_reducible refine (HA.out _).mono ?_); rintro e wa ⟨rfl, ha⟩; first | (have hb5 := hb4.trans (ha.mono hb4.size)) | (have hb5 := hb3.trans (ha.mono hb3.size)) | (have hb2 := hb0.trans (ha.mono hb0.size); obtain ⟨a0, a1, a2, a3⟩ := HC.out _ hb2))
        | (go_at_call 9; (with_reducible refine (HS.out _).mono ?_); rintro e wb ⟨rfl, hs'⟩; have hb3 := hb2.trans (hs'.mono hb2.size); obtain ⟨b0, b1, b2, b3⟩ := HC.out _ hb3)
        | (go_at_call 12; (with_reducible refine (HF.out _ hb3).mono ?_); rintro e wc ⟨rfl, hf'⟩; have hb4 := hb3.trans (hf'.mono hb3.size); obtain ⟨c0, c1, c2, c3⟩ := HC.out _ hb4; have hlt : w.heap.size < wc.heap.size := World.block_lt_of_cell? _ _ c0))
      go_ret
      exact ⟨rfl, hw1w _ hb5⟩
    | true =>
      rw [hf] at hF
      by_cases h64 : b = 64
      · have HA := Lib.hid hA
        have HS := Lib.hid hS
        have HF := Lib.hid hF
        have HC := Lib.hid hcells
        have h64b : (b == 64) = true := by simp [h64]
        clear hA hS hF hcells hR1 h hs hsm hf h64
        go_enter Try.func5, Try.ntmps5
        go_wp2_with (first
          | (go_at_call 8; (with_reducible refine (HA.out _).mono ?_); rintro e wa ⟨rfl, ha⟩; first | (have hb5 := hb4.trans (ha.mono hb4.size)) | (have hb5 := hb3.trans (ha.mono hb3.size)) | (have hb2 := hb0.trans (ha.mono hb0.size); obtain ⟨a0, a1, a2, a3⟩ := HC.out _ hb2))
          | (go_at_call 9; (with_reducible refine (HS.out _).mono ?_); rintro e wb ⟨rfl, hs'⟩; have hb3 := hb2.trans (hs'.mono hb2.size); obtain ⟨b0, b1, b2, b3⟩ := HC.out _ hb3)
          | (go_at_call 12; (with_reducible refine (HF.out _ hb3).mono ?_); rintro e wc ⟨rfl, hf'⟩; have hb4 := hb3.trans (hf'.mono hb3.size); obtain ⟨c0, c1, c2, c3⟩ := HC.out _ hb4; have hlt : w.heap.size < wc.heap.size := World.block_lt_of_cell? _ _ c0))
        go_ret
        exact ⟨rfl, hw1w _ hb5⟩
      · obtain ⟨g1, g2, g3⟩ := grown hf h64
        obtain ⟨⟨f1, f2⟩, ⟨f3, f4⟩, ⟨f5, f6⟩, _, _, f8, _⟩ := form_true hf
        have hv := cap_bounds B hs
        have hv1 : cap b p s B ≤ 2000000 := by unfold cap; omega
        have hK : ∀ W, Below w1.heap.size w1 W → Calls Try.prog 14 #[.agg #[.int .i64 b, .int .i64 p, .int .i64 s, .slice a B.length c]] W (fun e w' => e = .returned (.int .i64 (cap b p s B)) ∧ Below W.heap.size W w') ∧
            Calls Try.prog 14 #[.agg #[.int .i64 (b + 1), .int .i64 p, .int .i64 s, .slice a B.length c]] W (fun e w' => e = .returned (.int .i64 (cap b p s B + p)) ∧ Below W.heap.size W w') ∧
            Calls Try.prog 14 #[.agg #[.int .i64 b, .int .i64 p, .int .i64 (s + 1), .slice a B.length c]] W (fun e w' => e = .returned (.int .i64 (cap b p s B - p)) ∧ Below W.heap.size W w') ∧
            Calls Try.prog 12 #[.agg #[.int .i64 (b + 1), .int .i64 p, .int .i64 s, .slice a B.length c]] W (fun e w' => e = .returned (.bool true) ∧ Below W.heap.size W w') := fun W hb => by
          have hR := hR1 W hb
          have k1 := cap_any b p s B a c W hR hB ⟨by omega, by omega, by omega⟩
          have k2 := cap_any (b + 1) p s B a c W hR hB ⟨by omega, by omega, by omega⟩
          have k3 := cap_any b p (s + 1) B a c W hR hB ⟨by omega, by omega, by omega⟩
          have k4 := form_any (b + 1) p s B a c W hR hB ⟨by omega, by omega, by omega⟩
          rw [g1] at k2
          rw [g2] at k3
          rw [g3] at k4
          exact ⟨k1, k2, k3, k4⟩
        generalize cap b p s B = v at hK hv1 f8
        have HK := Lib.hid hK
        have e1 : IntKind.i64.wrap (v + p) = v + p := IntWalk.i64_in _ (by omega)
        have e2 : IntKind.i64.wrap (v - p) = v - p := IntWalk.i64_in _ (by omega)
        clear hK g1 g2 g3 hv
        have HA := Lib.hid hA
        have HS := Lib.hid hS
        have HF := Lib.hid hF
        have HC := Lib.hid hcells
        have h64b : (b == 64) = false := by simp [h64]
        clear hA hS hF hcells hR1 h hs hsm hf h64
        go_enter Try.func5, Try.ntmps5
        go_wp2_with (first
          | (go_at_call 8; (with_reducible refine (HA.out _).mono ?_); rintro e wa ⟨rfl, ha⟩; first | (have hb5 := hb4.trans (ha.mono hb4.size)) | (have hb5 := hb3.trans (ha.mono hb3.size)) | (have hb2 := hb0.trans (ha.mono hb0.size); obtain ⟨a0, a1, a2, a3⟩ := HC.out _ hb2))
          | (go_at_call 9; (with_reducible refine (HS.out _).mono ?_); rintro e wb ⟨rfl, hs'⟩; have hb3 := hb2.trans (hs'.mono hb2.size); obtain ⟨b0, b1, b2, b3⟩ := HC.out _ hb3)
          | (go_at_call 12; (with_reducible refine (HF.out _ hb3).mono ?_); rintro e wc ⟨rfl, hf'⟩; have hb4 := hb3.trans (hf'.mono hb3.size); obtain ⟨c0, c1, c2, c3⟩ := HC.out _ hb4; have hlt : w.heap.size < wc.heap.size := World.block_lt_of_cell? _ _ c0))
        generalize hw6 : (wc.alloc (boxed (b + 1) p s a B.length c)).alloc (boxed b p (s + 1) a B.length c) = w6
        have h6 : ∀ W, Below w6.heap.size w6 W → Below wc.heap.size wc W := fun W hb => by
          subst hw6
          exact (((Below.refl _ _).alloc (Nat.le_refl _) _).alloc (by simp) _).trans (hb.mono (by simp; omega))
        have hcc : ∀ W, Below w6.heap.size w6 W → (W.cell? ⟨wc.heap.size, 0, none⟩ = some (.int .i64 (b + 1)) ∧ W.cell? ⟨wc.heap.size, 1, none⟩ = some (.int .i64 p) ∧ W.cell? ⟨wc.heap.size, 2, none⟩ = some (.int .i64 s) ∧ W.cell? ⟨wc.heap.size, 3, none⟩ = some (.slice a B.length c)) ∧
            (W.cell? ⟨wc.heap.size + 1, 0, none⟩ = some (.int .i64 b) ∧ W.cell? ⟨wc.heap.size + 1, 1, none⟩ = some (.int .i64 p) ∧ W.cell? ⟨wc.heap.size + 1, 2, none⟩ = some (.int .i64 (s + 1)) ∧ W.cell? ⟨wc.heap.size + 1, 3, none⟩ = some (.slice a B.length c)) := fun W hb => by
          subst hw6
          have t1 := boxed_cells wc (b + 1) p s a B.length c W ((((Below.refl _ _).alloc (Nat.le_refl _) _)).trans (hb.mono (by simp)))
          have t2 := boxed_cells (wc.alloc (boxed (b + 1) p s a B.length c)) b p (s + 1) a B.length c W hb
          rw [show (wc.alloc (boxed (b + 1) p s a B.length c)).heap.size = wc.heap.size + 1 by simp] at t2
          exact ⟨t1, t2⟩
        have H6 := Lib.hid h6
        have HCC := Lib.hid hcc
        have HB4 := Lib.hid hb4
        have hb6 := drew_below w6
        have hq0 := HCC.out _ hb6
        have hp0 := HC.out _ (HB4.out.trans ((H6.out _ hb6).mono HB4.out.size))
        clear h6 hcc hb4 hw6
        go_region_held (fun W => ((W.cell? ⟨wc.heap.size, 0, none⟩ = some (.int .i64 (b + 1)) ∧ W.cell? ⟨wc.heap.size, 1, none⟩ = some (.int .i64 p) ∧ W.cell? ⟨wc.heap.size, 2, none⟩ = some (.int .i64 s) ∧ W.cell? ⟨wc.heap.size, 3, none⟩ = some (.slice a B.length c)) ∧
            (W.cell? ⟨wc.heap.size + 1, 0, none⟩ = some (.int .i64 b) ∧ W.cell? ⟨wc.heap.size + 1, 1, none⟩ = some (.int .i64 p) ∧ W.cell? ⟨wc.heap.size + 1, 2, none⟩ = some (.int .i64 (s + 1)) ∧ W.cell? ⟨wc.heap.size + 1, 3, none⟩ = some (.slice a B.length c))) ∧
            (W.cell? ⟨w.heap.size, 0, none⟩ = some (.int .i64 b) ∧ W.cell? ⟨w.heap.size, 1, none⟩ = some (.int .i64 p) ∧ W.cell? ⟨w.heap.size, 2, none⟩ = some (.int .i64 s) ∧ W.cell? ⟨w.heap.size, 3, none⟩ = some (.slice a B.length c)))
          (first | exact ⟨hq0, hp0⟩ | exact hq9) (first
          | (go_at_call 14; ((first | with_reducible refine ((HK.out _ (HB4.out.trans ((H6.out _ (by assumption)).mono HB4.out.size))).1).mono ?_ | with_reducible refine ((HK.out _ (HB4.out.trans ((H6.out _ (by assumption)).mono HB4.out.size))).2.1).mono ?_ | with_reducible refine ((HK.out _ (HB4.out.trans ((H6.out _ (by assumption)).mono HB4.out.size))).2.2.1).mono ?_); rintro e w9 ⟨rfl, hb9'⟩; first | have hb9 := (show Below w6.heap.size w6 _ by assumption).trans (hb9'.mono (show Below w6.heap.size w6 _ by assumption).size); have hq9 := And.intro (HCC.out _ hb9) (HC.out _ (HB4.out.trans ((H6.out _ hb9).mono HB4.out.size)))))
          | (go_at_call 12; (with_reducible refine ((HK.out _ (HB4.out.trans ((H6.out _ (by assumption)).mono HB4.out.size))).2.2.2).mono ?_; rintro e w9 ⟨rfl, hb9'⟩; have hb9 := (show Below w6.heap.size w6 _ by assumption).trans (hb9'.mono (show Below w6.heap.size w6 _ by assumption).size); have hq9 := And.intro (HCC.out _ hb9) (HC.out _ (HB4.out.trans ((H6.out _ hb9).mono HB4.out.size))))))
        all_goals
          go_wp2
          go_ret
          exact ⟨rfl, hw1w _ (HB4.out.trans ((H6.out _ (by assumption)).mono HB4.out.size))⟩
  · rw [decide_eq_false hsm] at hS
    unfold geo at hS ⊢
    have HA := Lib.hid hA
    have HS := Lib.hid hS
    have HC := Lib.hid hcells
    clear hA hS hcells hR1 h hsm
    go_enter Try.func5, Try.ntmps5
    go_wp2_with (first
      | (go_at_call 8; (with_reducible refine (HA.out _).mono ?_); rintro e wa ⟨rfl, ha⟩; first | (have hb5 := hb4.trans (ha.mono hb4.size)) | (have hb5 := hb3.trans (ha.mono hb3.size)) | (have hb2 := hb0.trans (ha.mono hb0.size); obtain ⟨a0, a1, a2, a3⟩ := HC.out _ hb2))
      | (go_at_call 9; (with_reducible refine (HS.out _).mono ?_); rintro e wb ⟨rfl, hs'⟩; have hb3 := hb2.trans (hs'.mono hb2.size); obtain ⟨b0, b1, b2, b3⟩ := HC.out _ hb3))
    go_ret
    exact ⟨rfl, hw1w _ hb5⟩
end Go.Proofs.Ytopmljbemogcoaa
