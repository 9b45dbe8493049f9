/- The walk of the law PlanRooms. -/
import Derived.Test.YtopmljbemogcoaaGrows
namespace Go.Proofs.Ytopmljbemogcoaa
open Go.RowKit
open Drawbar Drawbar.Plan

set_option maxHeartbeats 4000000 in
theorem rooms_any (b p s : Int) (B : List Int) (a : Option Addr) (c y : Nat) (w : World) (h : RdI w a B) (hy : y < 256) :
    Calls Try.prog 4 #[geo b p s a B.length c, .int .u8 y] w (Yes w) := by
  have hw1 : Below w.heap.size w (w.alloc (boxed b p s a B.length c)) := (Below.refl _ _).alloc (Nat.le_refl _) _
  have hsz : (w.alloc (boxed b p s a B.length c)).heap.size = w.heap.size + 1 := by simp
  have hA := fun W => awake_any W
  have hS := fun W => small_any b p s a B.length c W
  have hcells := boxed_cells w b p s a B.length c
  have hR1 := fun W hb => ((h.alloc (boxed b p s a B.length c)).below (w' := W) hb)
  generalize hw1' : w.alloc (boxed b p s a B.length c) = w1 at *
  have hw1w : ∀ W, Below w1.heap.size w1 W → Below w.heap.size w W := fun W hb => hw1.trans (hb.mono hw1.size)
  have hb0 := Below.refl w1.heap.size w1
  obtain ⟨p0, p1, p2, p3⟩ := hcells _ hb0
  by_cases hsm : Sm b p s B.length
  · rw [decide_eq_true hsm] at hS
    obtain ⟨hs, hB, hb64⟩ := hsm.small
    have hF := fun W (hb : Below w1.heap.size w1 W) => form_any b p s B a c W (hR1 W hb) hB hs
    unfold geo at hS hF ⊢
    cases hf : form b p s B with
    | false =>
      rw [hf] at hF
      have HA := Lib.hid hA
      have HS := Lib.hid hS
      have HF := Lib.hid hF
      have HC := Lib.hid hcells
      clear hA hS hF hcells hR1 h hs hsm hf
      go_enter Try.func4, Try.ntmps4
      go_wp2_with (first
        | (go_at_call 8; (with_reducible refine (HA.out _).mono ?_); rintro e wa ⟨rfl, ha⟩; first | (have hb5 := hb4.trans (ha.mono hb4.size)) | (have hb5 := hb3.trans (ha.mono hb3.size)) | (have hb2 := hb0.trans (ha.mono hb0.size); obtain ⟨a0, a1, a2, a3⟩ := HC.out _ hb2))
        | (go_at_call 9; (with_reducible refine (HS.out _).mono ?_); rintro e wb ⟨rfl, hs'⟩; have hb3 := hb2.trans (hs'.mono hb2.size); obtain ⟨b0, b1, b2, b3⟩ := HC.out _ hb3)
        | (go_at_call 12; (with_reducible refine (HF.out _ hb3).mono ?_); rintro e wc ⟨rfl, hf'⟩; have hb4 := hb3.trans (hf'.mono hb3.size); obtain ⟨c0, c1, c2, c3⟩ := HC.out _ hb4; have hlt : w.heap.size < wc.heap.size := World.block_lt_of_cell? _ _ c0))
      go_ret
      exact ⟨rfl, hw1w _ hb5⟩
    | true =>
      rw [hf] at hF
      obtain ⟨⟨f1, f2⟩, ⟨f3, f4⟩, ⟨f5, f6⟩, _, _, f8, _⟩ := form_true hf
      obtain ⟨n, hn, hn0⟩ : ∃ n : Int, (y : Int) % (s + 1) = n ∧ 0 ≤ n ∧ n ≤ s := ⟨_, rfl, Int.emod_nonneg _ (by omega), by have := Int.emod_lt_of_pos (y : Int) (show 0 < s + 1 by omega); omega⟩
      have hle := us_le B b
      have hK : ∀ W, Below w1.heap.size w1 W → Calls Try.prog 14 #[.agg #[.int .i64 b, .int .i64 p, .int .i64 s, .slice a B.length c]] W (fun e w' => e = .returned (.int .i64 (cap b p s B)) ∧ Below W.heap.size W w') ∧
          Calls Try.prog 17 #[.agg #[.int .i64 b, .int .i64 p, .int .i64 s, .slice a B.length c], .int .i64 n] W (fun e w' => e = .returned (.int .i64 (1 + s - n)) ∧ Below W.heap.size W w') ∧
          Calls Try.prog 10 #[.agg #[.int .i64 b, .int .i64 p, .int .i64 s, .slice a B.length c]] W (fun e w' => (∃ a c, e = .returned (.slice a (us B (kk b)).length c)) ∧ Below W.heap.size W w') := fun W hb => by
        have hR := hR1 W hb
        exact ⟨cap_any b p s B a c W hR hB ⟨by omega, by omega, by omega⟩, reserve_any b p s n a B.length c W (by omega) (by omega), (usable_any b p s B a c W hR hB).mono fun e w' ⟨a2, c2, h1, _, h3⟩ => ⟨⟨a2, c2, h1⟩, h3⟩⟩
      unfold cap at hK f8
      generalize (us B (kk b)).length = U at hK hle f8
      have hu1 : 1 ≤ (U : Int) - s - 1 := by
        rcases Int.lt_or_le 0 ((U : Int) - s - 1) with h | h
        · omega
        · have := Int.mul_nonneg (show 0 ≤ p by omega) (show 0 ≤ -((U : Int) - s - 1) by omega)
          rw [Int.mul_neg] at this
          omega
      have hu2 : 0 ≤ (32 - p) * ((U : Int) - s - 1) := Int.mul_nonneg (by omega) (by omega)
      rw [Int.sub_mul] at hu2
      have hu : (U : Int) - n - (1 + s - n) = (U : Int) - s - 1 := by omega
      have hu3 := Int.mul_comm p ((U : Int) - s - 1)
      rw [hu3] at hK
      rw [hu3] at hu2 f8
      obtain ⟨q, hq⟩ : ∃ q, (U : Int) - s - 1 = q := ⟨_, rfl⟩
      rw [hq] at hK hu2 f8 hu1
      clear hu hu3
      have HK := Lib.hid hK
      have HA := Lib.hid hA
      have HS := Lib.hid hS
      have HF := Lib.hid hF
      have HC := Lib.hid hcells
      have hs1 : (s + 1 == 0) = false := by simp; omega
      clear hA hS hF hcells hR1 h hs hsm hf hK
      go_enter Try.func4, Try.ntmps4
      go_wp2_with (first
        | (go_at_call 8; (with_reducible refine (HA.out _).mono ?_); rintro e wa ⟨rfl, ha⟩; first | (have hb5 := hb4.trans (ha.mono hb4.size)) | (have hb5 := hb3.trans (ha.mono hb3.size)) | (have hb2 := hb0.trans (ha.mono hb0.size); obtain ⟨a0, a1, a2, a3⟩ := HC.out _ hb2))
        | (go_at_call 9; (with_reducible refine (HS.out _).mono ?_); rintro e wb ⟨rfl, hs'⟩; have hb3 := hb2.trans (hs'.mono hb2.size); obtain ⟨b0, b1, b2, b3⟩ := HC.out _ hb3)
        | (go_at_call 12; (with_reducible refine (HF.out _ hb3).mono ?_); rintro e wc ⟨rfl, hf'⟩; have hb4 := hb3.trans (hf'.mono hb3.size); obtain ⟨c0, c1, c2, c3⟩ := HC.out _ hb4; have hlt : w.heap.size < wc.heap.size := World.block_lt_of_cell? _ _ c0))
      rw [hn]
      have hb6 := hb4.drew
      have hq0 := HC.out _ hb6
      go_region_held (fun W => W.cell? ⟨w.heap.size, 0, none⟩ = some (.int .i64 b) ∧ W.cell? ⟨w.heap.size, 1, none⟩ = some (.int .i64 p) ∧ W.cell? ⟨w.heap.size, 2, none⟩ = some (.int .i64 s) ∧ W.cell? ⟨w.heap.size, 3, none⟩ = some (.slice a B.length c)) (first | exact hq0 | exact hq9) (first
        | (go_at_call 10; (with_reducible refine ((HK.out _ (by assumption)).2.2).mono ?_); rintro e w9 ⟨⟨a9, c9, rfl⟩, hb9'⟩; have hb9 := (show Below w1.heap.size w1 _ by assumption).trans (hb9'.mono (show Below w1.heap.size w1 _ by assumption).size); have hq9 := HC.out _ hb9)
        | (go_at_call 17; (with_reducible refine ((HK.out _ (by assumption)).2.1).mono ?_); rintro e w9 ⟨rfl, hb9'⟩; have hb9 := (show Below w1.heap.size w1 _ by assumption).trans (hb9'.mono (show Below w1.heap.size w1 _ by assumption).size); have hq9 := HC.out _ hb9)
        | (go_at_call 14; (with_reducible refine ((HK.out _ (by assumption)).1).mono ?_); rintro e w9 ⟨rfl, hb9'⟩; have hb9 := (show Below w1.heap.size w1 _ by assumption).trans (hb9'.mono (show Below w1.heap.size w1 _ by assumption).size); have hq9 := HC.out _ hb9))
      all_goals
        have hw9 : IntKind.i64.wrap (IntKind.i64.wrap (↑U - n) - (1 + s - n)) = q := by
          rw [IntWalk.i64_in ((U : Int) - n) (by omega), IntWalk.i64_in _ (by omega)]; omega
        rw [hw9]
        have hb7 := (show Below w1.heap.size w1 _ from hb9).drew
        have hq0 := HC.out _ hb7
        have x1 : IntKind.i64.wrap (1 + s) = 1 + s := IntWalk.i64_in _ (by omega)
        have x2 : IntKind.i64.wrap (1 + s - n) = 1 + s - n := IntWalk.i64_in _ (by omega)
        have x3 : IntKind.i64.wrap (q * p) = q * p := IntWalk.i64_in _ (by omega)
        have x4 : IntKind.i64.wrap (q * p - 2 + 1) = q * p - 2 + 1 := IntWalk.i64_in _ (by omega)
        have x5 : q * p - 2 + 1 < q * p := by omega
        have x6 : 1 ≤ 1 + s - n := by omega
        clear hw9
        go_wp2
        go_region_held (fun W => W.cell? ⟨w.heap.size, 0, none⟩ = some (.int .i64 b) ∧ W.cell? ⟨w.heap.size, 1, none⟩ = some (.int .i64 p) ∧ W.cell? ⟨w.heap.size, 2, none⟩ = some (.int .i64 s) ∧ W.cell? ⟨w.heap.size, 3, none⟩ = some (.slice a B.length c)) (first | exact hq0 | exact hq8) (first
          | (go_at_call 10; (with_reducible refine ((HK.out _ (by assumption)).2.2).mono ?_); rintro e w9 ⟨⟨a9, c9, rfl⟩, hb8'⟩; have hb8 := (show Below w1.heap.size w1 _ by assumption).trans (hb8'.mono (show Below w1.heap.size w1 _ by assumption).size); have hq8 := HC.out _ hb8)
          | (go_at_call 17; (with_reducible refine ((HK.out _ (by assumption)).2.1).mono ?_); rintro e w9 ⟨rfl, hb8'⟩; have hb8 := (show Below w1.heap.size w1 _ by assumption).trans (hb8'.mono (show Below w1.heap.size w1 _ by assumption).size); have hq8 := HC.out _ hb8)
          | (go_at_call 14; (with_reducible refine ((HK.out _ (by assumption)).1).mono ?_); rintro e w9 ⟨rfl, hb8'⟩; have hb8 := (show Below w1.heap.size w1 _ by assumption).trans (hb8'.mono (show Below w1.heap.size w1 _ by assumption).size); have hq8 := HC.out _ hb8))
        all_goals
          go_wp2
          go_ret
          exact ⟨rfl, hw1w _ (by assumption)⟩
  · rw [decide_eq_false hsm] at hS
    unfold geo at hS ⊢
    have HA := Lib.hid hA
    have HS := Lib.hid hS
    have HC := Lib.hid hcells
    clear hA hS hcells hR1 h hsm
    go_enter Try.func4, Try.ntmps4
    go_wp2_with (first
      | (go_at_call 8; (with_reducible refine (HA.out _).mono ?_); rintro e wa ⟨rfl, ha⟩; first | (have hb5 := hb4.trans (ha.mono hb4.size)) | (have hb5 := hb3.trans (ha.mono hb3.size)) | (have hb2 := hb0.trans (ha.mono hb0.size); obtain ⟨a0, a1, a2, a3⟩ := HC.out _ hb2))
      | (go_at_call 9; (with_reducible refine (HS.out _).mono ?_); rintro e wb ⟨rfl, hs'⟩; have hb3 := hb2.trans (hs'.mono hb2.size); obtain ⟨b0, b1, b2, b3⟩ := HC.out _ hb3))
    go_ret
    exact ⟨rfl, hw1w _ hb5⟩
end Go.Proofs.Ytopmljbemogcoaa
