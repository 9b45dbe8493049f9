/- The walk of the law PlanForms. -/
import Derived.Test.YtopmljbemogcoaaForms
namespace Go.Proofs.Ytopmljbemogcoaa
open Go.RowKit
open Drawbar Drawbar.Plan

set_option maxHeartbeats 4000000 in
theorem forms_any (b p s : Int) (B : List Int) (a : Option Addr) (c : Nat) (w : World) (h : RdI w a B) :
    Calls Try.prog 3 #[geo b p s a B.length c] w (Yes w) := by
  have hw1 : Below w.heap.size w (w.alloc (boxed b p s a B.length c)) := (Below.refl _ _).alloc (Nat.le_refl _) _
  have hsz : (w.alloc (boxed b p s a B.length c)).heap.size = w.heap.size + 1 := by simp
  have hA := fun W => awake_any W
  have hS := fun W => small_any b p s a B.length c W
  have hcells := boxed_cells w b p s a B.length c
  have hR1 := fun W hb => ((h.alloc (boxed b p s a B.length c)).below (w' := W) hb)
  generalize hw1' : w.alloc (boxed b p s a B.length c) = w1 at *
  have hw1w : ∀ W, Below w1.heap.size w1 W → Below w.heap.size w W := fun W hb => hw1.trans (hb.mono hw1.size)
  have hb0 := Below.refl w1.heap.size w1
  obtain ⟨p0, p1, p2, p3⟩ := hcells _ hb0
  by_cases hsm : Sm b p s B.length
  · rw [decide_eq_true hsm] at hS
    obtain ⟨hs, hB, hb64⟩ := hsm.small
    have hbd := cap_bounds B hs
    have hle := us_le B b
    have hK : ∀ W, Below w1.heap.size w1 W →
        Calls Try.prog 10 #[.agg #[.int .i64 b, .int .i64 p, .int .i64 s, .slice a B.length c]] W (fun e w' => ∃ a c, e = .returned (.slice a (us B (kk b)).length c) ∧ RdI w' a (us B (kk b)) ∧ Below W.heap.size W w') ∧
        Calls Try.prog 11 #[.agg #[.int .i64 b, .int .i64 p, .int .i64 s, .slice a B.length c]] W (fun e w' => ∃ a c, e = .returned (.slice a (us B (kk b)).length c) ∧ RdI w' a (us B (kk b)) ∧ Below W.heap.size W w') ∧
        Calls Try.prog 12 #[.agg #[.int .i64 b, .int .i64 p, .int .i64 s, .slice a B.length c]] W (fun e w' => e = .returned (.bool (form b p s B)) ∧ Below W.heap.size W w') ∧
        Calls Try.prog 13 #[.agg #[.int .i64 b, .int .i64 p, .int .i64 s, .slice a B.length c]] W (fun e w' => e = .returned (.bool (form b p s B)) ∧ Below W.heap.size W w') ∧
        Calls Try.prog 14 #[.agg #[.int .i64 b, .int .i64 p, .int .i64 s, .slice a B.length c]] W (fun e w' => e = .returned (.int .i64 (cap b p s B)) ∧ Below W.heap.size W w') ∧
        Calls Try.prog 15 #[.agg #[.int .i64 b, .int .i64 p, .int .i64 s, .slice a B.length c]] W (fun e w' => e = .returned (.int .i64 (cap b p s B)) ∧ Below W.heap.size W w') ∧
        Calls Try.prog 16 #[.agg #[.int .i64 b, .int .i64 p, .int .i64 s, .slice a B.length c]] W (fun e w' => e = .returned (.int .i64 (cap b p s B)) ∧ Below W.heap.size W w') := fun W hb => by
      have hR := hR1 W hb
      exact ⟨usable_any b p s B a c W hR hB, refusable_any b p s B a c W hR hB hb64, form_any b p s B a c W hR hB hs, refform_any b p s B a c W hR hB hs hb64, cap_any b p s B a c W hR hB hs, refcap_any b p s B a c W hR hB hs hb64, meta_any b p s B a c W hR hB hs⟩
    generalize cap b p s B = v at hK
    generalize form b p s B = f at hK
    generalize us B (kk b) = U at hK hle
    unfold geo at hS ⊢
    have HK := Lib.hid hK
    have HA := Lib.hid hA
    have HS := Lib.hid hS
    have HC := Lib.hid hcells
    clear hA hS hcells hR1 h hs hsm hK hbd
    go_enter Try.func3, Try.ntmps3
    go_wp2_with (first
      | (go_at_call 8; (with_reducible refine (HA.out _).mono ?_); rintro e wa ⟨rfl, ha⟩; first | (have hb5 := hb4.trans (ha.mono hb4.size)) | (have hb5 := hb3.trans (ha.mono hb3.size)) | (have hb2 := hb0.trans (ha.mono hb0.size); obtain ⟨a0, a1, a2, a3⟩ := HC.out _ hb2))
      | (go_at_call 9; (with_reducible refine (HS.out _).mono ?_); rintro e wb ⟨rfl, hs'⟩; have hb3 := hb2.trans (hs'.mono hb2.size); obtain ⟨b0, b1, b2, b3⟩ := HC.out _ hb3)
      | (go_at_call 10; (with_reducible refine (HK.out _ (by assumption)).1.mono ?_); rintro e w4 ⟨al, cl, rfl, hRl, hd4⟩; have hb4 := hb3.trans (hd4.mono hb3.size); obtain ⟨d0, d1, d2, d3⟩ := HC.out _ hb4)
      | (go_at_call 11; (with_reducible refine (HK.out _ (by assumption)).2.1.mono ?_); rintro e w5 ⟨am, cm, rfl, hRm, hd5⟩; have hb5 := hb4.trans (hd5.mono hb4.size); obtain ⟨e0, e1, e2, e3⟩ := HC.out _ hb5))
    have HK5 := Lib.hid (fun W (hb : Below w5.heap.size w5 W) => (HK.out W (hb5.trans (hb.mono hb5.size))).2.2)
    have HC5 := Lib.hid (fun W (hb : Below w5.heap.size w5 W) => HC.out W (hb5.trans (hb.mono hb5.size)))
    have hrm := hRm
    have hrl := hRl.below hd5
    clear HK HC hRl hRm
    have HK := HK5
    have HC := HC5
    clear HK5 HC5
    have hb6 := drew_below w5
    have hq0 := HC.out _ hb6
    have HW5 := Lib.hid (fun W (hb : Below w5.heap.size w5 W) => hw1w W (hb5.trans (hb.mono hb5.size)))
    go_region_held (fun W => W.cell? ⟨w.heap.size, 0, none⟩ = some (.int .i64 b) ∧ W.cell? ⟨w.heap.size, 1, none⟩ = some (.int .i64 p) ∧ W.cell? ⟨w.heap.size, 2, none⟩ = some (.int .i64 s) ∧ W.cell? ⟨w.heap.size, 3, none⟩ = some (.slice a B.length c)) (first | exact hq0 | exact hq8) (first
      | (go_at_call 12; (with_reducible refine ((HK.out _ (by assumption)).1).mono ?_); rintro e w7 ⟨rfl, hq'⟩; have hb8 := (show Below w5.heap.size w5 _ by assumption).trans (hq'.mono (show Below w5.heap.size w5 _ by assumption).size); have hq8 := HC.out _ hb8)
      | (go_at_call 13; (with_reducible refine ((HK.out _ (by assumption)).2.1).mono ?_); rintro e w7 ⟨rfl, hq'⟩; have hb8 := (show Below w5.heap.size w5 _ by assumption).trans (hq'.mono (show Below w5.heap.size w5 _ by assumption).size); have hq8 := HC.out _ hb8)
      | (go_at_call 14; (with_reducible refine ((HK.out _ (by assumption)).2.2.1).mono ?_); rintro e w7 ⟨rfl, hq'⟩; have hb8 := (show Below w5.heap.size w5 _ by assumption).trans (hq'.mono (show Below w5.heap.size w5 _ by assumption).size); have hq8 := HC.out _ hb8)
      | (go_at_call 15; (with_reducible refine ((HK.out _ (by assumption)).2.2.2.1).mono ?_); rintro e w7 ⟨rfl, hq'⟩; have hb8 := (show Below w5.heap.size w5 _ by assumption).trans (hq'.mono (show Below w5.heap.size w5 _ by assumption).size); have hq8 := HC.out _ hb8)
      | (go_at_call 16; (with_reducible refine ((HK.out _ (by assumption)).2.2.2.2).mono ?_); rintro e w7 ⟨rfl, hq'⟩; have hb8 := (show Below w5.heap.size w5 _ by assumption).trans (hq'.mono (show Below w5.heap.size w5 _ by assumption).size); have hq8 := HC.out _ hb8))
    all_goals
      have hb9 : Below w5.heap.size w5 _ := hb8
      clear HK
      go_wp2
      go_loopw [5] (fun i wr => ∃ k : Nat, k ≤ U.length ∧ i = .int .i64 k ∧ Below w5.heap.size w5 wr) (fun i _ => U.length - (intOf i).toNat)
      case atStart => exact ⟨0, Nat.zero_le _, rfl, hb9⟩
      case round =>
        obtain ⟨k, hk, rfl, hbr⟩ := hrel
        by_cases hlt : k < U.length
        · have i3 : (k : Int) < (U.length : Int) := by omega
          obtain ⟨b1, o1, rfl, hc1⟩ := (hrl.below hbr) (by omega)
          obtain ⟨b2, o2, rfl, hc2⟩ := (hrm.below hbr) (by omega)
          have f1 := hc1 k hlt
          have f2 := hc2 k hlt
          generalize U.getD k 0 = x at f1 f2
          clear hc1 hc2 hrl hrm
          go_wp2_with fail
          go_quiet (fail)
          go_wp2
          go_roundw
          case rel => exact ⟨k + 1, by omega, by go_num, below_drewN hbr _⟩
          case measure => simp [intOf]; omega
        · have i3 : ¬ (k : Int) < (U.length : Int) := by omega
          clear hrl hrm
          go_wp2
          go_ret
          exact ⟨rfl, HW5.out _ hbr⟩
  · rw [decide_eq_false hsm] at hS
    unfold geo at hS ⊢
    have HA := Lib.hid hA
    have HS := Lib.hid hS
    have HC := Lib.hid hcells
    clear hA hS hcells hR1 h hsm
    go_enter Try.func3, Try.ntmps3
    go_wp2_with (first
      | (go_at_call 8; (with_reducible refine (HA.out _).mono ?_); rintro e wa ⟨rfl, ha⟩; first | (have hb5 := hb4.trans (ha.mono hb4.size)) | (have hb5 := hb3.trans (ha.mono hb3.size)) | (have hb2 := hb0.trans (ha.mono hb0.size); obtain ⟨a0, a1, a2, a3⟩ := HC.out _ hb2))
      | (go_at_call 9; (with_reducible refine (HS.out _).mono ?_); rintro e wb ⟨rfl, hs'⟩; have hb3 := hb2.trans (hs'.mono hb2.size); obtain ⟨b0, b1, b2, b3⟩ := HC.out _ hb3))
    go_ret
    exact ⟨rfl, hw1w _ hb5⟩
end Go.Proofs.Ytopmljbemogcoaa
