/- The contracts of plan.Cap, Meta, Reserve, and of the document's Cap. -/
import Derived.Test.YtopmljbemogcoaaUsable
import Derived.Deep.RegionHeld
namespace Go.Proofs.Ytopmljbemogcoaa
open Go.RowKit
open Drawbar Drawbar.Plan

theorem drew_below (w : World) : Below w.heap.size w w.drew := (Below.refl _ _).drew

/-- What Op.box lays. -/
abbrev boxed (b p s : Int) (a : Option Addr) (n c : Nat) : Obj := .cells #[.int .i64 b, .int .i64 p, .int .i64 s, .slice a n c] 24
theorem boxed_cells (w : World) (b p s : Int) (a : Option Addr) (n c : Nat) (W : World) (hb : Below (w.alloc (boxed b p s a n c)).heap.size (w.alloc (boxed b p s a n c)) W) :
    W.cell? ⟨w.heap.size, 0, none⟩ = some (.int .i64 b) ∧ W.cell? ⟨w.heap.size, 1, none⟩ = some (.int .i64 p) ∧ W.cell? ⟨w.heap.size, 2, none⟩ = some (.int .i64 s) ∧ W.cell? ⟨w.heap.size, 3, none⟩ = some (.slice a n c) := by
  refine ⟨?_, ?_, ?_, ?_⟩ <;> · rw [hb.cell (by simp)]; simp

theorem cap_any (b p s : Int) (B : List Int) (a : Option Addr) (c : Nat) (w : World) (h : RdI w a B) (hB : B.length ≤ 1000) (hs : Small b p s) :
    Calls Try.prog 14 #[geo b p s a B.length c] w fun e w' => e = .returned (.int .i64 (cap b p s B)) ∧ Below w.heap.size w w' := by
  have hU := fun W (hb : Below (w.alloc (boxed b p s a B.length c)).heap.size (w.alloc (boxed b p s a B.length c)) W) => usable_any b p s B a c W ((h.alloc _).below hb) hB
  have hcells := boxed_cells w b p s a B.length c
  have hbd := cap_bounds B hs
  have hle := us_le B b
  have ⟨⟨sb1, sb2⟩, ⟨sp1, sp2⟩, ss1, ss2⟩ := hs
  unfold cap
  unfold NewInts at hU
  unfold geo at hU ⊢
  generalize (us B (kk b)).length = n at *
  have HU := Lib.hid hU
  have HC := Lib.hid hcells
  have hb0 := drew_below (w.alloc (boxed b p s a B.length c))
  have hq0 := hcells _ hb0
  clear hU hcells h hs
  go_enter Try.func14, Try.ntmps14
  go_wp2_with fail
  go_region_held (fun W => W.cell? ⟨w.heap.size, 0, none⟩ = some (.int .i64 b) ∧ W.cell? ⟨w.heap.size, 1, none⟩ = some (.int .i64 p) ∧ W.cell? ⟨w.heap.size, 2, none⟩ = some (.int .i64 s) ∧ W.cell? ⟨w.heap.size, 3, none⟩ = some (.slice a B.length c)) (first | exact hq0 | exact hq9) (first
    | (go_at_call 10; ((with_reducible refine (HU.out _ (by assumption)).mono ?_); rintro e w9 ⟨a2, c2, rfl, _, hb9⟩; have hb19 := hb0.trans (hb9.mono hb0.size); have hq9 := HC.out _ hb19)))
  all_goals
    go_wp2
    go_ret
    refine ⟨?_, ((Below.refl _ _).alloc (Nat.le_refl _) _).trans (hb19.mono (by simp))⟩
    have e1 : IntKind.i64.wrap ((n : Int) - s) = n - s := IntWalk.i64_in _ (by omega)
    have e2 : IntKind.i64.wrap ((n : Int) - s - 1) = n - s - 1 := IntWalk.i64_in _ (by omega)
    have e3 : IntKind.i64.wrap (p * ((n : Int) - s - 1)) = p * (n - s - 1) := IntWalk.i64_in _ (by omega)
    have e4 : IntKind.i64.wrap (p * ((n : Int) - s - 1) - 2) = p * (n - s - 1) - 2 := IntWalk.i64_in _ (by omega)
    show Ending.returned (.int .i64 (IntKind.i64.wrap (IntKind.i64.wrap (p * IntKind.i64.wrap (IntKind.i64.wrap (n - s) - 1)) - 2))) = _
    rw [e1, e2, e3, e4]

theorem meta_any (b p s : Int) (B : List Int) (a : Option Addr) (c : Nat) (w : World) (h : RdI w a B) (hB : B.length ≤ 1000) (hs : Small b p s) :
    Calls Try.prog 16 #[geo b p s a B.length c] w fun e w' => e = .returned (.int .i64 (cap b p s B)) ∧ Below w.heap.size w w' := by
  have hC := cap_any b p s B a c (w.alloc (boxed b p s a B.length c)) (h.alloc _) hB hs
  obtain ⟨q0, q1, q2, q3⟩ := boxed_cells w b p s a B.length c _ (Below.refl _ _)
  unfold geo at hC ⊢
  generalize cap b p s B = v at hC
  have HC := Lib.hid hC
  clear hC h hs
  go_enter Try.func16, Try.ntmps16
  go_wp2_with (go_at_call 14; refine HC.out.mono ?_; rintro e w9 ⟨rfl, hb9⟩)
  go_ret
  exact ⟨rfl, ((Below.refl _ _).alloc (Nat.le_refl _) _).trans (hb9.mono (by simp))⟩

theorem reserve_any (b p s f : Int) (a : Option Addr) (n c : Nat) (w : World) (hs : -1001 ≤ s ∧ s ≤ 1001) (hf : -1001 ≤ f ∧ f ≤ 1001) :
    Calls Try.prog 17 #[geo b p s a n c, .int .i64 f] w fun e w' => e = .returned (.int .i64 (1 + s - f)) ∧ Below w.heap.size w w' := by
  obtain ⟨q0, q1, q2, q3⟩ := boxed_cells w b p s a n c _ (Below.refl _ _)
  unfold geo
  go_enter Try.func17, Try.ntmps17
  go_wp2
  go_ret
  exact ⟨rfl, (Below.refl _ _).alloc (Nat.le_refl _) _⟩

theorem refcap_any (b p s : Int) (B : List Int) (a : Option Addr) (c : Nat) (w : World) (h : RdI w a B) (hB : B.length ≤ 1000) (hs : Small b p s) (hb64 : b ≤ 64) :
    Calls Try.prog 15 #[geo b p s a B.length c] w fun e w' => e = .returned (.int .i64 (cap b p s B)) ∧ Below w.heap.size w w' := by
  have hU := fun W (hb : Below (w.alloc (boxed b p s a B.length c)).heap.size (w.alloc (boxed b p s a B.length c)) W) => refusable_any b p s B a c W ((h.alloc _).below hb) hB hb64
  have hcells := boxed_cells w b p s a B.length c
  have hbd := cap_bounds B hs
  have hle := us_le B b
  have ⟨⟨sb1, sb2⟩, ⟨sp1, sp2⟩, ss1, ss2⟩ := hs
  unfold cap
  unfold NewInts at hU
  unfold geo at hU ⊢
  generalize (us B (kk b)).length = n at *
  have HU := Lib.hid hU
  have HC := Lib.hid hcells
  have hb0 := drew_below (w.alloc (boxed b p s a B.length c))
  have hq0 := hcells _ hb0
  have hm1 : -70000 ≤ p * (n : Int) ∧ p * (n : Int) ≤ 70000 := by
    have a1 := Int.mul_nonneg (show 0 ≤ 1000 - p by omega) (show 0 ≤ (n : Int) by omega)
    have a2 := Int.mul_nonneg (show 0 ≤ 1000 + p by omega) (show 0 ≤ (n : Int) by omega)
    simp only [Int.sub_mul, Int.add_mul] at a1 a2
    omega
  have hm2 : p * ((n : Int) - s - 1) = p * n - p * s - p := by simp only [Int.mul_sub]; omega
  rw [hm2] at hbd ⊢
  clear hU hcells h hs
  go_enter Try.func15, Try.ntmps15
  go_wp2_with fail
  go_region_held (fun W => W.cell? ⟨w.heap.size, 0, none⟩ = some (.int .i64 b) ∧ W.cell? ⟨w.heap.size, 1, none⟩ = some (.int .i64 p) ∧ W.cell? ⟨w.heap.size, 2, none⟩ = some (.int .i64 s) ∧ W.cell? ⟨w.heap.size, 3, none⟩ = some (.slice a B.length c)) (first | exact hq0 | exact hq9) (first
    | (go_at_call 11; ((with_reducible refine (HU.out _ (by assumption)).mono ?_); rintro e w9 ⟨a2, c2, rfl, _, hb9⟩; have hb19 := hb0.trans (hb9.mono hb0.size); have hq9 := HC.out _ hb19)))
  all_goals
    go_wp2
    go_ret
    refine ⟨?_, ((Below.refl _ _).alloc (Nat.le_refl _) _).trans (hb19.mono (by simp))⟩
    have e1 : IntKind.i64.wrap (p * (n : Int)) = p * n := IntWalk.i64_in _ (by omega)
    have e2 : IntKind.i64.wrap (p * s) = p * s := IntWalk.i64_in _ (by omega)
    have e3 : IntKind.i64.wrap (p * (n : Int) - p * s) = p * n - p * s := IntWalk.i64_in _ (by omega)
    have e4 : IntKind.i64.wrap (p * (n : Int) - p * s - p) = p * n - p * s - p := IntWalk.i64_in _ (by omega)
    have e5 : IntKind.i64.wrap (p * (n : Int) - p * s - p - 2) = p * n - p * s - p - 2 := IntWalk.i64_in _ (by omega)
    show Ending.returned (.int .i64 (IntKind.i64.wrap (IntKind.i64.wrap (IntKind.i64.wrap (IntKind.i64.wrap (p * (n : Int)) - IntKind.i64.wrap (p * s)) - p) - 2))) = _
    rw [e1, e2, e3, e4, e5]
end Go.Proofs.Ytopmljbemogcoaa
