/- Contracts of within, reached, next, block and reach (package nand). -/
import Derived.Test.YtjibiehchfhjnaaMem
namespace Go.Proofs.Ytjibiehchfhjnaa
open Go.RowKit
open Drawbar Drawbar.Nand

theorem within_yes (n a b : Int) (w : World) (h : a ≤ n) (h2 : n ≤ b) :
    Calls Try.prog 30 #[.int .i64 n, .int .i64 a, .int .i64 b] w fun e w' => e = .returned (.bool true) ∧ w = w' := by
  go_enter Try.func30, Try.ntmps30
  go_wp2
  go_ret
  exact ⟨rfl, rfl⟩
theorem within_no (n a b : Int) (w : World) (h : n < a ∨ b < n) :
    Calls Try.prog 30 #[.int .i64 n, .int .i64 a, .int .i64 b] w fun e w' => e = .returned (.bool false) ∧ w = w' := by
  by_cases h1 : a ≤ n
  · have h2 : b < n := by omega
    have h3 : false = decide (n ≤ b) := (decide_eq_false (by omega)).symm
    rw [h3]
    clear h3
    go_enter Try.func30, Try.ntmps30
    go_wp2
    go_ret
    exact ⟨rfl, rfl⟩
  · go_enter Try.func30, Try.ntmps30
    go_wp2
    go_ret
    exact ⟨rfl, rfl⟩

theorem reached_zero (b o : Nat) (w : World) (h : w.cell? ⟨b, o, none⟩ = some (.int .i64 0)) :
    Calls Try.prog 39 #[.pointer (some ⟨b, o, none⟩)] w fun e w' => e = .returned (.bool false) ∧ w = w' := by
  go_enter Try.func39, Try.ntmps39
  go_wp2
  go_ret
  exact ⟨rfl, rfl⟩
theorem reached_pos (b o n : Nat) (w : World) (h : w.cell? ⟨b, o, none⟩ = some (.int .i64 n)) (hf : w.frozen? ⟨b, o, none⟩ = false) (h0 : 1 ≤ n) (hn : n ≤ 9223372036854775807) :
    Calls Try.prog 39 #[.pointer (some ⟨b, o, none⟩)] w fun e w' => e = .returned (.bool (n == 1)) ∧ w.setCell ⟨b, o, none⟩ (.int .i64 (n - 1 : Nat)) = w' := by
  have h1 : ¬ ((n : Int) = 0) := by omega
  have h2 : (((n - 1 : Nat) : Int)) = (n : Int) - 1 := by omega
  have h3 : (n == 1) = (((n : Int) - 1) == 0) := by rw [Bool.eq_iff_iff]; simp; omega
  rw [h2, h3]
  clear h2 h3
  go_enter Try.func39, Try.ntmps39
  go_wp2
  go_ret
  exact ⟨rfl, rfl⟩

theorem next_any (hb o : Nat) (v : Value) (a : Option Addr) (n cap : Nat) (w : World) (h : w.cell? ⟨hb, o, none⟩ = some v) (hv : v = .slice a n cap) :
    Calls Try.prog 33 #[.pointer (some ⟨hb, o, none⟩)] w fun e w' => e = .returned (.int .i64 n) ∧ w = w' := by
  subst hv
  go_enter Try.func33, Try.ntmps33
  go_wp2
  go_ret
  exact ⟨rfl, rfl⟩

theorem blocks_any (g hb n : Nat) (w : World) (h0 : w.cell? ⟨g, 0, none⟩ = some (.slice (some ⟨hb, 0, none⟩) n n)) :
    Calls Try.prog 27 #[.pointer (some ⟨g, 0, none⟩)] w fun e w' => e = .returned (.int .i64 n) ∧ w = w' := by
  go_enter Try.func27, Try.ntmps27
  go_wp2
  go_ret
  exact ⟨rfl, rfl⟩
theorem block_in (g hb : Nat) (n i : Nat) (w : World) (h0 : w.cell? ⟨g, 0, none⟩ = some (.slice (some ⟨hb, 0, none⟩) n n)) (hn : n ≤ 64) (hi : i < n) :
    Calls Try.prog 31 #[.pointer (some ⟨g, 0, none⟩), .int .i64 i] w fun e w' => e = .returned (.pointer (some ⟨hb, i * 6, none⟩)) ∧ w = w' := by
  go_enter Try.func31, Try.ntmps31
  go_wp2_with (first
    | (go_at_call 27; refine (blocks_any g hb n _ h0).mono ?_; rintro e w' ⟨rfl, rfl⟩)
    | (go_at_call 30; refine (within_yes _ _ _ _ (by omega) (by omega)).mono ?_; rintro e w' ⟨rfl, rfl⟩))
  go_ret
  exact ⟨rfl, rfl⟩
theorem block_out (g hb : Nat) (n : Nat) (i : Int) (w : World) (h0 : w.cell? ⟨g, 0, none⟩ = some (.slice (some ⟨hb, 0, none⟩) n n)) (hn : n ≤ 64) (hi : ¬ inB i n) :
    Calls Try.prog 31 #[.pointer (some ⟨g, 0, none⟩), .int .i64 i] w fun e w' => e = .returned (.pointer none) ∧ w = w' := by
  have hi2 : i < 0 ∨ (n : Int) - 1 < i := by unfold inB at hi; omega
  clear hi
  go_enter Try.func31, Try.ntmps31
  go_wp2_with (first
    | (go_at_call 27; refine (blocks_any g hb n _ h0).mono ?_; rintro e w' ⟨rfl, rfl⟩)
    | (go_at_call 30; refine (within_no _ _ _ _ hi2).mono ?_; rintro e w' ⟨rfl, rfl⟩))
  go_ret
  exact ⟨rfl, rfl⟩
theorem blocks_nil (w : World) : Calls Try.prog 27 #[.pointer none] w fun e w' => e = .returned (.int .i64 0) ∧ w = w' := by
  go_enter Try.func27, Try.ntmps27
  go_wp2
  go_ret
  exact ⟨rfl, rfl⟩
theorem block_nil (i : Int) (w : World) : Calls Try.prog 31 #[.pointer none, .int .i64 i] w fun e w' => e = .returned (.pointer none) ∧ w = w' := by
  go_enter Try.func31, Try.ntmps31
  go_wp2_with (first
    | (go_at_call 27; refine (blocks_nil _).mono ?_; rintro e w' ⟨rfl, rfl⟩)
    | (go_at_call 30; refine (within_no _ _ _ _ (by omega)).mono ?_; rintro e w' ⟨rfl, rfl⟩))
  go_ret
  exact ⟨rfl, rfl⟩

theorem reach_in (g hb : Nat) (n i : Nat) (w : World) (h0 : w.cell? ⟨g, 0, none⟩ = some (.slice (some ⟨hb, 0, none⟩) n n)) (hn : n ≤ 64) (hi : i < n) (h4 : w.cell? ⟨g, 4, none⟩ = some (.bool false)) :
    Calls Try.prog 32 #[.pointer (some ⟨g, 0, none⟩), .int .i64 i] w fun e w' => e = .returned (.tuple #[.pointer (some ⟨hb, i * 6, none⟩), .int .i64 0]) ∧ w = w' := by
  go_enter Try.func32, Try.ntmps32
  go_wp2_with (go_at_call 31; refine (block_in g hb n i _ h0 hn hi).mono ?_; rintro e w' ⟨rfl, rfl⟩)
  go_ret2
  exact ⟨rfl, rfl⟩
theorem reach_off (g hb : Nat) (n i : Nat) (w : World) (h0 : w.cell? ⟨g, 0, none⟩ = some (.slice (some ⟨hb, 0, none⟩) n n)) (hn : n ≤ 64) (hi : i < n) (h4 : w.cell? ⟨g, 4, none⟩ = some (.bool true)) :
    Calls Try.prog 32 #[.pointer (some ⟨g, 0, none⟩), .int .i64 i] w fun e w' => e = .returned (.tuple #[.pointer none, .int .i64 9]) ∧ w = w' := by
  go_enter Try.func32, Try.ntmps32
  go_wp2_with (go_at_call 31; refine (block_in g hb n i _ h0 hn hi).mono ?_; rintro e w' ⟨rfl, rfl⟩)
  go_ret2
  exact ⟨rfl, rfl⟩
theorem reach_out (g hb : Nat) (n : Nat) (i : Int) (w : World) (h0 : w.cell? ⟨g, 0, none⟩ = some (.slice (some ⟨hb, 0, none⟩) n n)) (hn : n ≤ 64) (hi : ¬ inB i n) :
    Calls Try.prog 32 #[.pointer (some ⟨g, 0, none⟩), .int .i64 i] w fun e w' => e = .returned (.tuple #[.pointer none, .int .i64 1]) ∧ w = w' := by
  have HI := Lib.hid hi
  clear hi
  go_enter Try.func32, Try.ntmps32
  go_wp2_with (go_at_call 31; refine (block_out g hb n i _ h0 hn HI.out).mono ?_; rintro e w' ⟨rfl, rfl⟩)
  go_ret2
  exact ⟨rfl, rfl⟩
theorem reach_nil (i : Int) (w : World) :
    Calls Try.prog 32 #[.pointer none, .int .i64 i] w fun e w' => e = .returned (.tuple #[.pointer none, .int .i64 5]) ∧ w = w' := by
  go_enter Try.func32, Try.ntmps32
  go_wp2_with (go_at_call 31; refine (block_nil i _).mono ?_; rintro e w' ⟨rfl, rfl⟩)
  go_ret2
  exact ⟨rfl, rfl⟩
end Go.Proofs.Ytjibiehchfhjnaa
