/- cmp.Compare at int, and the comparison that On hands to the sort. -/
import Derived.Test.YtfehioapjoihkaaPMem
import Derived.Test.YtfehioapjoihkaaStable
import Derived.Deep.QuietTactic
import Derived.BigQuiet
namespace Go.Proofs.Ytfehioapjoihkaa
open Go.RowKit Go.Sort Go.Shelf Go.Lib
open Drawbar Drawbar.Pm

def cmpI (x y : Int) : Int := if x < y then -1 else if y < x then 1 else 0
theorem cmpI_neg (x y : Int) : cmpI x y < 0 ↔ x < y := by unfold cmpI; split <;> (try split) <;> omega

theorem isNaN_any (x : Int) (w : World) : Calls Try.prog 39 #[.int .i64 x] w fun e w' => e = .returned (.bool false) ∧ w = w' := by
  go_enter Try.func39, Try.ntmps39
  go_wp2
  go_ret
  simp
theorem compare_any (x y : Int) (w : World) : Calls Try.prog 35 #[.int .i64 x, .int .i64 y] w fun e w' => e = .returned (.int .i64 (cmpI x y)) ∧ w' = w := by
  by_cases h1 : x < y
  · rw [show cmpI x y = -1 from if_pos h1]
    go_enter Try.func35, Try.ntmps35
    go_wp2_with (go_at_call 39; refine (isNaN_any _ _).mono ?_; rintro e w' ⟨rfl, rfl⟩)
    go_ret
    exact ⟨rfl, rfl⟩
  · by_cases h2 : y < x
    · rw [show cmpI x y = 1 by unfold cmpI; rw [if_neg h1, if_pos h2]]
      go_enter Try.func35, Try.ntmps35
      go_wp2_with (go_at_call 39; refine (isNaN_any _ _).mono ?_; rintro e w' ⟨rfl, rfl⟩)
      go_ret
      exact ⟨rfl, rfl⟩
    · rw [show cmpI x y = 0 by unfold cmpI; rw [if_neg h1, if_neg h2]]
      go_enter Try.func35, Try.ntmps35
      go_wp2_with (go_at_call 39; refine (isNaN_any _ _).mono ?_; rintro e w' ⟨rfl, rfl⟩)
      go_ret
      exact ⟨rfl, rfl⟩

/-- The addresses' pages, compared. -/
theorem onCmp_any (bm g pb n x y : Nat) (px py : Int) (w : World) (hm : w.cell? ⟨bm, 0, none⟩ = some (.pointer (some ⟨g, 0, none⟩))) (c0 : w.cell? ⟨g, 0, none⟩ = some (.slice (some ⟨pb, 0, none⟩) n n)) (hx : x < n) (hy : y < n)
    (hpx : w.cell? ⟨pb, x * 2 + 1, none⟩ = some (.int .i64 px)) (hpy : w.cell? ⟨pb, y * 2 + 1, none⟩ = some (.int .i64 py)) :
    Calls Try.prog 34 #[.int .i64 x, .int .i64 y, .pointer (some ⟨bm, 0, none⟩)] w fun e w' => e = .returned (.int .i64 (cmpI px py)) ∧ ∃ q, w' = w.drewN q := by
  have i1 : (x : Int) < n := by omega
  have i2 : (y : Int) < n := by omega
  go_enter Try.func34, Try.ntmps34
  go_wp2_with fail
  go_quiet ((go_at_call 35; exact Calls.quiet_of_same (compare_any _ _ _)))
  go_wp2
  go_ret
  exact ⟨rfl, _, rfl⟩
end Go.Proofs.Ytfehioapjoihkaa
