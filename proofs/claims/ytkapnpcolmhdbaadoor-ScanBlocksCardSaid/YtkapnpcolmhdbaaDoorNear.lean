/- The contracts of the laws' of and near. -/
import Derived.Test.YtkapnpcolmhdbaaDoorForm
namespace Drawbar.Sheet
/-- A sheet with the form, near to one that is any. -/
def nearS (s : Sh) : Sh :=
  ⟨1 + s.k % 3, s.ep / 65536, s.sq / 65536, s.ad % 18446744073709551616 % 65536, s.fr % 18446744073709551616 % 65 - 1, if s.k % 3 = 0 ∧ s.da.length ≤ 64 then s.da else []⟩
set_option maxRecDepth 100000 in
theorem near_form (s : Sh) (hep : s.ep < 2 ^ 64) (hsq : s.sq < 2 ^ 64) : fm (nearS s) = true := by
  unfold fm nearS
  dsimp only
  refine decide_eq_true ⟨by omega, by omega, by omega, by omega, by omega, by omega, by omega, by omega, ?_⟩
  by_cases h : s.k % 3 = 0
  · left
    refine ⟨by omega, ?_⟩
    split
    · rename_i h2; exact h2.2
    · simp
  · right
    rw [if_neg (fun h2 => h h2.1)]
    exact ⟨by omega, rfl⟩
end Drawbar.Sheet
namespace Go.Proofs.YtkapnpcolmhdbaaDoor
open Go.RowKit
open Drawbar Drawbar.Sheet

/-- A law's sheet: its parts are in their kinds' bounds. -/
structure Sh.In (s : Sh) : Prop where
  k : s.k < 256
  ep : s.ep < 2 ^ 64
  sq : s.sq < 2 ^ 64
  ad : -9223372036854775808 ≤ s.ad ∧ s.ad ≤ 9223372036854775807
  fr : -9223372036854775808 ≤ s.fr ∧ s.fr ≤ 9223372036854775807

end Go.Proofs.YtkapnpcolmhdbaaDoor
