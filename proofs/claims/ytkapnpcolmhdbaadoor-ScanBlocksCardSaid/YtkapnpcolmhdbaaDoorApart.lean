/- The walk of the law SheetApart. -/
import Derived.Test.YtkapnpcolmhdbaaDoorSame
import Derived.Test.YtkapnpcolmhdbaaDoorFormsL
import Derived.Deep.RegionHeld
namespace Go.Proofs.YtkapnpcolmhdbaaDoor
open Go.RowKit
open Drawbar Drawbar.Sheet

set_option maxRecDepth 100000 in
/-- Lay, of a sheet with the form. -/
theorem lay_gives (s : Sh) (a : Option Addr) (c : Nat) (w : World) (hf : fm s = true) (hr : Rd w a s.da) (hc : s.da.length ≤ c) (hnil : a = none → c = 0) (hT : Tab w) :
    Calls Tryd.prog 17 #[sv s a c] w (Gives w (page s) 96) :=
  (lay_any s a c w hf hr hc hnil hT).mono fun e w' h => gives_of h (page_lt s hr.1) (page_length s (fm_len hf)) (by omega)

set_option maxRecDepth 100000 in
theorem pages_eq {x y : Sh} (hx : fm x = true) (hy : fm y = true) (dx : ∀ u ∈ x.da, u < 256) (dy : ∀ u ∈ y.da, u < 256) : ((strOf (page x)).toList == (strOf (page y)).toList) = sameS x y := by
  rw [str_eq (page_lt x dx) (page_lt y dy), Bool.eq_iff_iff, decide_eq_true_eq, same_true]
  exact ⟨page_inj hx hy, fun h => by rw [h]⟩

end Go.Proofs.YtkapnpcolmhdbaaDoor
