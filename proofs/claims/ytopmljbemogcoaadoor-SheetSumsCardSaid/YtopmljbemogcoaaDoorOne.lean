/- The walk of the law OctetOne: a single bit that is turned is told. -/
import Derived.Test.YtopmljbemogcoaaDoorBurst
import Derived.BigRegion
namespace Go.Proofs.YtopmljbemogcoaaDoor
open Go.RowKit
open Drawbar

theorem Rd.below {w w' : World} {a : Option Addr} {l : List Nat} (h : Rd w a l) (hb : Below w.heap.size w w') : Rd w' a l := by
  obtain ⟨hl, hlen, hc⟩ := h
  refine ⟨hl, hlen, fun h0 => ?_⟩
  obtain ⟨b, off, rfl, hcell⟩ := hc h0
  exact ⟨b, off, rfl, fun i hi => by rw [hb.cell (p := ⟨b, off + i, none⟩) (World.block_lt_of_cell? w _ (hcell i hi))]; exact hcell i hi⟩

end Go.Proofs.YtopmljbemogcoaaDoor
