/- drawbarlaw02.same: are two lists of strings one? -/
import Derived.Test.YthaicfnlchkcoaaDoorWords
import Derived.BigQuiet
namespace Go.Proofs.YthaicfnlchkcoaaDoor
open Go.RowKit
open Drawbar Drawbar.Line Drawbar.Sign

/-- A list of strings that lies behind an address. -/
def RdS (w : World) (a : Option Addr) (l : List ByteArray) : Prop :=
  0 < l.length → ∃ b off, a = some ⟨b, off, none⟩ ∧ ∀ i, i < l.length → w.cell? ⟨b, off + i, none⟩ = some (.string (l.getD i ⟨#[]⟩))

theorem RdS.nil (w : World) (a : Option Addr) : RdS w a [] := fun h => absurd h (by simp)
theorem RdS.below {w w' : World} {a : Option Addr} {l : List ByteArray} (h : RdS w a l) (hb : Below w.heap.size w w') : RdS w' a l := fun h0 => by
  obtain ⟨b, off, rfl, hc⟩ := h h0
  exact ⟨b, off, rfl, fun i hi => by rw [hb.cell (p := ⟨b, off + i, none⟩) (World.block_lt_of_cell? w _ (hc i hi))]; exact hc i hi⟩
theorem rdS_of_own {w : World} {base : Nat} {a : Option Addr} {n cap : Nat} {l : List ByteArray} (h : w.ownsRow base 9 1 (.slice a n cap) n (l.map Value.string)) : RdS w a l := fun h0 => by
  rcases h.2 with ⟨e, rfl⟩ | ⟨g, cap', cur, e, _⟩
  · have := h.1
    rw [List.length_map] at this
    omega
  · cases e
    refine ⟨g, 0, rfl, fun i hi => ?_⟩
    have := h.cells (g := g) rfl i (.string (l.getD i ⟨#[]⟩)) (by
      rw [List.getElem?_map, List.getElem?_eq_getElem hi, List.getD_eq_getElem?_getD, List.getElem?_eq_getElem hi]; rfl)
    rw [Addr.add_lit] at this
    exact this

theorem str_ext {a b : ByteArray} (h : a.data.toList = b.data.toList) : a = b := by
  cases a
  cases b
  congr 1
  exact Array.toList_inj.1 h

theorem list_eq_of {l m : List ByteArray} (hl : l.length = m.length) (h : ∀ i, i < l.length → l.getD i ⟨#[]⟩ = m.getD i ⟨#[]⟩) : l = m := by
  refine List.ext_getElem hl fun i h1 h2 => ?_
  have := h i h1
  rw [List.getD_eq_getElem?_getD, List.getD_eq_getElem?_getD, List.getElem?_eq_getElem h1, List.getElem?_eq_getElem h2] at this
  exact this

end Go.Proofs.YthaicfnlchkcoaaDoor
