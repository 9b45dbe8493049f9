/- The walk of the law OctetGets: the number of a number's bytes is that of the first ones, and that of the others. -/
import Derived.Test.YtopmljbemogcoaaDoorAwake
namespace Go.Proofs.YtopmljbemogcoaaDoor
open Go.RowKit
open Drawbar

theorem Rd.take {w : World} {a : Option Addr} {l : List Nat} (h : Rd w a l) (c : Nat) : Rd w a (l.take c) := by
  obtain ⟨hl, hlen, hc⟩ := h
  refine ⟨fun x hx => hl x (List.mem_of_mem_take hx), by rw [List.length_take]; omega, fun h0 => ?_⟩
  rw [List.length_take] at h0
  obtain ⟨b, off, rfl, hcell⟩ := hc (by omega)
  refine ⟨b, off, rfl, fun i hi => ?_⟩
  rw [List.length_take] at hi
  rw [hcell i (by omega), List.getD_eq_getElem?_getD, List.getD_eq_getElem?_getD, List.getElem?_take_of_lt (by omega)]

theorem Rd.drop {w : World} {b off : Nat} {l : List Nat} (h : Rd w (some ⟨b, off, none⟩) l) (c : Nat) : Rd w (some ⟨b, off + c, none⟩) (l.drop c) := by
  obtain ⟨hl, hlen, hc⟩ := h
  refine ⟨fun x hx => hl x (List.mem_of_mem_drop hx), by rw [List.length_drop]; omega, fun h0 => ?_⟩
  rw [List.length_drop] at h0
  obtain ⟨b', off', e, hcell⟩ := hc (by omega)
  cases e
  refine ⟨b, off + c, rfl, fun i hi => ?_⟩
  rw [List.length_drop] at hi
  rw [Nat.add_assoc, hcell (c + i) (by omega), List.getD_eq_getElem?_getD, List.getD_eq_getElem?_getD, List.getElem?_drop]

theorem rd_empty (w : World) (a : Option Addr) : Rd w a [] := ⟨by simp, by simp, fun h => absurd h (by simp)⟩

/-- A row that isn't empty, opened. -/
theorem rd_of_own' {w : World} {base : Nat} {v : Value} {n : Nat} {l : List Nat} (h : w.ownsRow base 5 1 v n (l.map bv)) (hl : ∀ x ∈ l, x < 256) (hn : l.length ≤ 140737488351232) (h0 : 0 < l.length) :
    ∃ g cap, v = .slice (some ⟨g, 0, none⟩) l.length cap ∧ l.length ≤ cap ∧ Rd w (some ⟨g, 0, none⟩) l ∧ base ≤ g ∧ g < w.heap.size := by
  obtain ⟨a, cap, rfl, h1, h2, _, h3⟩ := rd_of_own h hl hn
  rcases h.2 with ⟨e, _⟩ | ⟨g, cap', cur, e, _⟩
  · simp at e; omega
  · simp only [Value.slice.injEq] at e
    obtain ⟨rfl, _, rfl⟩ := e
    exact ⟨g, cap, rfl, h1, h2, h3 _ rfl⟩

end Go.Proofs.YtopmljbemogcoaaDoor
