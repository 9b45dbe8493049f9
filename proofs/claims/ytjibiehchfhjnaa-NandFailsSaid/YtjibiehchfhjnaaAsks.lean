/- A slice of bytes among a law's arguments, opened: what it reads as. -/
import Derived.Test.YtjibiehchfhjnaaBytes
import Derived.ProofKit
import Derived.OpenShut
import Derived.Carry
namespace Go.Proofs.Ytjibiehchfhjnaa
open Go.ChangeShapes Go.WideShapes Go.ChangeAt Go.RowKit Go.WideMaps Go.WideElems
open Drawbar

/-- The slice at a reads as these bytes. -/
def Seen (w : World) (a : Option Addr) (l : List Nat) : Prop :=
  (∀ x ∈ l, x < 256) ∧ (0 < l.length → ∃ b off, a = some ⟨b, off, none⟩ ∧ ∀ i, i < l.length → w.cell? ⟨b, off + i, none⟩ = some (.int .u8 (l.getD i 0 : Nat)))

theorem Seen.below {w w' : World} {a : Option Addr} {l : List Nat} (h : Seen w a l) (hb : Below w.heap.size w w') : Seen w' a l := by
  obtain ⟨hl, hc⟩ := h
  refine ⟨hl, fun h0 => ?_⟩
  obtain ⟨b, off, rfl, hcell⟩ := hc h0
  exact ⟨b, off, rfl, fun i hi => by rw [hb.cell (p := ⟨b, off + i, none⟩) (World.block_lt_of_cell? w _ (hcell i hi))]; exact hcell i hi⟩

theorem cells_u8 : Try.prog.cellsOf 5 = 1 := by kernel_rfl

theorem seen_of_trod {H : Type} {enc : TypeId × Value → H} {W : World} {fuel : Nat} {a : Option Addr} {n c : Nat} {d : DataW H} {p : List MemPlace}
    (hf : DataW.trod enc Try.prog W 0 (fun _ => true) true fuel 30 [.slice a n c] = some (d, p)) : ∃ l : List Nat, n = l.length ∧ Seen W a l := by
  rcases open_ints Try.underlying30 Try.underlying5 cells_u8 hf with ⟨hcs, _⟩ | ⟨ad, n', c', zs, hcs, _, hl, _, hz, hx, hcell, hwz⟩
  · simp only [List.cons.injEq, Value.slice.injEq] at hcs
    obtain ⟨⟨rfl, rfl, rfl⟩, _⟩ := hcs
    exact ⟨[], rfl, by simp, fun h => by simp at h⟩
  · simp only [List.cons.injEq, Value.slice.injEq] at hcs
    obtain ⟨⟨rfl, rfl, rfl⟩, _⟩ := hcs
    simp only [if_true] at hz
    refine ⟨(zs.take n).map Int.toNat, by rw [List.length_map, List.length_take]; omega, ?_, fun h0 => ?_⟩
    · intro x hx
      obtain ⟨z, hz1, rfl⟩ := List.mem_map.1 hx
      have := bounds_u8 (hwz z (List.mem_of_mem_take hz1))
      omega
    · rw [List.length_map, List.length_take] at h0
      obtain ⟨b, off, rfl, hc⟩ := ints_at hcell (by omega)
      refine ⟨b, off, rfl, fun i hi => ?_⟩
      rw [List.length_map, List.length_take] at hi
      rw [hc i (by omega)]
      have hb := bounds_u8 (hwz (zs[i]'(by omega)) (List.getElem_mem _))
      rw [List.getD_eq_getElem?_getD, List.getD_eq_getElem?_getD, List.getElem?_map, List.getElem?_take_of_lt (by omega), List.getElem?_eq_getElem (by omega)]
      simp only [Option.map_some, Option.getD_some]
      congr 2
      omega
end Go.Proofs.Ytjibiehchfhjnaa
