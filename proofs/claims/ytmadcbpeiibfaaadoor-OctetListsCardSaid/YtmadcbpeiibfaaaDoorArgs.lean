/- A slice of slices of bytes among a law's arguments, opened. -/
import Derived.Test.YtmadcbpeiibfaaaDoorArg
import Derived.Test.YtmadcbpeiibfaaaDoorLists
import Derived.Deep.Matrix
namespace Go.Proofs.YtmadcbpeiibfaaaDoor
open Go.ChangeShapes Go.WideShapes Go.ChangeAt Go.RowKit Go.WideMaps Go.WideElems Go.Deep
open Drawbar

theorem cells_bytes : Tryd.prog.cellsOf 22 = 1 := by kernel_rfl

theorem addr_lit {w : World} {p : Addr} {v : Value} (h : w.cell? p = some v) : p = ⟨p.block, p.off, none⟩ := by
  obtain ⟨b, o, s⟩ := p
  have : s = none := by simpa using World.cell?_spot h
  rw [this]

theorem rows_of_trod {H : Type} {enc : TypeId × Value → H} {W : World} {fuel : Nat} {a : Option Addr} {n c : Nat} {d : DataW H} {p : List MemPlace}
    (hf : DataW.trod enc Tryd.prog W 0 (fun _ => true) true fuel 47 [.slice a n c] = some (d, p)) :
    ∃ (M : Nat → List Nat) (A : Nat → Option Addr) (C : Nat → Nat), RowsAt W a n M A C ∧ n ≤ 9223372036854775807 ∧ ∀ r, r < n → (M r).length ≤ 9223372036854775807 := by
  rcases open_int_rows Tryd.underlying47 Tryd.underlying22 Tryd.underlying5 cells_bytes cells_u8 hf with ⟨hcs, _⟩ | ⟨ad, n', c', A, L, C, Z, hcs, _, hl, hm, _, hx⟩
  · simp only [List.cons.injEq, Value.slice.injEq] at hcs
    obtain ⟨⟨rfl, rfl, rfl⟩, _⟩ := hcs
    exact ⟨fun _ => [], fun _ => none, fun _ => 0, ⟨fun h => absurd h (Nat.lt_irrefl 0), fun r hr => absurd hr (Nat.not_lt_zero _), fun r hr => absurd hr (Nat.not_lt_zero _), fun r hr => absurd hr (Nat.not_lt_zero _)⟩, by omega, fun r hr => absurd hr (Nat.not_lt_zero _)⟩
  · simp only [List.cons.injEq, Value.slice.injEq] at hcs
    obtain ⟨⟨rfl, rfl, rfl⟩, _⟩ := hcs
    unfold maxLen at hm hx
    have hML : ∀ r, r < n → (((Z r).take (L r)).map Int.toNat).length = L r := fun r hr => by
      obtain ⟨_, h1, _, h3, _⟩ := hx r (by omega)
      rw [List.length_map, List.length_take]; omega
    refine ⟨fun r => ((Z r).take (L r)).map Int.toNat, A, C, ⟨fun h0 => ?_, fun r hr => ?_, fun r hr => (hx r (by omega)).2.2.2.2.2.1, fun r hr h1000 => ?_⟩, by omega, fun r hr => ?_⟩
    · have h := (hx 0 (by omega)).1
      have e := addr_lit h
      have hspot : ad.spot = none := by
        have := congrArg Addr.spot e
        simpa [Addr.add] using this
      have ead : ad = ⟨ad.block, ad.off, none⟩ := by
        obtain ⟨b, o, s⟩ := ad
        simp at hspot; rw [hspot]
      refine ⟨ad.block, ad.off, by rw [← ead], fun r hr => ?_⟩
      have h2 := (hx r (by omega)).1
      rw [ead, Addr.add_lit] at h2
      rw [h2, hML r hr]
    · have := hML r hr
      have := (hx r (by omega)).2.1
      omega
    · rw [hML r hr] at h1000
      obtain ⟨_, h1, h2, h3, h4, _, h6⟩ := hx r (by omega)
      refine ⟨?_, by rw [hML r hr]; omega, fun h0 => ?_⟩
      · intro x hx
        obtain ⟨z, hz1, rfl⟩ := List.mem_map.1 hx
        have := bounds_u8 (h4 z (List.mem_of_mem_take hz1))
        omega
      · rw [hML r hr] at h0
        have hA : ∃ a', A r = some a' := by
          cases hA : A r with
          | none => have := (hx r (by omega)).2.2.2.2.2.1 hA; omega
          | some a' => exact ⟨a', rfl⟩
        obtain ⟨a', hA⟩ := hA
        have hc := (h6 a' hA).2
        obtain ⟨b, off, rfl, hc2⟩ := ints_at (zs := Z r) (fun i hi => hc i (by omega)) (by omega)
        refine ⟨b, off, hA, fun i hi => ?_⟩
        rw [hML r hr] at hi
        rw [hc2 i (by omega)]
        have hb := bounds_u8 (h4 ((Z r)[i]'(by omega)) (List.getElem_mem _))
        rw [List.getD_eq_getElem?_getD, List.getD_eq_getElem?_getD, List.getElem?_map, List.getElem?_take_of_lt (by omega), List.getElem?_eq_getElem (by omega)]
        simp only [Option.map_some, Option.getD_some]
        congr 2
        omega
    · rw [hML r hr]
      obtain ⟨_, h1, h2, _⟩ := hx r (by omega)
      omega
end Go.Proofs.YtmadcbpeiibfaaaDoor
