/- Slices of numbers, and slices that the call sorts. -/
import Derived.Test.YtfehioapjoihkaaPMem
import Derived.Test.YtfehioapjoihkaaLawC
import Derived.Shelf.GgSortFunc.SW
namespace Go.Proofs.Ytfehioapjoihkaa
open Go.RowKit Go.Sort
open Drawbar

def nv (x : Nat) : Value := .int .i64 x
/-- The slice at a reads as these numbers. -/
def RdN (w : World) (a : Option Addr) (l : List Nat) : Prop :=
  0 < l.length → ∃ b off, a = some ⟨b, off, none⟩ ∧ ∀ i, i < l.length → w.cell? ⟨b, off + i, none⟩ = some (.int .i64 (l.getD i 0 : Nat))
theorem RdN.below {w w' : World} {a : Option Addr} {l : List Nat} (h : RdN w a l) (hb : Below w.heap.size w w') : RdN w' a l := fun h0 => by
  obtain ⟨b, off, rfl, hc⟩ := h h0
  exact ⟨b, off, rfl, fun i hi => by rw [hb.cell (p := ⟨b, off + i, none⟩) (World.block_lt_of_cell? w _ (hc i hi))]; exact hc i hi⟩
theorem RdN.alloc {w : World} {a : Option Addr} {l : List Nat} (h : RdN w a l) (o : Obj) : RdN (w.alloc o) a l := h.below ((Below.refl _ _).alloc (Nat.le_refl _) _)
theorem rdN_nil (w : World) (a : Option Addr) : RdN w a [] := fun h => absurd h (by simp)
theorem nv_one (l : List Nat) : ∀ u ∈ l.map nv, u.oneCell' = true := by
  intro u hu; obtain ⟨x, _, rfl⟩ := List.mem_map.1 hu; rfl
theorem shape_nat {w : World} {base : Nat} {v : Value} {n : Nat} {l : List Nat} (h : w.ownsRow base 3 1 v n (l.map nv)) : (v = .slice none 0 0 ∧ l = []) ∨ ∃ g c, v = .slice (some ⟨g, 0, none⟩) l.length c ∧ base ≤ g ∧ g < w.heap.size := by
  have h1 : l.length = n := by simpa using h.1
  rcases h.2 with ⟨rfl, h0⟩ | ⟨g, cap, cur, rfl, hb, _⟩
  · exact .inl ⟨rfl, List.eq_nil_of_length_eq_zero (by omega)⟩
  · exact .inr ⟨g, cap, by rw [h1], hb, (h.lt g rfl).2⟩
theorem cells_of_own {w : World} {base g n cap : Nat} {l : List Nat} (h : w.ownsRow base 3 1 (.slice (some ⟨g, 0, none⟩) n cap) n (l.map nv)) (i : Nat) (hi : i < l.length) : w.cell? ⟨g, i, none⟩ = some (.int .i64 (l.getD i 0 : Nat)) ∧ w.frozen? ⟨g, i, none⟩ = false := by
  refine ⟨?_, h.frozenAt i⟩
  rw [h.cellAt i (by have := h.1; simp at this; omega)]
  simp [hi, nv, List.getD_eq_getElem?_getD]

/-- The sort turns its own row alone. -/
theorem SW.only {α : Type} [Inhabited α] {enc : α → Value} {w0 W : World} {blk off : Nat} {d : Array α} (h : SW enc w0 blk off d W) : Only (fun k => k = blk) w0 W := by
  obtain ⟨n, os, rfl⟩ := h
  unfold sortWorld
  refine ⟨rfl, rfl, rfl, by simp, fun k hk hne => ?_⟩
  rw [heap_grow_old _ _ (by simpa using hk)]
  have : blk ≠ k := fun e => hne e.symm
  simp [putRow, mapBlock, Sort.ahead, Array.getElem?_modify, this]
theorem holds_nat {w : World} {g : Nat} {l : List Nat} {α : Type} [Inhabited α] {enc : α → Value} {d : Array α} (f : α → Nat) (hf : ∀ x, enc x = .int .i64 (f x : Nat)) (hl : d.toList.map f = l) (hc : ∀ i, i < l.length → w.cell? ⟨g, i, none⟩ = some (.int .i64 (l.getD i 0 : Nat)) ∧ w.frozen? ⟨g, i, none⟩ = false) : Holds enc w g 0 d := by
  intro j hj
  have hj2 : j < l.length := by rw [← hl]; simpa using hj
  rw [Nat.zero_add, hf]
  refine ⟨?_, (hc j hj2).2⟩
  rw [(hc j hj2).1]
  have : l.getD j 0 = f d[j]! := by
    rw [← hl, List.getD_eq_getElem?_getD, List.getElem?_map, Array.getElem?_toList, Array.getElem?_eq_getElem hj, getElem!_pos d j hj]
    rfl
  rw [this]
theorem rdN_of_holds {w : World} {g : Nat} {α : Type} [Inhabited α] {enc : α → Value} {d : Array α} (f : α → Nat) (hf : ∀ x, enc x = .int .i64 (f x : Nat)) (h : Holds enc w g 0 d) : RdN w (some ⟨g, 0, none⟩) (d.toList.map f) := fun _ => by
  refine ⟨g, 0, rfl, fun i hi => ?_⟩
  have hi2 : i < d.size := by simpa using hi
  rw [(h i hi2).1, hf]
  have : (d.toList.map f).getD i 0 = f d[i]! := by
    rw [List.getD_eq_getElem?_getD, List.getElem?_map, Array.getElem?_toList, Array.getElem?_eq_getElem hi2, getElem!_pos d i hi2]
    rfl
  rw [this]
theorem exists_fin (N : Nat) : ∀ (l : List Nat), (∀ x ∈ l, x < N) → ∃ d : List (Fin N), d.map (·.val) = l
  | [], _ => ⟨[], rfl⟩
  | x :: l, h => by
    obtain ⟨d, hd⟩ := exists_fin N l fun y hy => h y (by simp [hy])
    exact ⟨⟨x, h x (by simp)⟩ :: d, by simp [hd]⟩
end Go.Proofs.Ytfehioapjoihkaa
