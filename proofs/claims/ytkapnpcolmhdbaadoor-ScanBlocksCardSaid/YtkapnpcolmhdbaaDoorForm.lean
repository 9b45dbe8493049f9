/- A sheet as plain data and in memory; the contracts of sheet.Form, of the document's Form, and of the laws' of. -/
import Derived.Test.YtkapnpcolmhdbaaDoorLists
import Derived.Handy
namespace Drawbar.Sheet
/-- A sheet. -/
structure Sh where
  k : Nat
  ep : Nat
  sq : Nat
  ad : Int
  fr : Int
  da : List Nat

def mx : Nat := 281474976710655
/-- Can it be laid? -/
def fm (s : Sh) : Bool := decide (1 ≤ s.k ∧ s.k ≤ 3 ∧ s.ep ≤ 281474976710655 ∧ s.sq ≤ 281474976710655 ∧ 0 ≤ s.ad ∧ s.ad ≤ 65535 ∧ -1 ≤ s.fr ∧ s.fr ≤ 63 ∧ (s.k = 1 ∧ s.da.length ≤ 64 ∨ s.k ≠ 1 ∧ s.da.length = 0))
end Drawbar.Sheet
namespace Go.Proofs.YtkapnpcolmhdbaaDoor
open Go.RowKit
open Drawbar Drawbar.Sheet

abbrev sv (s : Sh) (a : Option Addr) (c : Nat) : Value := .agg #[.int .u8 s.k, .int .u64 s.ep, .int .u64 s.sq, .int .i64 s.ad, .int .i64 s.fr, .slice a s.da.length c]
abbrev boxs (t : TypeId) (s : Sh) (a : Option Addr) (c : Nat) : Obj := .cells #[.int .u8 s.k, .int .u64 s.ep, .int .u64 s.sq, .int .i64 s.ad, .int .i64 s.fr, .slice a s.da.length c] t
/-- The sheet's cells in block g. -/
def ShAt (w : World) (g : Nat) (s : Sh) (a : Option Addr) (c : Nat) : Prop :=
  w.cell? ⟨g, 0, none⟩ = some (.int .u8 s.k) ∧ w.cell? ⟨g, 1, none⟩ = some (.int .u64 s.ep) ∧ w.cell? ⟨g, 2, none⟩ = some (.int .u64 s.sq) ∧ w.cell? ⟨g, 3, none⟩ = some (.int .i64 s.ad) ∧ w.cell? ⟨g, 4, none⟩ = some (.int .i64 s.fr) ∧ w.cell? ⟨g, 5, none⟩ = some (.slice a s.da.length c)
set_option maxRecDepth 100000 in
theorem boxs_cells (w : World) (t : TypeId) (s : Sh) (a : Option Addr) (c : Nat) (W : World) (hb : Below (w.alloc (boxs t s a c)).heap.size (w.alloc (boxs t s a c)) W) : ShAt W w.heap.size s a c := by
  refine ⟨?_, ?_, ?_, ?_, ?_, ?_⟩ <;> · rw [hb.cell (by simp)]; simp
set_option maxRecDepth 100000 in
theorem boxs_below (w : World) (t : TypeId) (s : Sh) (a : Option Addr) (c : Nat) : Below w.heap.size w (w.alloc (boxs t s a c)) := (Below.refl _ _).alloc (Nat.le_refl _) _

set_option maxRecDepth 100000 in
set_option maxHeartbeats 4000000 in
theorem sform_any (s : Sh) (a : Option Addr) (c : Nat) (w : World) :
    Calls Tryd.prog 50 #[sv s a c] w fun e w' => e = .returned (.bool (fm s)) ∧ Below w.heap.size w w' := by
  obtain ⟨c0, c1, c2, c3, c4, c5⟩ := boxs_cells w 44 s a c _ (Below.refl _ _)
  have hB := fun o => (Below.refl w.heap.size w).alloc (Nat.le_refl _) o
  generalize hq : fm s = q
  unfold fm at hq
  unfold sv
  obtain ⟨k, ep, sq, ad, fr, da⟩ := s
  dsimp only at *
  generalize da.length = n at *
  by_cases h0 : 1 ≤ k
  rotate_left
  · obtain rfl : q = false := hq.symm.trans (decide_eq_false fun h => h0 h.1)
    clear hq
    go_enter Tryd.func50, Tryd.ntmps50
    go_wp2
    all_goals
      go_ret
      first
        | exact ⟨rfl, hB _⟩
        | exact ⟨congrArg (fun t => Ending.returned (.bool t)) (decide_eq_true (by omega)), hB _⟩
        | exact ⟨congrArg (fun t => Ending.returned (.bool t)) (decide_eq_false (by omega)), hB _⟩
  by_cases h1 : k ≤ 3
  rotate_left
  · obtain rfl : q = false := hq.symm.trans (decide_eq_false fun h => h1 h.2.1)
    clear hq
    go_enter Tryd.func50, Tryd.ntmps50
    go_wp2
    all_goals
      go_ret
      first
        | exact ⟨rfl, hB _⟩
        | exact ⟨congrArg (fun t => Ending.returned (.bool t)) (decide_eq_true (by omega)), hB _⟩
        | exact ⟨congrArg (fun t => Ending.returned (.bool t)) (decide_eq_false (by omega)), hB _⟩
  by_cases h2 : ep ≤ 281474976710655
  rotate_left
  · obtain rfl : q = false := hq.symm.trans (decide_eq_false fun h => h2 h.2.2.1)
    clear hq
    go_enter Tryd.func50, Tryd.ntmps50
    go_wp2
    all_goals
      go_ret
      first
        | exact ⟨rfl, hB _⟩
        | exact ⟨congrArg (fun t => Ending.returned (.bool t)) (decide_eq_true (by omega)), hB _⟩
        | exact ⟨congrArg (fun t => Ending.returned (.bool t)) (decide_eq_false (by omega)), hB _⟩
  by_cases h3 : sq ≤ 281474976710655
  rotate_left
  · obtain rfl : q = false := hq.symm.trans (decide_eq_false fun h => h3 h.2.2.2.1)
    clear hq
    go_enter Tryd.func50, Tryd.ntmps50
    go_wp2
    all_goals
      go_ret
      first
        | exact ⟨rfl, hB _⟩
        | exact ⟨congrArg (fun t => Ending.returned (.bool t)) (decide_eq_true (by omega)), hB _⟩
        | exact ⟨congrArg (fun t => Ending.returned (.bool t)) (decide_eq_false (by omega)), hB _⟩
  by_cases h4 : 0 ≤ ad
  rotate_left
  · obtain rfl : q = false := hq.symm.trans (decide_eq_false fun h => h4 h.2.2.2.2.1)
    clear hq
    go_enter Tryd.func50, Tryd.ntmps50
    go_wp2
    all_goals
      go_ret
      first
        | exact ⟨rfl, hB _⟩
        | exact ⟨congrArg (fun t => Ending.returned (.bool t)) (decide_eq_true (by omega)), hB _⟩
        | exact ⟨congrArg (fun t => Ending.returned (.bool t)) (decide_eq_false (by omega)), hB _⟩
  by_cases h5 : ad ≤ 65535
  rotate_left
  · obtain rfl : q = false := hq.symm.trans (decide_eq_false fun h => h5 h.2.2.2.2.2.1)
    clear hq
    go_enter Tryd.func50, Tryd.ntmps50
    go_wp2
    all_goals
      go_ret
      first
        | exact ⟨rfl, hB _⟩
        | exact ⟨congrArg (fun t => Ending.returned (.bool t)) (decide_eq_true (by omega)), hB _⟩
        | exact ⟨congrArg (fun t => Ending.returned (.bool t)) (decide_eq_false (by omega)), hB _⟩
  by_cases h6 : -1 ≤ fr
  rotate_left
  · obtain rfl : q = false := hq.symm.trans (decide_eq_false fun h => h6 h.2.2.2.2.2.2.1)
    clear hq
    go_enter Tryd.func50, Tryd.ntmps50
    go_wp2
    all_goals
      go_ret
      first
        | exact ⟨rfl, hB _⟩
        | exact ⟨congrArg (fun t => Ending.returned (.bool t)) (decide_eq_true (by omega)), hB _⟩
        | exact ⟨congrArg (fun t => Ending.returned (.bool t)) (decide_eq_false (by omega)), hB _⟩
  by_cases h7 : fr ≤ 63
  rotate_left
  · obtain rfl : q = false := hq.symm.trans (decide_eq_false fun h => h7 h.2.2.2.2.2.2.2.1)
    clear hq
    go_enter Tryd.func50, Tryd.ntmps50
    go_wp2
    all_goals
      go_ret
      first
        | exact ⟨rfl, hB _⟩
        | exact ⟨congrArg (fun t => Ending.returned (.bool t)) (decide_eq_true (by omega)), hB _⟩
        | exact ⟨congrArg (fun t => Ending.returned (.bool t)) (decide_eq_false (by omega)), hB _⟩
  have hq2 : q = decide (k = 1 ∧ n ≤ 64 ∨ k ≠ 1 ∧ n = 0) := by
    rw [← hq, Bool.eq_iff_iff, decide_eq_true_eq, decide_eq_true_eq]
    exact ⟨fun h => h.2.2.2.2.2.2.2.2, fun h => ⟨h0, h1, h2, h3, h4, h5, h6, h7, h⟩⟩
  clear hq
  by_cases h8 : k = 1
  · by_cases h9 : n ≤ 64
    · obtain rfl : q = true := hq2.trans (decide_eq_true (.inl ⟨h8, h9⟩))
      subst h8
      clear hq2
      go_enter Tryd.func50, Tryd.ntmps50
      go_wp2
      all_goals
        go_ret
        first
          | exact ⟨rfl, hB _⟩
          | exact ⟨congrArg (fun t => Ending.returned (.bool t)) (decide_eq_true (by omega)), hB _⟩
          | exact ⟨congrArg (fun t => Ending.returned (.bool t)) (decide_eq_false (by omega)), hB _⟩
    · obtain rfl : q = false := hq2.trans (decide_eq_false fun h => by omega)
      subst h8
      clear hq2
      go_enter Tryd.func50, Tryd.ntmps50
      go_wp2
      all_goals
        go_ret
        first
          | exact ⟨rfl, hB _⟩
          | exact ⟨congrArg (fun t => Ending.returned (.bool t)) (decide_eq_true (by omega)), hB _⟩
          | exact ⟨congrArg (fun t => Ending.returned (.bool t)) (decide_eq_false (by omega)), hB _⟩
  · have h10 : ((k : Int) == 1) = false := by simp; omega
    have h11 : ((k : Int) != 1) = true := by simp; omega
    by_cases h9 : n = 0
    · obtain rfl : q = true := hq2.trans (decide_eq_true (.inr ⟨h8, h9⟩))
      subst h9
      clear hq2
      go_enter Tryd.func50, Tryd.ntmps50
      go_wp2
      all_goals
        go_ret
        first
          | exact ⟨rfl, hB _⟩
          | exact ⟨congrArg (fun t => Ending.returned (.bool t)) (decide_eq_true (by omega)), hB _⟩
          | exact ⟨congrArg (fun t => Ending.returned (.bool t)) (decide_eq_false (by omega)), hB _⟩
    · obtain rfl : q = false := hq2.trans (decide_eq_false fun h => by omega)
      have h12 : ((n : Int) == 0) = false := by simp; omega
      clear hq2
      go_enter Tryd.func50, Tryd.ntmps50
      go_wp2
      all_goals
        go_ret
        first
          | exact ⟨rfl, hB _⟩
          | exact ⟨congrArg (fun t => Ending.returned (.bool t)) (decide_eq_true (by omega)), hB _⟩
          | exact ⟨congrArg (fun t => Ending.returned (.bool t)) (decide_eq_false (by omega)), hB _⟩

set_option maxRecDepth 100000 in
set_option maxHeartbeats 4000000 in
theorem srefform_any (s : Sh) (a : Option Addr) (c : Nat) (w : World) :
    Calls Tryd.prog 63 #[sv s a c] w fun e w' => e = .returned (.bool (fm s)) ∧ Below w.heap.size w w' := by
  obtain ⟨c0, c1, c2, c3, c4, c5⟩ := boxs_cells w 47 s a c _ (Below.refl _ _)
  have hB := fun o => (Below.refl w.heap.size w).alloc (Nat.le_refl _) o
  generalize hq : fm s = q
  unfold fm at hq
  unfold sv
  obtain ⟨k, ep, sq, ad, fr, da⟩ := s
  dsimp only at *
  generalize da.length = n at *
  by_cases h0 : 1 ≤ k
  rotate_left
  · obtain rfl : q = false := hq.symm.trans (decide_eq_false fun h => h0 h.1)
    clear hq
    go_enter Tryd.func63, Tryd.ntmps63
    go_wp2
    all_goals
      go_ret
      first
        | exact ⟨rfl, hB _⟩
        | exact ⟨congrArg (fun t => Ending.returned (.bool t)) (decide_eq_true (by omega)), hB _⟩
        | exact ⟨congrArg (fun t => Ending.returned (.bool t)) (decide_eq_false (by omega)), hB _⟩
  by_cases h1 : k ≤ 3
  rotate_left
  · obtain rfl : q = false := hq.symm.trans (decide_eq_false fun h => h1 h.2.1)
    clear hq
    go_enter Tryd.func63, Tryd.ntmps63
    go_wp2
    all_goals
      go_ret
      first
        | exact ⟨rfl, hB _⟩
        | exact ⟨congrArg (fun t => Ending.returned (.bool t)) (decide_eq_true (by omega)), hB _⟩
        | exact ⟨congrArg (fun t => Ending.returned (.bool t)) (decide_eq_false (by omega)), hB _⟩
  by_cases h2 : ep ≤ 281474976710655
  rotate_left
  · obtain rfl : q = false := hq.symm.trans (decide_eq_false fun h => h2 h.2.2.1)
    clear hq
    go_enter Tryd.func63, Tryd.ntmps63
    go_wp2
    all_goals
      go_ret
      first
        | exact ⟨rfl, hB _⟩
        | exact ⟨congrArg (fun t => Ending.returned (.bool t)) (decide_eq_true (by omega)), hB _⟩
        | exact ⟨congrArg (fun t => Ending.returned (.bool t)) (decide_eq_false (by omega)), hB _⟩
  by_cases h3 : sq ≤ 281474976710655
  rotate_left
  · obtain rfl : q = false := hq.symm.trans (decide_eq_false fun h => h3 h.2.2.2.1)
    clear hq
    go_enter Tryd.func63, Tryd.ntmps63
    go_wp2
    all_goals
      go_ret
      first
        | exact ⟨rfl, hB _⟩
        | exact ⟨congrArg (fun t => Ending.returned (.bool t)) (decide_eq_true (by omega)), hB _⟩
        | exact ⟨congrArg (fun t => Ending.returned (.bool t)) (decide_eq_false (by omega)), hB _⟩
  by_cases h4 : 0 ≤ ad
  rotate_left
  · obtain rfl : q = false := hq.symm.trans (decide_eq_false fun h => h4 h.2.2.2.2.1)
    clear hq
    go_enter Tryd.func63, Tryd.ntmps63
    go_wp2
    all_goals
      go_ret
      first
        | exact ⟨rfl, hB _⟩
        | exact ⟨congrArg (fun t => Ending.returned (.bool t)) (decide_eq_true (by omega)), hB _⟩
        | exact ⟨congrArg (fun t => Ending.returned (.bool t)) (decide_eq_false (by omega)), hB _⟩
  by_cases h5 : ad ≤ 65535
  rotate_left
  · obtain rfl : q = false := hq.symm.trans (decide_eq_false fun h => h5 h.2.2.2.2.2.1)
    clear hq
    go_enter Tryd.func63, Tryd.ntmps63
    go_wp2
    all_goals
      go_ret
      first
        | exact ⟨rfl, hB _⟩
        | exact ⟨congrArg (fun t => Ending.returned (.bool t)) (decide_eq_true (by omega)), hB _⟩
        | exact ⟨congrArg (fun t => Ending.returned (.bool t)) (decide_eq_false (by omega)), hB _⟩
  by_cases h6 : -1 ≤ fr
  rotate_left
  · obtain rfl : q = false := hq.symm.trans (decide_eq_false fun h => h6 h.2.2.2.2.2.2.1)
    clear hq
    go_enter Tryd.func63, Tryd.ntmps63
    go_wp2
    all_goals
      go_ret
      first
        | exact ⟨rfl, hB _⟩
        | exact ⟨congrArg (fun t => Ending.returned (.bool t)) (decide_eq_true (by omega)), hB _⟩
        | exact ⟨congrArg (fun t => Ending.returned (.bool t)) (decide_eq_false (by omega)), hB _⟩
  by_cases h7 : fr ≤ 63
  rotate_left
  · obtain rfl : q = false := hq.symm.trans (decide_eq_false fun h => h7 h.2.2.2.2.2.2.2.1)
    clear hq
    go_enter Tryd.func63, Tryd.ntmps63
    go_wp2
    all_goals
      go_ret
      first
        | exact ⟨rfl, hB _⟩
        | exact ⟨congrArg (fun t => Ending.returned (.bool t)) (decide_eq_true (by omega)), hB _⟩
        | exact ⟨congrArg (fun t => Ending.returned (.bool t)) (decide_eq_false (by omega)), hB _⟩
  have hq2 : q = decide (k = 1 ∧ n ≤ 64 ∨ k ≠ 1 ∧ n = 0) := by
    rw [← hq, Bool.eq_iff_iff, decide_eq_true_eq, decide_eq_true_eq]
    exact ⟨fun h => h.2.2.2.2.2.2.2.2, fun h => ⟨h0, h1, h2, h3, h4, h5, h6, h7, h⟩⟩
  clear hq
  by_cases h8 : k = 1
  · by_cases h9 : n ≤ 64
    · obtain rfl : q = true := hq2.trans (decide_eq_true (.inl ⟨h8, h9⟩))
      subst h8
      clear hq2
      go_enter Tryd.func63, Tryd.ntmps63
      go_wp2
      all_goals
        go_ret
        first
          | exact ⟨rfl, hB _⟩
          | exact ⟨congrArg (fun t => Ending.returned (.bool t)) (decide_eq_true (by omega)), hB _⟩
          | exact ⟨congrArg (fun t => Ending.returned (.bool t)) (decide_eq_false (by omega)), hB _⟩
    · obtain rfl : q = false := hq2.trans (decide_eq_false fun h => by omega)
      subst h8
      clear hq2
      go_enter Tryd.func63, Tryd.ntmps63
      go_wp2
      all_goals
        go_ret
        first
          | exact ⟨rfl, hB _⟩
          | exact ⟨congrArg (fun t => Ending.returned (.bool t)) (decide_eq_true (by omega)), hB _⟩
          | exact ⟨congrArg (fun t => Ending.returned (.bool t)) (decide_eq_false (by omega)), hB _⟩
  · have h10 : ((k : Int) == 1) = false := by simp; omega
    have h11 : ((k : Int) != 1) = true := by simp; omega
    by_cases h9 : n = 0
    · obtain rfl : q = true := hq2.trans (decide_eq_true (.inr ⟨h8, h9⟩))
      subst h9
      clear hq2
      go_enter Tryd.func63, Tryd.ntmps63
      go_wp2
      all_goals
        go_ret
        first
          | exact ⟨rfl, hB _⟩
          | exact ⟨congrArg (fun t => Ending.returned (.bool t)) (decide_eq_true (by omega)), hB _⟩
          | exact ⟨congrArg (fun t => Ending.returned (.bool t)) (decide_eq_false (by omega)), hB _⟩
    · obtain rfl : q = false := hq2.trans (decide_eq_false fun h => by omega)
      have h12 : ((n : Int) == 0) = false := by simp; omega
      clear hq2
      go_enter Tryd.func63, Tryd.ntmps63
      go_wp2
      all_goals
        go_ret
        first
          | exact ⟨rfl, hB _⟩
          | exact ⟨congrArg (fun t => Ending.returned (.bool t)) (decide_eq_true (by omega)), hB _⟩
          | exact ⟨congrArg (fun t => Ending.returned (.bool t)) (decide_eq_false (by omega)), hB _⟩


end Go.Proofs.YtkapnpcolmhdbaaDoor
