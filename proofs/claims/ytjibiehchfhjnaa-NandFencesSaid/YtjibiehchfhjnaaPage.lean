/- The contract of drawbarlaw03.page: 96 bytes in new memory. -/
import Derived.Test.YtjibiehchfhjnaaMem
import Derived.OwnWalk
namespace Go.Proofs.Ytjibiehchfhjnaa
open Go.RowKit
open Drawbar Drawbar.Nand

def pg (n : Nat) : List Nat := (List.range 96).map fun i => (n + i * 7) % 256
theorem pg_length (n : Nat) : (pg n).length = 96 := by simp [pg]
theorem pg_lt (n : Nat) : ∀ x ∈ pg n, x < 256 := by
  intro x hx; unfold pg at hx; obtain ⟨i, _, rfl⟩ := List.mem_map.1 hx; omega
theorem pg_getD (n k : Nat) (h : k < 96) : (pg n).getD k 0 = (n + k * 7) % 256 := by
  rw [List.getD_eq_getElem?_getD]; simp [pg, h]

/-- A row of 96 bytes that was filled as far as the k-th. -/
def fill (f : List Nat) (k : Nat) : List Value := (f.take k ++ List.replicate (96 - k) 0).map bv
theorem fill_set (f : List Nat) (k : Nat) (hf : f.length = 96) (hk : k < 96) : (fill f k).set k (bv (f.getD k 0)) = fill f (k + 1) := by
  unfold fill
  rw [← List.map_set, List.set_append_right _ _ (by rw [List.length_take]; omega)]
  congr 1
  rw [List.length_take, Nat.min_eq_left (by omega), Nat.sub_self, take_getD f k (by omega), List.append_assoc]
  congr 1
  rw [show 96 - k = (96 - (k + 1)) + 1 by omega, List.replicate_succ]
  rfl
theorem fill_all (f : List Nat) (hf : f.length = 96) : fill f 96 = f.map bv := by
  unfold fill; rw [List.take_of_length_le (by omega)]; simp
theorem fill_length (f : List Nat) (k : Nat) (hf : f.length = 96) (hk : k ≤ 96) : (fill f k).length = 96 := by
  unfold fill; simp; omega
theorem made_fill (f : List Nat) : (madeCells #[Value.int .u8 0] 96).toList = fill f 0 := by
  rw [toList_madeCells_one]
  simp [fill, bv]

def OwnsPage (w : World) (B g : Nat) (xs : List Value) : Prop := w.ownsRow B 5 1 (.slice (some ⟨g, 0, none⟩) 96 96) 96 xs

theorem OwnsPage.page {w : World} {B g : Nat} {l : List Nat} (h : OwnsPage w B g (l.map bv)) (hl : ∀ x ∈ l, x < 256) (h96 : l.length = 96) : PageAt w (.slice (some ⟨g, 0, none⟩) 96 96) l := by
  obtain ⟨g2, cap, e, h1, h2, _⟩ := rd_of_own' h hl (by omega) (by omega)
  simp only [Value.slice.injEq, Option.some.injEq, Addr.mk.injEq, and_true] at e
  obtain ⟨rfl, _, rfl⟩ := e
  exact ⟨g, 0, 96, rfl, by omega, h96, h2⟩

/-- A page's bytes in new memory. -/
def NewPage (w : World) (l : List Nat) (e : Ending) (w' : World) : Prop :=
  ∃ d, e = .returned (.slice (some ⟨d, 0, none⟩) 96 96) ∧ w.heap.size ≤ d ∧ OwnsPage w' w.heap.size d (l.map bv) ∧ Below w.heap.size w w'

set_option maxHeartbeats 400000 in
theorem page_any (n : Nat) (w : World) : Calls Try.prog 14 #[.int .u8 n] w (NewPage w (pg n)) := by
  obtain ⟨i0, hi, hz0, hz1, hz2⟩ := info_parts info_u8
  go_enter Try.func14, Try.ntmps14
  go_wp2_with (at_make; refine wpList_make_full _ rfl _ _ 30 rfl w.heap.size 5 i0 (.int .u8 0) 1 Try.underlying30 hi hz0 hz1 .i64 .i64 96 96 96 rfl rfl rfl rfl ?c1 ?c2 (Nat.le_refl _) ?_)
  case c1 => rw [hz2]; decide
  case c2 => decide
  intro w1 hown hgr
  rw [made_fill (pg n)] at hown
  have hB : Below w.heap.size w w1 := (Below.refl _ _).grown hgr (Nat.le_refl _) (fun k hk => by cases hk)
  have hsz : w.heap.size < w1.heap.size := (hown.lt _ rfl).2
  obtain ⟨d, hd⟩ : ∃ d, d = w.heap.size := ⟨_, rfl⟩
  rw [← hd] at hown hsz ⊢
  have hfin : ∀ w', OwnsPage w' d d ((pg n).map bv) → Below d w w' → NewPage w (pg n) (.returned (.slice (some ⟨d, 0, none⟩) 96 96)) w' := fun w' h1 h2 => ⟨d, rfl, Nat.le_of_eq hd.symm, hd ▸ h1, hd ▸ h2⟩
  rw [← hd] at hB
  have HF := Lib.hid hfin
  clear hfin hd hgr hi hz0 hz1 hz2
  go_wp2
  go_loopw [4] (fun i wr => ∃ k : Nat, k ≤ 96 ∧ i = .int .i64 k ∧ OwnsPage wr d d (fill (pg n) k) ∧ Below d w wr) (fun i _ => 96 - (intOf i).toNat)
  case atStart => exact ⟨0, by omega, rfl, hown, hB⟩
  case round =>
    obtain ⟨k, hk, rfl, hown, hB⟩ := hrel
    by_cases hlt : k < 96
    · have hc := World.ownsRow.cellAt hown k (by omega)
      have hf := World.ownsRow.frozenAt hown k
      obtain ⟨u, hu⟩ : ∃ u, (fill (pg n) k)[k]? = some u := ⟨_, List.getElem?_eq_getElem (by rw [fill_length _ _ (pg_length n) hk]; exact hlt)⟩
      rw [hu] at hc
      obtain ⟨hst, hgr⟩ := World.ownsRow.stored hown k (bv ((pg n).getD k 0))
      rw [fill_set _ _ (pg_length n) hlt] at hst
      have hB2 := hB.setCell (p := ⟨d, k, none⟩) (Nat.le_refl d) (bv ((pg n).getD k 0))
      unfold bv at hst hB2
      rw [pg_getD n k hlt] at hst hB2
      have HS := Lib.hid hst
      have HB := Lib.hid hB2
      clear hst hB2 hgr hown hB hu
      go_wp2
      go_roundw
      case rel =>
        exact ⟨k + 1, by omega, by go_num, HS.out, HB.out⟩
      case measure => simp [intOf]; omega
    · obtain rfl : k = 96 := by omega
      rw [fill_all _ (pg_length n)] at hown
      go_wp2
      go_ret
      exact HF.out _ hown hB
end Go.Proofs.Ytjibiehchfhjnaa
