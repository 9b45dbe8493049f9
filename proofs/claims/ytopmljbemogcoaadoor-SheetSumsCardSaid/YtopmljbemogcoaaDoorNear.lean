/- The contracts of the laws' of and near. -/
import Derived.Test.YtopmljbemogcoaaDoorForm
namespace Drawbar.Sheet
/-- A sheet with the form, near to one that is any. -/
def nearS (s : Sh) : Sh :=
  ⟨1 + s.k % 3, s.ep / 65536, s.sq / 65536, s.ad % 18446744073709551616 % 65536, s.fr % 18446744073709551616 % 65 - 1, if s.k % 3 = 0 ∧ s.da.length ≤ 64 then s.da else []⟩
theorem near_form (s : Sh) (hep : s.ep < 2 ^ 64) (hsq : s.sq < 2 ^ 64) : fm (nearS s) = true := by
  unfold fm nearS
  dsimp only
  refine decide_eq_true ⟨by omega, by omega, by omega, by omega, by omega, by omega, by omega, by omega, ?_⟩
  by_cases h : s.k % 3 = 0
  · left
    refine ⟨by omega, ?_⟩
    split
    · rename_i h2; exact h2.2
    · simp
  · right
    rw [if_neg (fun h2 => h h2.1)]
    exact ⟨by omega, rfl⟩
end Drawbar.Sheet
namespace Go.Proofs.YtopmljbemogcoaaDoor
open Go.RowKit
open Drawbar Drawbar.Sheet

theorem of_any (s : Sh) (a : Option Addr) (c : Nat) (w : World) :
    Calls Tryd.prog 13 #[sv s a c] w fun e w' => e = .returned (sv s a c) ∧ Below w.heap.size w w' := by
  obtain ⟨c0, c1, c2, c3, c4, c5⟩ := boxs_cells w 25 s a c _ (Below.refl _ _)
  have hB := fun o o' => ((Below.refl w.heap.size w).alloc (Nat.le_refl _) o).alloc (show w.heap.size ≤ (w.alloc o).heap.size by simp) o'
  unfold sv
  obtain ⟨k, ep, sq, ad, fr, da⟩ := s
  dsimp only at *
  generalize da.length = n at *
  go_enter Tryd.func13, Tryd.ntmps13
  go_wp2
  go_returns
  exact ⟨rfl, hB _ _⟩

theorem near_any (s : Sh) (a : Option Addr) (c : Nat) (w : World) (hk : s.k < 256) (hep : s.ep < 2 ^ 64) (hsq : s.sq < 2 ^ 64) (had : -9223372036854775808 ≤ s.ad ∧ s.ad ≤ 9223372036854775807) (hfr : -9223372036854775808 ≤ s.fr ∧ s.fr ≤ 9223372036854775807) :
    Calls Tryd.prog 14 #[sv s a c] w fun e w' => (e = .returned (sv (nearS s) a c) ∨ (nearS s).da = [] ∧ e = .returned (sv (nearS s) none 0)) ∧ Below w.heap.size w w' := by
  obtain ⟨c0, c1, c2, c3, c4, c5⟩ := boxs_cells w 25 s a c _ (Below.refl _ _)
  have hB := fun o o' => ((Below.refl w.heap.size w).alloc (Nat.le_refl _) o).alloc (show w.heap.size ≤ (w.alloc o).heap.size by simp) o'
  unfold sv nearS
  obtain ⟨k, ep, sq, ad, fr, da⟩ := s
  dsimp only at *
  obtain ⟨x, hx, hx2⟩ : ∃ x : Nat, IntKind.u64.wrap ad = (x : Int) ∧ x < 18446744073709551616 := ⟨(IntKind.u64.wrap ad).toNat, by rw [IntKind.wrap_u64]; omega, by rw [IntKind.wrap_u64]; omega⟩
  obtain ⟨y, hy, hy2⟩ : ∃ x : Nat, IntKind.u64.wrap fr = (x : Int) ∧ x < 18446744073709551616 := ⟨(IntKind.u64.wrap fr).toNat, by rw [IntKind.wrap_u64]; omega, by rw [IntKind.wrap_u64]; omega⟩
  rw [show (((1 + k % 3 : Nat)) : Int) = 1 + (k : Int) % 3 by omega, show ((ep / 65536 : Nat) : Int) = (ep : Int) / 65536 by omega, show ((sq / 65536 : Nat) : Int) = (sq : Int) / 65536 by omega,
    show ad % 18446744073709551616 = (x : Int) by rw [← hx, IntKind.wrap_u64], show fr % 18446744073709551616 = (y : Int) by rw [← hy, IntKind.wrap_u64]]
  by_cases hk3 : k % 3 = 0
  · have hk4 : (k : Int) % 3 = 0 := by omega
    by_cases hl : da.length ≤ 64
    · rw [if_pos ⟨hk3, hl⟩]
      generalize hda : da.length = n at *
      go_enter Tryd.func14, Tryd.ntmps14
      go_wp2
      go_returns
      exact ⟨.inl (by rw [hk4]; rfl), hB _ _⟩
    · rw [if_neg (fun h => hl h.2)]
      generalize hda : da.length = n at *
      go_enter Tryd.func14, Tryd.ntmps14
      go_wp2
      go_returns
      exact ⟨.inr ⟨by trivial, by first | rfl | (rw [hk4]; rfl)⟩, hB _ _⟩
  · have hk4 : ¬ (k : Int) % 3 = 0 := by omega
    have hk5 : (1 + (k : Int) % 3 != 1) = true := by simp; omega
    rw [if_neg (fun h => hk3 h.1)]
    generalize hda : da.length = n at *
    go_enter Tryd.func14, Tryd.ntmps14
    go_wp2
    go_returns
    exact ⟨.inr ⟨by trivial, by first | rfl | (rw [hk4]; rfl)⟩, hB _ _⟩

/-- A law's sheet: its parts are in their kinds' bounds. -/
structure Sh.In (s : Sh) : Prop where
  k : s.k < 256
  ep : s.ep < 2 ^ 64
  sq : s.sq < 2 ^ 64
  ad : -9223372036854775808 ≤ s.ad ∧ s.ad ≤ 9223372036854775807
  fr : -9223372036854775808 ≤ s.fr ∧ s.fr ≤ 9223372036854775807

theorem near_at (s : Sh) (a : Option Addr) (c : Nat) (w : World) (h : Sh.In s) (hr : s.da.length ≤ 64 → Rd w a s.da) (hc : s.da.length ≤ c) (hnil : a = none → c = 0) :
    Calls Tryd.prog 14 #[sv s a c] w fun e w' => ∃ a' c', e = .returned (sv (nearS s) a' c') ∧ Below w.heap.size w w' ∧ Rd w' a' (nearS s).da ∧ (nearS s).da.length ≤ c' ∧ (a' = none → c' = 0) := by
  refine (near_any s a c w h.k h.ep h.sq h.ad h.fr).mono ?_
  rintro e w' ⟨h1, hb⟩
  have hd : (nearS s).da = if s.k % 3 = 0 ∧ s.da.length ≤ 64 then s.da else [] := rfl
  rcases h1 with rfl | ⟨h2, rfl⟩
  · by_cases h3 : s.k % 3 = 0 ∧ s.da.length ≤ 64
    · rw [if_pos h3] at hd
      exact ⟨a, c, rfl, hb, by rw [hd]; exact (hr h3.2).below hb, by rw [hd]; exact hc, hnil⟩
    · rw [if_neg h3] at hd
      exact ⟨a, c, rfl, hb, by rw [hd]; exact rd_empty _ _, by rw [hd]; simp, hnil⟩
  · exact ⟨none, 0, rfl, hb, by rw [h2]; exact rd_nil _, by rw [h2]; simp, fun _ => rfl⟩
end Go.Proofs.YtopmljbemogcoaaDoor
