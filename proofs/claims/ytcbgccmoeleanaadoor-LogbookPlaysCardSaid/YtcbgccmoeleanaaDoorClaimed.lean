/- The contract of logbook.claimed. -/
import Derived.Test.YtcbgccmoeleanaaDoorLogA
namespace Drawbar.Log
open Go.RowKit
open Go.Proofs.YtcbgccmoeleanaaDoor Drawbar Drawbar.Sheet
def clmR (r : Sh × Nat) : En := if r.2 = 0 ∧ r.1.k = 3 ∧ r.1.sq = r.1.ep ∧ r.1.fr = -1 ∧ okE ⟨r.1.ep, r.1.ad⟩ = true then ⟨r.1.ep, r.1.ad⟩ else En.z
theorem clm_r (p : List Nat) : clm p = clmR (readS p) := rfl
end Drawbar.Log
namespace Go.Proofs.YtcbgccmoeleanaaDoor.Lg
open Go.RowKit
open Drawbar Drawbar.Sheet Drawbar.Nand Drawbar.Log Go.Proofs.YtcbgccmoeleanaaDoor.Nd

abbrev zbox : Obj := .cells #[.int .u64 0, .int .i64 0] 30
theorem info_entry : (Tryd.prog.info? 30).map (·.size) = some 2 := by kernel_rfl
theorem two_set {w : World} {g : Nat} {u0 u1 v0 v1 : Value} {t : TypeId} (h : w.heap[g]? = some (.cells #[u0, u1] t (0, 0))) :
    ((w.setCell ⟨g, 0, none⟩ v0).setCell ⟨g, 1, none⟩ v1).heap[g]? = some (.cells #[v0, v1] t (0, 0)) := by
  have h6 := set_one (set_one h 0 v0) 1 v1
  simpa using h6
theorem set_below {B : Nat} (w : World) (g o : Nat) (v : Value) (hg : B ≤ g) : Below B w (w.setCell ⟨g, o, none⟩ v) := ⟨rfl, rfl, rfl, by simp [World.setCell], fun k hk => Below.heap_setCell _ _ _ _ (fun e => by simp at e; omega)⟩

set_option maxHeartbeats 4000000 in
theorem claimed_any (p : List Nat) (b off c : Nat) (w : World) (N : Nat) (hN : p.length = N) (h96 : N = 96) (hr : Rd w (some ⟨b, off, none⟩) p) (hc : 96 ≤ c) (hT : Tab w) :
    Calls Tryd.prog 41 #[.slice (some ⟨b, off, none⟩) N c] w fun e w' => e = .returned (ev (clm p)) ∧ Below w.heap.size w w' := by
  subst h96
  obtain ⟨g0, hg0⟩ : ∃ g0, g0 = w.heap.size := ⟨_, rfl⟩
  have hbw : Below w.heap.size w (w.alloc zbox) := (Below.refl _ _).alloc (Nat.le_refl _) _
  have hblk := heap_alloc_new w zbox
  have hsz0 : (w.alloc zbox).heap.size = w.heap.size + 1 := by simp
  have hR := sread_any p (some ⟨b, off, none⟩) c (w.alloc zbox) 96 hN (hr.below hbw) (by omega) (fun h => by cases h) (hT.alloc _)
  rw [clm_r]
  generalize readS p = r at *
  obtain ⟨⟨k, ep, sq, ad, fr, da⟩, z⟩ := r
  have hF := fun W => formed_any ⟨ep, ad⟩ W
  unfold clmR
  dsimp only at hF ⊢
  unfold ReadPost at hR
  dsimp only at hR
  have HR := Lib.hid hR
  have HF := Lib.hid hF
  have HB := Lib.hid hbw
  have HK := Lib.hid hblk
  have HS := Lib.hid hsz0
  clear hR hF hr hT hN hbw hblk hsz0
  by_cases hz : z = 0
  rotate_left
  ·
    have hz2 : ((z : Int) != 0) = true := by simp; omega
    rw [if_neg (fun h => hz h.1)]
    clear hz
    go_enter Tryd.func41, Tryd.ntmps41
    go_wp2_with (first
      | (go_at_call 46; (with_reducible refine HR.out.mono ?_); rintro e w2 ⟨a2, c2, rfl, hr2, hc2, hn2, hb2⟩; have hblk2 := (hb2.block _ (Nat.lt_of_lt_of_eq (Nat.lt_succ_self _) HS.out.symm)).trans HK.out; have hB2 := HB.out.trans (hb2.mono HB.out.size); have hlt2 : w.heap.size < w2.heap.size := Nat.lt_of_lt_of_le (Nat.lt_of_lt_of_eq (Nat.lt_succ_self _) HS.out.symm) hb2.size; have hblk4 := ((Below.refl w2.heap.size w2).alloc (Nat.le_refl _) (.cells #[.int .u8 k, .int .u64 ep, .int .u64 sq, .int .i64 ad, .int .i64 fr, .slice a2 da.length c2] 88)).alloc (Nat.le_of_lt (by simp)) (.cells #[.int .u64 ep, .int .i64 ad] 30); have hB4 := hB2.trans (hblk4.mono (Nat.le_of_lt hlt2)); have hblk5 := (hblk4.block _ hlt2).trans hblk2; have t0 := cell_blk hblk2 0 _ rfl; have t1 := cell_blk hblk2 1 _ rfl; have z0 := frozen_blk hblk2 0; have z1 := frozen_blk hblk2 1; have hsx : (w2.alloc (.cells #[.int .u8 k, .int .u64 ep, .int .u64 sq, .int .i64 ad, .int .i64 fr, .slice a2 da.length c2] 88)).heap.size = w2.heap.size + 1 := (by simp); have hey := heap_alloc_new (w2.alloc (.cells #[.int .u8 k, .int .u64 ep, .int .u64 sq, .int .i64 ad, .int .i64 fr, .slice a2 da.length c2] 88)) (.cells #[.int .u64 ep, .int .i64 ad] 30); rw [hsx] at hey; have hsz4 : w2.heap.size + 1 < ((w2.alloc (.cells #[.int .u8 k, .int .u64 ep, .int .u64 sq, .int .i64 ad, .int .i64 fr, .slice a2 da.length c2] 88)).alloc (.cells #[.int .u64 ep, .int .i64 ad] 30)).heap.size := (by simp)))
    have hfin := two_set (v0 := .int .u64 0) (v1 := .int .i64 0) hblk2
    have hfB := hB2.trans ((set_below _ w.heap.size 0 (.int .u64 0) (Nat.le_refl _)).trans (set_below _ w.heap.size 1 (.int .i64 0) (Nat.le_refl _)))
    have hs3 : ((w2.setCell ⟨w.heap.size, 0, none⟩ (.int .u64 0)).setCell ⟨w.heap.size, 1, none⟩ (.int .i64 0)).heap.size = w2.heap.size := by simp [World.setCell]
    generalize ((w2.setCell ⟨w.heap.size, 0, none⟩ (.int .u64 0)).setCell ⟨w.heap.size, 1, none⟩ (.int .i64 0)) = w3 at *
    have hA3 := ((Below.refl w3.heap.size w3).alloc (Nat.le_refl _) (.cells #[.int .u8 k, .int .u64 ep, .int .u64 sq, .int .i64 ad, .int .i64 fr, .slice a2 da.length c2] 88)).alloc (Nat.le_of_lt (by simp)) (.cells #[.int .u64 ep, .int .i64 ad] 30)
    replace hfin := (hA3.block _ (by rw [hs3]; exact hlt2)).trans hfin
    replace hfB := hfB.trans (hA3.mono hfB.size)
    refine bodyPost_ret (results_cell_row rfl _ _ w.heap.size 30 _ (0, 0) _ rfl hfin Tryd.underlying30 rfl info_entry) rfl ?_
    exact ⟨rfl, hfB⟩
  by_cases hk : k = 3
  rotate_left
  ·
    have hz2 : ((z : Int) != 0) = false := by simp; omega
    have hk2 : ((k : Int) != 3) = true := by simp; omega
    rw [if_neg (fun h => hk h.2.1)]
    clear hk hz
    go_enter Tryd.func41, Tryd.ntmps41
    go_wp2_with (first
      | (go_at_call 46; (with_reducible refine HR.out.mono ?_); rintro e w2 ⟨a2, c2, rfl, hr2, hc2, hn2, hb2⟩; have hblk2 := (hb2.block _ (Nat.lt_of_lt_of_eq (Nat.lt_succ_self _) HS.out.symm)).trans HK.out; have hB2 := HB.out.trans (hb2.mono HB.out.size); have hlt2 : w.heap.size < w2.heap.size := Nat.lt_of_lt_of_le (Nat.lt_of_lt_of_eq (Nat.lt_succ_self _) HS.out.symm) hb2.size; have hblk4 := ((Below.refl w2.heap.size w2).alloc (Nat.le_refl _) (.cells #[.int .u8 k, .int .u64 ep, .int .u64 sq, .int .i64 ad, .int .i64 fr, .slice a2 da.length c2] 88)).alloc (Nat.le_of_lt (by simp)) (.cells #[.int .u64 ep, .int .i64 ad] 30); have hB4 := hB2.trans (hblk4.mono (Nat.le_of_lt hlt2)); have hblk5 := (hblk4.block _ hlt2).trans hblk2; have t0 := cell_blk hblk2 0 _ rfl; have t1 := cell_blk hblk2 1 _ rfl; have z0 := frozen_blk hblk2 0; have z1 := frozen_blk hblk2 1; have hsx : (w2.alloc (.cells #[.int .u8 k, .int .u64 ep, .int .u64 sq, .int .i64 ad, .int .i64 fr, .slice a2 da.length c2] 88)).heap.size = w2.heap.size + 1 := (by simp); have hey := heap_alloc_new (w2.alloc (.cells #[.int .u8 k, .int .u64 ep, .int .u64 sq, .int .i64 ad, .int .i64 fr, .slice a2 da.length c2] 88)) (.cells #[.int .u64 ep, .int .i64 ad] 30); rw [hsx] at hey; have hsz4 : w2.heap.size + 1 < ((w2.alloc (.cells #[.int .u8 k, .int .u64 ep, .int .u64 sq, .int .i64 ad, .int .i64 fr, .slice a2 da.length c2] 88)).alloc (.cells #[.int .u64 ep, .int .i64 ad] 30)).heap.size := (by simp)))
    have hfin := two_set (v0 := .int .u64 0) (v1 := .int .i64 0) hblk2
    have hfB := hB2.trans ((set_below _ w.heap.size 0 (.int .u64 0) (Nat.le_refl _)).trans (set_below _ w.heap.size 1 (.int .i64 0) (Nat.le_refl _)))
    have hs3 : ((w2.setCell ⟨w.heap.size, 0, none⟩ (.int .u64 0)).setCell ⟨w.heap.size, 1, none⟩ (.int .i64 0)).heap.size = w2.heap.size := by simp [World.setCell]
    generalize ((w2.setCell ⟨w.heap.size, 0, none⟩ (.int .u64 0)).setCell ⟨w.heap.size, 1, none⟩ (.int .i64 0)) = w3 at *
    have hA3 := ((Below.refl w3.heap.size w3).alloc (Nat.le_refl _) (.cells #[.int .u8 k, .int .u64 ep, .int .u64 sq, .int .i64 ad, .int .i64 fr, .slice a2 da.length c2] 88)).alloc (Nat.le_of_lt (by simp)) (.cells #[.int .u64 ep, .int .i64 ad] 30)
    replace hfin := (hA3.block _ (by rw [hs3]; exact hlt2)).trans hfin
    replace hfB := hfB.trans (hA3.mono hfB.size)
    refine bodyPost_ret (results_cell_row rfl _ _ w.heap.size 30 _ (0, 0) _ rfl hfin Tryd.underlying30 rfl info_entry) rfl ?_
    exact ⟨rfl, hfB⟩
  by_cases hs : sq = ep
  rotate_left
  ·
    have hz2 : ((z : Int) != 0) = false := by simp; omega
    have hk2 : ((k : Int) != 3) = false := by simp; omega
    have hs2 : ((sq : Int) != (ep : Int)) = true := by simp; omega
    rw [if_neg (fun h => hs h.2.2.1)]
    clear hs hk hz
    go_enter Tryd.func41, Tryd.ntmps41
    go_wp2_with (first
      | (go_at_call 46; (with_reducible refine HR.out.mono ?_); rintro e w2 ⟨a2, c2, rfl, hr2, hc2, hn2, hb2⟩; have hblk2 := (hb2.block _ (Nat.lt_of_lt_of_eq (Nat.lt_succ_self _) HS.out.symm)).trans HK.out; have hB2 := HB.out.trans (hb2.mono HB.out.size); have hlt2 : w.heap.size < w2.heap.size := Nat.lt_of_lt_of_le (Nat.lt_of_lt_of_eq (Nat.lt_succ_self _) HS.out.symm) hb2.size; have hblk4 := ((Below.refl w2.heap.size w2).alloc (Nat.le_refl _) (.cells #[.int .u8 k, .int .u64 ep, .int .u64 sq, .int .i64 ad, .int .i64 fr, .slice a2 da.length c2] 88)).alloc (Nat.le_of_lt (by simp)) (.cells #[.int .u64 ep, .int .i64 ad] 30); have hB4 := hB2.trans (hblk4.mono (Nat.le_of_lt hlt2)); have hblk5 := (hblk4.block _ hlt2).trans hblk2; have t0 := cell_blk hblk2 0 _ rfl; have t1 := cell_blk hblk2 1 _ rfl; have z0 := frozen_blk hblk2 0; have z1 := frozen_blk hblk2 1; have hsx : (w2.alloc (.cells #[.int .u8 k, .int .u64 ep, .int .u64 sq, .int .i64 ad, .int .i64 fr, .slice a2 da.length c2] 88)).heap.size = w2.heap.size + 1 := (by simp); have hey := heap_alloc_new (w2.alloc (.cells #[.int .u8 k, .int .u64 ep, .int .u64 sq, .int .i64 ad, .int .i64 fr, .slice a2 da.length c2] 88)) (.cells #[.int .u64 ep, .int .i64 ad] 30); rw [hsx] at hey; have hsz4 : w2.heap.size + 1 < ((w2.alloc (.cells #[.int .u8 k, .int .u64 ep, .int .u64 sq, .int .i64 ad, .int .i64 fr, .slice a2 da.length c2] 88)).alloc (.cells #[.int .u64 ep, .int .i64 ad] 30)).heap.size := (by simp)))
    have hfin := two_set (v0 := .int .u64 0) (v1 := .int .i64 0) hblk2
    have hfB := hB2.trans ((set_below _ w.heap.size 0 (.int .u64 0) (Nat.le_refl _)).trans (set_below _ w.heap.size 1 (.int .i64 0) (Nat.le_refl _)))
    have hs3 : ((w2.setCell ⟨w.heap.size, 0, none⟩ (.int .u64 0)).setCell ⟨w.heap.size, 1, none⟩ (.int .i64 0)).heap.size = w2.heap.size := by simp [World.setCell]
    generalize ((w2.setCell ⟨w.heap.size, 0, none⟩ (.int .u64 0)).setCell ⟨w.heap.size, 1, none⟩ (.int .i64 0)) = w3 at *
    have hA3 := ((Below.refl w3.heap.size w3).alloc (Nat.le_refl _) (.cells #[.int .u8 k, .int .u64 ep, .int .u64 sq, .int .i64 ad, .int .i64 fr, .slice a2 da.length c2] 88)).alloc (Nat.le_of_lt (by simp)) (.cells #[.int .u64 ep, .int .i64 ad] 30)
    replace hfin := (hA3.block _ (by rw [hs3]; exact hlt2)).trans hfin
    replace hfB := hfB.trans (hA3.mono hfB.size)
    refine bodyPost_ret (results_cell_row rfl _ _ w.heap.size 30 _ (0, 0) _ rfl hfin Tryd.underlying30 rfl info_entry) rfl ?_
    exact ⟨rfl, hfB⟩
  by_cases hf : fr = -1
  rotate_left
  ·
    have hz2 : ((z : Int) != 0) = false := by simp; omega
    have hk2 : ((k : Int) != 3) = false := by simp; omega
    have hs2 : ((sq : Int) != (ep : Int)) = false := by simp; omega
    have hf2 : (fr != -1) = true := by simp; omega
    rw [if_neg (fun h => hf h.2.2.2.1)]
    clear hf hs hk hz
    go_enter Tryd.func41, Tryd.ntmps41
    go_wp2_with (first
      | (go_at_call 46; (with_reducible refine HR.out.mono ?_); rintro e w2 ⟨a2, c2, rfl, hr2, hc2, hn2, hb2⟩; have hblk2 := (hb2.block _ (Nat.lt_of_lt_of_eq (Nat.lt_succ_self _) HS.out.symm)).trans HK.out; have hB2 := HB.out.trans (hb2.mono HB.out.size); have hlt2 : w.heap.size < w2.heap.size := Nat.lt_of_lt_of_le (Nat.lt_of_lt_of_eq (Nat.lt_succ_self _) HS.out.symm) hb2.size; have hblk4 := ((Below.refl w2.heap.size w2).alloc (Nat.le_refl _) (.cells #[.int .u8 k, .int .u64 ep, .int .u64 sq, .int .i64 ad, .int .i64 fr, .slice a2 da.length c2] 88)).alloc (Nat.le_of_lt (by simp)) (.cells #[.int .u64 ep, .int .i64 ad] 30); have hB4 := hB2.trans (hblk4.mono (Nat.le_of_lt hlt2)); have hblk5 := (hblk4.block _ hlt2).trans hblk2; have t0 := cell_blk hblk2 0 _ rfl; have t1 := cell_blk hblk2 1 _ rfl; have z0 := frozen_blk hblk2 0; have z1 := frozen_blk hblk2 1; have hsx : (w2.alloc (.cells #[.int .u8 k, .int .u64 ep, .int .u64 sq, .int .i64 ad, .int .i64 fr, .slice a2 da.length c2] 88)).heap.size = w2.heap.size + 1 := (by simp); have hey := heap_alloc_new (w2.alloc (.cells #[.int .u8 k, .int .u64 ep, .int .u64 sq, .int .i64 ad, .int .i64 fr, .slice a2 da.length c2] 88)) (.cells #[.int .u64 ep, .int .i64 ad] 30); rw [hsx] at hey; have hsz4 : w2.heap.size + 1 < ((w2.alloc (.cells #[.int .u8 k, .int .u64 ep, .int .u64 sq, .int .i64 ad, .int .i64 fr, .slice a2 da.length c2] 88)).alloc (.cells #[.int .u64 ep, .int .i64 ad] 30)).heap.size := (by simp)))
    have hfin := two_set (v0 := .int .u64 0) (v1 := .int .i64 0) hblk2
    have hfB := hB2.trans ((set_below _ w.heap.size 0 (.int .u64 0) (Nat.le_refl _)).trans (set_below _ w.heap.size 1 (.int .i64 0) (Nat.le_refl _)))
    have hs3 : ((w2.setCell ⟨w.heap.size, 0, none⟩ (.int .u64 0)).setCell ⟨w.heap.size, 1, none⟩ (.int .i64 0)).heap.size = w2.heap.size := by simp [World.setCell]
    generalize ((w2.setCell ⟨w.heap.size, 0, none⟩ (.int .u64 0)).setCell ⟨w.heap.size, 1, none⟩ (.int .i64 0)) = w3 at *
    have hA3 := ((Below.refl w3.heap.size w3).alloc (Nat.le_refl _) (.cells #[.int .u8 k, .int .u64 ep, .int .u64 sq, .int .i64 ad, .int .i64 fr, .slice a2 da.length c2] 88)).alloc (Nat.le_of_lt (by simp)) (.cells #[.int .u64 ep, .int .i64 ad] 30)
    replace hfin := (hA3.block _ (by rw [hs3]; exact hlt2)).trans hfin
    replace hfB := hfB.trans (hA3.mono hfB.size)
    refine bodyPost_ret (results_cell_row rfl _ _ w.heap.size 30 _ (0, 0) _ rfl hfin Tryd.underlying30 rfl info_entry) rfl ?_
    exact ⟨rfl, hfB⟩
  cases hok : okE ⟨ep, ad⟩ with
  | false =>
    have hz2 : ((z : Int) != 0) = false := by simp; omega
    have hk2 : ((k : Int) != 3) = false := by simp; omega
    have hs2 : ((sq : Int) != (ep : Int)) = false := by simp; omega
    have hf2 : (fr != -1) = false := by simp; omega
    have HFF : ∀ W, Calls Tryd.prog 25 #[.agg #[.int .u64 ep, .int .i64 ad]] W fun e w' => e = .returned (.bool false) ∧ Below W.heap.size W w' := fun W => by have h := HF.out W; rw [hok] at h; exact h
    clear HF
    have HF := Lib.hid HFF
    clear HFF
    rw [if_neg (fun h => by simp at h)]
    clear hf hs hk hz hok
    go_enter Tryd.func41, Tryd.ntmps41
    go_wp2_with (first
      | (go_at_call 46; (with_reducible refine HR.out.mono ?_); rintro e w2 ⟨a2, c2, rfl, hr2, hc2, hn2, hb2⟩; have hblk2 := (hb2.block _ (Nat.lt_of_lt_of_eq (Nat.lt_succ_self _) HS.out.symm)).trans HK.out; have hB2 := HB.out.trans (hb2.mono HB.out.size); have hlt2 : w.heap.size < w2.heap.size := Nat.lt_of_lt_of_le (Nat.lt_of_lt_of_eq (Nat.lt_succ_self _) HS.out.symm) hb2.size; have hblk4 := ((Below.refl w2.heap.size w2).alloc (Nat.le_refl _) (.cells #[.int .u8 k, .int .u64 ep, .int .u64 sq, .int .i64 ad, .int .i64 fr, .slice a2 da.length c2] 88)).alloc (Nat.le_of_lt (by simp)) (.cells #[.int .u64 ep, .int .i64 ad] 30); have hB4 := hB2.trans (hblk4.mono (Nat.le_of_lt hlt2)); have hblk5 := (hblk4.block _ hlt2).trans hblk2; have t0 := cell_blk hblk2 0 _ rfl; have t1 := cell_blk hblk2 1 _ rfl; have z0 := frozen_blk hblk2 0; have z1 := frozen_blk hblk2 1; have hsx : (w2.alloc (.cells #[.int .u8 k, .int .u64 ep, .int .u64 sq, .int .i64 ad, .int .i64 fr, .slice a2 da.length c2] 88)).heap.size = w2.heap.size + 1 := (by simp); have hey := heap_alloc_new (w2.alloc (.cells #[.int .u8 k, .int .u64 ep, .int .u64 sq, .int .i64 ad, .int .i64 fr, .slice a2 da.length c2] 88)) (.cells #[.int .u64 ep, .int .i64 ad] 30); rw [hsx] at hey; have hsz4 : w2.heap.size + 1 < ((w2.alloc (.cells #[.int .u8 k, .int .u64 ep, .int .u64 sq, .int .i64 ad, .int .i64 fr, .slice a2 da.length c2] 88)).alloc (.cells #[.int .u64 ep, .int .i64 ad] 30)).heap.size := (by simp))
      | (go_at_call 25; (with_reducible refine (HF.out _).mono ?_); rintro e w5 ⟨rfl, hb5⟩; have hblk6 := (hb5.block _ (Nat.lt_trans (Nat.lt_succ_of_lt hlt2) hsz4)).trans hblk5; have hB5 := hB4.trans (hb5.mono hB4.size); have t0 := cell_blk hblk6 0 _ rfl; have t1 := cell_blk hblk6 1 _ rfl; have z0 := frozen_blk hblk6 0; have z1 := frozen_blk hblk6 1; have hey5 := (hb5.block _ hsz4).trans hey; have y0 := cell_blk hey5 0 _ rfl; have y1 := cell_blk hey5 1 _ rfl))
    have hfin := two_set (v0 := .int .u64 0) (v1 := .int .i64 0) hblk6
    have hfB := hB5.trans ((set_below _ w.heap.size 0 (.int .u64 0) (Nat.le_refl _)).trans (set_below _ w.heap.size 1 (.int .i64 0) (Nat.le_refl _)))
    refine bodyPost_ret (results_cell_row rfl _ _ w.heap.size 30 _ (0, 0) _ rfl hfin Tryd.underlying30 rfl info_entry) rfl ?_
    exact ⟨rfl, hfB⟩
  | true =>
    have hz2 : ((z : Int) != 0) = false := by simp; omega
    have hk2 : ((k : Int) != 3) = false := by simp; omega
    have hs2 : ((sq : Int) != (ep : Int)) = false := by simp; omega
    have hf2 : (fr != -1) = false := by simp; omega
    have HFF : ∀ W, Calls Tryd.prog 25 #[.agg #[.int .u64 ep, .int .i64 ad]] W fun e w' => e = .returned (.bool true) ∧ Below W.heap.size W w' := fun W => by have h := HF.out W; rw [hok] at h; exact h
    clear HF
    have HF := Lib.hid HFF
    clear HFF
    rw [if_pos ⟨hz, hk, hs, hf, rfl⟩]
    clear hf hs hk hz hok
    go_enter Tryd.func41, Tryd.ntmps41
    go_wp2_with (first
      | (go_at_call 46; (with_reducible refine HR.out.mono ?_); rintro e w2 ⟨a2, c2, rfl, hr2, hc2, hn2, hb2⟩; have hblk2 := (hb2.block _ (Nat.lt_of_lt_of_eq (Nat.lt_succ_self _) HS.out.symm)).trans HK.out; have hB2 := HB.out.trans (hb2.mono HB.out.size); have hlt2 : w.heap.size < w2.heap.size := Nat.lt_of_lt_of_le (Nat.lt_of_lt_of_eq (Nat.lt_succ_self _) HS.out.symm) hb2.size; have hblk4 := ((Below.refl w2.heap.size w2).alloc (Nat.le_refl _) (.cells #[.int .u8 k, .int .u64 ep, .int .u64 sq, .int .i64 ad, .int .i64 fr, .slice a2 da.length c2] 88)).alloc (Nat.le_of_lt (by simp)) (.cells #[.int .u64 ep, .int .i64 ad] 30); have hB4 := hB2.trans (hblk4.mono (Nat.le_of_lt hlt2)); have hblk5 := (hblk4.block _ hlt2).trans hblk2; have t0 := cell_blk hblk2 0 _ rfl; have t1 := cell_blk hblk2 1 _ rfl; have z0 := frozen_blk hblk2 0; have z1 := frozen_blk hblk2 1; have hsx : (w2.alloc (.cells #[.int .u8 k, .int .u64 ep, .int .u64 sq, .int .i64 ad, .int .i64 fr, .slice a2 da.length c2] 88)).heap.size = w2.heap.size + 1 := (by simp); have hey := heap_alloc_new (w2.alloc (.cells #[.int .u8 k, .int .u64 ep, .int .u64 sq, .int .i64 ad, .int .i64 fr, .slice a2 da.length c2] 88)) (.cells #[.int .u64 ep, .int .i64 ad] 30); rw [hsx] at hey; have hsz4 : w2.heap.size + 1 < ((w2.alloc (.cells #[.int .u8 k, .int .u64 ep, .int .u64 sq, .int .i64 ad, .int .i64 fr, .slice a2 da.length c2] 88)).alloc (.cells #[.int .u64 ep, .int .i64 ad] 30)).heap.size := (by simp))
      | (go_at_call 25; (with_reducible refine (HF.out _).mono ?_); rintro e w5 ⟨rfl, hb5⟩; have hblk6 := (hb5.block _ (Nat.lt_trans (Nat.lt_succ_of_lt hlt2) hsz4)).trans hblk5; have hB5 := hB4.trans (hb5.mono hB4.size); have t0 := cell_blk hblk6 0 _ rfl; have t1 := cell_blk hblk6 1 _ rfl; have z0 := frozen_blk hblk6 0; have z1 := frozen_blk hblk6 1; have hey5 := (hb5.block _ hsz4).trans hey; have y0 := cell_blk hey5 0 _ rfl; have y1 := cell_blk hey5 1 _ rfl))
    have hfin := two_set (v0 := .int .u64 ep) (v1 := .int .i64 ad) hblk6
    have hfB := hB5.trans ((set_below _ w.heap.size 0 (.int .u64 ep) (Nat.le_refl _)).trans (set_below _ w.heap.size 1 (.int .i64 ad) (Nat.le_refl _)))
    refine bodyPost_ret (results_cell_row rfl _ _ w.heap.size 30 _ (0, 0) _ rfl hfin Tryd.underlying30 rfl info_entry) rfl ?_
    exact ⟨rfl, hfB⟩
end Go.Proofs.YtcbgccmoeleanaaDoor.Lg
