/- The contract of scan's addressed. -/
import Derived.Test.YtkapnpcolmhdbaaDoorScanP
import Derived.Test.YtkapnpcolmhdbaaDoorReadF
import Derived.Laws.ResultCell
namespace Go.Proofs.YtkapnpcolmhdbaaDoor.Sc
open Go.RowKit
open Drawbar Drawbar.Sheet Drawbar.Nand Drawbar.Scan

/-- A sheet's data in memory. -/
def DaAt (w : World) (v : Value) (l : List Nat) : Prop := ∃ a c, v = .slice a l.length c ∧ Rd w a l ∧ l.length ≤ c ∧ (a = none → c = 0)
theorem DaAt.below {w w' : World} {v : Value} {l : List Nat} (h : DaAt w v l) (hb : Below w.heap.size w w') : DaAt w' v l := by
  obtain ⟨a, c, rfl, hr, hc, hn⟩ := h
  exact ⟨a, c, rfl, hr.below hb, hc, hn⟩

set_option maxRecDepth 100000 in
set_option maxHeartbeats 2000000 in
theorem adr_yes (m : Int) (l : List Nat) (x : Sh) (hx : adr m l = some x) (a : Option Addr) (c : Nat) (w : World) (N : Nat) (hN : l.length = N) (hr : Rd w a l) (hc : l.length ≤ c) (hnil : a = none → c = 0) (hT : Tab w) :
    Calls Tryd.prog 69 #[.slice a N c, .int .i64 m] w fun e w' => ∃ a' c', e = .returned (.tuple #[sv x a' c', .bool true]) ∧ DaAt w' (.slice a' x.da.length c') x.da ∧ Below w.heap.size w w' ∧ (0 < x.da.length → ∀ k, a' = some k → w.heap.size ≤ k.block) := by
  have hbw : Below w.heap.size w (w.alloc zob) := (Below.refl _ _).alloc (Nat.le_refl _) _
  have hblk := heap_alloc_new w zob
  have hR := sread_fr l a c (w.alloc zob) N hN (hr.below hbw) hc hnil (hT.below hbw hT.pos)
  unfold adr at hx
  split at hx
  · rename_i h1
    obtain ⟨h1, h2, h3⟩ := h1
    cases hx
    rw [show readS l = ((readS l).1, 0) from Prod.ext rfl h1] at hR
    generalize (readS l).1 = x at *
    have hk : ((x.k : Int) == 3) = false := by simp; omega
    have ha : ¬ (m < x.ad) := by omega
    have HR := Lib.hid hR
    have hsz : (w.alloc zob).heap.size = w.heap.size + 1 := by simp
    clear hR h1 h2 h3 hr hT hN hc hnil
    generalize hw1 : w.alloc zob = w1 at *
    go_enter Tryd.func69, Tryd.ntmps69
    go_wp2_with fail
    refine HR.out.mono ?_
    rintro e w2 ⟨a2, c2, rfl, hr2, hc2, hn2, hb2, hfr2⟩
    dsimp only at hr2 hc2 hfr2 ⊢
    have hs2 := hb2.size
    have hblk2 := (hb2.block _ (by omega)).trans hblk
    have hbx := boxs_below w2 44 x a2 c2
    have hblk3 := (hbx.block _ (by omega)).trans hblk2
    obtain ⟨⟨t0, t1, t2, t3, t4, t5⟩, ⟨z0, z1, z2, z3, z4, z5⟩⟩ := six_cells hblk3
    have hfr5 : 0 < x.da.length → ∀ k, a2 = some k → k.block ≠ w.heap.size := fun h k hk e => by have := hfr2 h k hk; omega
    have hr5x := (hr2.below hbx).grown (six_grown (v0 := .int .u8 x.k) (v1 := .int .u64 x.ep) (v2 := .int .u64 x.sq) (v3 := .int .i64 x.ad) (v4 := .int .i64 x.fr) (v5 := .slice a2 x.da.length c2) (g := w.heap.size)) hfr5
    have hblkz := six_set (v0 := .int .u8 x.k) (v1 := .int .u64 x.ep) (v2 := .int .u64 x.sq) (v3 := .int .i64 x.ad) (v4 := .int .i64 x.fr) (v5 := .slice a2 x.da.length c2) hblk3
    have hbz := hbw.trans (((hb2.mono (by omega)).trans (hbx.mono (by omega))).trans (six_below (v0 := .int .u8 x.k) (v1 := .int .u64 x.ep) (v2 := .int .u64 x.sq) (v3 := .int .i64 x.ad) (v4 := .int .i64 x.fr) (v5 := .slice a2 x.da.length c2) (Nat.le_refl w.heap.size)))
    have HF := Lib.hid (And.intro hr5x (And.intro hblkz hbz))
    have hfr6 : 0 < x.da.length → ∀ k, a2 = some k → w.heap.size ≤ k.block := fun h k hk => by have := hfr2 h k hk; omega
    have HC := Lib.hid (And.intro hc2 (And.intro hn2 hfr6))
    clear hfr6
    clear hr5x hblkz hbz hfr5 hr2 hc2 hn2 hfr2 hb2 hblk hblk2 hblk3 hbw hbx HR hw1 hs2 hsz
    go_wp2
    obtain ⟨hr5x, hblkz, hbz⟩ := HF.out
    generalize (((((((w2.alloc (boxs 44 x a2 c2)).setCell ⟨w.heap.size, 0, none⟩ (.int .u8 x.k)).setCell ⟨w.heap.size, 1, none⟩ (.int .u64 x.ep)).setCell ⟨w.heap.size, 2, none⟩ (.int .u64 x.sq)).setCell ⟨w.heap.size, 3, none⟩ (.int .i64 x.ad)).setCell ⟨w.heap.size, 4, none⟩ (.int .i64 x.fr)).setCell ⟨w.heap.size, 5, none⟩ (.slice a2 x.da.length c2)) = wz at *
    clear t0 t1 t2 t3 t4 t5 z0 z1 z2 z3 z4 z5
    refine bodyPost_ret (results_cell_tmp_row rfl _ _ w.heap.size 44 _ (0, 0) _ rfl hblkz Tryd.underlying44 rfl info_sheet) rfl ?_
    exact ⟨a2, c2, rfl, ⟨a2, c2, rfl, hr5x, HC.out.1, HC.out.2.1⟩, hbz, HC.out.2.2⟩
  · cases hx

set_option maxRecDepth 100000 in
set_option maxHeartbeats 2000000 in
theorem adr_no (m : Int) (l : List Nat) (hx : adr m l = none) (a : Option Addr) (c : Nat) (w : World) (N : Nat) (hN : l.length = N) (hr : Rd w a l) (hc : l.length ≤ c) (hnil : a = none → c = 0) (hT : Tab w) :
    Calls Tryd.prog 69 #[.slice a N c, .int .i64 m] w fun e w' => e = .returned (.tuple #[.agg #[.int .u8 0, .int .u64 0, .int .u64 0, .int .i64 0, .int .i64 0, .slice none 0 0], .bool false]) ∧ Below w.heap.size w w' := by
  have hbw : Below w.heap.size w (w.alloc zob) := (Below.refl _ _).alloc (Nat.le_refl _) _
  have hblk := heap_alloc_new w zob
  have hR := sread_fr l a c (w.alloc zob) N hN (hr.below hbw) hc hnil (hT.below hbw hT.pos)
  unfold adr at hx
  split at hx
  · cases hx
  · rename_i h1
    have hcases : ((((readS l).2 : Nat) : Int) != 0) = true ∨ (((((readS l).2 : Nat) : Int) != 0) = false ∧ (((readS l).1.k : Int) == 3) = true) ∨ (((((readS l).2 : Nat) : Int) != 0) = false ∧ (((readS l).1.k : Int) == 3) = false ∧ m < (readS l).1.ad) := by
      simp only [bne_iff_ne, ne_eq, beq_iff_eq, bne_eq_false_iff_eq, beq_eq_false_iff_ne]
      by_cases e1 : (readS l).2 = 0
      · by_cases e2 : (readS l).1.k = 3
        · exact .inr (.inl ⟨by omega, by omega⟩)
        · by_cases e3 : (readS l).1.ad ≤ m
          · exact absurd ⟨e1, e2, e3⟩ h1
          · exact .inr (.inr ⟨by omega, by omega, by omega⟩)
      · exact .inl (by omega)
    clear h1
    generalize readS l = r at *
    obtain ⟨x, z⟩ := r
    dsimp only at hcases
    have HR := Lib.hid hR
    have hsz : (w.alloc zob).heap.size = w.heap.size + 1 := by simp
    clear hR hr hT hN hc hnil
    generalize hw1 : w.alloc zob = w1 at *
    rcases hcases with q1 | ⟨q1, q2⟩ | ⟨q1, q2, q3⟩
    all_goals
      go_enter Tryd.func69, Tryd.ntmps69
      go_wp2_with fail
      refine HR.out.mono ?_
      rintro e w2 ⟨a2, c2, rfl, hr2, hc2, hn2, hb2, hfr2⟩
      dsimp only at hr2 hc2 hfr2 ⊢
      have hs2 := hb2.size
      have hblk2 := (hb2.block _ (by omega)).trans hblk
      have hbx := boxs_below w2 44 x a2 c2
      have hblk3 := (hbx.block _ (by omega)).trans hblk2
      obtain ⟨⟨t0, t1, t2, t3, t4, t5⟩, ⟨z0, z1, z2, z3, z4, z5⟩⟩ := six_cells hblk3
      have hblkz := six_set (v0 := .int .u8 0) (v1 := .int .u64 0) (v2 := .int .u64 0) (v3 := .int .i64 0) (v4 := .int .i64 0) (v5 := .slice none 0 0) hblk3
      have hbz := hbw.trans (((hb2.mono (by omega)).trans (hbx.mono (by omega))).trans (six_below (v0 := .int .u8 0) (v1 := .int .u64 0) (v2 := .int .u64 0) (v3 := .int .i64 0) (v4 := .int .i64 0) (v5 := .slice none 0 0) (Nat.le_refl w.heap.size)))
      have HF := Lib.hid (And.intro hblkz hbz)
      clear hblkz hbz hr2 hc2 hn2 hfr2 hb2 hblk hblk2 hblk3 hbw hbx HR hw1 hs2 hsz
      go_wp2
      obtain ⟨hblkz, hbz⟩ := HF.out
      generalize (((((((w2.alloc (boxs 44 x a2 c2)).setCell ⟨w.heap.size, 0, none⟩ (.int .u8 0)).setCell ⟨w.heap.size, 1, none⟩ (.int .u64 0)).setCell ⟨w.heap.size, 2, none⟩ (.int .u64 0)).setCell ⟨w.heap.size, 3, none⟩ (.int .i64 0)).setCell ⟨w.heap.size, 4, none⟩ (.int .i64 0)).setCell ⟨w.heap.size, 5, none⟩ (.slice none 0 0)) = wz at *
      clear t0 t1 t2 t3 t4 t5 z0 z1 z2 z3 z4 z5
      refine bodyPost_ret (results_cell_tmp_row rfl _ _ w.heap.size 44 _ (0, 0) _ rfl hblkz Tryd.underlying44 rfl info_sheet) rfl ?_
      exact ⟨rfl, hbz⟩
end Go.Proofs.YtkapnpcolmhdbaaDoor.Sc
