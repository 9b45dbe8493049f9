/- The contract of sheet.Read, with a sharper post: what was read lies in a new block. -/
import Derived.Test.YtkapnpcolmhdbaaDoorRead
namespace Go.Proofs.YtkapnpcolmhdbaaDoor
open Go.RowKit
open Drawbar Drawbar.Sheet
def ReadPostF (w : World) (r : Sh × Nat) (e : Ending) (w' : World) : Prop :=
  ∃ a c, e = .returned (.tuple #[sv r.1 a c, .int .i64 (r.2 : Nat)]) ∧ Rd w' a r.1.da ∧ r.1.da.length ≤ c ∧ (a = none → c = 0) ∧ Below w.heap.size w w' ∧ (0 < r.1.da.length → ∀ k, a = some k → w.heap.size ≤ k.block)
theorem read_zerof (w w' : World) (n : Nat) (hb : Below w.heap.size w w') : ReadPostF w (zeroS, n) (.returned (.tuple #[.agg #[.int .u8 0, .int .u64 0, .int .u64 0, .int .i64 0, .int .i64 0, .slice none 0 0], .int .i64 n])) w' :=
  ⟨none, 0, rfl, rd_nil _, by simp [zeroS], fun _ => rfl, hb, fun h => by simp [zeroS] at h⟩

set_option maxRecDepth 100000 in
set_option maxHeartbeats 4000000 in
theorem sread_fr (l : List Nat) (a : Option Addr) (c : Nat) (w : World) (N : Nat) (hN : l.length = N) (hr : Rd w a l) (hc : l.length ≤ c) (hnil : a = none → c = 0) (hT : Tab w) :
    Calls Tryd.prog 81 #[.slice a N c] w (ReadPostF w (readS l)) := by
  have hbw : Below w.heap.size w (w.alloc zob) := (Below.refl _ _).alloc (Nat.le_refl _) _
  have hblk := heap_alloc_new w zob
  have hb0 := Below.refl (w.heap.size + 1) (w.alloc zob)
  have hsz0 : (w.alloc zob).heap.size = w.heap.size + 1 := by simp
  by_cases h96 : l.length = 96
  · obtain rfl : N = 96 := by omega
    obtain ⟨b, off, rfl, hcell⟩ := hr.2.2 (by omega)
    have hc95 := (fun W hb => by rw [Below.cell (B := w.heap.size) (w := w) (w' := W) hb (World.block_lt_of_cell? w _ (hcell 95 (by omega)))]; exact hcell 95 (by omega) : ∀ W, Below w.heap.size w W → W.cell? ⟨b, off + 95, none⟩ = some (.int .u8 (l.getD 95 0 : Nat))) _ hbw
    clear hcell
    by_cases h90 : l.getD 95 0 = 90
    · rw [h90] at hc95
      have hl95 : (l.take 95).length = 95 := by rw [List.length_take]; omega
      have hl91 : (l.take 91).length = 91 := by rw [List.length_take]; omega
      have htt : (l.take 95).take 91 = l.take 91 := by rw [List.take_take]; rfl
      have hO : ∀ W, Below w.heap.size w W → Calls Tryd.prog 85 #[.slice (some ⟨b, off, none⟩) 95 c] W (fun e w' => Below W.heap.size W w' ∧ (¬ valid (l.take 95) → e = .returned (.tuple #[.slice none 0 0, .int .i64 4])) ∧
          (valid (l.take 95) → ∃ a k, e = .returned (.tuple #[.slice a 91 k, .int .i64 0]) ∧ 91 ≤ k ∧ Rd w' a (l.take 91))) := fun W hb => by
        have h := open_any (l.take 95) (some ⟨b, off, none⟩) c W ((hr.take 95).below hb) (by omega) (hT.below hb hT.pos)
        rw [hl95] at h
        refine h.mono ?_
        rintro e w' ⟨hb1, h1⟩
        rw [hl95] at h1
        refine ⟨hb1, fun hv => ?_, fun hv => ?_⟩
        · rcases h1 with ⟨h1, _⟩ | ⟨_, _, h1⟩ | ⟨h1, _⟩
          · omega
          · exact h1
          · exact absurd h1 hv
        · rcases h1 with ⟨h1, _⟩ | ⟨_, h1, _⟩ | ⟨_, a, k, h2, h3, h4⟩
          · omega
          · exact absurd hv h1
          · rw [show 95 - 4 = 91 from rfl] at h2 h3 h4
            rw [htt] at h4
            exact ⟨a, k, h2, h3, h4⟩
      have HO := Lib.hid hO
      clear hO
      by_cases hv : valid (l.take 95)
      · obtain ⟨x, hx⟩ : ∃ x, partsS (l.take 91) = x := ⟨_, rfl⟩
        have hP : ∀ W a k, Rd W a (l.take 91) → 91 ≤ k → (a = none → k = 0) → Calls Tryd.prog 86 #[.slice a 91 k] W fun e w' => ∃ a' c', e = .returned (sv x a' c') ∧ Rd w' a' x.da ∧ x.da.length ≤ c' ∧ (a' = none → c' = 0) ∧ Below W.heap.size W w' ∧ (0 < x.da.length → ∀ k, a' = some k → W.heap.size ≤ k.block) := fun W a k h1 h2 h3 => by
          have h := parts_any (l.take 91) a k W h1 (by omega) h3 91 hl91
          rw [hx] at h
          exact h
        have HP := Lib.hid hP
        clear hP
        have HT := Lib.hid hT
        have HRL := Lib.hid hr
        have HV := Lib.hid hv
        cases hf : fm x with
        | true =>
          have HFX := Lib.hid hf
          by_cases hpl : page x = l
          · have hR : readS l = (x, 0) := by
              unfold readS
              rw [if_pos ⟨h96, h90⟩, if_pos hv, hx, if_pos ⟨hf, hpl⟩]
            rw [hR]
            have HPL := Lib.hid hpl
            have HLL := Lib.hid h96
            clear hR hf hpl hv hx hr hT h96 h90
            generalize hw1 : w.alloc zob = w1 at *
            go_enter Tryd.func81, Tryd.ntmps81
            go_wp2_with (first
              | (go_at_call 85; (with_reducible refine (HO.out _ hbw).mono ?_); rintro e w2 ⟨hb2', ho1, ho2⟩; obtain ⟨a2, k2, rfl, hk2, hr2⟩ := ho2 HV.out; have hb2 := hb0.trans (hb2'.mono (by omega)); have hn2 : a2 = none → k2 = 0 := (fun h => by obtain ⟨bb, oo, e, _⟩ := hr2.2.2 (by omega); rw [h] at e; cases e); clear ho1 ho2)
              | (go_at_call 86; (with_reducible refine (HP.out _ a2 k2 hr2 hk2 hn2).mono ?_); rintro e w3 ⟨a3, c3, rfl, hr3, hc3, hn3, hb3', hfr3⟩; have hb3 := hb2.trans (hb3'.mono (by have := hb2.size; omega)))
              | (go_at_call 17; (with_reducible refine (lay_gives x a3 c3 _ HFX.out (hr3.below (boxs_below w3 44 x a3 c3)) hc3 hn3 ((HT.out.below (hbw.trans (hb3.mono (Nat.le_succ _))) HT.out.pos).alloc _)).mono ?_); rintro e w5 ⟨a5, k5, rfl, hk5, hr5, hb5', -⟩; have hb5 : Below (w.heap.size + 1) w1 w5 := hb3.trans ((boxs_below w3 44 x a3 c3).trans (hb5'.mono (by simp)) |>.mono (by have := hb3.size; omega)))
              | (go_at_call 87; (with_reducible refine (equal_any (page x) l a5 _ k5 _ w5 96 96 hr5 (HRL.out.below (hbw.trans (hb5.mono (Nat.le_succ _)))) (by rw [HPL.out]; exact HLL.out) HLL.out).mono ?_); rintro e w6 ⟨rfl, rfl⟩; have hdd : decide (page x = l) = true := decide_eq_true HPL.out; obtain ⟨⟨t0, t1, t2, t3, t4, t5⟩, ⟨z0, z1, z2, z3, z4, z5⟩⟩ := six_cells ((hb5.block _ (Nat.lt_succ_self _)).trans hblk); obtain ⟨y0, y1, y2, y3, y4, y5⟩ := boxs_cells w3 44 x a3 c3 _ hb5'))
            have hfr5 : 0 < x.da.length → ∀ k, a3 = some k → k.block ≠ w.heap.size := fun h k hk e => by have := hfr3 h k hk; have := hb2.size; omega
            have hr5x := (((hr3.below (boxs_below w3 44 x a3 c3)).below hb5').grown (six_grown (v0 := .int .u8 x.k) (v1 := .int .u64 x.ep) (v2 := .int .u64 x.sq) (v3 := .int .i64 x.ad) (v4 := .int .i64 x.fr) (v5 := .slice a3 x.da.length c3) (g := w.heap.size)) hfr5)
            have hblkz := six_set (v0 := .int .u8 x.k) (v1 := .int .u64 x.ep) (v2 := .int .u64 x.sq) (v3 := .int .i64 x.ad) (v4 := .int .i64 x.fr) (v5 := .slice a3 x.da.length c3) ((hb5.block _ (Nat.lt_succ_self _)).trans hblk)
            have hbz := hbw.trans ((hb5.mono (Nat.le_succ _)).trans (six_below (v0 := .int .u8 x.k) (v1 := .int .u64 x.ep) (v2 := .int .u64 x.sq) (v3 := .int .i64 x.ad) (v4 := .int .i64 x.fr) (v5 := .slice a3 x.da.length c3) (Nat.le_refl w.heap.size)))
            generalize (((((w5.setCell ⟨w.heap.size, 0, none⟩ (.int .u8 x.k)).setCell ⟨w.heap.size, 1, none⟩ (.int .u64 x.ep)).setCell ⟨w.heap.size, 2, none⟩ (.int .u64 x.sq)).setCell ⟨w.heap.size, 3, none⟩ (.int .i64 x.ad)).setCell ⟨w.heap.size, 4, none⟩ (.int .i64 x.fr)).setCell ⟨w.heap.size, 5, none⟩ (.slice a3 x.da.length c3) = wz at *
            clear t0 t1 t2 t3 t4 t5 z0 z1 z2 z3 z4 z5
            refine bodyPost_ret (results_cell_tmp_row rfl _ _ w.heap.size 44 _ (0, 0) _ rfl hblkz Tryd.underlying44 rfl info_sheet) rfl ?_
            exact ⟨a3, c3, rfl, hr5x, hc3, hn3, hbz, fun h k hk => by have := hfr3 h k hk; have := hb2.size; omega⟩
          · have hR : readS l = (zeroS, 3) := by
              unfold readS
              rw [if_pos ⟨h96, h90⟩, if_pos hv, hx, if_neg (fun h => hpl h.2)]
            rw [hR]
            have HPL := Lib.hid (decide_eq_false hpl)
            have HLL := Lib.hid h96
            have HLX := Lib.hid (page_length x (fm_len hf))
            clear hR hf hpl hv hx hr hT h96 h90
            generalize hw1 : w.alloc zob = w1 at *
            go_enter Tryd.func81, Tryd.ntmps81
            go_wp2_with (first
              | (go_at_call 85; (with_reducible refine (HO.out _ hbw).mono ?_); rintro e w2 ⟨hb2', ho1, ho2⟩; obtain ⟨a2, k2, rfl, hk2, hr2⟩ := ho2 HV.out; have hb2 := hb0.trans (hb2'.mono (by omega)); have hn2 : a2 = none → k2 = 0 := (fun h => by obtain ⟨bb, oo, e, _⟩ := hr2.2.2 (by omega); rw [h] at e; cases e); clear ho1 ho2)
              | (go_at_call 86; (with_reducible refine (HP.out _ a2 k2 hr2 hk2 hn2).mono ?_); rintro e w3 ⟨a3, c3, rfl, hr3, hc3, hn3, hb3', hfr3⟩; have hb3 := hb2.trans (hb3'.mono (by have := hb2.size; omega)))
              | (go_at_call 17; (with_reducible refine (lay_gives x a3 c3 _ HFX.out (hr3.below (boxs_below w3 44 x a3 c3)) hc3 hn3 ((HT.out.below (hbw.trans (hb3.mono (Nat.le_succ _))) HT.out.pos).alloc _)).mono ?_); rintro e w5 ⟨a5, k5, rfl, hk5, hr5, hb5', -⟩; have hb5 : Below (w.heap.size + 1) w1 w5 := hb3.trans ((boxs_below w3 44 x a3 c3).trans (hb5'.mono (by simp)) |>.mono (by have := hb3.size; omega)))
              | (go_at_call 87; (with_reducible refine (equal_any (page x) l a5 _ k5 _ w5 96 96 hr5 (HRL.out.below (hbw.trans (hb5.mono (Nat.le_succ _)))) HLX.out HLL.out).mono ?_); rintro e w6 ⟨rfl, rfl⟩; have hdd := HPL.out; obtain ⟨⟨t0, t1, t2, t3, t4, t5⟩, ⟨z0, z1, z2, z3, z4, z5⟩⟩ := six_cells ((hb5.block _ (Nat.lt_succ_self _)).trans hblk)))
            have hblkz := six_set (v0 := .int .u8 0) (v1 := .int .u64 0) (v2 := .int .u64 0) (v3 := .int .i64 0) (v4 := .int .i64 0) (v5 := .slice none 0 0) ((hb5.block _ (Nat.lt_succ_self _)).trans hblk)
            have hbz := hbw.trans ((hb5.mono (Nat.le_succ _)).trans (six_below (v0 := .int .u8 0) (v1 := .int .u64 0) (v2 := .int .u64 0) (v3 := .int .i64 0) (v4 := .int .i64 0) (v5 := .slice none 0 0) (Nat.le_refl w.heap.size)))
            generalize (((((w5.setCell ⟨w.heap.size, 0, none⟩ (.int .u8 0)).setCell ⟨w.heap.size, 1, none⟩ (.int .u64 0)).setCell ⟨w.heap.size, 2, none⟩ (.int .u64 0)).setCell ⟨w.heap.size, 3, none⟩ (.int .i64 0)).setCell ⟨w.heap.size, 4, none⟩ (.int .i64 0)).setCell ⟨w.heap.size, 5, none⟩ (.slice none 0 0) = wz at *
            clear t0 t1 t2 t3 t4 t5 z0 z1 z2 z3 z4 z5
            refine bodyPost_ret (results_cell_tmp_row rfl _ _ w.heap.size 44 _ (0, 0) _ rfl hblkz Tryd.underlying44 rfl info_sheet) rfl ?_
            exact read_zerof w _ 3 hbz
        | false =>
          have hR : readS l = (zeroS, 3) := by
            unfold readS
            rw [if_pos ⟨h96, h90⟩, if_pos hv, hx, if_neg (fun h => by rw [hf] at h; exact absurd h.1 (by simp))]
          rw [hR]
          have HFX := Lib.hid hf
          have HLL := Lib.hid h96
          have hne : ([] : List Nat) ≠ l := fun h => by rw [← h] at h96; simp at h96
          have HPL := Lib.hid (show decide (l = []) = false from decide_eq_false (fun h => hne h.symm))
          clear hR hf hv hx hr hT h96 h90 hne
          generalize hw1 : w.alloc zob = w1 at *
          go_enter Tryd.func81, Tryd.ntmps81
          go_wp2_with (first
              | (go_at_call 85; (with_reducible refine (HO.out _ hbw).mono ?_); rintro e w2 ⟨hb2', ho1, ho2⟩; obtain ⟨a2, k2, rfl, hk2, hr2⟩ := ho2 HV.out; have hb2 := hb0.trans (hb2'.mono (by omega)); have hn2 : a2 = none → k2 = 0 := (fun h => by obtain ⟨bb, oo, e, _⟩ := hr2.2.2 (by omega); rw [h] at e; cases e); clear ho1 ho2)
              | (go_at_call 86; (with_reducible refine (HP.out _ a2 k2 hr2 hk2 hn2).mono ?_); rintro e w3 ⟨a3, c3, rfl, hr3, hc3, hn3, hb3', hfr3⟩; have hb3 := hb2.trans (hb3'.mono (by have := hb2.size; omega)))
              | (go_at_call 17; (with_reducible refine (lay_none x a3 c3 _ HFX.out).mono ?_); rintro e w5 ⟨rfl, hb5'⟩; have hb5 : Below (w.heap.size + 1) w1 w5 := hb3.trans ((boxs_below w3 44 x a3 c3).trans (hb5'.mono (by simp)) |>.mono (by have := hb3.size; omega)))
              | (go_at_call 87; (with_reducible refine (equal_any [] l none _ 0 _ w5 0 96 (rd_nil _) (HRL.out.below (hbw.trans (hb5.mono (Nat.le_succ _)))) List.length_nil HLL.out).mono ?_); rintro e w6 ⟨rfl, rfl⟩; have hdd := HPL.out; obtain ⟨⟨t0, t1, t2, t3, t4, t5⟩, ⟨z0, z1, z2, z3, z4, z5⟩⟩ := six_cells ((hb5.block _ (Nat.lt_succ_self _)).trans hblk)))
          have hblkz := six_set (v0 := .int .u8 0) (v1 := .int .u64 0) (v2 := .int .u64 0) (v3 := .int .i64 0) (v4 := .int .i64 0) (v5 := .slice none 0 0) ((hb5.block _ (Nat.lt_succ_self _)).trans hblk)
          have hbz := hbw.trans ((hb5.mono (Nat.le_succ _)).trans (six_below (v0 := .int .u8 0) (v1 := .int .u64 0) (v2 := .int .u64 0) (v3 := .int .i64 0) (v4 := .int .i64 0) (v5 := .slice none 0 0) (Nat.le_refl w.heap.size)))
          generalize (((((w5.setCell ⟨w.heap.size, 0, none⟩ (.int .u8 0)).setCell ⟨w.heap.size, 1, none⟩ (.int .u64 0)).setCell ⟨w.heap.size, 2, none⟩ (.int .u64 0)).setCell ⟨w.heap.size, 3, none⟩ (.int .i64 0)).setCell ⟨w.heap.size, 4, none⟩ (.int .i64 0)).setCell ⟨w.heap.size, 5, none⟩ (.slice none 0 0) = wz at *
          clear t0 t1 t2 t3 t4 t5 z0 z1 z2 z3 z4 z5
          refine bodyPost_ret (results_cell_tmp_row rfl _ _ w.heap.size 44 _ (0, 0) _ rfl hblkz Tryd.underlying44 rfl info_sheet) rfl ?_
          exact read_zerof w _ 3 hbz
      · have hR : readS l = (zeroS, 4) := by
          unfold readS
          rw [if_pos ⟨h96, h90⟩, if_neg hv]
        rw [hR]
        have HV := Lib.hid hv
        clear hR hr hT hv h96 h90
        generalize hw1 : w.alloc zob = w1 at *
        go_enter Tryd.func81, Tryd.ntmps81
        go_wp2_with (go_at_call 85; (with_reducible refine (HO.out _ hbw).mono ?_); rintro e w2 ⟨hb2', ho1, ho2⟩; obtain rfl := ho1 HV.out; have hb2 := hb0.trans (hb2'.mono (by omega)); obtain ⟨⟨t0, t1, t2, t3, t4, t5⟩, ⟨z0, z1, z2, z3, z4, z5⟩⟩ := six_cells ((hb2.block _ (Nat.lt_succ_self _)).trans hblk); clear ho1 ho2)
        have hblkz := six_set (v0 := .int .u8 0) (v1 := .int .u64 0) (v2 := .int .u64 0) (v3 := .int .i64 0) (v4 := .int .i64 0) (v5 := .slice none 0 0) ((hb2.block _ (Nat.lt_succ_self _)).trans hblk)
        have hbz := hbw.trans ((hb2.mono (Nat.le_succ _)).trans (six_below (v0 := .int .u8 0) (v1 := .int .u64 0) (v2 := .int .u64 0) (v3 := .int .i64 0) (v4 := .int .i64 0) (v5 := .slice none 0 0) (Nat.le_refl w.heap.size)))
        generalize (((((w2.setCell ⟨w.heap.size, 0, none⟩ (.int .u8 0)).setCell ⟨w.heap.size, 1, none⟩ (.int .u64 0)).setCell ⟨w.heap.size, 2, none⟩ (.int .u64 0)).setCell ⟨w.heap.size, 3, none⟩ (.int .i64 0)).setCell ⟨w.heap.size, 4, none⟩ (.int .i64 0)).setCell ⟨w.heap.size, 5, none⟩ (.slice none 0 0) = wz at *
        clear t0 t1 t2 t3 t4 t5 z0 z1 z2 z3 z4 z5
        refine bodyPost_ret (results_cell_tmp_row rfl _ _ w.heap.size 44 _ (0, 0) _ rfl hblkz Tryd.underlying44 rfl info_sheet) rfl ?_
        exact read_zerof w _ 4 hbz
    · have hR : readS l = (zeroS, 3) := by unfold readS; rw [if_neg (fun h => h90 h.2)]
      rw [hR]
      generalize l.getD 95 0 = y at *
      have hne : ((y : Int) != 90) = true := by simp; omega
      have hfin := read_zerof w (w.alloc zob) 3 hbw
      have HF := Lib.hid hfin
      clear hfin hr hR hT
      go_enter Tryd.func81, Tryd.ntmps81
      go_wp2
      refine bodyPost_ret (results_cell_tmp_row rfl _ _ w.heap.size 44 _ (0, 0) _ rfl hblk Tryd.underlying44 rfl info_sheet) rfl ?_
      exact HF.out
  · have hR : readS l = (zeroS, 3) := by unfold readS; rw [if_neg (fun h => h96 h.1)]
    rw [hR]
    have hne : ((N : Int) != 96) = true := by simp; omega
    have hfin := read_zerof w (w.alloc zob) 3 hbw
    have HF := Lib.hid hfin
    clear hfin hr hT
    go_enter Tryd.func81, Tryd.ntmps81
    go_wp2
    refine bodyPost_ret (results_cell_tmp_row rfl _ _ w.heap.size 44 _ (0, 0) _ rfl hblk Tryd.underlying44 rfl info_sheet) rfl ?_
    exact HF.out
end Go.Proofs.YtkapnpcolmhdbaaDoor
