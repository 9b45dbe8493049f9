/- The contract of sheet.Read. The contract of the document's Lay. The walk of the law SheetBack. A sheet as the document reads it off a page's bytes: the same answers as Read. -/
import Derived.Test.YtmhmmemmdekjhaaDoorZLy
import Derived.Laws.ResultCell
import Derived.Test.YtmhmmemmdekjhaaDoorZRf
namespace Drawbar.Sheet
open Go.Proofs.YtmhmmemmdekjhaaDoor
def zeroS : Sh := ⟨0, 0, 0, 0, 0, []⟩
open Classical in
/-- What Read answers. -/
noncomputable def readS (l : List Nat) : Sh × Nat :=
  if l.length = 96 ∧ l.getD 95 0 = 90 then
    if valid (l.take 95) then
      if fm (partsS (l.take 91)) = true ∧ page (partsS (l.take 91)) = l then (partsS (l.take 91), 0) else (zeroS, 3)
    else (zeroS, 4)
  else (zeroS, 3)
end Drawbar.Sheet
namespace Go.Proofs.YtmhmmemmdekjhaaDoor
open Go.RowKit
open Drawbar Drawbar.Sheet

set_option maxRecDepth 100000 in
theorem results_cell_tmp_row {P : Program} {fn : Func} {p u : Tmp} {ty : TypeId} (h : fn.results = #[.cell p ty, .tmp u]) (tmps : Array Value) (w : World) (g : Nat) (t : TypeId) (cs : Array Value) (fr : Nat × Nat) (d : TypeDesc)
    (hp : tmps.getD p undef = .pointer (some ⟨g, 0, none⟩)) (hg : w.heap[g]? = some (.cells cs t fr))
    (hu : P.underlying ty = some d) (hd : (match d with | .struct _ | .array _ _ => true | _ => false) = true) (hi : (P.info? ty).map (·.size) = some cs.size) :
    (results fn tmps).run P w = .ok (.tuple #[.agg cs, tmps.getD u undef]) w := by
  rw [results_cell_tmp h, hp]
  simp [asAddr, run_loadVar_row w g t ty cs fr d hg hu hd hi, Result.andThen]

set_option maxRecDepth 100000 in
theorem equal_any (l m : List Nat) (a b : Option Addr) (c d : Nat) (w : World) (N M : Nat) (hl : Rd w a l) (hm : Rd w b m) (hN : l.length = N) (hM : m.length = M) :
    Calls Tryd.prog 93 #[.slice a N c, .slice b M d] w fun e w' => e = .returned (.bool (decide (l = m))) ∧ w = w' := by
  subst hN hM
  have h1 := conv_str w a l c hl
  have h2 := conv_str w b m d hm
  have he := str_eq hl.1 hm.1
  generalize strOf l = S1 at *
  generalize strOf m = S2 at *
  clear hl hm
  go_enter Tryd.func93, Tryd.ntmps93
  go_wp2
  go_ret
  exact ⟨by rw [← he]; rfl, rfl⟩

def ReadPost (w : World) (r : Sh × Nat) (e : Ending) (w' : World) : Prop :=
  ∃ a c, e = .returned (.tuple #[sv r.1 a c, .int .i64 (r.2 : Nat)]) ∧ Rd w' a r.1.da ∧ r.1.da.length ≤ c ∧ (a = none → c = 0) ∧ Below w.heap.size w w'

abbrev zob : Obj := .cells #[.int .u8 0, .int .u64 0, .int .u64 0, .int .i64 0, .int .i64 0, .slice none 0 0] 44
set_option maxRecDepth 100000 in
theorem read_zero (w w' : World) (n : Nat) (hb : Below w.heap.size w w') : ReadPost w (zeroS, n) (.returned (.tuple #[.agg #[.int .u8 0, .int .u64 0, .int .u64 0, .int .i64 0, .int .i64 0, .slice none 0 0], .int .i64 n])) w' :=
  ⟨none, 0, rfl, rd_nil _, by simp [zeroS], fun _ => rfl, hb⟩

set_option maxRecDepth 100000 in
set_option maxHeartbeats 4000000 in
theorem sread_any (l : List Nat) (a : Option Addr) (c : Nat) (w : World) (N : Nat) (hN : l.length = N) (hr : Rd w a l) (hc : l.length ≤ c) (hnil : a = none → c = 0) (hT : Tab w) :
    Calls Tryd.prog 87 #[.slice a N c] w (ReadPost w (readS l)) := by
  have hbw : Below w.heap.size w (w.alloc zob) := (Below.refl _ _).alloc (Nat.le_refl _) _
  have hblk := heap_alloc_new w zob
  have hb0 := Below.refl (w.heap.size + 1) (w.alloc zob)
  have hsz0 : (w.alloc zob).heap.size = w.heap.size + 1 := by simp
  by_cases h96 : l.length = 96
  · obtain rfl : N = 96 := by omega
    obtain ⟨b, off, rfl, hcell⟩ := hr.2.2 (by omega)
    have hc95 := (fun W hb => by rw [Below.cell (B := w.heap.size) (w := w) (w' := W) hb (World.block_lt_of_cell? w _ (hcell 95 (by omega)))]; exact hcell 95 (by omega) : ∀ W, Below w.heap.size w W → W.cell? ⟨b, off + 95, none⟩ = some (.int .u8 (l.getD 95 0 : Nat))) _ hbw
    clear hcell
    by_cases h90 : l.getD 95 0 = 90
    · rw [h90] at hc95
      have hl95 : (l.take 95).length = 95 := by rw [List.length_take]; omega
      have hl91 : (l.take 91).length = 91 := by rw [List.length_take]; omega
      have htt : (l.take 95).take 91 = l.take 91 := by rw [List.take_take]; rfl
      have hO : ∀ W, Below w.heap.size w W → Calls Tryd.prog 91 #[.slice (some ⟨b, off, none⟩) 95 c] W (fun e w' => Below W.heap.size W w' ∧ (¬ valid (l.take 95) → e = .returned (.tuple #[.slice none 0 0, .int .i64 4])) ∧
          (valid (l.take 95) → ∃ a k, e = .returned (.tuple #[.slice a 91 k, .int .i64 0]) ∧ 91 ≤ k ∧ Rd w' a (l.take 91))) := fun W hb => by
        have h := open_any (l.take 95) (some ⟨b, off, none⟩) c W ((hr.take 95).below hb) (by omega) (hT.below hb hT.pos)
        rw [hl95] at h
        refine h.mono ?_
        rintro e w' ⟨hb1, h1⟩
        rw [hl95] at h1
        refine ⟨hb1, fun hv => ?_, fun hv => ?_⟩
        · rcases h1 with ⟨h1, _⟩ | ⟨_, _, h1⟩ | ⟨h1, _⟩
          · omega
          · exact h1
          · exact absurd h1 hv
        · rcases h1 with ⟨h1, _⟩ | ⟨_, h1, _⟩ | ⟨_, a, k, h2, h3, h4⟩
          · omega
          · exact absurd hv h1
          · rw [show 95 - 4 = 91 from rfl] at h2 h3 h4
            rw [htt] at h4
            exact ⟨a, k, h2, h3, h4⟩
      have HO := Lib.hid hO
      clear hO
      by_cases hv : valid (l.take 95)
      · obtain ⟨x, hx⟩ : ∃ x, partsS (l.take 91) = x := ⟨_, rfl⟩
        have hP : ∀ W a k, Rd W a (l.take 91) → 91 ≤ k → (a = none → k = 0) → Calls Tryd.prog 92 #[.slice a 91 k] W fun e w' => ∃ a' c', e = .returned (sv x a' c') ∧ Rd w' a' x.da ∧ x.da.length ≤ c' ∧ (a' = none → c' = 0) ∧ Below W.heap.size W w' ∧ (0 < x.da.length → ∀ k, a' = some k → W.heap.size ≤ k.block) := fun W a k h1 h2 h3 => by
          have h := parts_any (l.take 91) a k W h1 (by omega) h3 91 hl91
          rw [hx] at h
          exact h
        have HP := Lib.hid hP
        clear hP
        have HT := Lib.hid hT
        have HRL := Lib.hid hr
        have HV := Lib.hid hv
        cases hf : fm x with
        | true =>
          have HFX := Lib.hid hf
          by_cases hpl : page x = l
          · have hR : readS l = (x, 0) := by
              unfold readS
              rw [if_pos ⟨h96, h90⟩, if_pos hv, hx, if_pos ⟨hf, hpl⟩]
            rw [hR]
            have HPL := Lib.hid hpl
            have HLL := Lib.hid h96
            clear hR hf hpl hv hx hr hT h96 h90
            generalize hw1 : w.alloc zob = w1 at *
            go_enter Tryd.func87, Tryd.ntmps87
            go_wp2_with (first
              | (go_at_call 91; (with_reducible refine (HO.out _ hbw).mono ?_); rintro e w2 ⟨hb2', ho1, ho2⟩; obtain ⟨a2, k2, rfl, hk2, hr2⟩ := ho2 HV.out; have hb2 := hb0.trans (hb2'.mono (by omega)); have hn2 : a2 = none → k2 = 0 := (fun h => by obtain ⟨bb, oo, e, _⟩ := hr2.2.2 (by omega); rw [h] at e; cases e); clear ho1 ho2)
              | (go_at_call 92; (with_reducible refine (HP.out _ a2 k2 hr2 hk2 hn2).mono ?_); rintro e w3 ⟨a3, c3, rfl, hr3, hc3, hn3, hb3', hfr3⟩; have hb3 := hb2.trans (hb3'.mono (by have := hb2.size; omega)))
              | (go_at_call 23; (with_reducible refine (lay_gives x a3 c3 _ HFX.out (hr3.below (boxs_below w3 44 x a3 c3)) hc3 hn3 ((HT.out.below (hbw.trans (hb3.mono (Nat.le_succ _))) HT.out.pos).alloc _)).mono ?_); rintro e w5 ⟨a5, k5, rfl, hk5, hr5, hb5', -⟩; have hb5 : Below (w.heap.size + 1) w1 w5 := hb3.trans ((boxs_below w3 44 x a3 c3).trans (hb5'.mono (by simp)) |>.mono (by have := hb3.size; omega)))
              | (go_at_call 93; (with_reducible refine (equal_any (page x) l a5 _ k5 _ w5 96 96 hr5 (HRL.out.below (hbw.trans (hb5.mono (Nat.le_succ _)))) (by rw [HPL.out]; exact HLL.out) HLL.out).mono ?_); rintro e w6 ⟨rfl, rfl⟩; have hdd : decide (page x = l) = true := decide_eq_true HPL.out; obtain ⟨⟨t0, t1, t2, t3, t4, t5⟩, ⟨z0, z1, z2, z3, z4, z5⟩⟩ := six_cells ((hb5.block _ (Nat.lt_succ_self _)).trans hblk); obtain ⟨y0, y1, y2, y3, y4, y5⟩ := boxs_cells w3 44 x a3 c3 _ hb5'))
            have hfr5 : 0 < x.da.length → ∀ k, a3 = some k → k.block ≠ w.heap.size := fun h k hk e => by have := hfr3 h k hk; have := hb2.size; omega
            have hr5x := (((hr3.below (boxs_below w3 44 x a3 c3)).below hb5').grown (six_grown (v0 := .int .u8 x.k) (v1 := .int .u64 x.ep) (v2 := .int .u64 x.sq) (v3 := .int .i64 x.ad) (v4 := .int .i64 x.fr) (v5 := .slice a3 x.da.length c3) (g := w.heap.size)) hfr5)
            have hblkz := six_set (v0 := .int .u8 x.k) (v1 := .int .u64 x.ep) (v2 := .int .u64 x.sq) (v3 := .int .i64 x.ad) (v4 := .int .i64 x.fr) (v5 := .slice a3 x.da.length c3) ((hb5.block _ (Nat.lt_succ_self _)).trans hblk)
            have hbz := hbw.trans ((hb5.mono (Nat.le_succ _)).trans (six_below (v0 := .int .u8 x.k) (v1 := .int .u64 x.ep) (v2 := .int .u64 x.sq) (v3 := .int .i64 x.ad) (v4 := .int .i64 x.fr) (v5 := .slice a3 x.da.length c3) (Nat.le_refl w.heap.size)))
            generalize (((((w5.setCell ⟨w.heap.size, 0, none⟩ (.int .u8 x.k)).setCell ⟨w.heap.size, 1, none⟩ (.int .u64 x.ep)).setCell ⟨w.heap.size, 2, none⟩ (.int .u64 x.sq)).setCell ⟨w.heap.size, 3, none⟩ (.int .i64 x.ad)).setCell ⟨w.heap.size, 4, none⟩ (.int .i64 x.fr)).setCell ⟨w.heap.size, 5, none⟩ (.slice a3 x.da.length c3) = wz at *
            clear t0 t1 t2 t3 t4 t5 z0 z1 z2 z3 z4 z5
            refine bodyPost_ret (results_cell_tmp_row rfl _ _ w.heap.size 44 _ (0, 0) _ rfl hblkz Tryd.underlying44 rfl info_sheet) rfl ?_
            exact ⟨a3, c3, rfl, hr5x, hc3, hn3, hbz⟩
          · have hR : readS l = (zeroS, 3) := by
              unfold readS
              rw [if_pos ⟨h96, h90⟩, if_pos hv, hx, if_neg (fun h => hpl h.2)]
            rw [hR]
            have HPL := Lib.hid (decide_eq_false hpl)
            have HLL := Lib.hid h96
            have HLX := Lib.hid (page_length x (fm_len hf))
            clear hR hf hpl hv hx hr hT h96 h90
            generalize hw1 : w.alloc zob = w1 at *
            go_enter Tryd.func87, Tryd.ntmps87
            go_wp2_with (first
              | (go_at_call 91; (with_reducible refine (HO.out _ hbw).mono ?_); rintro e w2 ⟨hb2', ho1, ho2⟩; obtain ⟨a2, k2, rfl, hk2, hr2⟩ := ho2 HV.out; have hb2 := hb0.trans (hb2'.mono (by omega)); have hn2 : a2 = none → k2 = 0 := (fun h => by obtain ⟨bb, oo, e, _⟩ := hr2.2.2 (by omega); rw [h] at e; cases e); clear ho1 ho2)
              | (go_at_call 92; (with_reducible refine (HP.out _ a2 k2 hr2 hk2 hn2).mono ?_); rintro e w3 ⟨a3, c3, rfl, hr3, hc3, hn3, hb3', hfr3⟩; have hb3 := hb2.trans (hb3'.mono (by have := hb2.size; omega)))
              | (go_at_call 23; (with_reducible refine (lay_gives x a3 c3 _ HFX.out (hr3.below (boxs_below w3 44 x a3 c3)) hc3 hn3 ((HT.out.below (hbw.trans (hb3.mono (Nat.le_succ _))) HT.out.pos).alloc _)).mono ?_); rintro e w5 ⟨a5, k5, rfl, hk5, hr5, hb5', -⟩; have hb5 : Below (w.heap.size + 1) w1 w5 := hb3.trans ((boxs_below w3 44 x a3 c3).trans (hb5'.mono (by simp)) |>.mono (by have := hb3.size; omega)))
              | (go_at_call 93; (with_reducible refine (equal_any (page x) l a5 _ k5 _ w5 96 96 hr5 (HRL.out.below (hbw.trans (hb5.mono (Nat.le_succ _)))) HLX.out HLL.out).mono ?_); rintro e w6 ⟨rfl, rfl⟩; have hdd := HPL.out; obtain ⟨⟨t0, t1, t2, t3, t4, t5⟩, ⟨z0, z1, z2, z3, z4, z5⟩⟩ := six_cells ((hb5.block _ (Nat.lt_succ_self _)).trans hblk)))
            have hblkz := six_set (v0 := .int .u8 0) (v1 := .int .u64 0) (v2 := .int .u64 0) (v3 := .int .i64 0) (v4 := .int .i64 0) (v5 := .slice none 0 0) ((hb5.block _ (Nat.lt_succ_self _)).trans hblk)
            have hbz := hbw.trans ((hb5.mono (Nat.le_succ _)).trans (six_below (v0 := .int .u8 0) (v1 := .int .u64 0) (v2 := .int .u64 0) (v3 := .int .i64 0) (v4 := .int .i64 0) (v5 := .slice none 0 0) (Nat.le_refl w.heap.size)))
            generalize (((((w5.setCell ⟨w.heap.size, 0, none⟩ (.int .u8 0)).setCell ⟨w.heap.size, 1, none⟩ (.int .u64 0)).setCell ⟨w.heap.size, 2, none⟩ (.int .u64 0)).setCell ⟨w.heap.size, 3, none⟩ (.int .i64 0)).setCell ⟨w.heap.size, 4, none⟩ (.int .i64 0)).setCell ⟨w.heap.size, 5, none⟩ (.slice none 0 0) = wz at *
            clear t0 t1 t2 t3 t4 t5 z0 z1 z2 z3 z4 z5
            refine bodyPost_ret (results_cell_tmp_row rfl _ _ w.heap.size 44 _ (0, 0) _ rfl hblkz Tryd.underlying44 rfl info_sheet) rfl ?_
            exact read_zero w _ 3 hbz
        | false =>
          have hR : readS l = (zeroS, 3) := by
            unfold readS
            rw [if_pos ⟨h96, h90⟩, if_pos hv, hx, if_neg (fun h => by rw [hf] at h; exact absurd h.1 (by simp))]
          rw [hR]
          have HFX := Lib.hid hf
          have HLL := Lib.hid h96
          have hne : ([] : List Nat) ≠ l := fun h => by rw [← h] at h96; simp at h96
          have HPL := Lib.hid (show decide (l = []) = false from decide_eq_false (fun h => hne h.symm))
          clear hR hf hv hx hr hT h96 h90 hne
          generalize hw1 : w.alloc zob = w1 at *
          go_enter Tryd.func87, Tryd.ntmps87
          go_wp2_with (first
              | (go_at_call 91; (with_reducible refine (HO.out _ hbw).mono ?_); rintro e w2 ⟨hb2', ho1, ho2⟩; obtain ⟨a2, k2, rfl, hk2, hr2⟩ := ho2 HV.out; have hb2 := hb0.trans (hb2'.mono (by omega)); have hn2 : a2 = none → k2 = 0 := (fun h => by obtain ⟨bb, oo, e, _⟩ := hr2.2.2 (by omega); rw [h] at e; cases e); clear ho1 ho2)
              | (go_at_call 92; (with_reducible refine (HP.out _ a2 k2 hr2 hk2 hn2).mono ?_); rintro e w3 ⟨a3, c3, rfl, hr3, hc3, hn3, hb3', hfr3⟩; have hb3 := hb2.trans (hb3'.mono (by have := hb2.size; omega)))
              | (go_at_call 23; (with_reducible refine (lay_none x a3 c3 _ HFX.out).mono ?_); rintro e w5 ⟨rfl, hb5'⟩; have hb5 : Below (w.heap.size + 1) w1 w5 := hb3.trans ((boxs_below w3 44 x a3 c3).trans (hb5'.mono (by simp)) |>.mono (by have := hb3.size; omega)))
              | (go_at_call 93; (with_reducible refine (equal_any [] l none _ 0 _ w5 0 96 (rd_nil _) (HRL.out.below (hbw.trans (hb5.mono (Nat.le_succ _)))) List.length_nil HLL.out).mono ?_); rintro e w6 ⟨rfl, rfl⟩; have hdd := HPL.out; obtain ⟨⟨t0, t1, t2, t3, t4, t5⟩, ⟨z0, z1, z2, z3, z4, z5⟩⟩ := six_cells ((hb5.block _ (Nat.lt_succ_self _)).trans hblk)))
          have hblkz := six_set (v0 := .int .u8 0) (v1 := .int .u64 0) (v2 := .int .u64 0) (v3 := .int .i64 0) (v4 := .int .i64 0) (v5 := .slice none 0 0) ((hb5.block _ (Nat.lt_succ_self _)).trans hblk)
          have hbz := hbw.trans ((hb5.mono (Nat.le_succ _)).trans (six_below (v0 := .int .u8 0) (v1 := .int .u64 0) (v2 := .int .u64 0) (v3 := .int .i64 0) (v4 := .int .i64 0) (v5 := .slice none 0 0) (Nat.le_refl w.heap.size)))
          generalize (((((w5.setCell ⟨w.heap.size, 0, none⟩ (.int .u8 0)).setCell ⟨w.heap.size, 1, none⟩ (.int .u64 0)).setCell ⟨w.heap.size, 2, none⟩ (.int .u64 0)).setCell ⟨w.heap.size, 3, none⟩ (.int .i64 0)).setCell ⟨w.heap.size, 4, none⟩ (.int .i64 0)).setCell ⟨w.heap.size, 5, none⟩ (.slice none 0 0) = wz at *
          clear t0 t1 t2 t3 t4 t5 z0 z1 z2 z3 z4 z5
          refine bodyPost_ret (results_cell_tmp_row rfl _ _ w.heap.size 44 _ (0, 0) _ rfl hblkz Tryd.underlying44 rfl info_sheet) rfl ?_
          exact read_zero w _ 3 hbz
      · have hR : readS l = (zeroS, 4) := by
          unfold readS
          rw [if_pos ⟨h96, h90⟩, if_neg hv]
        rw [hR]
        have HV := Lib.hid hv
        clear hR hr hT hv h96 h90
        generalize hw1 : w.alloc zob = w1 at *
        go_enter Tryd.func87, Tryd.ntmps87
        go_wp2_with (go_at_call 91; (with_reducible refine (HO.out _ hbw).mono ?_); rintro e w2 ⟨hb2', ho1, ho2⟩; obtain rfl := ho1 HV.out; have hb2 := hb0.trans (hb2'.mono (by omega)); obtain ⟨⟨t0, t1, t2, t3, t4, t5⟩, ⟨z0, z1, z2, z3, z4, z5⟩⟩ := six_cells ((hb2.block _ (Nat.lt_succ_self _)).trans hblk); clear ho1 ho2)
        have hblkz := six_set (v0 := .int .u8 0) (v1 := .int .u64 0) (v2 := .int .u64 0) (v3 := .int .i64 0) (v4 := .int .i64 0) (v5 := .slice none 0 0) ((hb2.block _ (Nat.lt_succ_self _)).trans hblk)
        have hbz := hbw.trans ((hb2.mono (Nat.le_succ _)).trans (six_below (v0 := .int .u8 0) (v1 := .int .u64 0) (v2 := .int .u64 0) (v3 := .int .i64 0) (v4 := .int .i64 0) (v5 := .slice none 0 0) (Nat.le_refl w.heap.size)))
        generalize (((((w2.setCell ⟨w.heap.size, 0, none⟩ (.int .u8 0)).setCell ⟨w.heap.size, 1, none⟩ (.int .u64 0)).setCell ⟨w.heap.size, 2, none⟩ (.int .u64 0)).setCell ⟨w.heap.size, 3, none⟩ (.int .i64 0)).setCell ⟨w.heap.size, 4, none⟩ (.int .i64 0)).setCell ⟨w.heap.size, 5, none⟩ (.slice none 0 0) = wz at *
        clear t0 t1 t2 t3 t4 t5 z0 z1 z2 z3 z4 z5
        refine bodyPost_ret (results_cell_tmp_row rfl _ _ w.heap.size 44 _ (0, 0) _ rfl hblkz Tryd.underlying44 rfl info_sheet) rfl ?_
        exact read_zero w _ 4 hbz
    · have hR : readS l = (zeroS, 3) := by unfold readS; rw [if_neg (fun h => h90 h.2)]
      rw [hR]
      generalize l.getD 95 0 = y at *
      have hne : ((y : Int) != 90) = true := by simp; omega
      have hfin := read_zero w (w.alloc zob) 3 hbw
      have HF := Lib.hid hfin
      clear hfin hr hR hT
      go_enter Tryd.func87, Tryd.ntmps87
      go_wp2
      refine bodyPost_ret (results_cell_tmp_row rfl _ _ w.heap.size 44 _ (0, 0) _ rfl hblk Tryd.underlying44 rfl info_sheet) rfl ?_
      exact HF.out
  · have hR : readS l = (zeroS, 3) := by unfold readS; rw [if_neg (fun h => h96 h.1)]
    rw [hR]
    have hne : ((N : Int) != 96) = true := by simp; omega
    have hfin := read_zero w (w.alloc zob) 3 hbw
    have HF := Lib.hid hfin
    clear hfin hr hT
    go_enter Tryd.func87, Tryd.ntmps87
    go_wp2
    refine bodyPost_ret (results_cell_tmp_row rfl _ _ w.heap.size 44 _ (0, 0) _ rfl hblk Tryd.underlying44 rfl info_sheet) rfl ?_
    exact HF.out
end Go.Proofs.YtmhmmemmdekjhaaDoor
namespace Go.Proofs.YtmhmmemmdekjhaaDoor
open Go.RowKit
open Drawbar Drawbar.Sheet

set_option maxRecDepth 100000 in
theorem own_below {w w' : World} {B : Nat} {e : TypeId} {size n : Nat} {v : Value} {xs : List Value} (h : w.ownsRow B e size v n xs) (hb : Below w.heap.size w w') : w'.ownsRow B e size v n xs := by
  obtain ⟨hl, h1 | ⟨g, cap, cur, rfl, h1, h2, h3⟩⟩ := h
  · exact ⟨hl, .inl h1⟩
  · exact ⟨hl, .inr ⟨g, cap, cur, rfl, h1, (hb.block g (lt_of_block h2)).trans h2, h3⟩⟩
set_option maxRecDepth 100000 in
theorem own_shape {w : World} {B : Nat} {e : TypeId} {size n : Nat} {v : Value} {xs : List Value} (h : w.ownsRow B e size v n xs) : ∃ a c, v = .slice a n c := by
  obtain ⟨hl, ⟨rfl, rfl⟩ | ⟨g, cap, cur, rfl, _⟩⟩ := h
  · exact ⟨none, 0, rfl⟩
  · exact ⟨_, cap, rfl⟩
set_option maxRecDepth 100000 in
theorem own_one (w : World) (x : Nat) : (w.alloc (.cells #[.int .u8 x] 5)).ownsRow w.heap.size 5 1 (.slice (some ⟨w.heap.size, 0, none⟩) 1 1) 1 ([x].map bv) :=
  ⟨rfl, .inr ⟨w.heap.size, 1, _, rfl, Nat.le_refl _, heap_alloc_new w _, Nat.le_refl _, by unfold maxLen; omega, rfl, rfl⟩⟩
set_option maxRecDepth 100000 in
theorem rd_some {w : World} {a : Option Addr} {l : List Nat} {m c : Nat} (h : Rd w a l) (hl : 0 < l.length) : a = none → m = 0 ∧ c = 0 := fun e => by
  obtain ⟨_, _, e2, _⟩ := h.2.2 hl
  rw [e] at e2; cases e2

set_option maxRecDepth 100000 in
theorem rput6 (n : Nat) (W : World) (x : Int) (hx : x = n) (hn : n < 2 ^ 64) : Calls Tryd.prog 61 #[.int .u64 x, .int .i64 6] W (Gives W (put n 6) 6) := by
  subst hx
  exact (refput_any n 6 W hn (by omega)).mono fun e w' h => gives_of h (put_lt _ _) (put_length _ _) (by omega)
set_option maxRecDepth 100000 in
theorem rput2 (n : Nat) (W : World) (x : Int) (hx : x = n) (hn : n < 2 ^ 64) : Calls Tryd.prog 61 #[.int .u64 x, .int .i64 2] W (Gives W (put n 2) 2) := by
  subst hx
  exact (refput_any n 2 W hn (by omega)).mono fun e w' h => gives_of h (put_lt _ _) (put_length _ _) (by omega)

set_option maxRecDepth 100000 in
set_option maxHeartbeats 4000000 in
theorem refbytes1 (m : List Nat) (a : Option Addr) (c N M : Nat) (w : World) (hr : Rd w a m) (hnil : a = none → c = 0) (hN : m.length = N) (hM : N + 2 = M) (h64 : N ≤ 64) :
    Calls Tryd.prog 62 #[.slice a N c] w (Gives w (laid1 m) M) := by
  obtain ⟨i0, hi, hz0, hz1, hz2⟩ := info_parts info_u8
  have hat : ∀ W, Below w.heap.size w W → At W a (m.map bv) := fun W hb => (hr.below hb).at
  have hx0 : a = none → N = 0 ∧ c = 0 := fun h => ⟨by rw [← hN]; exact hr.ofNil h, hnil h⟩
  have hlt := hr.1
  have HA := Lib.hid hat
  have HX := Lib.hid hx0
  have HL := Lib.hid hlt
  have hml : (m.map bv).length = N * 1 := by simp [hN]
  have hfin : ∀ v w', w'.ownsRow w.heap.size 5 1 v (2 + N) ((put N 2).map bv ++ m.map bv) → Below w.heap.size w w' → Gives w (laid1 m) M (.returned v) w' := fun v w' h hb => by
    refine gives_of ⟨v, rfl, ?_, hb⟩ (app_lt (put_lt _ _) hlt) (by rw [laid1_length]; omega) (by omega)
    rw [laid1_length, hN, Nat.add_comm N 2]
    unfold laid1
    rw [List.map_append, hN]
    exact h
  have HF := Lib.hid hfin
  generalize hG : Gives w (laid1 m) M = G at HF ⊢
  clear hat hx0 hlt hr hnil hfin hG
  go_enter Tryd.func62, Tryd.ntmps62
  go_wp2_with (first
    | (go_at_call 61; (with_reducible refine (rput2 N _ _ rfl (by omega)).mono ?_); rintro e w2 ⟨a2, k2, rfl, hk2, hr2, hb2, hown2⟩)
    | (at_builtin; refine wpList_append_ownz rfl (.tmp 8) (.tmp 9) 42 rfl w.heap.size 5 i0 (.int .u8 0) 1 1 Tryd.underlying42 hi hz0 hz1 hz2 rfl (by decide) _ 2 ((put N 2).map bv) rfl hown2 a N c (m.map bv) rfl HX.out hml (HA.out _ hb2) (bv_one m) (by unfold maxLen; omega) (by omega) hb2.size ?_; intro v3 w3 hown3 hb3))
  have HFF := Lib.hid (HF.out v3 w3 hown3 (hb2.trans hb3))
  clear hown3 hown2
  go_wp2
  exact HFF.out

def slen : Value → Nat
  | .slice _ n _ => n
  | _ => 0
set_option maxRecDepth 100000 in
theorem rseal_at (l : List Nat) (b : Option Addr) (cb : Nat) (W : World) (N M : Nat) (hr : Rd W b l) (hN : l.length = N) (hM : N + 4 = M) (hnil : b = none → cb = 0) (hM2 : M ≤ 1000000) :
    Calls Tryd.prog 63 #[.slice b N cb] W (Gives W (l ++ put (Crc.sum l) 4) M) := by
  subst hN
  exact (refseal_any l b cb W hr hnil).mono fun e w' h => gives_of h (app_lt hr.1 (put_lt _ _)) (by rw [List.length_append, put_length]; exact hM) hM2

set_option maxRecDepth 100000 in
theorem ref_body (s : Sh) (hk : s.k < 256) (hf : -1 ≤ s.fr ∧ s.fr ≤ 63) : ((((([s.k] ++ put s.ep 6) ++ put s.sq 6) ++ put s.ad.toNat 2) ++ [(s.fr + 1).toNat]) ++ laid1 s.da) ++ List.replicate (73 - s.da.length) 0 = body s := by
  have e1 : put s.k 1 = [s.k] := by show [s.k / 2 ^ (8 * 0) % 256] = [s.k]; congr 1; simp; omega
  have e2 : put (s.fr + 1).toNat 1 = [(s.fr + 1).toNat] := by show [(s.fr + 1).toNat / 2 ^ (8 * 0) % 256] = [(s.fr + 1).toNat]; congr 1; simp; omega
  unfold body head
  rw [e1, e2]

set_option maxRecDepth 100000 in
set_option maxHeartbeats 4000000 in
theorem reflay_gives (s : Sh) (a : Option Addr) (c : Nat) (w : World) (hf : fm s = true) (hr : Rd w a s.da) (hnil : a = none → c = 0) :
    Calls Tryd.prog 29 #[sv s a c] w (Gives w (page s) 96) := by
  obtain ⟨i0, hi, hz0, hz1, hz2⟩ := info_parts info_u8
  have hcells := boxs_cells w 47 s a c
  have hB := boxs_below w 47 s a c
  obtain ⟨f1, f2, f3, f4, f5, f6, f7, f8, _⟩ := of_decide_eq_true hf
  have hl := fm_len hf
  have e1 : s.ad = (s.ad.toNat : Int) := by omega
  have e2 : s.fr + 1 = ((s.fr + 1).toNat : Int) := by omega
  have hbody := ref_body s (by omega) ⟨f7, f8⟩
  have hfin : ∀ W v w', Below w.heap.size w W → w'.ownsRow W.heap.size 5 1 v 96 ((page s).map bv) → Below W.heap.size W w' → Gives w (page s) 96 (.returned v) w' := fun W v w' hb h hb' =>
    gives_of ⟨v, rfl, by rw [page_length s hl]; exact ownsRow_base h hb.size, hb.trans (hb'.mono hb.size)⟩ (page_lt s hr.1) (page_length s hl) (by omega)
  have hda := hr.1
  have hR1 := hr.below hB
  have hb0 := Below.refl (w.alloc (boxs 47 s a c)).heap.size (w.alloc (boxs 47 s a c))
  generalize hw1 : w.alloc (boxs 47 s a c) = w1 at *
  change w.alloc (.cells #[.int .u8 s.k, .int .u64 s.ep, .int .u64 s.sq, .int .i64 s.ad, .int .i64 s.fr, .slice a s.da.length c] 47) = w1 at hw1
  have HC := Lib.hid hcells
  have HR := Lib.hid hR1
  have HF := Lib.hid hfin
  have E1 := Lib.hid e1
  have E2 := Lib.hid e2
  have HBD := Lib.hid hbody
  have HBL := Lib.hid (body_length s hl)
  have HLT := Lib.hid (body_lt s hda)
  generalize hG : Gives w (page s) 96 = G at HF ⊢
  obtain ⟨n, hn⟩ : ∃ n, s.da.length = n := ⟨_, rfl⟩
  have HN := Lib.hid hn
  have hown0 := own_one w1 s.k
  have hbz : Below w1.heap.size w1 (w1.alloc (.cells #[.int .u8 s.k] 5)) := hb0.alloc (Nat.le_refl _) _
  obtain ⟨p0, p1, p2, p3, p4, p5⟩ := hcells _ hb0
  obtain ⟨q0, q1, q2, q3, q4, q5⟩ := hcells _ hbz
  clear hfin hcells e1 e2 hR1 hf hr hbody hda hG hn
  go_enter Tryd.func29, Tryd.ntmps29
  go_wp2_with (first
    | (go_at_call 61; (with_reducible refine (rput6 s.ep _ _ rfl (by omega)).mono ?_); rintro e w2 ⟨a2, k2, rfl, hk2, hr2, hb2', -⟩; have hb2 := hbz.trans (hb2'.mono hbz.size); have hown2 := own_below hown0 hb2'; obtain ⟨x20, x21, x22, x23, x24, x25⟩ := HC.out _ hb2)
    | (at_builtin; refine wpList_append_ownz rfl (.tmp 7) (.tmp 10) 42 rfl w1.heap.size 5 i0 (.int .u8 0) 1 1 Tryd.underlying42 hi hz0 hz1 hz2 rfl (by decide) _ 1 (([s.k]).map bv) rfl hown2 a2 6 k2 ((put s.ep 6).map bv) rfl (rd_some hr2 (by rw [put_length]; omega)) (by simp [put_length]) hr2.at (bv_one _) (by unfold maxLen; omega) (by omega) hb2.size ?_; intro v3 w3 hown3' hb3'; rw [← List.map_append] at hown3'; obtain ⟨a3, k3, rfl⟩ := own_shape hown3'; have hown3 : w3.ownsRow w1.heap.size 5 1 (.slice a3 7 k3) 7 (([s.k] ++ put s.ep 6).map bv) := hown3'; have hb3 := hb2.trans hb3'; obtain ⟨x30, x31, x32, x33, x34, x35⟩ := HC.out _ hb3)
    | (go_at_call 61; (with_reducible refine (rput6 s.sq _ _ rfl (by omega)).mono ?_); rintro e w4 ⟨a4, k4, rfl, hk4, hr4, hb4', -⟩; have hb4 := hb3.trans (hb4'.mono hb3.size); have hown4 := own_below hown3 hb4'; obtain ⟨x40, x41, x42, x43, x44, x45⟩ := HC.out _ hb4)
    | (at_builtin; refine wpList_append_ownz rfl (.tmp 12) (.tmp 15) 42 rfl w1.heap.size 5 i0 (.int .u8 0) 1 1 Tryd.underlying42 hi hz0 hz1 hz2 rfl (by decide) _ 7 ((([s.k] ++ put s.ep 6)).map bv) rfl hown4 a4 6 k4 ((put s.sq 6).map bv) rfl (rd_some hr4 (by rw [put_length]; omega)) (by simp [put_length]) hr4.at (bv_one _) (by unfold maxLen; omega) (by omega) hb4.size ?_; intro v5 w5 hown5' hb5'; rw [← List.map_append] at hown5'; obtain ⟨a5, k5, rfl⟩ := own_shape hown5'; have hown5 : w5.ownsRow w1.heap.size 5 1 (.slice a5 13 k5) 13 ((([s.k] ++ put s.ep 6) ++ put s.sq 6).map bv) := hown5'; have hb5 := hb4.trans hb5'; obtain ⟨x50, x51, x52, x53, x54, x55⟩ := HC.out _ hb5)
    | (go_at_call 61; (with_reducible refine (rput2 s.ad.toNat _ _ E1.out (by omega)).mono ?_); rintro e w6 ⟨a6, k6, rfl, hk6, hr6, hb6', -⟩; have hb6 := hb5.trans (hb6'.mono hb5.size); have hown6 := own_below hown5 hb6'; obtain ⟨x60, x61, x62, x63, x64, x65⟩ := HC.out _ hb6)
    | (at_builtin; refine wpList_append_ownz rfl (.tmp 17) (.tmp 21) 42 rfl w1.heap.size 5 i0 (.int .u8 0) 1 1 Tryd.underlying42 hi hz0 hz1 hz2 rfl (by decide) _ 13 (((([s.k] ++ put s.ep 6) ++ put s.sq 6)).map bv) rfl hown6 a6 2 k6 ((put s.ad.toNat 2).map bv) rfl (rd_some hr6 (by rw [put_length]; omega)) (by simp [put_length]) hr6.at (bv_one _) (by unfold maxLen; omega) (by omega) hb6.size ?_; intro v7 w7 hown7' hb7'; rw [← List.map_append] at hown7'; obtain ⟨a7, k7, rfl⟩ := own_shape hown7'; have hown7 : w7.ownsRow w1.heap.size 5 1 (.slice a7 15 k7) 15 (((([s.k] ++ put s.ep 6) ++ put s.sq 6) ++ put s.ad.toNat 2).map bv) := hown7'; have hb7 := hb6.trans hb7'; obtain ⟨x70, x71, x72, x73, x74, x75⟩ := HC.out _ hb7)
    | (at_builtin; refine wpList_append_ownz rfl (.tmp 23) (.tmp 28) 42 rfl w1.heap.size 5 i0 (.int .u8 0) 1 1 Tryd.underlying42 hi hz0 hz1 hz2 rfl (by decide) _ 15 ((((([s.k] ++ put s.ep 6) ++ put s.sq 6) ++ put s.ad.toNat 2)).map bv) rfl (hown7.alloc _) (some ⟨w7.heap.size, 0, none⟩) 1 1 [.int .u8 (s.fr + 1)] rfl (fun h => by cases h) rfl (At.one w7 _ _) (by simp [Value.oneCell']) (by unfold maxLen; omega) (by omega) (by have := hb7.size; simp; omega) ?_; intro v8 w8 hown8' hb8'; obtain ⟨a8, k8, rfl⟩ := own_shape hown8'; have hown8 : w8.ownsRow w1.heap.size 5 1 (.slice a8 16 k8) 16 ((((([s.k] ++ put s.ep 6) ++ put s.sq 6) ++ put s.ad.toNat 2) ++ [(s.fr + 1).toNat]).map bv) := (by rw [List.map_append]; show w8.ownsRow _ _ _ _ _ (_ ++ [.int .u8 ((s.fr + 1).toNat : Int)]); rw [← E2.out]; exact hown8'); have hb8 := (hb7.alloc hb7.size _).trans hb8'; obtain ⟨x80, x81, x82, x83, x84, x85⟩ := HC.out _ hb8)
    | (go_at_call 62; (with_reducible refine (refbytes1 s.da a c _ (s.da.length + 2) _ (HR.out.below hb8) hnil rfl rfl hl).mono ?_); rintro e w9 ⟨a9, k9, rfl, hk9, hr9, hb9', -⟩; have hb9 := hb8.trans (hb9'.mono hb8.size); have hown9 := own_below hown8 hb9'; obtain ⟨x90, x91, x92, x93, x94, x95⟩ := HC.out _ hb9)
    | (at_builtin; refine wpList_append_ownz rfl (.tmp 30) (.tmp 33) 42 rfl w1.heap.size 5 i0 (.int .u8 0) 1 1 Tryd.underlying42 hi hz0 hz1 hz2 rfl (by decide) _ 16 (((((([s.k] ++ put s.ep 6) ++ put s.sq 6) ++ put s.ad.toNat 2) ++ [(s.fr + 1).toNat])).map bv) rfl hown9 a9 (s.da.length + 2) k9 ((laid1 s.da).map bv) rfl (rd_some hr9 (by rw [laid1_length]; omega)) (by simp [laid1_length]) hr9.at (bv_one _) (by unfold maxLen; omega) (by omega) hb9.size ?_; intro v10 w10 hown10' hb10'; rw [← List.map_append] at hown10'; obtain ⟨a10, k10, rfl⟩ := own_shape hown10'; have hb10 := hb9.trans hb10'))
  go_loopw [3] (fun v wr => ∃ j : Nat, j ≤ 73 - s.da.length ∧ ∃ a c, v = .slice a (18 + s.da.length + j) c ∧ wr.ownsRow w1.heap.size 5 1 (.slice a (18 + s.da.length + j) c) (18 + s.da.length + j) (((((((([s.k] ++ put s.ep 6) ++ put s.sq 6) ++ put s.ad.toNat 2) ++ [(s.fr + 1).toNat]) ++ laid1 s.da) ++ List.replicate j 0)).map bv) ∧ Below w1.heap.size w1 wr) (fun v _ => 91 - slen v)
  case atStart => exact ⟨0, Nat.zero_le _, a10, k10, by rw [show 16 + (s.da.length + 2) = 18 + s.da.length + 0 by omega], by rw [List.replicate_zero, List.append_nil, show 18 + s.da.length + 0 = 16 + (s.da.length + 2) by omega]; exact hown10', hb10⟩
  case round =>
    obtain ⟨j, hj, aj, cj, rfl, hownj, hbj⟩ := hrel
    by_cases hlt : 18 + s.da.length + j < 91
    · obtain ⟨N, hN⟩ : ∃ N, 18 + s.da.length + j = N := ⟨_, rfl⟩
      rw [hN] at hownj ⊢
      have i1 : (N : Int) < 91 := by omega
      go_wp2_with (at_builtin; refine wpList_append_ownz rfl (.tmp 38) (.tmp 39) 42 rfl w1.heap.size 5 i0 (.int .u8 0) 1 1 Tryd.underlying42 hi hz0 hz1 hz2 rfl (by decide) _ N _ rfl (hownj.alloc _) (some ⟨wr.heap.size, 0, none⟩) 1 1 [.int .u8 0] rfl (fun h => by cases h) rfl (At.one wr _ _) (by simp [Value.oneCell']) (by unfold maxLen; omega) (by omega) (by have := hbj.size; simp; omega) ?_; intro v12 w12 hown12 hb12; obtain ⟨a12, k12, rfl⟩ := own_shape hown12)
      go_roundw
      case rel =>
        refine ⟨j + 1, by omega, a12, k12, by rw [show 18 + s.da.length + (j + 1) = N + 1 by omega], ?_, (hbj.alloc hbj.size _).trans hb12⟩
        rw [show 18 + s.da.length + (j + 1) = N + 1 by omega, List.replicate_succ', ← List.append_assoc, List.map_append]
        exact hown12
      case measure => simp [slen]; omega
    · obtain rfl : j = 73 - s.da.length := by omega
      rw [HBD.out, show 18 + s.da.length + (73 - s.da.length) = 91 by omega] at hownj
      rw [show 18 + s.da.length + (73 - s.da.length) = 91 by omega]
      have hown91 := hownj
      rw [show (91 : Nat) = (body s).length from HBL.out.symm] at hown91
      obtain ⟨a13, k13, he13, hk13, hr13, -, -⟩ := rd_of_own hown91 HLT.out (by rw [HBL.out]; omega)
      rw [HBL.out] at he13 hk13
      injection he13 with h131 h132 h133
      subst h131 h133
      clear hown91
      go_wp2_with (first
        | (go_at_call 63; (with_reducible refine (rseal_at (body s) _ _ _ 91 95 hr13 HBL.out (by omega) (fun h => ((rd_some (m := 0) (c := cj) hr13 (by rw [HBL.out]; omega)) h).2) (by omega)).mono ?_); rintro e w14 ⟨a14, k14, rfl, hk14, hr14, hb14', hown14⟩; have hb14 := hbj.trans (hb14'.mono hbj.size))
        | (at_builtin; refine wpList_append_ownz rfl (.tmp 42) (.tmp 43) 42 rfl wr.heap.size 5 i0 (.int .u8 0) 1 1 Tryd.underlying42 hi hz0 hz1 hz2 rfl (by decide) _ 95 _ rfl (hown14.alloc _) (some ⟨w14.heap.size, 0, none⟩) 1 1 [.int .u8 90] rfl (fun h => by cases h) rfl (At.one w14 _ _) (by simp [Value.oneCell']) (by unfold maxLen; omega) (by omega) (by have := hb14'.size; simp; omega) ?_; intro v15 w15 hown15 hb15))
      have hown16 : w15.ownsRow wr.heap.size 5 1 v15 96 ((page s).map bv) := by unfold page; simpa [bv] using hown15
      have hf15 := HF.out wr v15 w15 (hB.trans (hbj.mono hB.size)) hown16 ((hb14'.alloc hb14'.size _).trans hb15)
      have HFF := Lib.hid hf15
      clear hown16 hown15 hown14 hf15
      go_wp2
      exact HFF.out
end Go.Proofs.YtmhmmemmdekjhaaDoor
namespace Drawbar.Sheet
open Go.Proofs.YtmhmmemmdekjhaaDoor
set_option maxRecDepth 100000 in
theorem page_take95 {s : Sh} (hl : s.da.length ≤ 64) : (page s).take 95 = body s ++ put (Crc.sum (body s)) 4 := by
  unfold page
  have h : (body s ++ put (Crc.sum (body s)) 4).length = 95 := by rw [List.length_append, body_length s hl, put_length]
  rw [← h, List.take_left]
set_option maxRecDepth 100000 in
theorem page_take91 {s : Sh} (hl : s.da.length ≤ 64) : (page s).take 91 = body s := by
  unfold page
  rw [List.append_assoc, ← body_length s hl, List.take_left]
set_option maxRecDepth 100000 in
theorem page_last {s : Sh} (hl : s.da.length ≤ 64) : (page s).getD 95 0 = 90 := by
  unfold page
  have h : (body s ++ put (Crc.sum (body s)) 4).length = 95 := by rw [List.length_append, body_length s hl, put_length]
  rw [List.getD_eq_getElem?_getD, List.getElem?_append_right (by omega), h]
  rfl
set_option maxRecDepth 100000 in
theorem valid_sealed (b : List Nat) (hb : ∀ x ∈ b, x < 256) : valid (b ++ put (Crc.sum b) 4) := by
  have h : (b ++ put (Crc.sum b) 4).length - 4 = b.length := by rw [List.length_append, put_length]; omega
  refine ⟨by rw [List.length_append, put_length]; omega, ?_⟩
  rw [h, List.drop_left, List.take_left, le_put, Nat.mod_eq_of_lt (by have := Crc.sum_lt b hb; omega)]
set_option maxRecDepth 100000 in
/-- What was laid is read. -/
theorem read_page {s : Sh} (hf : fm s = true) (hd : ∀ x ∈ s.da, x < 256) : readS (page s) = (s, 0) := by
  have hl := fm_len hf
  unfold readS
  rw [if_pos ⟨page_length s hl, page_last hl⟩, page_take95 hl, page_take91 hl, if_pos (valid_sealed _ (body_lt s hd)), parts_back hf, if_pos ⟨hf, rfl⟩]
end Drawbar.Sheet
namespace Go.Proofs.YtmhmmemmdekjhaaDoor
open Go.RowKit
open Drawbar Drawbar.Sheet

end Go.Proofs.YtmhmmemmdekjhaaDoor
namespace Drawbar.Sheet
open Go.Proofs.YtmhmmemmdekjhaaDoor
def rawN (l : List Nat) : Nat := l.getD 16 0 + 256 * l.getD 17 0
def rawS (l : List Nat) : Sh := ⟨l.getD 0 0, Crc.le ((l.drop 1).take 6), Crc.le ((l.drop 7).take 6), Crc.le ((l.drop 13).take 2), (l.getD 15 0 : Int) - 1, (l.drop 18).take (rawN l)⟩

set_option maxRecDepth 100000 in
theorem seg {a b c : List Nat} {n k : Nat} (hn : a.length = n) (hk : b.length = k) : ((a ++ (b ++ c)).drop n).take k = b := by
  subst hn hk
  rw [List.drop_left, List.take_left]
set_option maxRecDepth 100000 in
theorem at_seg {a c : List Nat} {x n : Nat} (hn : a.length = n) : (a ++ (x :: c)).getD n 0 = x := by
  subst hn
  rw [List.getD_eq_getElem?_getD, List.getElem?_append_right (Nat.le_refl _), Nat.sub_self]
  rfl
set_option maxRecDepth 100000 in
theorem put1 {n : Nat} (h : n < 256) : put n 1 = [n] := by
  show [n / 2 ^ (8 * 0) % 256] = [n]
  congr 1
  simp
  omega
set_option maxRecDepth 100000 in
theorem put2 (n : Nat) (h : n < 65536) : put n 2 = [n % 256, n / 256] := by
  show [n / 2 ^ (8 * 0) % 256, n / 2 ^ (8 * 1) % 256] = [n % 256, n / 256]
  congr 1
  · simp
  · congr 1
    omega

set_option maxRecDepth 100000 in
theorem raw_back {s : Sh} (hf : fm s = true) : rawS (body s) = s ∧ rawN (body s) = s.da.length := by
  obtain ⟨a1, a2, a3, a4, a5, a6, a7, a8, a9⟩ := of_decide_eq_true hf
  have hl := fm_len hf
  obtain ⟨z, hz⟩ : ∃ z, z = List.replicate (73 - s.da.length) 0 := ⟨_, rfl⟩
  have hb : body s = s.k :: (put s.ep 6 ++ (put s.sq 6 ++ (put s.ad.toNat 2 ++ ((s.fr + 1).toNat :: (s.da.length % 256 :: (s.da.length / 256 :: (s.da ++ z))))))) := by
    unfold body head laid1
    rw [← hz, put1 (n := s.k) (by omega), put1 (n := (s.fr + 1).toNat) (by omega), put2 s.da.length (by omega)]
    simp only [List.append_assoc, List.cons_append, List.nil_append]
  have e0 : (body s).getD 0 0 = s.k := by rw [hb]; rfl
  have e1 : ((body s).drop 1).take 6 = put s.ep 6 := by
    rw [hb]
    exact seg (a := [s.k]) (by rfl) (put_length _ _)
  have e2 : ((body s).drop 7).take 6 = put s.sq 6 := by
    rw [hb, ← List.singleton_append, ← List.append_assoc]
    exact seg (by simp [put_length]) (put_length _ _)
  have e3 : ((body s).drop 13).take 2 = put s.ad.toNat 2 := by
    rw [hb, ← List.singleton_append, ← List.append_assoc, ← List.append_assoc]
    exact seg (by simp [put_length]) (put_length _ _)
  have e4 : (body s).getD 15 0 = (s.fr + 1).toNat := by
    rw [hb, ← List.singleton_append, ← List.append_assoc, ← List.append_assoc, ← List.append_assoc]
    exact at_seg (by simp [put_length])
  have e5 : (body s).getD 16 0 = s.da.length % 256 := by
    rw [hb, ← List.singleton_append, ← List.append_assoc, ← List.append_assoc, ← List.append_assoc, ← List.singleton_append (x := (s.fr + 1).toNat), ← List.append_assoc]
    exact at_seg (by simp [put_length])
  have e6 : (body s).getD 17 0 = s.da.length / 256 := by
    rw [hb, ← List.singleton_append, ← List.append_assoc, ← List.append_assoc, ← List.append_assoc, ← List.singleton_append (x := (s.fr + 1).toNat), ← List.append_assoc, ← List.singleton_append (x := s.da.length % 256), ← List.append_assoc]
    exact at_seg (by simp [put_length])
  have e7 : rawN (body s) = s.da.length := by unfold rawN; rw [e5, e6]; omega
  have e8 : ((body s).drop 18).take s.da.length = s.da := by
    rw [hb, ← List.singleton_append, ← List.append_assoc, ← List.append_assoc, ← List.append_assoc, ← List.singleton_append (x := (s.fr + 1).toNat), ← List.append_assoc, ← List.singleton_append (x := s.da.length % 256), ← List.append_assoc, ← List.singleton_append (x := s.da.length / 256), ← List.append_assoc]
    exact seg (by simp [put_length]) rfl
  refine ⟨?_, e7⟩
  unfold rawS
  rw [e0, e1, e2, e3, e4, e7, e8, le_put, le_put, le_put, Nat.mod_eq_of_lt (by omega), Nat.mod_eq_of_lt (by omega), Nat.mod_eq_of_lt (by omega)]
  cases s
  simp only [Sh.mk.injEq, true_and, and_true]
  dsimp only at *
  omega

set_option maxRecDepth 100000 in
/-- Read's answer, as the document reckons it. -/
theorem read_raw (l : List Nat) (h96 : l.length = 96) (h90 : l.getD 95 0 = 90) (hv : valid (l.take 95)) :
    (rawN (l.take 91) ≤ 64 ∧ fm (rawS (l.take 91)) = true ∧ page (rawS (l.take 91)) = l → readS l = (rawS (l.take 91), 0)) ∧
    (¬ (rawN (l.take 91) ≤ 64 ∧ fm (rawS (l.take 91)) = true ∧ page (rawS (l.take 91)) = l) → readS l = (zeroS, 3)) := by
  have hR : readS l = if fm (partsS (l.take 91)) = true ∧ page (partsS (l.take 91)) = l then (partsS (l.take 91), 0) else (zeroS, 3) := by
    unfold readS
    rw [if_pos ⟨h96, h90⟩, if_pos hv]
  constructor
  · rintro ⟨_, h2, h3⟩
    have h91 : l.take 91 = body (rawS (l.take 91)) := by
      conv => lhs; rw [← h3]
      exact page_take91 (fm_len h2)
    have hp : partsS (l.take 91) = rawS (l.take 91) := by
      conv => lhs; rw [h91]
      exact parts_back h2
    rw [hR, hp, if_pos ⟨h2, h3⟩]
  · intro hn
    rw [hR, if_neg]
    rintro ⟨h2, h3⟩
    have h91 : l.take 91 = body (partsS (l.take 91)) := by
      conv => lhs; rw [← h3]
      exact page_take91 (fm_len h2)
    have hb := raw_back h2
    rw [← h91] at hb
    exact hn ⟨by rw [hb.2]; exact fm_len h2, by rw [hb.1]; exact h2, by rw [hb.1]; exact h3⟩
end Drawbar.Sheet
