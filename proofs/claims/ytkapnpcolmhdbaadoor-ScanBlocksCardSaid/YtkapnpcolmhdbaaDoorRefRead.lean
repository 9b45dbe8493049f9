/- The contract of the document's Read. -/
import Derived.Test.YtkapnpcolmhdbaaDoorRaw
import Derived.Deep.RegionHeld
import Derived.Deep.CutRange
namespace Go.Proofs.YtkapnpcolmhdbaaDoor
open Go.RowKit
open Drawbar Drawbar.Sheet

set_option maxRecDepth 100000 in
theorem rget_at (l : List Nat) (a : Option Addr) (c N : Nat) (W : World) (hr : Rd W a l) (hN : l.length = N) (h8 : N ≤ 8) :
    Calls Tryd.prog 62 #[.slice a N c] W fun e w' => e = .returned (.int .u64 (Crc.le l : Nat)) ∧ W = w' := by
  subst hN
  exact refget_any l a c W hr h8
set_option maxRecDepth 100000 in
theorem info_rsheet : (Tryd.prog.info? 47).map (·.size) = some 6 := by kernel_rfl
abbrev zobr : Obj := .cells #[.int .u8 0, .int .u64 0, .int .u64 0, .int .i64 0, .int .i64 0, .slice none 0 0] 47

set_option maxRecDepth 100000 in
set_option maxHeartbeats 8000000 in
theorem rread_any (l : List Nat) (a : Option Addr) (c : Nat) (w : World) (N : Nat) (hN : l.length = N) (hr : Rd w a l) (hc : l.length ≤ c) (hnil : a = none → c = 0) :
    Calls Tryd.prog 28 #[.slice a N c] w (ReadPost w (readS l)) := by
  have hbw : Below w.heap.size w (w.alloc zobr) := (Below.refl _ _).alloc (Nat.le_refl _) _
  have hblk := heap_alloc_new w zobr
  have hb0 := Below.refl (w.heap.size + 1) (w.alloc zobr)
  have hsz0 : (w.alloc zobr).heap.size = w.heap.size + 1 := by simp
  by_cases h96 : l.length = 96
  · obtain rfl : N = 96 := by omega
    obtain ⟨b, off, rfl, hcell⟩ := hr.2.2 (by omega)
    have hc95 := (fun W hb => by rw [Below.cell (B := w.heap.size) (w := w) (w' := W) hb (World.block_lt_of_cell? w _ (hcell 95 (by omega)))]; exact hcell 95 (by omega) : ∀ W, Below w.heap.size w W → W.cell? ⟨b, off + 95, none⟩ = some (.int .u8 (l.getD 95 0 : Nat))) _ hbw
    clear hcell
    by_cases h90 : l.getD 95 0 = 90
    · rw [h90] at hc95
      have hl95 : (l.take 95).length = 95 := by rw [List.length_take]; omega
      have hl91 : (l.take 91).length = 91 := by rw [List.length_take]; omega
      have htt : (l.take 95).take 91 = l.take 91 := by rw [List.take_take]; rfl
      have hO : ∀ W, Below w.heap.size w W → Calls Tryd.prog 61 #[.slice (some ⟨b, off, none⟩) 95 c] W (fun e w' => Below W.heap.size W w' ∧ (¬ valid (l.take 95) → e = .returned (.tuple #[.slice none 0 0, .int .i64 4])) ∧
          (valid (l.take 95) → ∃ bb oo k, e = .returned (.tuple #[.slice (some ⟨bb, oo, none⟩) 91 k, .int .i64 0]) ∧ 91 ≤ k ∧ Rd w' (some ⟨bb, oo, none⟩) (l.take 91))) := fun W hb => by
        have h := refopen_any (l.take 95) (some ⟨b, off, none⟩) c W ((hr.take 95).below hb) (by omega)
        rw [hl95] at h
        refine h.mono ?_
        rintro e w' ⟨hb1, h1⟩
        rw [hl95] at h1
        refine ⟨hb1, fun hv => ?_, fun hv => ?_⟩
        · rcases h1 with ⟨h1, _⟩ | ⟨_, _, h1⟩ | ⟨h1, _⟩
          · omega
          · exact h1
          · exact absurd h1 hv
        · rcases h1 with ⟨h1, _⟩ | ⟨_, h1, _⟩ | ⟨_, a, k, h2, h3, h4⟩
          · omega
          · exact absurd hv h1
          · rw [show 95 - 4 = 91 from rfl] at h2 h3 h4
            rw [htt] at h4
            obtain ⟨bb, oo, rfl, _⟩ := h4.2.2 (by omega)
            exact ⟨bb, oo, k, h2, h3, h4⟩
      have HO := Lib.hid hO
      clear hO
      by_cases hv : valid (l.take 95)
      · obtain ⟨hraw1, hraw2⟩ := read_raw l h96 h90 hv
        have HV := Lib.hid hv
        have HRL := Lib.hid hr
        have HLL := Lib.hid h96
        generalize hL : l.take 91 = L at *
        have hn16 := fun W bb oo (h : Rd W (some ⟨bb, oo, none⟩) L) => (show ∀ i, i < 91 → W.cell? ⟨bb, oo + i, none⟩ = some (.int .u8 (L.getD i 0 : Nat)) from by
          obtain ⟨_, _, e, hcl⟩ := h.2.2 (by omega)
          cases e
          exact fun i hi => hcl i (by omega))
        have HCL := Lib.hid hn16
        have hx : ∀ i, i < 91 → ∀ W bb oo, Rd W (some ⟨bb, oo, none⟩) L → L.getD i 0 < 256 := fun i hi W bb oo h => h.1 _ (getD_mem L i (by omega))
        have HX := Lib.hid hx
        have HR1 := Lib.hid hraw1
        have HR2 := Lib.hid hraw2
        have HL91 := Lib.hid hl91
        clear hn16 hx hraw1 hraw2 hv hr h96 h90 hl95 htt hL hl91
        generalize hw1 : w.alloc zobr = w1 at *
        go_enter Tryd.func28, Tryd.ntmps28
        go_wp2_with (first
          | (go_at_call 61; (with_reducible refine (HO.out _ hbw).mono ?_); rintro e w2 ⟨hb2', ho1, ho2⟩; obtain ⟨bb, oo, k2, rfl, hk2, hr2⟩ := ho2 HV.out; have hb2 := hb0.trans (hb2'.mono (by omega)); clear ho1 ho2))
        have c16 := HCL.out w2 bb oo hr2 16 (by omega)
        have c17 := HCL.out w2 bb oo hr2 17 (by omega)
        have b16 := HX.out 16 (by omega) w2 bb oo hr2
        have b17 := HX.out 17 (by omega) w2 bb oo hr2
        obtain ⟨n, hn⟩ : ∃ n, rawN L = n := ⟨_, rfl⟩
        have hnn : L.getD 16 0 + 256 * L.getD 17 0 = n := hn
        generalize L.getD 16 0 = v16 at *
        generalize L.getD 17 0 = v17 at *
        have m1 : IntKind.i64.wrap (v16 : Int) = (v16 : Int) := IntWalk.i64_in _ (by omega)
        have m2 : IntKind.i64.wrap (v17 : Int) = (v17 : Int) := IntWalk.i64_in _ (by omega)
        have m3 : IntKind.i64.wrap (256 * (v17 : Int)) = 256 * (v17 : Int) := IntWalk.i64_in _ (by omega)
        have m4 : IntKind.i64.wrap ((v16 : Int) + 256 * (v17 : Int)) = (n : Int) := by rw [IntWalk.i64_in _ (by omega)]; omega
        go_quiet (fail)
        have hb2q := below_drewN hb2 nq
        have hr2q : Rd (w2.drewN nq) (some ⟨bb, oo, none⟩) L := hr2
        generalize w2.drewN nq = wq at *
        clear hr2 c16 c17 m1 m2 m3 m4
        by_cases hn64 : n ≤ 64
        · obtain ⟨x, hx⟩ : ∃ x, rawS L = x := ⟨_, rfl⟩
          have E1 : Crc.le ((L.drop 1).take 6) = x.ep := by rw [← hx]; rfl
          have E2 : Crc.le ((L.drop 7).take 6) = x.sq := by rw [← hx]; rfl
          have E3 : ((Crc.le ((L.drop 13).take 2) : Nat) : Int) = x.ad := by rw [← hx]; rfl
          have E15 : ((L.getD 15 0 : Nat) : Int) - 1 = x.fr := by rw [← hx]; rfl
          have E0 : L.getD 0 0 = x.k := by rw [← hx]; rfl
          have ED : (L.drop 18).take n = x.da := by rw [← hx, ← hn]; rfl
          have hdl : x.da.length = n := by rw [← ED, List.length_take, List.length_drop, HL91.out]; omega
          rw [hx, hn] at HR1 HR2
          subst hdl
          have c0 := HCL.out wq bb oo hr2q 0 (by omega)
          have c15 := HCL.out wq bb oo hr2q 15 (by omega)
          have b15 := HX.out 15 (by omega) wq bb oo hr2q
          rw [E0, Nat.add_zero] at c0
          generalize L.getD 15 0 = v15 at *
          have rd1 : Rd wq (some ⟨bb, oo + 1, none⟩) ((L.drop 1).take 6) := (hr2q.drop 1).take 6
          have rd2 : Rd wq (some ⟨bb, oo + 7, none⟩) ((L.drop 7).take 6) := (hr2q.drop 7).take 6
          have rd3 : Rd wq (some ⟨bb, oo + 13, none⟩) ((L.drop 13).take 2) := (hr2q.drop 13).take 2
          have rd4 : Rd wq (some ⟨bb, oo + 18, none⟩) x.da := by rw [← ED]; exact (hr2q.drop 18).take x.da.length
          have G1 : ∀ W, Below wq.heap.size wq W → Calls Tryd.prog 62 #[.slice (some ⟨bb, oo + 1, none⟩) 6 (k2 - 1)] W fun e w' => e = .returned (.int .u64 (x.ep : Nat)) ∧ W = w' := fun W hbW => by
            have h := rget_at ((L.drop 1).take 6) (some ⟨bb, oo + 1, none⟩) (k2 - 1) 6 W (rd1.below hbW) (by rw [List.length_take, List.length_drop, HL91.out]; rfl) (by omega)
            rwa [E1] at h
          have G2 : ∀ W, Below wq.heap.size wq W → Calls Tryd.prog 62 #[.slice (some ⟨bb, oo + 7, none⟩) 6 (k2 - 7)] W fun e w' => e = .returned (.int .u64 (x.sq : Nat)) ∧ W = w' := fun W hbW => by
            have h := rget_at ((L.drop 7).take 6) (some ⟨bb, oo + 7, none⟩) (k2 - 7) 6 W (rd2.below hbW) (by rw [List.length_take, List.length_drop, HL91.out]; rfl) (by omega)
            rwa [E2] at h
          have G3 : ∀ W, Below wq.heap.size wq W → Calls Tryd.prog 62 #[.slice (some ⟨bb, oo + 13, none⟩) 2 (k2 - 13)] W fun e w' => e = .returned (.int .u64 x.ad) ∧ W = w' := fun W hbW => by
            have h := rget_at ((L.drop 13).take 2) (some ⟨bb, oo + 13, none⟩) (k2 - 13) 2 W (rd3.below hbW) (by rw [List.length_take, List.length_drop, HL91.out]; rfl) (by omega)
            rwa [E3] at h
          have had : 0 ≤ x.ad ∧ x.ad < 65536 := by
            have h := Crc.le_lt ((L.drop 13).take 2) (fun y hy => hr2q.1 y (List.mem_of_mem_drop (List.mem_of_mem_take hy)))
            rw [List.length_take, List.length_drop, HL91.out] at h
            rw [← E3]
            have h2 : Crc.le ((L.drop 13).take 2) < 65536 := h
            omega
          have hbA : Below wq.heap.size wq wq.drew := (Below.refl _ _).drew
          have hbC : Below wq.heap.size wq (wq.alloc zobr).drew := ((Below.refl _ _).alloc (Nat.le_refl _) _).drew
          have GG1 := Lib.hid G1
          have GG2 := Lib.hid G2
          have GG3 := Lib.hid G3
          have R4 := Lib.hid rd4
          have m1 : IntKind.i64.wrap x.ad = x.ad := IntWalk.i64_in _ (by omega)
          have m2 : IntKind.i64.wrap (v15 : Int) = (v15 : Int) := IntWalk.i64_in _ (by omega)
          have m3 : IntKind.i64.wrap ((v15 : Int) - 1) = x.fr := by rw [IntWalk.i64_in _ (by omega)]; exact E15
          have m4 : IntKind.i64.wrap (18 + (x.da.length : Int)) = 18 + (x.da.length : Int) := IntWalk.i64_in _ (by omega)
          have m5 : (18 : Int) ≤ 18 + (x.da.length : Int) := by omega
          have m6 : 18 + (x.da.length : Int) ≤ (k2 : Int) := by omega
          have m7 : (18 + (x.da.length : Int)).toNat = 18 + x.da.length := by omega
          have m8 : 18 + x.da.length - 18 = x.da.length := by omega
          have m9 : (0 : Int) ≤ 18 + (x.da.length : Int) := by omega
          have q1 : (k2 = 1) = False := by simp; omega
          have q2 : (k2 = 7) = False := by simp; omega
          have q3 : (k2 = 13) = False := by simp; omega
          have q4 : (k2 = 18) = False := by simp; omega
          have q5 : (7 : Int) ≤ (k2 : Int) := by omega
          have q6 : (13 : Int) ≤ (k2 : Int) := by omega
          have q7 : (15 : Int) ≤ (k2 : Int) := by omega
          have hq0 := And.intro c0 c15
          have hq1 := And.intro (cell_alloc zobr c0) (cell_alloc zobr c15)
          have hq2 := And.intro (cell_alloc (boxs 47 x (some ⟨bb, oo + 18, none⟩) (k2 - 18)) c0) (cell_alloc (boxs 47 x (some ⟨bb, oo + 18, none⟩) (k2 - 18)) c15)
          clear G1 G2 G3 E1 E2 E3 E15 E0 ED rd1 rd2 rd3 rd4 hx hn hnn HCL HX b16 b17
          have hn64' : ¬ (64 : Int) < (x.da.length : Int) := by omega
          go_upto_region 9 with fail
          go_cut [7] from 41 to 63 (fun p wx => p = .pointer (some ⟨wq.heap.size, 0, none⟩) ∧ wx = (wq.alloc (boxs 47 x (some ⟨bb, oo + 18, none⟩) (k2 - 18))).drew)
          case first =>
            go_region_held (fun W => W.cell? ⟨bb, oo, none⟩ = some (.int .u8 x.k) ∧ W.cell? ⟨bb, oo + 15, none⟩ = some (.int .u8 v15)) (first | exact hq0 | exact hq1 | exact hq2) (first
              | (go_at_call 62; (with_reducible refine (GG1.out _ (by first | exact hbA | exact hbC)).mono ?_); rintro e w5 ⟨rfl, rfl⟩)
              | (go_at_call 62; (with_reducible refine (GG2.out _ (by first | exact hbA | exact hbC)).mono ?_); rintro e w5 ⟨rfl, rfl⟩)
              | (go_at_call 62; (with_reducible refine (GG3.out _ (by first | exact hbA | exact hbC)).mono ?_); rintro e w5 ⟨rfl, rfl⟩))
            all_goals
              go_wp2_with fail
              go_meet
              exact ⟨rfl, rfl⟩
          case rest =>
            obtain ⟨rfl, rfl⟩ := hcut
            have hby : Below (w.heap.size + 1) w1 (wq.alloc (boxs 47 x (some ⟨bb, oo + 18, none⟩) (k2 - 18))).drew := (hb2q.alloc (by have := hb2q.size; omega) _).drew
            have hqy : Below wq.heap.size wq (wq.alloc (boxs 47 x (some ⟨bb, oo + 18, none⟩) (k2 - 18))).drew := (boxs_below wq _ _ _ _).drew
            have hcy : ∀ W, Below (wq.alloc (boxs 47 x (some ⟨bb, oo + 18, none⟩) (k2 - 18))).drew.heap.size (wq.alloc (boxs 47 x (some ⟨bb, oo + 18, none⟩) (k2 - 18))).drew W → ShAt W wq.heap.size x (some ⟨bb, oo + 18, none⟩) (k2 - 18) ∧ (convert 42 9 (.slice (some ⟨b, off, none⟩) 96 c)).run Tryd.prog W = .ok (.string (strOf l)) W := fun W hb => by
              have hcv := conv_str W (some ⟨b, off, none⟩) l c (HRL.out.below ((hbw.trans (hby.mono (Nat.le_succ _))).trans (hb.mono (by have h1 := hbw.size; have h2 := hby.size; omega))))
              rw [HLL.out] at hcv
              exact ⟨boxs_cells wq _ x _ _ W ((Below.refl _ _).drew.trans hb), hcv⟩
            have hrdy := R4.out.below hqy
            have hbbne : bb ≠ w.heap.size := fun e => by
              obtain ⟨_, _, e2, hcl⟩ := hr2q.2.2 (by rw [HL91.out]; omega)
              cases e2
              have c90 := hcl 90 (by rw [HL91.out]; omega)
              have hz := (hb2q.block _ (Nat.lt_succ_self _)).trans hblk
              rw [e] at c90
              unfold World.cell? at c90
              rw [hz] at c90
              have hlen : ¬ (oo + 90 < 6) := by omega
              simp at c90
            have hdl256 : ∀ u ∈ x.da, u < 256 := R4.out.1
            have hll256 := HRL.out.1
            generalize hwy : (wq.alloc (boxs 47 x (some ⟨bb, oo + 18, none⟩) (k2 - 18))).drew = wy at *
            have hbd := drew_below wy
            generalize hS2 : strOf l = S2 at hcy
            obtain ⟨⟨y0, y1, y2, y3, y4, y5⟩, hcv0⟩ := hcy _ hbd
            have hq0 := And.intro (And.intro y0 (And.intro y1 (And.intro y2 (And.intro y3 (And.intro y4 y5))))) hcv0
            have HCY := Lib.hid hcy
            have HFM := Lib.hid (fun W => srefform_any x (some ⟨bb, oo + 18, none⟩) (k2 - 18) W)
            have HBY := Lib.hid hby
            have HRY := Lib.hid hrdy
            clear GG1 GG2 GG3 hq1 hq2 c0 c15 hcy hcv0 hqy R4
            cases hf : fm x with
            | false =>
              rw [hf] at HFM
              have HRR := Lib.hid (HR2.out (fun h => by rw [hf] at h; exact absurd h.2.1 (by simp)))
              clear HR1 HR2 hf hrdy hdl256 hll256 hq0
              go_wp2
              first
                | (go_region_with (go_at_call 63; (with_reducible refine (HFM.out _).mono ?_); rintro e w6 ⟨rfl, hb'⟩; have hb6 := (show Below wy.heap.size wy _ by assumption).trans (hb'.mono (show Below wy.heap.size wy _ by assumption).size); clear hb'))
                | fail
              all_goals
                have hbE : Below (w.heap.size + 1) w1 w6 := HBY.out.trans (hb6.mono (by have := HBY.out.size; omega))
                obtain ⟨⟨t0, t1, t2, t3, t4, t5⟩, ⟨z0, z1, z2, z3, z4, z5⟩⟩ := six_cells ((hbE.block _ (Nat.lt_succ_self _)).trans hblk)
                go_wp2
                have hblkz := six_set (v0 := .int .u8 0) (v1 := .int .u64 0) (v2 := .int .u64 0) (v3 := .int .i64 0) (v4 := .int .i64 0) (v5 := .slice none 0 0) ((hbE.block _ (Nat.lt_succ_self _)).trans hblk)
                have hbz := hbw.trans ((hbE.mono (Nat.le_succ _)).trans (six_below (v0 := .int .u8 0) (v1 := .int .u64 0) (v2 := .int .u64 0) (v3 := .int .i64 0) (v4 := .int .i64 0) (v5 := .slice none 0 0) (Nat.le_refl w.heap.size)))
                generalize (((((w6.setCell ⟨w.heap.size, 0, none⟩ (.int .u8 0)).setCell ⟨w.heap.size, 1, none⟩ (.int .u64 0)).setCell ⟨w.heap.size, 2, none⟩ (.int .u64 0)).setCell ⟨w.heap.size, 3, none⟩ (.int .i64 0)).setCell ⟨w.heap.size, 4, none⟩ (.int .i64 0)).setCell ⟨w.heap.size, 5, none⟩ (.slice none 0 0) = wz at *
                clear t0 t1 t2 t3 t4 t5 z0 z1 z2 z3 z4 z5
                refine bodyPost_ret (results_cell_tmp_row rfl _ _ w.heap.size 47 _ (0, 0) _ rfl hblkz Tryd.underlying47 rfl info_rsheet) rfl ?_
                rw [HRR.out]
                exact read_zero w _ 3 hbz
            | true =>
              rw [hf] at HFM
              have HPX := Lib.hid (page_length x (fm_len hf))
              have HLY := Lib.hid (fun W (hb : Below wy.heap.size wy W) => reflay_gives x (some ⟨bb, oo + 18, none⟩) (k2 - 18) W hf (hrdy.below hb) (fun h => by cases h))
              by_cases hpl : page x = l
              · have HRR := Lib.hid (HR1.out ⟨hn64, hf, hpl⟩)
                have HS := Lib.hid (show strOf (page x) = S2 by rw [hpl]; exact hS2)
                have hss : (S2.toList != S2.toList) = false := by simp
                clear HR1 HR2 hf y0 y1 y2 y3 y4 y5 hrdy hdl256 hll256 hpl hS2
                go_wp2
                go_region_held (fun W => (W.cell? ⟨wq.heap.size, 0, none⟩ = some (.int .u8 x.k) ∧ W.cell? ⟨wq.heap.size, 1, none⟩ = some (.int .u64 x.ep) ∧ W.cell? ⟨wq.heap.size, 2, none⟩ = some (.int .u64 x.sq) ∧ W.cell? ⟨wq.heap.size, 3, none⟩ = some (.int .i64 x.ad) ∧ W.cell? ⟨wq.heap.size, 4, none⟩ = some (.int .i64 x.fr) ∧ W.cell? ⟨wq.heap.size, 5, none⟩ = some (.slice (some ⟨bb, oo + 18, none⟩) x.da.length (k2 - 18))) ∧ (convert 42 9 (.slice (some ⟨b, off, none⟩) 96 c)).run Tryd.prog W = .ok (.string S2) W) (first | exact hq0 | exact HCY.out _ (by assumption)) (first
                  | (go_at_call 63; (with_reducible refine (HFM.out _).mono ?_); rintro e w6 ⟨rfl, hb'⟩; have hb6 := (show Below wy.heap.size wy _ by assumption).trans (hb'.mono (show Below wy.heap.size wy _ by assumption).size); clear hb')
                  | (go_at_call 21; (with_reducible refine (HLY.out _ (by assumption)).mono ?_); rintro e w7 ⟨a7, k7, rfl, hk7, hr7, hb', -⟩; have hb7 := (show Below wy.heap.size wy _ by assumption).trans (hb'.mono (show Below wy.heap.size wy _ by assumption).size); have hv7 : (convert 42 9 (.slice a7 96 k7)).run Tryd.prog w7 = .ok (.string S2) w7 := (by have h := conv_str w7 a7 (page x) k7 hr7; rw [HPX.out, HS.out] at h; exact h); clear hb' hr7))
                have hbE : Below (w.heap.size + 1) w1 w7 := HBY.out.trans (hb7.mono (by have := HBY.out.size; omega))
                obtain ⟨⟨y0, y1, y2, y3, y4, y5⟩, -⟩ := HCY.out _ hb7
                obtain ⟨⟨t0, t1, t2, t3, t4, t5⟩, ⟨z0, z1, z2, z3, z4, z5⟩⟩ := six_cells ((hbE.block _ (Nat.lt_succ_self _)).trans hblk)
                go_wp2
                have hr7x := ((HRY.out.below hb7).grown (six_grown (v0 := .int .u8 x.k) (v1 := .int .u64 x.ep) (v2 := .int .u64 x.sq) (v3 := .int .i64 x.ad) (v4 := .int .i64 x.fr) (v5 := .slice (some ⟨bb, oo + 18, none⟩) x.da.length (k2 - 18)) (g := w.heap.size)) (fun _ k hk e => by cases hk; exact hbbne e))
                have hblkz := six_set (v0 := .int .u8 x.k) (v1 := .int .u64 x.ep) (v2 := .int .u64 x.sq) (v3 := .int .i64 x.ad) (v4 := .int .i64 x.fr) (v5 := .slice (some ⟨bb, oo + 18, none⟩) x.da.length (k2 - 18)) ((hbE.block _ (Nat.lt_succ_self _)).trans hblk)
                have hbz := hbw.trans ((hbE.mono (Nat.le_succ _)).trans (six_below (v0 := .int .u8 x.k) (v1 := .int .u64 x.ep) (v2 := .int .u64 x.sq) (v3 := .int .i64 x.ad) (v4 := .int .i64 x.fr) (v5 := .slice (some ⟨bb, oo + 18, none⟩) x.da.length (k2 - 18)) (Nat.le_refl w.heap.size)))
                generalize (((((w7.setCell ⟨w.heap.size, 0, none⟩ (.int .u8 x.k)).setCell ⟨w.heap.size, 1, none⟩ (.int .u64 x.ep)).setCell ⟨w.heap.size, 2, none⟩ (.int .u64 x.sq)).setCell ⟨w.heap.size, 3, none⟩ (.int .i64 x.ad)).setCell ⟨w.heap.size, 4, none⟩ (.int .i64 x.fr)).setCell ⟨w.heap.size, 5, none⟩ (.slice (some ⟨bb, oo + 18, none⟩) x.da.length (k2 - 18)) = wz at *
                clear t0 t1 t2 t3 t4 t5 z0 z1 z2 z3 z4 z5
                refine bodyPost_ret (results_cell_tmp_row rfl _ _ w.heap.size 47 _ (0, 0) _ rfl hblkz Tryd.underlying47 rfl info_rsheet) rfl ?_
                rw [HRR.out]
                exact ⟨some ⟨bb, oo + 18, none⟩, k2 - 18, rfl, hr7x, (show x.da.length ≤ k2 - 18 by omega), (fun h => by cases h), hbz⟩
              · have HRR := Lib.hid (HR2.out (fun h => hpl h.2.2))
                generalize hS1 : strOf (page x) = S1
                have HS := Lib.hid hS1
                have hse := str_eq (page_lt x hdl256) hll256
                rw [hS1, hS2, decide_eq_false hpl] at hse
                have hss : (S1.toList != S2.toList) = true := by unfold bne; rw [hse]; rfl
                clear HR1 HR2 hf y0 y1 y2 y3 y4 y5 hrdy hdl256 hll256 hpl hS2 hS1
                go_wp2
                go_region_held (fun W => (W.cell? ⟨wq.heap.size, 0, none⟩ = some (.int .u8 x.k) ∧ W.cell? ⟨wq.heap.size, 1, none⟩ = some (.int .u64 x.ep) ∧ W.cell? ⟨wq.heap.size, 2, none⟩ = some (.int .u64 x.sq) ∧ W.cell? ⟨wq.heap.size, 3, none⟩ = some (.int .i64 x.ad) ∧ W.cell? ⟨wq.heap.size, 4, none⟩ = some (.int .i64 x.fr) ∧ W.cell? ⟨wq.heap.size, 5, none⟩ = some (.slice (some ⟨bb, oo + 18, none⟩) x.da.length (k2 - 18))) ∧ (convert 42 9 (.slice (some ⟨b, off, none⟩) 96 c)).run Tryd.prog W = .ok (.string S2) W) (first | exact hq0 | exact HCY.out _ (by assumption)) (first
                  | (go_at_call 63; (with_reducible refine (HFM.out _).mono ?_); rintro e w6 ⟨rfl, hb'⟩; have hb6 := (show Below wy.heap.size wy _ by assumption).trans (hb'.mono (show Below wy.heap.size wy _ by assumption).size); clear hb')
                  | (go_at_call 21; (with_reducible refine (HLY.out _ (by assumption)).mono ?_); rintro e w7 ⟨a7, k7, rfl, hk7, hr7, hb', -⟩; have hb7 := (show Below wy.heap.size wy _ by assumption).trans (hb'.mono (show Below wy.heap.size wy _ by assumption).size); have hv7 : (convert 42 9 (.slice a7 96 k7)).run Tryd.prog w7 = .ok (.string S1) w7 := (by have h := conv_str w7 a7 (page x) k7 hr7; rw [HPX.out, HS.out] at h; exact h); clear hb' hr7))
                have hbE : Below (w.heap.size + 1) w1 w7 := HBY.out.trans (hb7.mono (by have := HBY.out.size; omega))
                obtain ⟨⟨t0, t1, t2, t3, t4, t5⟩, ⟨z0, z1, z2, z3, z4, z5⟩⟩ := six_cells ((hbE.block _ (Nat.lt_succ_self _)).trans hblk)
                go_wp2
                have hblkz := six_set (v0 := .int .u8 0) (v1 := .int .u64 0) (v2 := .int .u64 0) (v3 := .int .i64 0) (v4 := .int .i64 0) (v5 := .slice none 0 0) ((hbE.block _ (Nat.lt_succ_self _)).trans hblk)
                have hbz := hbw.trans ((hbE.mono (Nat.le_succ _)).trans (six_below (v0 := .int .u8 0) (v1 := .int .u64 0) (v2 := .int .u64 0) (v3 := .int .i64 0) (v4 := .int .i64 0) (v5 := .slice none 0 0) (Nat.le_refl w.heap.size)))
                generalize (((((w7.setCell ⟨w.heap.size, 0, none⟩ (.int .u8 0)).setCell ⟨w.heap.size, 1, none⟩ (.int .u64 0)).setCell ⟨w.heap.size, 2, none⟩ (.int .u64 0)).setCell ⟨w.heap.size, 3, none⟩ (.int .i64 0)).setCell ⟨w.heap.size, 4, none⟩ (.int .i64 0)).setCell ⟨w.heap.size, 5, none⟩ (.slice none 0 0) = wz at *
                clear t0 t1 t2 t3 t4 t5 z0 z1 z2 z3 z4 z5
                refine bodyPost_ret (results_cell_tmp_row rfl _ _ w.heap.size 47 _ (0, 0) _ rfl hblkz Tryd.underlying47 rfl info_rsheet) rfl ?_
                rw [HRR.out]
                exact read_zero w _ 3 hbz
        · have hR := HR2.out (fun h => hn64 (by rw [← hn]; exact h.1))
          have HRR := Lib.hid hR
          have hn64' : (64 : Int) < (n : Int) := by omega
          obtain ⟨⟨t0, t1, t2, t3, t4, t5⟩, ⟨z0, z1, z2, z3, z4, z5⟩⟩ := six_cells ((hb2q.block _ (Nat.lt_succ_self _)).trans hblk)
          clear hR
          go_wp2
          have hblkz := six_set (v0 := .int .u8 0) (v1 := .int .u64 0) (v2 := .int .u64 0) (v3 := .int .i64 0) (v4 := .int .i64 0) (v5 := .slice none 0 0) ((hb2q.block _ (Nat.lt_succ_self _)).trans hblk)
          have hbz := hbw.trans ((hb2q.mono (Nat.le_succ _)).trans (six_below (v0 := .int .u8 0) (v1 := .int .u64 0) (v2 := .int .u64 0) (v3 := .int .i64 0) (v4 := .int .i64 0) (v5 := .slice none 0 0) (Nat.le_refl w.heap.size)))
          generalize (((((wq.setCell ⟨w.heap.size, 0, none⟩ (.int .u8 0)).setCell ⟨w.heap.size, 1, none⟩ (.int .u64 0)).setCell ⟨w.heap.size, 2, none⟩ (.int .u64 0)).setCell ⟨w.heap.size, 3, none⟩ (.int .i64 0)).setCell ⟨w.heap.size, 4, none⟩ (.int .i64 0)).setCell ⟨w.heap.size, 5, none⟩ (.slice none 0 0) = wz at *
          clear t0 t1 t2 t3 t4 t5 z0 z1 z2 z3 z4 z5
          refine bodyPost_ret (results_cell_tmp_row rfl _ _ w.heap.size 47 _ (0, 0) _ rfl hblkz Tryd.underlying47 rfl info_rsheet) rfl ?_
          rw [HRR.out]
          exact read_zero w _ 3 hbz
      · have hR : readS l = (zeroS, 4) := by
          unfold readS
          rw [if_pos ⟨h96, h90⟩, if_neg hv]
        rw [hR]
        have HV := Lib.hid hv
        clear hR hr hv h96 h90
        generalize hw1 : w.alloc zobr = w1 at *
        go_enter Tryd.func28, Tryd.ntmps28
        go_wp2_with (go_at_call 61; (with_reducible refine (HO.out _ hbw).mono ?_); rintro e w2 ⟨hb2', ho1, ho2⟩; obtain rfl := ho1 HV.out; have hb2 := hb0.trans (hb2'.mono (by omega)); obtain ⟨⟨t0, t1, t2, t3, t4, t5⟩, ⟨z0, z1, z2, z3, z4, z5⟩⟩ := six_cells ((hb2.block _ (Nat.lt_succ_self _)).trans hblk); clear ho1 ho2)
        have hblkz := six_set (v0 := .int .u8 0) (v1 := .int .u64 0) (v2 := .int .u64 0) (v3 := .int .i64 0) (v4 := .int .i64 0) (v5 := .slice none 0 0) ((hb2.block _ (Nat.lt_succ_self _)).trans hblk)
        have hbz := hbw.trans ((hb2.mono (Nat.le_succ _)).trans (six_below (v0 := .int .u8 0) (v1 := .int .u64 0) (v2 := .int .u64 0) (v3 := .int .i64 0) (v4 := .int .i64 0) (v5 := .slice none 0 0) (Nat.le_refl w.heap.size)))
        generalize (((((w2.setCell ⟨w.heap.size, 0, none⟩ (.int .u8 0)).setCell ⟨w.heap.size, 1, none⟩ (.int .u64 0)).setCell ⟨w.heap.size, 2, none⟩ (.int .u64 0)).setCell ⟨w.heap.size, 3, none⟩ (.int .i64 0)).setCell ⟨w.heap.size, 4, none⟩ (.int .i64 0)).setCell ⟨w.heap.size, 5, none⟩ (.slice none 0 0) = wz at *
        clear t0 t1 t2 t3 t4 t5 z0 z1 z2 z3 z4 z5
        refine bodyPost_ret (results_cell_tmp_row rfl _ _ w.heap.size 47 _ (0, 0) _ rfl hblkz Tryd.underlying47 rfl info_rsheet) rfl ?_
        exact read_zero w _ 4 hbz
    · have hR : readS l = (zeroS, 3) := by unfold readS; rw [if_neg (fun h => h90 h.2)]
      rw [hR]
      generalize l.getD 95 0 = y at *
      have hne : ((y : Int) != 90) = true := by simp; omega
      have hfin := read_zero w (w.alloc zobr) 3 hbw
      have HF := Lib.hid hfin
      clear hfin hr hR
      go_enter Tryd.func28, Tryd.ntmps28
      go_wp2
      refine bodyPost_ret (results_cell_tmp_row rfl _ _ w.heap.size 47 _ (0, 0) _ rfl hblk Tryd.underlying47 rfl info_rsheet) rfl ?_
      exact HF.out
  · have hR : readS l = (zeroS, 3) := by unfold readS; rw [if_neg (fun h => h96 h.1)]
    rw [hR]
    have hne : ((N : Int) != 96) = true := by simp; omega
    have hfin := read_zero w (w.alloc zobr) 3 hbw
    have HF := Lib.hid hfin
    clear hfin hr
    go_enter Tryd.func28, Tryd.ntmps28
    go_wp2
    refine bodyPost_ret (results_cell_tmp_row rfl _ _ w.heap.size 47 _ (0, 0) _ rfl hblk Tryd.underlying47 rfl info_rsheet) rfl ?_
    exact HF.out
end Go.Proofs.YtkapnpcolmhdbaaDoor
