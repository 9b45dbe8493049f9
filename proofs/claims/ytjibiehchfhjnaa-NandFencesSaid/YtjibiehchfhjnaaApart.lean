/- The walk of the law NandApart: what is done to one block changes no other one. -/
import Derived.Test.YtjibiehchfhjnaaCuts
import Derived.Test.YtjibiehchfhjnaaActs
namespace Drawbar.Nand
open Go.RowKit
/-- An array of three blocks the last of which has one page. -/
structure Ap (s : Arr) : Prop where
  n : s.n = 3
  pages : s.pages = 4
  off : s.off = false
  armed : s.armed = 0
  b2 : s.b 2 = { fresh with pages := [(List.range 96).map fun i => (7 + i * 7) % 256] }
theorem ap_operate {s : Arr} (h : Ap s) (i : Nat) (hi : i < 2) (bg : Begun) (what : Blk → Blk) : Ap (s.operate i bg what).2 := by
  have hne : (2 : Nat) ≠ i := by omega
  have ha : s.armed - 1 = 0 := by rw [h.armed]
  unfold Arr.operate
  rw [if_neg (by rw [h.armed]; omega)]
  split
  · exact ⟨h.n, h.pages, h.off, ha, (upd_other s.b i _ 2 hne).trans h.b2⟩
  · exact ⟨h.n, h.pages, h.off, ha, (upd_other s.b i _ 2 hne).trans h.b2⟩
theorem ap_program {s : Arr} (h : Ap s) (i : Nat) (hi : i < 2) (p : Int) (l : List Nat) (e : Nat) : Ap (s.program i p l e).2 := by
  unfold Arr.program
  split
  · exact h
  split
  · exact h
  split
  · exact h
  split
  · exact h
  split
  · exact h
  split
  · exact h
  dsimp only
  rw [Int.toNat_natCast]
  have ho := ap_operate h i hi (.lay i l) (fun b => b.lay l 96)
  split
  · exact ⟨ho.n, ho.pages, ho.off, ho.armed, (upd_other _ i _ 2 (by omega)).trans ho.b2⟩
  · exact ho
theorem ap_erase {s : Arr} (h : Ap s) (i : Nat) (hi : i < 2) (e : Nat) : Ap (s.erase i e).2 := by
  unfold Arr.erase
  split
  · exact h
  split
  · exact h
  split
  · exact h
  rw [Int.toNat_natCast]
  exact ap_operate h i hi _ _
theorem ap_doom {s : Arr} (h : Ap s) (i n : Nat) (hi : i < 2) : Ap { s with b := upd s.b i { s.b i with doom := n } } :=
  ⟨h.n, h.pages, h.off, h.armed, (upd_other _ i _ 2 (by omega)).trans h.b2⟩
theorem ap_new : Ap ((Arr.new 3 4 (fun _ => fresh)).put 2 ((List.range 96).map fun i => (7 + i * 7) % 256)) := ⟨rfl, rfl, rfl, rfl, upd_same (fun _ => fresh) 2 { fresh with pages := [(List.range 96).map fun i => (7 + i * 7) % 256] }⟩
theorem ap_read {s : Arr} (h : Ap s) : s.read 2 0 = (0, (List.range 96).map fun i => (7 + i * 7) % 256) := by
  have e0 : (2 : Int).toNat = 2 := rfl
  unfold Arr.read
  rw [if_neg (fun hh => hh (by unfold inB; rw [h.n]; omega)), if_neg (by rw [h.off]; simp), if_neg (fun hh => hh (by unfold inB; rw [h.pages]; omega)), e0, h.b2, if_neg (by simp), if_neg (by simp [fresh])]
  rfl
end Drawbar.Nand
namespace Go.Proofs.Ytjibiehchfhjnaa
open Go.RowKit
open Drawbar Drawbar.Nand

/-- A law's three calls in one statement: the next page, a page's bytes, and Program. -/
theorem page_later (n : Nat) (w W : World) (hb : Below w.heap.size w W) : Calls Try.prog 14 #[.int .u8 n] W fun e w' => ∃ d, e = .returned (.slice (some ⟨d, 0, none⟩) 96 96) ∧ Below w.heap.size w w' ∧ Rd w' (some ⟨d, 0, none⟩) (pg n) := by
  refine (page_m n W).mono ?_
  rintro e w' ⟨d, rfl, hr, hb2, -⟩
  exact ⟨d, rfl, hb.trans (hb2.mono hb.size), hr⟩
theorem drew_below (w : World) : Below w.heap.size w w.drew := (Below.refl _ _).drew

set_option maxRecDepth 100000 in
set_option maxHeartbeats 2000000 in
theorem apart_any (l : List ActV) (a : Option Addr) (cap : Nat) (w : World) (hs : Acts w a l) : Calls Try.prog 10 #[.slice a l.length cap] w (Yes w) := by
  have hf : Fine (Arr.new 3 4 (fun _ => fresh)) 2 := fine_new 3 4 2 (by omega)
  have e1 := program_ok hf (pg 7) 0 (by show 0 < 4; omega) (by show 0 ≤ 0; omega) (pg_length 7)
  have HN := Lib.hid (fun w1 => new_at 3 4 w1 (by omega) (by omega) (by omega) (by omega))
  have E1 := Lib.hid e1
  have HS := Lib.hid hs
  clear hs e1 hf
  go_enter Try.func10, Try.ntmps10
  go_wp2_with fail
  refine (awake_any w).mono ?_
  rintro e w1 ⟨rfl, hb1⟩
  go_wp2_with fail
  refine (HN.out w1).mono ?_
  intro e w2 hm
  obtain ⟨g, rfl, h2, hb2⟩ := hm.mine
  have hB2 := hb1.trans (hb2.mono hb1.size)
  replace h2 := h2.base hb1.size
  clear hm hb1 hb2 HN
  go_wp2_with fail
  refine (page_m 7 w2).mono ?_
  rintro e w3 ⟨d, rfl, hr3, hb3, -⟩
  have hB3 := hB2.trans (hb3.mono hB2.size)
  have hp := program_m (h2.keep hb3) hB3.size 2 0 (pg 7) (some ⟨d, 0, none⟩) 96 0 hr3 96 (pg_length 7)
  rw [show (Arr.new 3 4 (fun _ => fresh)).program 2 0 (pg 7) 0 = _ from E1.out] at hp
  have HP := Lib.hid hp
  clear hp hr3 hb3 hB2 h2
  go_wp2_with fail
  refine HP.out.mono ?_
  rintro e w4 ⟨rfl, h4, hb4⟩
  dsimp only at h4
  have hB4 := hB3.trans hb4
  clear HP hb4 hB3
  go_wp2
  go_loopw [5] (fun iv wr => ∃ (i : Nat) (s : Arr), i ≤ l.length ∧ i ≤ 60 ∧ iv = .int .i64 i ∧ Ap s ∧ Mine w.heap.size wr g s ∧ Below w.heap.size w wr) (fun iv _ => l.length - (intOf iv).toNat)
  case atStart => exact ⟨0, _, by omega, by omega, rfl, ap_new, h4, hB4⟩
  case round =>
    obtain ⟨i, s, hi, hi60, rfl, hap, hmine, hB⟩ := hrel
    clear h4 hB4
    by_cases hlt : i < l.length
    · by_cases h60 : i < 60
      · obtain ⟨r, hr⟩ : ∃ r, l[i]? = some r := ⟨_, List.getElem?_eq_getElem hlt⟩
        obtain ⟨hok, b, off, rfl, hc⟩ := HS.out i r hr
        have hcell : ∀ j v, r.cells[j]? = some v → j < 8 → wr.cell? ⟨b, off + i * 8 + j, none⟩ = some v := fun j v hv hj => (hB.cell (p := ⟨b, off + i * 8 + j, none⟩) (World.block_lt_of_cell? w _ ((hc j hj).trans hv))).trans ((hc j hj).trans hv)
        have c0 := hcell 0 _ rfl (by omega)
        have c1 := hcell 1 _ rfl (by omega)
        have c2 := hcell 2 _ rfl (by omega)
        have c3 := hcell 3 _ rfl (by omega)
        have c4 := hcell 4 _ rfl (by omega)
        have c5 := hcell 5 _ rfl (by omega)
        have c6 := hcell 6 _ rfl (by omega)
        have c7 := hcell 7 _ rfl (by omega)
        rw [Nat.add_zero] at c0
        obtain ⟨bd1, bd2⟩ := bounds_i64 hok.i
        have bd3 := bounds_u8 hok.kind
        have bd4 := bounds_u8 hok.b
        clear hcell hc hr hok
        obtain ⟨kd, i0, p0, near0, y0, size0, epoch0, n0⟩ := r
        dsimp only at c0 c1 c2 c3 c4 c5 c6 c7 bd1 bd2 bd3 bd4
        obtain ⟨y, rfl⟩ : ∃ y : Nat, y0 = y := ⟨y0.toNat, by omega⟩
        obtain ⟨u, hu, hu2⟩ : ∃ u : Nat, IntKind.u64.wrap i0 = u ∧ (u : Int) ≤ 18446744073709551615 := ⟨(IntKind.u64.wrap i0).toNat, by rw [IntKind.wrap_u64]; omega, by rw [IntKind.wrap_u64]; omega⟩
        obtain ⟨bb, hbb, hbb2⟩ : ∃ bb : Nat, (u : Int) % 2 = bb ∧ bb < 2 := ⟨u % 2, by omega, by omega⟩
        obtain ⟨kk, hkk, hkk2⟩ : ∃ kk : Nat, kd % 4 = kk ∧ kk < 4 := ⟨(kd % 4).toNat, by omega, by omega⟩
        obtain ⟨F, hA, hF⟩ := hmine.arr
        have hFx : ¬ F wr.heap.size := fun h => Nat.lt_irrefl _ (hA.bound _ h)
        -- the variable that holds the call
        obtain ⟨wx, hwx⟩ : ∃ wx, wx = wr.alloc (.cells #[.int .u8 kd, .int .i64 i0, .int .i64 p0, .bool near0, .int .u8 y, .int .u8 size0, .int .u64 epoch0, .int .i64 n0] 35) := ⟨_, rfl⟩
        have hbx : Below wr.heap.size wr wx := hwx ▸ (Below.refl _ _).alloc (Nat.le_refl _) _
        have hx4 : wx.cell? ⟨wr.heap.size, 4, none⟩ = some (.int .u8 y) := by rw [hwx]; unfold World.cell?; rw [heap_alloc_new]; rfl
        have hsx : wr.heap.size < wx.heap.size := World.block_lt_of_cell? wx _ hx4
        have hAx := hA.keep hbx
        have hBx := hB.trans (hbx.mono hB.size)
        have hbn : bb < s.n := by rw [hap.n]; omega
        obtain ⟨bx, hbxn⟩ : ∃ bx, bx = wr.heap.size := ⟨_, rfl⟩
        rw [← hbxn] at hx4 hsx hFx
        have HWX := Lib.hid hwx
        have HBX := Lib.hid hbxn
        have HFX := Lib.hid hFx
        have HF := Lib.hid hF
        have HAP := Lib.hid hap
        have HA := Lib.hid hAx
        by_cases h01 : kk < 2
        · have hNX := fun W (hb : Below wx.heap.size wx W) => next_at (hAx.keep hb) bb hbn
          have HNX := Lib.hid hNX
          have HPG := Lib.hid (fun W (hb : Below wx.heap.size wx W) => page_later y wx W hb)
          have HPR := Lib.hid (fun W (hb : Below wx.heap.size wx W) d (hr : Rd W (some ⟨d, 0, none⟩) (pg y)) => (show Calls Try.prog 13 #[.pointer (some ⟨g, 0, none⟩), .int .i64 bb, .int .i64 (s.b bb).pages.length, .slice (some ⟨d, 0, none⟩) 96 96, .int .u64 0] W (Did W F g (s.program bb (s.b bb).pages.length (pg y) 0)) from program_at (hAx.keep hb) bb (s.b bb).pages.length (pg y) (some ⟨d, 0, none⟩) 96 0 hr 96 (pg_length y)))
          have hs4 : ∀ W, Below wx.heap.size wx W → W.cell? ⟨bx, 4, none⟩ = some (.int .u8 y) := fun W hb => (hb.cell (p := ⟨bx, 4, none⟩) hsx).trans hx4
          have HS4 := Lib.hid hs4
          have hk01 : kk = 0 ∨ kk = 1 := by omega
          clear hNX hs4 hA hmine hAx hap hF hFx hbx hwx hbxn hB h01
          have hb0 := drew_below wx
          have hq0 := HS4.out _ hb0
          rcases hk01 with rfl | rfl
          · go_wp2_with fail
            rw [← HWX.out, ← HBX.out]
            go_region_held (fun W => W.cell? ⟨bx, 4, none⟩ = some (.int .u8 y)) (first | exact hq0 | exact hq9 | exact hq10) (first
              | (go_at_call 17; ((with_reducible refine (HNX.out _ (by assumption)).mono ?_); rintro e w5 ⟨rfl, rfl⟩))
              | (go_at_call 14; ((with_reducible refine (HPG.out _ (by assumption)).mono ?_); rintro e w9 ⟨dz, rfl, hb9, hr9⟩; have hq9 := HS4.out _ hb9))
              | (go_at_call 13; ((with_reducible refine (HPR.out _ (by assumption) _ (by assumption)).mono ?_); intro e w10 hd; have hdo := hd.does HF.out (Nat.le_trans hBx.size hb9.size); have hB10 := (hBx.trans (hb9.mono hBx.size)).trans hdo.2.2; have hm10 := hdo.2.1; clear hdo; obtain ⟨rfl, hA10, hk10⟩ := hd; have hq10 : w10.cell? ⟨bx, 4, none⟩ = some (.int .u8 y) := (World.cell?_of_block (a := ⟨bx, 4, none⟩) (hk10.block bx (World.block_lt_of_cell? _ _ hq9) HFX.out)).trans hq9)))
            all_goals
              clear hq10 hq9 hr9 hk10 hA10 hb9 hq0 hb0
              go_wp2
              go_roundw
              case rel => exact ⟨i + 1, _, by omega, by omega, by go_num, ap_program HAP.out bb hbb2 _ _ _, hm10, hB10⟩
              case measure => simp [intOf]; omega
          · go_wp2_with fail
            rw [← HWX.out, ← HBX.out]
            go_region_held (fun W => W.cell? ⟨bx, 4, none⟩ = some (.int .u8 y)) (first | exact hq0 | exact hq9 | exact hq10) (first
              | (go_at_call 17; ((with_reducible refine (HNX.out _ (by assumption)).mono ?_); rintro e w5 ⟨rfl, rfl⟩))
              | (go_at_call 14; ((with_reducible refine (HPG.out _ (by assumption)).mono ?_); rintro e w9 ⟨dz, rfl, hb9, hr9⟩; have hq9 := HS4.out _ hb9))
              | (go_at_call 13; ((with_reducible refine (HPR.out _ (by assumption) _ (by assumption)).mono ?_); intro e w10 hd; have hdo := hd.does HF.out (Nat.le_trans hBx.size hb9.size); have hB10 := (hBx.trans (hb9.mono hBx.size)).trans hdo.2.2; have hm10 := hdo.2.1; clear hdo; obtain ⟨rfl, hA10, hk10⟩ := hd; have hq10 : w10.cell? ⟨bx, 4, none⟩ = some (.int .u8 y) := (World.cell?_of_block (a := ⟨bx, 4, none⟩) (hk10.block bx (World.block_lt_of_cell? _ _ hq9) HFX.out)).trans hq9)))
            all_goals
              clear hq10 hq9 hr9 hk10 hA10 hb9 hq0 hb0
              go_wp2
              go_roundw
              case rel => exact ⟨i + 1, _, by omega, by omega, by go_num, ap_program HAP.out bb hbb2 _ _ _, hm10, hB10⟩
              case measure => simp [intOf]; omega
        · have hk23 : kk = 2 ∨ kk = 3 := by omega
          rcases hk23 with rfl | rfl
          · have hmx : Mine w.heap.size wx g s := ⟨F, hAx, hF⟩
            have HC := Lib.hid (erase_m hmx hBx.size bb 0)
            clear hA hmine hAx hap hF hFx hbx hwx hbxn hB h01 hmx
            go_wp2_with fail
            rw [← HWX.out]
            refine HC.out.mono ?_
            rintro e w10 ⟨rfl, hm10, hb10⟩
            have hB10 := hBx.trans hb10
            clear HC hb10
            go_wp2
            go_roundw
            case rel => exact ⟨i + 1, _, by omega, by omega, by go_num, ap_erase HAP.out bb hbb2 _, hm10, hB10⟩
            case measure => simp [intOf]; omega
          · have hmx : Mine w.heap.size wx g s := ⟨F, hAx, hF⟩
            have HC := Lib.hid (doom_m hmx hBx.size bb (1 + y) hbn (by omega))
            have hcast : ((1 + y : Nat) : Int) = 1 + (y : Int) := by omega
            rw [hcast] at HC
            clear hA hmine hAx hap hF hFx hbx hwx hbxn hB h01 hmx
            go_wp2_with fail
            rw [← HWX.out]
            refine HC.out.mono ?_
            rintro e w10 ⟨rfl, hm10, hb10⟩
            have hB10 := hBx.trans hb10
            clear HC hb10
            go_wp2
            go_roundw
            case rel => exact ⟨i + 1, _, by omega, by omega, by go_num, ap_doom HAP.out bb _ hbb2, hm10, hB10⟩
            case measure => simp [intOf]; omega
      · have hend : ¬ ((i : Int) < 60) := by omega
        have hrd := read_m hmine 2 0
        rw [show s.read 2 0 = (0, pg 7) from ap_read hap] at hrd
        have HRD := Lib.hid hrd
        have hsn : 2 < s.n := by rw [hap.n]; omega
        have f1 : (s.b 2).pages.length = 1 ∧ (s.b 2).erases = 0 ∧ (s.b 2).failed = false := by rw [hap.b2]; exact ⟨rfl, rfl, rfl⟩
        have F1 := Lib.hid f1
        clear hrd f1 hap hmine
        go_wp2_with fail
        refine HRD.out.mono ?_
        rintro e w11 ⟨ht, h11⟩
        obtain ⟨ap, cp, rfl, hrp, hb11⟩ := tells_page ht (pg_length 7)
        have hB11 := hB.trans (hb11.mono hB.size)
        have hq0 := conv_any w11.drew ap cp (pg 7) hrp (pg_length 7)
        have HQ := Lib.hid (fun W (hW : Below w11.heap.size w11 W) => conv_any W ap cp (pg 7) (hrp.below hW) (pg_length 7))
        have HPG := Lib.hid (page_drew_at 7 7 rfl w11)
        have HNX := Lib.hid (fun W (hW : Below w11.heap.size w11 W) => (show Calls Try.prog 17 #[.pointer (some ⟨g, 0, none⟩), .int .i64 2] W fun e w' => e = .returned (.int .i64 1) ∧ W = w' by have h := next_m (h11.keep hW) 2 hsn; rw [F1.out.1] at h; exact h))
        have HER := Lib.hid (fun W (hW : Below w11.heap.size w11 W) => (show Calls Try.prog 29 #[.pointer (some ⟨g, 0, none⟩), .int .i64 2] W fun e w' => e = .returned (.int .i64 0) ∧ W = w' by have h := erases_m (h11.keep hW) 2 hsn; rw [F1.out.2.1] at h; exact h))
        have HFD := Lib.hid (fun W (hW : Below w11.heap.size w11 W) => (show Calls Try.prog 26 #[.pointer (some ⟨g, 0, none⟩), .int .i64 2] W fun e w' => e = .returned (.bool false) ∧ W = w' by have h := failed_m (h11.keep hW) 2 hsn; rw [F1.out.2.2] at h; exact h))
        generalize strOf (pg 7) = S1 at hq0 HQ HPG
        clear ht hb11 hrp h11 HRD hB HS
        go_wp2
        go_region_held (fun W => (convert 30 9 (.slice ap 96 cp)).run Try.prog W = .ok (.string S1) W) (first | exact hq0 | exact hq4) (first
          | (go_at_call 14; ((with_reducible refine HPG.out.mono ?_); rintro e w9 ⟨dz, rfl, hb9, hc9⟩; have hq4 := HQ.out _ hb9))
          | (go_at_call 17; ((with_reducible refine (HNX.out _ (by assumption)).mono ?_); rintro e w10 ⟨rfl, rfl⟩))
          | (go_at_call 29; ((with_reducible refine (HER.out _ (by assumption)).mono ?_); rintro e w10 ⟨rfl, rfl⟩))
          | (go_at_call 26; ((with_reducible refine (HFD.out _ (by assumption)).mono ?_); rintro e w10 ⟨rfl, rfl⟩)))
        all_goals
          go_wp2
          go_ret
          exact ⟨rfl, hB11.trans ((by assumption : Below w11.heap.size w11 _).mono hB11.size)⟩
    · have hend : ¬ ((i : Int) < (l.length : Int)) := by omega
      have hrd := read_m hmine 2 0
      rw [show s.read 2 0 = (0, pg 7) from ap_read hap] at hrd
      have HRD := Lib.hid hrd
      have hsn : 2 < s.n := by rw [hap.n]; omega
      have f1 : (s.b 2).pages.length = 1 ∧ (s.b 2).erases = 0 ∧ (s.b 2).failed = false := by rw [hap.b2]; exact ⟨rfl, rfl, rfl⟩
      have F1 := Lib.hid f1
      clear hrd f1 hap hmine
      go_wp2_with fail
      refine HRD.out.mono ?_
      rintro e w11 ⟨ht, h11⟩
      obtain ⟨ap, cp, rfl, hrp, hb11⟩ := tells_page ht (pg_length 7)
      have hB11 := hB.trans (hb11.mono hB.size)
      have hq0 := conv_any w11.drew ap cp (pg 7) hrp (pg_length 7)
      have HQ := Lib.hid (fun W (hW : Below w11.heap.size w11 W) => conv_any W ap cp (pg 7) (hrp.below hW) (pg_length 7))
      have HPG := Lib.hid (page_drew_at 7 7 rfl w11)
      have HNX := Lib.hid (fun W (hW : Below w11.heap.size w11 W) => (show Calls Try.prog 17 #[.pointer (some ⟨g, 0, none⟩), .int .i64 2] W fun e w' => e = .returned (.int .i64 1) ∧ W = w' by have h := next_m (h11.keep hW) 2 hsn; rw [F1.out.1] at h; exact h))
      have HER := Lib.hid (fun W (hW : Below w11.heap.size w11 W) => (show Calls Try.prog 29 #[.pointer (some ⟨g, 0, none⟩), .int .i64 2] W fun e w' => e = .returned (.int .i64 0) ∧ W = w' by have h := erases_m (h11.keep hW) 2 hsn; rw [F1.out.2.1] at h; exact h))
      have HFD := Lib.hid (fun W (hW : Below w11.heap.size w11 W) => (show Calls Try.prog 26 #[.pointer (some ⟨g, 0, none⟩), .int .i64 2] W fun e w' => e = .returned (.bool false) ∧ W = w' by have h := failed_m (h11.keep hW) 2 hsn; rw [F1.out.2.2] at h; exact h))
      generalize strOf (pg 7) = S1 at hq0 HQ HPG
      clear ht hb11 hrp h11 HRD hB HS
      go_wp2
      go_region_held (fun W => (convert 30 9 (.slice ap 96 cp)).run Try.prog W = .ok (.string S1) W) (first | exact hq0 | exact hq4) (first
        | (go_at_call 14; ((with_reducible refine HPG.out.mono ?_); rintro e w9 ⟨dz, rfl, hb9, hc9⟩; have hq4 := HQ.out _ hb9))
        | (go_at_call 17; ((with_reducible refine (HNX.out _ (by assumption)).mono ?_); rintro e w10 ⟨rfl, rfl⟩))
        | (go_at_call 29; ((with_reducible refine (HER.out _ (by assumption)).mono ?_); rintro e w10 ⟨rfl, rfl⟩))
        | (go_at_call 26; ((with_reducible refine (HFD.out _ (by assumption)).mono ?_); rintro e w10 ⟨rfl, rfl⟩)))
      all_goals
        go_wp2
        go_ret
        exact ⟨rfl, hB11.trans ((by assumption : Below w11.heap.size w11 _).mono hB11.size)⟩
end Go.Proofs.Ytjibiehchfhjnaa
