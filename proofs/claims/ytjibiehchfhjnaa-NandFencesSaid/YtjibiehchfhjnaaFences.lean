/- The walk of the law NandFences: once the fence is raised nothing that is done in the name of a lesser epoch changes anything. -/
import Derived.Test.YtjibiehchfhjnaaApart
namespace Drawbar.Nand
open Go.RowKit
/-- An array of four blocks with a fence; the first block has one page. -/
structure Fe (s : Arr) (fe : Nat) : Prop where
  n : s.n = 4
  pages : s.pages = 4
  off : s.off = false
  armed : s.armed = 0
  fence : s.fence = fe
  b0 : s.b 0 = { fresh with pages := [(List.range 96).map fun i => (9 + i * 7) % 256] }
  b1 : s.b 1 = fresh
  each : ∀ i, Fine s i ↔ i < 4
  len : ∀ i, (s.b i).pages.length ≤ 1
theorem fe_new (fe : Nat) : Fe { (Arr.new 4 4 (fun _ => fresh)).put 0 ((List.range 96).map fun i => (9 + i * 7) % 256) with fence := fe } fe := by
  have hb : ∀ i, (upd (fun _ => fresh) 0 { fresh with pages := [(List.range 96).map fun i => (9 + i * 7) % 256] }) i = if i = 0 then { fresh with pages := [(List.range 96).map fun i => (9 + i * 7) % 256] } else fresh := fun i => by
    unfold upd; rfl
  refine ⟨rfl, rfl, rfl, rfl, rfl, rfl, rfl, fun i => ⟨fun h => h.hi, fun h => ⟨h, rfl, rfl, ?_, ?_, ?_⟩⟩, fun i => ?_⟩
  · show ((upd (fun _ => fresh) 0 { fresh with pages := [(List.range 96).map fun i => (9 + i * 7) % 256] }) i).torn = false
    rw [hb]; split <;> rfl
  · show ((upd (fun _ => fresh) 0 { fresh with pages := [(List.range 96).map fun i => (9 + i * 7) % 256] }) i).doom = 0
    rw [hb]; split <;> rfl
  · show ((upd (fun _ => fresh) 0 { fresh with pages := [(List.range 96).map fun i => (9 + i * 7) % 256] }) i).fails = false
    rw [hb]; split <;> rfl
  · show ((upd (fun _ => fresh) 0 { fresh with pages := [(List.range 96).map fun i => (9 + i * 7) % 256] }) i).pages.length ≤ 1
    rw [hb]; split <;> simp [fresh]
theorem fe_program {s : Arr} {fe : Nat} (h : Fe s fe) (i : Nat) (hi : i < 4) (l : List Nat) (h96 : l.length = 96) (e : Nat) (he : e < fe) : s.program i (s.b i).pages.length l e = (7, s) :=
  Drawbar.Nand.program_fence ((h.each i).2 hi) l e (by rw [h.pages]; have := h.len i; omega) (by rw [h.fence]; exact he) h96
theorem fe_erase {s : Arr} {fe : Nat} (h : Fe s fe) (i : Nat) (hi : i < 4) (e : Nat) (he : e < fe) : s.erase i e = (7, s) := by
  unfold Arr.erase
  rw [if_neg (fun hh => hh (by rw [h.n]; exact inB_nat hi)), if_neg (by rw [h.off]; simp), if_pos (by rw [h.fence]; exact he)]
theorem fe_raise {s : Arr} {fe : Nat} (h : Fe s fe) (e : Nat) (he : e ≤ fe) : s.raise e = (7, s) := by
  unfold Arr.raise
  rw [if_neg (by rw [h.off]; simp), if_pos (by rw [h.fence]; exact he)]
theorem fe_read {s : Arr} {fe : Nat} (h : Fe s fe) : s.read 0 0 = (0, (List.range 96).map fun i => (9 + i * 7) % 256) := by
  have e0 : (0 : Int).toNat = 0 := rfl
  unfold Arr.read
  rw [if_neg (fun hh => hh (by unfold inB; rw [h.n]; omega)), if_neg (by rw [h.off]; simp), if_neg (fun hh => hh (by unfold inB; rw [h.pages]; omega)), e0, h.b0, if_neg (by simp), if_neg (by simp [fresh])]
  rfl
end Drawbar.Nand
namespace Go.Proofs.Ytjibiehchfhjnaa
open Go.RowKit
open Drawbar Drawbar.Nand

theorem ext_base {F : Nat → Prop} {B : Nat} {w w' : World} (h : ∀ k, F k → B ≤ k) (hB : B ≤ w.heap.size) : ∀ k, ext F w w' k → B ≤ k := fun k hk => hk.elim (h k) fun h3 => Nat.le_trans hB h3.1
theorem ext_not {F : Nat → Prop} {w w' : World} {d : Nat} (h : ¬ F d) (hd : d < w.heap.size) : ¬ ext F w w' d := fun hk => hk.elim h fun h3 => absurd hd (Nat.not_lt.2 h3.1)

set_option maxRecDepth 100000 in
theorem fences_zero (l : List ActV) (a : Option Addr) (cap : Nat) (w : World) : Calls Try.prog 3 #[.int .u64 0, .slice a l.length cap] w (Yes w) := by
  go_enter Try.func3, Try.ntmps3
  go_wp2_with fail
  refine (awake_any w).mono ?_
  rintro e w1 ⟨rfl, hb1⟩
  go_wp2_with fail
  refine (awake_any w1).mono ?_
  rintro e w2 ⟨rfl, hb2⟩
  go_wp2
  go_ret
  exact ⟨rfl, hb1.trans (hb2.mono hb1.size)⟩

set_option maxRecDepth 100000 in
set_option maxHeartbeats 4000000 in
theorem fences_pos (fe : Nat) (h1 : 1 ≤ fe) (h64 : fe < 18446744073709551616) (l : List ActV) (a : Option Addr) (cap : Nat) (w : World) (hs : Acts w a l) : Calls Try.prog 3 #[.int .u64 fe, .slice a l.length cap] w (Yes w) := by
  have hf : Fine (Arr.new 4 4 (fun _ => fresh)) 0 := fine_new 4 4 0 (by omega)
  have e1 := program_ok hf (pg 9) 0 (by show 0 < 4; omega) (by show 0 ≤ 0; omega) (pg_length 9)
  have e2 : ((Arr.new 4 4 (fun _ => fresh)).put 0 (pg 9)).raise fe = (0, { (Arr.new 4 4 (fun _ => fresh)).put 0 (pg 9) with fence := fe }) := by
    unfold Arr.raise
    rw [if_neg (by show ¬ (false = true); simp), if_neg (by show ¬ (fe ≤ 0); omega)]
  have hfe := fe_new fe
  obtain ⟨s, hsd⟩ : ∃ s, s = ({ (Arr.new 4 4 (fun _ => fresh)).put 0 (pg 9) with fence := fe } : Arr) := ⟨_, rfl⟩
  rw [← hsd] at e2
  replace hfe : Fe s fe := by rw [hsd]; exact hfe
  clear hsd
  have HN := Lib.hid (fun w1 => new_at 4 4 w1 (by omega) (by omega) (by omega) (by omega))
  have E1 := Lib.hid e1
  have E2 := Lib.hid e2
  have HFE := Lib.hid hfe
  have HS := Lib.hid hs
  have hfe0 : ¬ ((fe : Int) = 0) := by omega
  have hfe1 : (1 : Int) ≤ fe := by omega
  have hfe2 : (fe : Int) ≤ 18446744073709551615 := by omega
  clear hs e1 e2 hf hfe
  go_enter Try.func3, Try.ntmps3
  go_wp2_with fail
  refine (awake_any w).mono ?_
  rintro e w1 ⟨rfl, hb1⟩
  go_wp2_with fail
  refine (HN.out w1).mono ?_
  intro e w2 hm
  obtain ⟨g, rfl, h2, hb2⟩ := hm.mine
  have hB2 := hb1.trans (hb2.mono hb1.size)
  replace h2 := h2.base hb1.size
  clear hm hb1 hb2 HN
  go_wp2_with fail
  refine (page_m 9 w2).mono ?_
  rintro e w3 ⟨d, rfl, hr3, hb3, -⟩
  have hB3 := hB2.trans (hb3.mono hB2.size)
  have hp := program_m (h2.keep hb3) hB3.size 0 0 (pg 9) (some ⟨d, 0, none⟩) 96 0 hr3 96 (pg_length 9)
  rw [show (Arr.new 4 4 (fun _ => fresh)).program 0 0 (pg 9) 0 = _ from E1.out] at hp
  have HP := Lib.hid hp
  clear hp hr3 hb3 hB2 h2
  go_wp2_with fail
  refine HP.out.mono ?_
  rintro e w4 ⟨rfl, h4, hb4⟩
  dsimp only at h4
  have hB4 := hB3.trans hb4
  have hra := raise_m h4 hB4.size fe h64
  rw [E2.out] at hra
  have HRA := Lib.hid hra
  clear hra h4 HP hb4 hB3
  go_wp2_with fail
  refine HRA.out.mono ?_
  rintro e w5 ⟨rfl, h5, hb5⟩
  dsimp only at h5
  have hB5 := hB4.trans hb5
  have hra := raise_m h5 hB5.size fe h64
  rw [fe_raise HFE.out fe (Nat.le_refl _)] at hra
  replace HRA := Lib.hid hra
  clear hra h5 hb5 hB4
  go_wp2_with fail
  refine HRA.out.mono ?_
  rintro e w6 ⟨rfl, h6, hb6⟩
  dsimp only at h6
  have hB6 := hB5.trans hb6
  have HOP := Lib.hid (ops_m h6)
  clear hb6 hB5 HRA
  dsimp only
  go_wp2_with fail
  refine HOP.out.mono ?_
  rintro e w' ⟨rfl, rfl⟩
  obtain ⟨ops, hops⟩ : ∃ o, o = s.ops := ⟨_, rfl⟩
  rw [← hops]
  have HOPS := Lib.hid hops
  clear hops HOP
  go_wp2
  go_loopw [8] (fun iv wr => ∃ (i : Nat), i ≤ l.length ∧ i ≤ 60 ∧ iv = .int .i64 i ∧ Mine w.heap.size wr g s ∧ Below w.heap.size w wr) (fun iv _ => l.length - (intOf iv).toNat)
  case atStart => exact ⟨0, by omega, by omega, rfl, h6, hB6⟩
  case round =>
    obtain ⟨i, hi, hi60, rfl, hmine, hB⟩ := hrel
    clear h6 hB6
    by_cases hlt : i < l.length
    · by_cases h60 : i < 60
      · obtain ⟨r, hr⟩ : ∃ r, l[i]? = some r := ⟨_, List.getElem?_eq_getElem hlt⟩
        obtain ⟨hok, b, off, rfl, hc⟩ := HS.out i r hr
        have hcell : ∀ j v, r.cells[j]? = some v → j < 8 → wr.cell? ⟨b, off + i * 8 + j, none⟩ = some v := fun j v hv hj => (hB.cell (p := ⟨b, off + i * 8 + j, none⟩) (World.block_lt_of_cell? w _ ((hc j hj).trans hv))).trans ((hc j hj).trans hv)
        have c0 := hcell 0 _ rfl (by omega)
        have c1 := hcell 1 _ rfl (by omega)
        have c2 := hcell 2 _ rfl (by omega)
        have c3 := hcell 3 _ rfl (by omega)
        have c4 := hcell 4 _ rfl (by omega)
        have c5 := hcell 5 _ rfl (by omega)
        have c6 := hcell 6 _ rfl (by omega)
        have c7 := hcell 7 _ rfl (by omega)
        rw [Nat.add_zero] at c0
        obtain ⟨bd1, bd2⟩ := bounds_i64 hok.i
        have bd4 := bounds_u8 hok.b
        have bd5 := bounds_u64 hok.epoch
        clear hcell hc hr hok
        obtain ⟨kd, i0, p0, near0, y0, size0, epoch0, n0⟩ := r
        dsimp only at c0 c1 c2 c3 c4 c5 c6 c7 bd1 bd2 bd4 bd5
        obtain ⟨y, rfl⟩ : ∃ y : Nat, y0 = y := ⟨y0.toNat, by omega⟩
        obtain ⟨ep, rfl⟩ : ∃ y : Nat, epoch0 = y := ⟨epoch0.toNat, by omega⟩
        obtain ⟨u, hu, hu2⟩ : ∃ u : Nat, IntKind.u64.wrap i0 = u ∧ (u : Int) ≤ 18446744073709551615 := ⟨(IntKind.u64.wrap i0).toNat, by rw [IntKind.wrap_u64]; omega, by rw [IntKind.wrap_u64]; omega⟩
        obtain ⟨bb, hbb, hbb2⟩ : ∃ bb : Nat, (u : Int) % 4 = bb ∧ bb < 4 := ⟨u % 4, by omega, by omega⟩
        obtain ⟨q, hq, hqf⟩ : ∃ q : Nat, (ep : Int) % (fe : Int) = q ∧ q < fe := ⟨ep % fe, by simp, Nat.mod_lt _ (by omega)⟩
        obtain ⟨F, hA, hF⟩ := hmine.arr
        have hFx : ¬ F wr.heap.size := fun h => Nat.lt_irrefl _ (hA.bound _ h)
        obtain ⟨wx, hwx⟩ : ∃ wx, wx = wr.alloc (.cells #[.int .u8 kd, .int .i64 i0, .int .i64 p0, .bool near0, .int .u8 y, .int .u8 size0, .int .u64 ep, .int .i64 n0] 35) := ⟨_, rfl⟩
        have hbx : Below wr.heap.size wr wx := hwx ▸ (Below.refl _ _).alloc (Nat.le_refl _) _
        have hx4 : wx.cell? ⟨wr.heap.size, 4, none⟩ = some (.int .u8 y) := by rw [hwx]; unfold World.cell?; rw [heap_alloc_new]; rfl
        have hsx : wr.heap.size < wx.heap.size := World.block_lt_of_cell? wx _ hx4
        have hAx := hA.keep hbx
        have hBx := hB.trans (hbx.mono hB.size)
        have hbn : bb < s.n := by rw [HFE.out.n]; exact hbb2
        obtain ⟨bx, hbxn⟩ : ∃ bx, bx = wr.heap.size := ⟨_, rfl⟩
        rw [← hbxn] at hx4 hsx hFx
        have HWX := Lib.hid hwx
        have HBX := Lib.hid hbxn
        have HFX := Lib.hid hFx
        have HF := Lib.hid hF
        have HNX := Lib.hid (fun W (hb : Below wx.heap.size wx W) => next_at (hAx.keep hb) bb hbn)
        have HPG := Lib.hid (fun W (hb : Below wx.heap.size wx W) => page_later y wx W hb)
        have HPR := Lib.hid (fun W (hb : Below wx.heap.size wx W) d (hr : Rd W (some ⟨d, 0, none⟩) (pg y)) => (show Calls Try.prog 13 #[.pointer (some ⟨g, 0, none⟩), .int .i64 bb, .int .i64 (s.b bb).pages.length, .slice (some ⟨d, 0, none⟩) 96 96, .int .u64 q] W (Did W F g (7, s)) from fe_program HFE.out bb hbb2 (pg y) (pg_length y) q hqf ▸ program_at (hAx.keep hb) bb (s.b bb).pages.length (pg y) (some ⟨d, 0, none⟩) 96 q hr 96 (pg_length y)))
        have HER := Lib.hid (fun W F' (hA' : ArrAt W F' g s) => (show Calls Try.prog 18 #[.pointer (some ⟨g, 0, none⟩), .int .i64 bb, .int .u64 q] W (Did W F' g (7, s)) from fe_erase HFE.out bb hbb2 q hqf ▸ erase_at hA' bb q))
        have HRS := Lib.hid (fun W F' (hA' : ArrAt W F' g s) => (show Calls Try.prog 15 #[.pointer (some ⟨g, 0, none⟩), .int .u64 q] W (Did W F' g (7, s)) from fe_raise HFE.out q (by omega) ▸ raise_at hA' q (by omega)))
        have hs4 : ∀ W, Below wx.heap.size wx W → W.cell? ⟨bx, 4, none⟩ = some (.int .u8 y) := fun W hb => (hb.cell (p := ⟨bx, 4, none⟩) hsx).trans hx4
        have HS4 := Lib.hid hs4
        clear hs4 hA hmine hAx hF hFx hbx hwx hbxn hB
        have hb0 := drew_below wx
        have hq0 := HS4.out _ hb0
        go_wp2_with fail
        rw [← HWX.out, ← HBX.out]
        go_region_held (fun W => W.cell? ⟨bx, 4, none⟩ = some (.int .u8 y)) (first | exact hq0 | exact hq9 | exact hq10 | exact hq11 | exact hq12) (first
          | (go_at_call 17; ((with_reducible refine (HNX.out _ (by assumption)).mono ?_); rintro e w5 ⟨rfl, rfl⟩))
          | (go_at_call 14; ((with_reducible refine (HPG.out _ (by assumption)).mono ?_); rintro e w9 ⟨dz, rfl, hb9, hr9⟩; have hq9 := HS4.out _ hb9))
          | (go_at_call 13; ((with_reducible refine (HPR.out _ (by assumption) _ (by assumption)).mono ?_); intro e w10 hd; have hdo := hd.does HF.out (Nat.le_trans hBx.size hb9.size); have hB10 := (hBx.trans (hb9.mono hBx.size)).trans hdo.2.2; clear hdo; obtain ⟨rfl, hA10, hk10⟩ := hd; have hF10 := Lib.hid (ext_base (w' := w10) HF.out (Nat.le_trans hBx.size hb9.size)); have hn10 := Lib.hid (ext_not (w' := w10) HFX.out (World.block_lt_of_cell? _ _ hq9)); have hq10 : w10.cell? ⟨bx, 4, none⟩ = some (.int .u8 y) := (World.cell?_of_block (a := ⟨bx, 4, none⟩) (hk10.block bx (World.block_lt_of_cell? _ _ hq9) HFX.out)).trans hq9))
          | (go_at_call 18; ((with_reducible refine (HER.out _ _ hA10).mono ?_); intro e w11 hd; have hdo := hd.does hF10.out hB10.size; have hB11 := hB10.trans hdo.2.2; clear hdo; obtain ⟨rfl, hA11, hk11⟩ := hd; have hF11 := Lib.hid (ext_base (w' := w11) hF10.out hB10.size); have hn11 := Lib.hid (ext_not (w' := w11) hn10.out (World.block_lt_of_cell? _ _ hq10)); have hq11 : w11.cell? ⟨bx, 4, none⟩ = some (.int .u8 y) := (World.cell?_of_block (a := ⟨bx, 4, none⟩) (hk11.block bx (World.block_lt_of_cell? _ _ hq10) hn10.out)).trans hq10))
          | (go_at_call 15; ((with_reducible refine (HRS.out _ _ hA11).mono ?_); intro e w12 hd; have hdo := hd.does hF11.out hB11.size; have hB12 := hB11.trans hdo.2.2; have hm12 := hdo.2.1; clear hdo; obtain ⟨rfl, hA12, hk12⟩ := hd; have hq12 : w12.cell? ⟨bx, 4, none⟩ = some (.int .u8 y) := (World.cell?_of_block (a := ⟨bx, 4, none⟩) (hk12.block bx (World.block_lt_of_cell? _ _ hq11) hn11.out)).trans hq11)))
        all_goals
          clear hq12 hq11 hq10 hq9 hr9 hk10 hk11 hk12 hA10 hA11 hA12 hb9 hq0 hb0 hF10 hF11 hn10 hn11 hB10 hB11
          go_wp2
          go_roundw
          case rel => exact ⟨i + 1, by omega, by omega, by go_num, hm12, hB12⟩
          case measure => simp [intOf]; omega
      · have hend : ¬ ((i : Int) < 60) := by omega
        have hrd := read_m hmine 0 0
        rw [show s.read 0 0 = (0, pg 9) from fe_read HFE.out] at hrd
        have HRD := Lib.hid hrd
        clear hrd hmine
        go_wp2_with fail
        refine HRD.out.mono ?_
        rintro e w11 ⟨ht, h11⟩
        obtain ⟨ap, cp, rfl, hrp, hb11⟩ := tells_page ht (pg_length 9)
        have hB11 := hB.trans (hb11.mono hB.size)
        have hq0 := conv_any w11.drew ap cp (pg 9) hrp (pg_length 9)
        have HQ := Lib.hid (fun W (hW : Below w11.heap.size w11 W) => conv_any W ap cp (pg 9) (hrp.below hW) (pg_length 9))
        have HPG := Lib.hid (page_drew_at 9 9 rfl w11)
        have HN0 := Lib.hid (fun W (hW : Below w11.heap.size w11 W) => (show Calls Try.prog 17 #[.pointer (some ⟨g, 0, none⟩), .int .i64 0] W fun e w' => e = .returned (.int .i64 1) ∧ W = w' by have h := next_m (h11.keep hW) 0 (by rw [HFE.out.n]; omega); rw [show (s.b 0).pages.length = 1 by rw [HFE.out.b0]; rfl] at h; exact h))
        have HN1 := Lib.hid (fun W (hW : Below w11.heap.size w11 W) => (show Calls Try.prog 17 #[.pointer (some ⟨g, 0, none⟩), .int .i64 1] W fun e w' => e = .returned (.int .i64 0) ∧ W = w' by have h := next_m (h11.keep hW) 1 (by rw [HFE.out.n]; omega); rw [show (s.b 1).pages.length = 0 by rw [HFE.out.b1]; rfl] at h; exact h))
        have HOP := Lib.hid (fun W (hW : Below w11.heap.size w11 W) => (show Calls Try.prog 16 #[.pointer (some ⟨g, 0, none⟩)] W fun e w' => e = .returned (.int .i64 ops) ∧ W = w' by have h := ops_m (h11.keep hW); rw [← HOPS.out] at h; exact h))
        have HFN := Lib.hid (fun W (hW : Below w11.heap.size w11 W) => (show Calls Try.prog 20 #[.pointer (some ⟨g, 0, none⟩)] W fun e w' => e = .returned (.int .u64 fe) ∧ W = w' by have h := fence_m (h11.keep hW); rw [HFE.out.fence] at h; exact h))
        generalize strOf (pg 9) = S1 at hq0 HQ HPG
        clear ht hb11 hrp h11 HRD hB HS
        go_wp2
        go_region_held (fun W => (convert 30 9 (.slice ap 96 cp)).run Try.prog W = .ok (.string S1) W) (first | exact hq0 | exact hq4) (first
          | (go_at_call 14; ((with_reducible refine HPG.out.mono ?_); rintro e w9 ⟨dz, rfl, hb9, hc9⟩; have hq4 := HQ.out _ hb9))
          | (go_at_call 17; (first | ((with_reducible refine (HN0.out _ (by assumption)).mono ?_); rintro e w10 ⟨rfl, rfl⟩) | ((with_reducible refine (HN1.out _ (by assumption)).mono ?_); rintro e w10 ⟨rfl, rfl⟩)))
          | (go_at_call 16; ((with_reducible refine (HOP.out _ (by assumption)).mono ?_); rintro e w10 ⟨rfl, rfl⟩))
          | (go_at_call 20; ((with_reducible refine (HFN.out _ (by assumption)).mono ?_); rintro e w10 ⟨rfl, rfl⟩)))
        all_goals
          go_wp2
          go_ret
          exact ⟨rfl, hB11.trans ((by assumption : Below w11.heap.size w11 _).mono hB11.size)⟩
    · have hend : ¬ ((i : Int) < (l.length : Int)) := by omega
      have hrd := read_m hmine 0 0
      rw [show s.read 0 0 = (0, pg 9) from fe_read HFE.out] at hrd
      have HRD := Lib.hid hrd
      clear hrd hmine
      go_wp2_with fail
      refine HRD.out.mono ?_
      rintro e w11 ⟨ht, h11⟩
      obtain ⟨ap, cp, rfl, hrp, hb11⟩ := tells_page ht (pg_length 9)
      have hB11 := hB.trans (hb11.mono hB.size)
      have hq0 := conv_any w11.drew ap cp (pg 9) hrp (pg_length 9)
      have HQ := Lib.hid (fun W (hW : Below w11.heap.size w11 W) => conv_any W ap cp (pg 9) (hrp.below hW) (pg_length 9))
      have HPG := Lib.hid (page_drew_at 9 9 rfl w11)
      have HN0 := Lib.hid (fun W (hW : Below w11.heap.size w11 W) => (show Calls Try.prog 17 #[.pointer (some ⟨g, 0, none⟩), .int .i64 0] W fun e w' => e = .returned (.int .i64 1) ∧ W = w' by have h := next_m (h11.keep hW) 0 (by rw [HFE.out.n]; omega); rw [show (s.b 0).pages.length = 1 by rw [HFE.out.b0]; rfl] at h; exact h))
      have HN1 := Lib.hid (fun W (hW : Below w11.heap.size w11 W) => (show Calls Try.prog 17 #[.pointer (some ⟨g, 0, none⟩), .int .i64 1] W fun e w' => e = .returned (.int .i64 0) ∧ W = w' by have h := next_m (h11.keep hW) 1 (by rw [HFE.out.n]; omega); rw [show (s.b 1).pages.length = 0 by rw [HFE.out.b1]; rfl] at h; exact h))
      have HOP := Lib.hid (fun W (hW : Below w11.heap.size w11 W) => (show Calls Try.prog 16 #[.pointer (some ⟨g, 0, none⟩)] W fun e w' => e = .returned (.int .i64 ops) ∧ W = w' by have h := ops_m (h11.keep hW); rw [← HOPS.out] at h; exact h))
      have HFN := Lib.hid (fun W (hW : Below w11.heap.size w11 W) => (show Calls Try.prog 20 #[.pointer (some ⟨g, 0, none⟩)] W fun e w' => e = .returned (.int .u64 fe) ∧ W = w' by have h := fence_m (h11.keep hW); rw [HFE.out.fence] at h; exact h))
      generalize strOf (pg 9) = S1 at hq0 HQ HPG
      clear ht hb11 hrp h11 HRD hB HS
      go_wp2
      go_region_held (fun W => (convert 30 9 (.slice ap 96 cp)).run Try.prog W = .ok (.string S1) W) (first | exact hq0 | exact hq4) (first
        | (go_at_call 14; ((with_reducible refine HPG.out.mono ?_); rintro e w9 ⟨dz, rfl, hb9, hc9⟩; have hq4 := HQ.out _ hb9))
        | (go_at_call 17; (first | ((with_reducible refine (HN0.out _ (by assumption)).mono ?_); rintro e w10 ⟨rfl, rfl⟩) | ((with_reducible refine (HN1.out _ (by assumption)).mono ?_); rintro e w10 ⟨rfl, rfl⟩)))
        | (go_at_call 16; ((with_reducible refine (HOP.out _ (by assumption)).mono ?_); rintro e w10 ⟨rfl, rfl⟩))
        | (go_at_call 20; ((with_reducible refine (HFN.out _ (by assumption)).mono ?_); rintro e w10 ⟨rfl, rfl⟩)))
      all_goals
        go_wp2
        go_ret
        exact ⟨rfl, hB11.trans ((by assumption : Below w11.heap.size w11 _).mono hB11.size)⟩

theorem fences_any (fe : Nat) (h64 : fe < 18446744073709551616) (l : List ActV) (a : Option Addr) (cap : Nat) (w : World) (hs : Acts w a l) : Calls Try.prog 3 #[.int .u64 fe, .slice a l.length cap] w (Yes w) := by
  rcases Nat.eq_zero_or_pos fe with rfl | h
  · exact fences_zero l a cap w
  · exact fences_pos fe h h64 l a cap w hs
end Go.Proofs.Ytjibiehchfhjnaa
