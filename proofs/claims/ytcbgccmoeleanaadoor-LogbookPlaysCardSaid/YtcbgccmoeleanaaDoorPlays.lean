/- The walk of the law LogbookPlays. -/
import Derived.Test.YtcbgccmoeleanaaDoorUseF
import Derived.Test.YtcbgccmoeleanaaDoorArgL
import Derived.Deep.CutRange
import Derived.Deep.RegionHeld
namespace Go.Proofs.YtcbgccmoeleanaaDoor.Lg
open Go.RowKit
open Drawbar Drawbar.Sheet Drawbar.Nand Drawbar.Log Go.Proofs.YtcbgccmoeleanaaDoor.Nd

theorem ok_not {e : Nat} {w : Int} (h : ¬ (1 ≤ e ∧ e ≤ 281474976710655 ∧ 0 ≤ w ∧ w ≤ 1)) : okE ⟨e, w⟩ = false := decide_eq_false h
set_option maxHeartbeats 16000000 in
set_option maxRecDepth 100000 in
theorem plays_any (pg : Nat) (l : List ActV) (a : Option Addr) (cap : Nat) (w : World) (h1 : pg < 256) (hs : Acts w a l) (hT : Tab w) :
    Calls Tryd.prog 3 #[.int .u8 pg, .slice a l.length cap] w (Yes w) := by
  have HA := Lib.hid (awake_any w hT)
  have HT := Lib.hid hT
  have HS := Lib.hid hs
  clear hT hs
  obtain ⟨p, hp, hp6⟩ : ∃ p : Nat, (pg : Int) % 6 = p ∧ p < 6 := ⟨pg % 6, by omega, by omega⟩
  go_enter Tryd.func3, Tryd.ntmps3
  go_wp2_with fail
  refine HA.out.mono ?_
  rintro e w1 ⟨rfl, hB1⟩
  have HN := Lib.hid (new_f 3 (1 + p) 3 (1 + (p : Int)) rfl (by omega) w1 (HT.out.below hB1 HT.out.pos) (by omega) (by omega) (by omega) (by omega))
  clear HA
  go_wp2_with fail
  refine HN.out.mono ?_
  rintro e w2 ⟨g, rfl, hf2, hb2⟩
  have hB2 := hB1.trans (hb2.mono hB1.size)
  obtain ⟨lb, hlb⟩ : ∃ lb, lb = w2.heap.size := ⟨_, rfl⟩
  have hA : Below w2.heap.size w2 (w2.alloc (.cells #[.int .u64 0, .int .i64 0] 30)) := (Below.refl _ _).alloc (Nat.le_refl _) _
  have hk4 : (w2.alloc (.cells #[.int .u64 0, .int .i64 0] 30)).heap[lb]? = some (.cells #[.int .u64 0, .int .i64 0] 30) := hlb ▸ heap_alloc_new w2 _
  have hf4 : Free w1.heap.size [lb] (w2.alloc (.cells #[.int .u64 0, .int .i64 0] 30)) g _ := hf2.more hA lb (by omega) (lt_of_block hk4)
  have hB4 := hB2.trans (hA.mono hB2.size)
  have hI4 : Inv _ 3 (1 + p) 0 0 En.z := inv_new 3 (1 + p) (by omega) (by omega)
  have hbl : w1.heap.size ≤ lb := by rw [hlb]; exact hf2.size
  have HB1 := Lib.hid hB1.size
  have HF4 := Lib.hid (And.intro hf4 (And.intro hI4 (And.intro hk4 hB4)))
  have HLB := Lib.hid hlb
  clear HN hA hk4 hf4 hB4 hI4 hlb hB2 hf2 hb2 hB1
  go_wp2
  try rw [← HLB.out]
  go_loopw [8] (fun iv wr => ∃ (k : Nat) (x : En) (s : Arr), k ≤ l.length ∧ k ≤ 80 ∧ iv = .int .i64 k ∧ Free w1.heap.size [lb] wr g s ∧ Inv s 3 (1 + p) 0 0 x ∧ x.e ≤ 281474976710655 ∧ wr.heap[lb]? = some (ebox x) ∧ Below w.heap.size w wr)
    (fun iv _ => l.length - (intOf iv).toNat)
  case atStart => exact ⟨0, En.z, _, by omega, by omega, rfl, HF4.out.1, HF4.out.2.1, Nat.zero_le _, HF4.out.2.2.1, HF4.out.2.2.2⟩
  case round =>
    obtain ⟨k, ⟨xe, xw⟩, s, hk, hk80, rfl, hf, hI, hxe, hkl, hB⟩ := hrel
    dsimp only at hxe hkl
    clear HF4
    by_cases hlt : k < l.length
    · by_cases h80 : k < 80
      · obtain ⟨r, hr⟩ : ∃ r, l[k]? = some r := ⟨_, List.getElem?_eq_getElem hlt⟩
        obtain ⟨hok, b, off, rfl, hc⟩ := HS.out k r hr
        have hcw : ∀ W, Below w.heap.size w W → ∀ j v, r.cells[j]? = some v → j < 6 → W.cell? ⟨b, off + k * 6 + j, none⟩ = some v := fun W hB j v hv hj => (hB.cell (p := ⟨b, off + k * 6 + j, none⟩) (World.block_lt_of_cell? w _ ((hc j hj).trans hv))).trans ((hc j hj).trans hv)
        obtain ⟨bd1, bd2⟩ := bounds_i64 hok.w
        have bd3 := bounds_u8 hok.kind
        have bd4 := bounds_u8 hok.up
        have bd5 := bounds_u8 hok.who
        have bd6 := bounds_u64 hok.e
        clear hc hr hok
        obtain ⟨kd, up0, wh0, n0, e0, v0⟩ := r
        dsimp only at bd1 bd2 bd3 bd4 bd5 bd6
        obtain ⟨f0, rfl⟩ : ∃ f0 : Nat, e0 = f0 := ⟨e0.toNat, by omega⟩
        obtain ⟨kk, hkk, hkk2⟩ : ∃ kk : Nat, kd % 10 = kk ∧ kk < 10 := ⟨(kd % 10).toNat, by omega, by omega⟩
        obtain ⟨u, hu, hu2⟩ : ∃ u : Nat, up0 % 4 = u ∧ u < 4 := ⟨(up0 % 4).toNat, by omega, by omega⟩
        obtain ⟨v, hv, hv2⟩ : ∃ v : Nat, wh0 % 2 = v ∧ v < 2 := ⟨(wh0 % 2).toNat, by omega, by omega⟩
        obtain ⟨E, hE⟩ : ∃ E : Nat, E = xe + u := ⟨_, rfl⟩
        have m1 : IntKind.u64.wrap ((xe : Int) + IntKind.u64.wrap (up0.tmod 4)) = (E : Int) := by
          rw [Int.tmod_eq_emod_of_nonneg bd4.1, hu, IntKind.wrap_u64, IntKind.wrap_u64]; omega
        have m2 : IntKind.i64.wrap (wh0.tmod 2) = (v : Int) := by
          rw [Int.tmod_eq_emod_of_nonneg bd5.1, hv]; exact IntWalk.i64_in _ (by omega)
        have M1 := Lib.hid m1
        have M2 := Lib.hid m2
        have c1 := hcw wr hB 1 _ rfl (by omega)
        have c2 := hcw wr hB 2 _ rfl (by omega)
        have l0 := cell_blk hkl 0 _ rfl
        have hq0 := And.intro l0 (And.intro c1 c2)
        have HCW := Lib.hid hcw
        have HE := Lib.hid hE
        have HK := Lib.hid hkk
        have HF := Lib.hid (And.intro hf hI)
        clear hcw hE hkk hf hI m1 m2 hu hv
        have h80i : (k : Int) < 80 := by omega
        go_upto_region 8 with fail
        go_cut [9] from 33 to 50 (fun p wx => p = .pointer (some ⟨wr.heap.size, 0, none⟩) ∧ wx = (wr.alloc (.cells #[.int .u64 E, .int .i64 v] 30)).drew)
        case first =>
          go_region_held (fun W => W.cell? ⟨lb, 0, none⟩ = some (.int .u64 xe) ∧ W.cell? ⟨b, off + k * 6 + 1, none⟩ = some (.int .u8 up0) ∧ W.cell? ⟨b, off + k * 6 + 2, none⟩ = some (.int .u8 wh0)) (first | exact hq0 | exact And.intro (cell_alloc _ l0) (And.intro (cell_alloc _ c1) (cell_alloc _ c2))) (first | fail)
          all_goals
            go_wp2_with fail
            go_meet
            exact ⟨rfl, by rw [M1.out, M2.out]⟩
        case rest =>
          obtain ⟨rfl, rfl⟩ := hcut
          obtain ⟨hf, hI⟩ := HF.out
          have hkk := HK.out
          obtain ⟨xb, hxb⟩ : ∃ xb, xb = wr.heap.size := ⟨_, rfl⟩
          rw [← hxb]
          have hA : Below wr.heap.size wr (wr.alloc (.cells #[.int .u64 E, .int .i64 v] 30)).drew := ((Below.refl _ _).alloc (Nat.le_refl _) _).drew
          have hkx : (wr.alloc (.cells #[.int .u64 E, .int .i64 v] 30)).drew.heap[xb]? = some (.cells #[.int .u64 E, .int .i64 v] 30) := hxb ▸ heap_alloc_new wr _
          generalize (wr.alloc (.cells #[.int .u64 E, .int .i64 v] 30)).drew = w5 at *
          have hkl5 := (hA.block _ (lt_of_block hkl)).trans hkl
          have hf5 : Free w1.heap.size [xb, lb] w5 g s := hf.more hA xb (by omega) (lt_of_block hkx)
          have hB5 := hB.trans (hA.mono hB.size)
          have hn : 1 < s.n := by rw [hI.nm.n]; omega
          have hxl : xb ≠ lb := by have := lt_of_block hkl; omega
          have hxbB : w1.heap.size ≤ xb := by rw [hxb]; exact hf.size
          have c0 := HCW.out w5 hB5 0 _ rfl (by omega)
          rw [Nat.add_zero] at c0
          clear hq0 c1 c2 l0 hA hkl hf hB HF hxb M1 M2
          by_cases hk9 : kk = 9
          · subst hk9
            have c4 := HCW.out w5 hB5 4 _ rfl (by omega)
            have c5 := HCW.out w5 hB5 5 _ rfl (by omega)
            have x0 := cell_blk hkx 0 _ rfl
            have x1 := cell_blk hkx 1 _ rfl
            have z0 := frozen_blk hkx 0
            have z1 := frozen_blk hkx 1
            have hf6 := ((hf5.store (b := xb) (o := 0) (.int .u64 f0) (by simp) hxbB).store (b := xb) (o := 1) (.int .i64 v0) (by simp) hxbB)
            have hkx6 := two_set (v0 := .int .u64 f0) (v1 := .int .i64 v0) hkx
            have hkl6 := (set_heap_other (w5.setCell ⟨xb, 0, none⟩ (.int .u64 f0)) xb 1 lb (.int .i64 v0) (Ne.symm hxl)).trans ((set_heap_other w5 xb 0 lb (.int .u64 f0) (Ne.symm hxl)).trans hkl5)
            have hB6 := hB5.trans ((set_below w5 xb 0 (.int .u64 f0) (Nat.le_trans HB1.out hxbB)).trans (set_below _ xb 1 (.int .i64 v0) (Nat.le_trans HB1.out hxbB)))
            have HALL6 := Lib.hid (And.intro hf6 (And.intro hkx6 (And.intro hkl6 hB6)))
            clear hf6 hkx6 hkl6 hB6 hf5 hkl5 hB5 hkx
            go_upto_region 11 with fail
            obtain ⟨hf5, hkx, hkl5, hB5⟩ := HALL6.out
            generalize (w5.setCell ⟨xb, 0, none⟩ (.int .u64 f0)).setCell ⟨xb, 1, none⟩ (.int .i64 v0) = w6 at *
            clear HALL6 x0 x1 z0 z1 c0 c4 c5
            by_cases q1 : 1 ≤ f0
            rotate_left
            · have e1 : claimS s ⟨f0, v0⟩ = (1, s) := hI.claim_arg _ (ok_not fun h => q1 h.1)
              have HC := Lib.hid (claim_f' hf5 hn f0 v0 f0 v0 rfl rfl _ e1)
              dsimp only at HC
              have HI := Lib.hid hI
              have HL := Lib.hid (fun K W (h : Free w1.heap.size K W g s) => last_f' h hn xe xw xe xw rfl rfl HI.out.tells)
              have HB5 := Lib.hid hB5
              have HKX := Lib.hid hkx
              have HKL := Lib.hid hkl5
              have x0 := cell_blk hkx 0 _ rfl
              have x1 := cell_blk hkx 1 _ rfl
              have d1 : decide (((f0 : Nat) : Int) < 1) = true := decide_eq_true (by omega)
              clear q1
              clear hI hf5 hB5 hkl5 hkx e1
              go_wp2_with fail
              refine HC.out.mono ?_
              rintro e w7 ⟨rfl, hd7⟩
              have hkl7 := (hd7.keep lb (by simp)).trans HKL.out
              have hkx7 := (hd7.keep xb (by simp)).trans HKX.out
              have hB7 := HB5.out.trans (hd7.below.mono HB1.out)
              have x0 := cell_blk hkx7 0 _ rfl
              have x1 := cell_blk hkx7 1 _ rfl
              have l0 := cell_blk hkl7 0 _ rfl
              have HF7 := Lib.hid hd7.free
              have HKL7 := Lib.hid hkl7
              have HB7 := Lib.hid hB7
              clear HC hd7 hkl7 hkx7 hB7 HB5 HKL HKX
              go_wp2_with fail
              refine (HL.out _ _ HF7.out).mono ?_
              rintro e w8 ⟨rfl, hf8, hb8⟩
              have hkl8 := (hb8.block _ (lt_of_block HKL7.out)).trans HKL7.out
              have hA8 : Below w8.heap.size w8 (w8.alloc (.cells #[.int .u64 xe, .int .i64 xw] 30)) := (Below.refl _ _).alloc (Nat.le_refl _) _
              have hkl9 := (hA8.block _ (lt_of_block hkl8)).trans hkl8
              have hky9 := heap_alloc_new w8 (.cells #[.int .u64 xe, .int .i64 xw] 30)
              have hB9 := (HB7.out.trans (hb8.mono HB7.out.size)).trans (hA8.mono (Nat.le_trans HB7.out.size hb8.size))
              have hf9 := (hf8.keep hA8).drop
              clear hf8 hb8 hkl8 hA8 HF7 HB7 HKL7
              go_upto_region 22 with fail
              generalize w8.alloc (.cells #[.int .u64 xe, .int .i64 xw] 30) = w9 at *
              have l0 := cell_blk hkl9 0 _ rfl
              have l1 := cell_blk hkl9 1 _ rfl
              have y0 := cell_blk hky9 0 _ rfl
              have y1 := cell_blk hky9 1 _ rfl
              have HALL := Lib.hid (And.intro hf9 (And.intro hkl9 hB9))
              clear hf9 hkl9 hky9 hB9
              go_wp2
              go_roundw
              case rel => exact ⟨k + 1, ⟨xe, xw⟩, _, by omega, by omega, by go_num, HALL.out.1, HI.out, hxe, HALL.out.2.1, HALL.out.2.2⟩
              case measure => simp [intOf]; omega
            by_cases q2 : f0 ≤ 281474976710655
            rotate_left
            · have e1 : claimS s ⟨f0, v0⟩ = (1, s) := hI.claim_arg _ (ok_not fun h => q2 h.2.1)
              have HC := Lib.hid (claim_f' hf5 hn f0 v0 f0 v0 rfl rfl _ e1)
              dsimp only at HC
              have HI := Lib.hid hI
              have HL := Lib.hid (fun K W (h : Free w1.heap.size K W g s) => last_f' h hn xe xw xe xw rfl rfl HI.out.tells)
              have HB5 := Lib.hid hB5
              have HKX := Lib.hid hkx
              have HKL := Lib.hid hkl5
              have x0 := cell_blk hkx 0 _ rfl
              have x1 := cell_blk hkx 1 _ rfl
              have d1 : decide (((f0 : Nat) : Int) < 1) = false := decide_eq_false (by omega)
              have d2 : decide ((281474976710656 : Int) ≤ ((f0 : Nat) : Int)) = true := decide_eq_true (by omega)
              clear q1 q2
              clear hI hf5 hB5 hkl5 hkx e1
              go_wp2_with fail
              refine HC.out.mono ?_
              rintro e w7 ⟨rfl, hd7⟩
              have hkl7 := (hd7.keep lb (by simp)).trans HKL.out
              have hkx7 := (hd7.keep xb (by simp)).trans HKX.out
              have hB7 := HB5.out.trans (hd7.below.mono HB1.out)
              have x0 := cell_blk hkx7 0 _ rfl
              have x1 := cell_blk hkx7 1 _ rfl
              have l0 := cell_blk hkl7 0 _ rfl
              have HF7 := Lib.hid hd7.free
              have HKL7 := Lib.hid hkl7
              have HB7 := Lib.hid hB7
              clear HC hd7 hkl7 hkx7 hB7 HB5 HKL HKX
              go_wp2_with fail
              refine (HL.out _ _ HF7.out).mono ?_
              rintro e w8 ⟨rfl, hf8, hb8⟩
              have hkl8 := (hb8.block _ (lt_of_block HKL7.out)).trans HKL7.out
              have hA8 : Below w8.heap.size w8 (w8.alloc (.cells #[.int .u64 xe, .int .i64 xw] 30)) := (Below.refl _ _).alloc (Nat.le_refl _) _
              have hkl9 := (hA8.block _ (lt_of_block hkl8)).trans hkl8
              have hky9 := heap_alloc_new w8 (.cells #[.int .u64 xe, .int .i64 xw] 30)
              have hB9 := (HB7.out.trans (hb8.mono HB7.out.size)).trans (hA8.mono (Nat.le_trans HB7.out.size hb8.size))
              have hf9 := (hf8.keep hA8).drop
              clear hf8 hb8 hkl8 hA8 HF7 HB7 HKL7
              go_upto_region 22 with fail
              generalize w8.alloc (.cells #[.int .u64 xe, .int .i64 xw] 30) = w9 at *
              have l0 := cell_blk hkl9 0 _ rfl
              have l1 := cell_blk hkl9 1 _ rfl
              have y0 := cell_blk hky9 0 _ rfl
              have y1 := cell_blk hky9 1 _ rfl
              have HALL := Lib.hid (And.intro hf9 (And.intro hkl9 hB9))
              clear hf9 hkl9 hky9 hB9
              go_wp2
              go_roundw
              case rel => exact ⟨k + 1, ⟨xe, xw⟩, _, by omega, by omega, by go_num, HALL.out.1, HI.out, hxe, HALL.out.2.1, HALL.out.2.2⟩
              case measure => simp [intOf]; omega
            by_cases q3 : 0 ≤ v0
            rotate_left
            · have e1 : claimS s ⟨f0, v0⟩ = (1, s) := hI.claim_arg _ (ok_not fun h => q3 h.2.2.1)
              have HC := Lib.hid (claim_f' hf5 hn f0 v0 f0 v0 rfl rfl _ e1)
              dsimp only at HC
              have HI := Lib.hid hI
              have HL := Lib.hid (fun K W (h : Free w1.heap.size K W g s) => last_f' h hn xe xw xe xw rfl rfl HI.out.tells)
              have HB5 := Lib.hid hB5
              have HKX := Lib.hid hkx
              have HKL := Lib.hid hkl5
              have x0 := cell_blk hkx 0 _ rfl
              have x1 := cell_blk hkx 1 _ rfl
              have d1 : decide (((f0 : Nat) : Int) < 1) = false := decide_eq_false (by omega)
              have d2 : decide ((281474976710656 : Int) ≤ ((f0 : Nat) : Int)) = false := decide_eq_false (by omega)
              have d3 : decide (v0 < 0) = true := decide_eq_true (by omega)
              clear q1 q2 q3
              clear hI hf5 hB5 hkl5 hkx e1
              go_wp2_with fail
              refine HC.out.mono ?_
              rintro e w7 ⟨rfl, hd7⟩
              have hkl7 := (hd7.keep lb (by simp)).trans HKL.out
              have hkx7 := (hd7.keep xb (by simp)).trans HKX.out
              have hB7 := HB5.out.trans (hd7.below.mono HB1.out)
              have x0 := cell_blk hkx7 0 _ rfl
              have x1 := cell_blk hkx7 1 _ rfl
              have l0 := cell_blk hkl7 0 _ rfl
              have HF7 := Lib.hid hd7.free
              have HKL7 := Lib.hid hkl7
              have HB7 := Lib.hid hB7
              clear HC hd7 hkl7 hkx7 hB7 HB5 HKL HKX
              go_wp2_with fail
              refine (HL.out _ _ HF7.out).mono ?_
              rintro e w8 ⟨rfl, hf8, hb8⟩
              have hkl8 := (hb8.block _ (lt_of_block HKL7.out)).trans HKL7.out
              have hA8 : Below w8.heap.size w8 (w8.alloc (.cells #[.int .u64 xe, .int .i64 xw] 30)) := (Below.refl _ _).alloc (Nat.le_refl _) _
              have hkl9 := (hA8.block _ (lt_of_block hkl8)).trans hkl8
              have hky9 := heap_alloc_new w8 (.cells #[.int .u64 xe, .int .i64 xw] 30)
              have hB9 := (HB7.out.trans (hb8.mono HB7.out.size)).trans (hA8.mono (Nat.le_trans HB7.out.size hb8.size))
              have hf9 := (hf8.keep hA8).drop
              clear hf8 hb8 hkl8 hA8 HF7 HB7 HKL7
              go_upto_region 22 with fail
              generalize w8.alloc (.cells #[.int .u64 xe, .int .i64 xw] 30) = w9 at *
              have l0 := cell_blk hkl9 0 _ rfl
              have l1 := cell_blk hkl9 1 _ rfl
              have y0 := cell_blk hky9 0 _ rfl
              have y1 := cell_blk hky9 1 _ rfl
              have HALL := Lib.hid (And.intro hf9 (And.intro hkl9 hB9))
              clear hf9 hkl9 hky9 hB9
              go_wp2
              go_roundw
              case rel => exact ⟨k + 1, ⟨xe, xw⟩, _, by omega, by omega, by go_num, HALL.out.1, HI.out, hxe, HALL.out.2.1, HALL.out.2.2⟩
              case measure => simp [intOf]; omega
            by_cases q4 : v0 ≤ 1
            rotate_left
            · have e1 : claimS s ⟨f0, v0⟩ = (1, s) := hI.claim_arg _ (ok_not fun h => q4 h.2.2.2)
              have HC := Lib.hid (claim_f' hf5 hn f0 v0 f0 v0 rfl rfl _ e1)
              dsimp only at HC
              have HI := Lib.hid hI
              have HL := Lib.hid (fun K W (h : Free w1.heap.size K W g s) => last_f' h hn xe xw xe xw rfl rfl HI.out.tells)
              have HB5 := Lib.hid hB5
              have HKX := Lib.hid hkx
              have HKL := Lib.hid hkl5
              have x0 := cell_blk hkx 0 _ rfl
              have x1 := cell_blk hkx 1 _ rfl
              have d1 : decide (((f0 : Nat) : Int) < 1) = false := decide_eq_false (by omega)
              have d2 : decide ((281474976710656 : Int) ≤ ((f0 : Nat) : Int)) = false := decide_eq_false (by omega)
              have d3 : decide (v0 < 0) = false := decide_eq_false (by omega)
              have d4 : decide (1 < v0) = true := decide_eq_true (by omega)
              clear q1 q2 q3 q4
              clear hI hf5 hB5 hkl5 hkx e1
              go_wp2_with fail
              refine HC.out.mono ?_
              rintro e w7 ⟨rfl, hd7⟩
              have hkl7 := (hd7.keep lb (by simp)).trans HKL.out
              have hkx7 := (hd7.keep xb (by simp)).trans HKX.out
              have hB7 := HB5.out.trans (hd7.below.mono HB1.out)
              have x0 := cell_blk hkx7 0 _ rfl
              have x1 := cell_blk hkx7 1 _ rfl
              have l0 := cell_blk hkl7 0 _ rfl
              have HF7 := Lib.hid hd7.free
              have HKL7 := Lib.hid hkl7
              have HB7 := Lib.hid hB7
              clear HC hd7 hkl7 hkx7 hB7 HB5 HKL HKX
              go_wp2_with fail
              refine (HL.out _ _ HF7.out).mono ?_
              rintro e w8 ⟨rfl, hf8, hb8⟩
              have hkl8 := (hb8.block _ (lt_of_block HKL7.out)).trans HKL7.out
              have hA8 : Below w8.heap.size w8 (w8.alloc (.cells #[.int .u64 xe, .int .i64 xw] 30)) := (Below.refl _ _).alloc (Nat.le_refl _) _
              have hkl9 := (hA8.block _ (lt_of_block hkl8)).trans hkl8
              have hky9 := heap_alloc_new w8 (.cells #[.int .u64 xe, .int .i64 xw] 30)
              have hB9 := (HB7.out.trans (hb8.mono HB7.out.size)).trans (hA8.mono (Nat.le_trans HB7.out.size hb8.size))
              have hf9 := (hf8.keep hA8).drop
              clear hf8 hb8 hkl8 hA8 HF7 HB7 HKL7
              go_upto_region 22 with fail
              generalize w8.alloc (.cells #[.int .u64 xe, .int .i64 xw] 30) = w9 at *
              have l0 := cell_blk hkl9 0 _ rfl
              have l1 := cell_blk hkl9 1 _ rfl
              have y0 := cell_blk hky9 0 _ rfl
              have y1 := cell_blk hky9 1 _ rfl
              have HALL := Lib.hid (And.intro hf9 (And.intro hkl9 hB9))
              clear hf9 hkl9 hky9 hB9
              go_wp2
              go_roundw
              case rel => exact ⟨k + 1, ⟨xe, xw⟩, _, by omega, by omega, by go_num, HALL.out.1, HI.out, hxe, HALL.out.2.1, HALL.out.2.2⟩
              case measure => simp [intOf]; omega
            have hok : okE ⟨f0, v0⟩ = true := ok_of q1 q2 q3 q4
            have d1 : decide (((f0 : Nat) : Int) < 1) = false := decide_eq_false (by omega)
            have d2 : decide ((281474976710656 : Int) ≤ ((f0 : Nat) : Int)) = false := decide_eq_false (by omega)
            have d3 : decide (v0 < 0) = false := decide_eq_false (by omega)
            have d4 : decide (1 < v0) = false := decide_eq_false (by omega)
            have Q2 := Lib.hid q2
            clear q1 q2 q3 q4
            by_cases q5 : f0 ≤ xe
            · have e1 : claimS s ⟨f0, v0⟩ = (6, s) := hI.claim_order _ hok q5
              have HC := Lib.hid (claim_f' hf5 hn f0 v0 f0 v0 rfl rfl _ e1)
              dsimp only at HC
              have HI := Lib.hid hI
              have HL := Lib.hid (fun K W (h : Free w1.heap.size K W g s) => last_f' h hn xe xw xe xw rfl rfl HI.out.tells)
              have HB5 := Lib.hid hB5
              have HKX := Lib.hid hkx
              have HKL := Lib.hid hkl5
              have x0 := cell_blk hkx 0 _ rfl
              have x1 := cell_blk hkx 1 _ rfl
              clear hok
              clear hI hf5 hB5 hkl5 hkx e1
              go_wp2_with fail
              refine HC.out.mono ?_
              rintro e w7 ⟨rfl, hd7⟩
              have hkl7 := (hd7.keep lb (by simp)).trans HKL.out
              have hkx7 := (hd7.keep xb (by simp)).trans HKX.out
              have hB7 := HB5.out.trans (hd7.below.mono HB1.out)
              have x0 := cell_blk hkx7 0 _ rfl
              have x1 := cell_blk hkx7 1 _ rfl
              have l0 := cell_blk hkl7 0 _ rfl
              have HF7 := Lib.hid hd7.free
              have HKL7 := Lib.hid hkl7
              have HB7 := Lib.hid hB7
              clear HC hd7 hkl7 hkx7 hB7 HB5 HKL HKX
              go_wp2_with fail
              refine (HL.out _ _ HF7.out).mono ?_
              rintro e w8 ⟨rfl, hf8, hb8⟩
              have hkl8 := (hb8.block _ (lt_of_block HKL7.out)).trans HKL7.out
              have hA8 : Below w8.heap.size w8 (w8.alloc (.cells #[.int .u64 xe, .int .i64 xw] 30)) := (Below.refl _ _).alloc (Nat.le_refl _) _
              have hkl9 := (hA8.block _ (lt_of_block hkl8)).trans hkl8
              have hky9 := heap_alloc_new w8 (.cells #[.int .u64 xe, .int .i64 xw] 30)
              have hB9 := (HB7.out.trans (hb8.mono HB7.out.size)).trans (hA8.mono (Nat.le_trans HB7.out.size hb8.size))
              have hf9 := (hf8.keep hA8).drop
              clear hf8 hb8 hkl8 hA8 HF7 HB7 HKL7
              go_upto_region 22 with fail
              generalize w8.alloc (.cells #[.int .u64 xe, .int .i64 xw] 30) = w9 at *
              have l0 := cell_blk hkl9 0 _ rfl
              have l1 := cell_blk hkl9 1 _ rfl
              have y0 := cell_blk hky9 0 _ rfl
              have y1 := cell_blk hky9 1 _ rfl
              have HALL := Lib.hid (And.intro hf9 (And.intro hkl9 hB9))
              clear hf9 hkl9 hky9 hB9
              go_wp2
              go_roundw
              case rel => exact ⟨k + 1, ⟨xe, xw⟩, _, by omega, by omega, by go_num, HALL.out.1, HI.out, hxe, HALL.out.2.1, HALL.out.2.2⟩
              case measure => simp [intOf]; omega
            have q5a : xe < f0 := by omega
            obtain ⟨s', e1, hI'⟩ := claim_ok hI hok q5a (Nat.zero_le _)
            have HC := Lib.hid (claim_f' hf5 hn f0 v0 f0 v0 rfl rfl _ e1)
            dsimp only at HC
            have HI := Lib.hid hI'
            have hn' : 1 < s'.n := by rw [hI'.nm.n]; omega
            have HL := Lib.hid (fun K W (h : Free w1.heap.size K W g s') => last_f' h hn' f0 v0 f0 v0 rfl rfl HI.out.tells)
            have HB5 := Lib.hid hB5
            have HKX := Lib.hid hkx
            have HKL := Lib.hid hkl5
            have x0 := cell_blk hkx 0 _ rfl
            have x1 := cell_blk hkx 1 _ rfl
            clear hI hf5 hB5 hkl5 hkx e1 hok hI'
            go_wp2_with fail
            refine HC.out.mono ?_
            rintro e w7 ⟨rfl, hd7⟩
            have hkl7 := (hd7.keep lb (by simp)).trans HKL.out
            have hkx7 := (hd7.keep xb (by simp)).trans HKX.out
            have hB7 := HB5.out.trans (hd7.below.mono HB1.out)
            have x0 := cell_blk hkx7 0 _ rfl
            have x1 := cell_blk hkx7 1 _ rfl
            have l0 := cell_blk hkl7 0 _ rfl
            have l1 := cell_blk hkl7 1 _ rfl
            have lz0 := frozen_blk hkl7 0
            have lz1 := frozen_blk hkl7 1
            have hf8 := ((hd7.free.store (b := lb) (o := 0) (.int .u64 f0) (by simp) hbl).store (b := lb) (o := 1) (.int .i64 v0) (by simp) hbl)
            have hkl8 := two_set (v0 := .int .u64 f0) (v1 := .int .i64 v0) hkl7
            have hB8 := hB7.trans ((set_below w7 lb 0 (.int .u64 f0) (Nat.le_trans HB1.out hbl)).trans (set_below _ lb 1 (.int .i64 v0) (Nat.le_trans HB1.out hbl)))
            have HF7 := Lib.hid hf8
            have HKL7 := Lib.hid hkl8
            have HB7 := Lib.hid hB8
            clear HC hd7 hkl7 hkx7 hB7 HB5 HKL HKX hf8 hkl8 hB8
            go_wp2_with fail
            refine (HL.out _ _ HF7.out).mono ?_
            rintro e w8 ⟨rfl, hf8, hb8⟩
            have hkl8 := (hb8.block _ (lt_of_block HKL7.out)).trans HKL7.out
            have hA8 : Below w8.heap.size w8 (w8.alloc (.cells #[.int .u64 f0, .int .i64 v0] 30)) := (Below.refl _ _).alloc (Nat.le_refl _) _
            have hkl9 := (hA8.block _ (lt_of_block hkl8)).trans hkl8
            have hky9 := heap_alloc_new w8 (.cells #[.int .u64 f0, .int .i64 v0] 30)
            have hB9 := (HB7.out.trans (hb8.mono HB7.out.size)).trans (hA8.mono (Nat.le_trans HB7.out.size hb8.size))
            have hf9 := (hf8.keep hA8).drop
            clear hf8 hb8 hkl8 hA8 HF7 HB7 HKL7
            go_upto_region 22 with fail
            generalize w8.alloc (.cells #[.int .u64 f0, .int .i64 v0] 30) = w9 at *
            have l0 := cell_blk hkl9 0 _ rfl
            have l1 := cell_blk hkl9 1 _ rfl
            have y0 := cell_blk hky9 0 _ rfl
            have y1 := cell_blk hky9 1 _ rfl
            have HALL := Lib.hid (And.intro hf9 (And.intro hkl9 hB9))
            clear hf9 hkl9 hky9 hB9
            go_wp2
            go_roundw
            case rel => exact ⟨k + 1, ⟨f0, v0⟩, _, by omega, by omega, by go_num, HALL.out.1, HI.out, Q2.out, HALL.out.2.1, HALL.out.2.2⟩
            case measure => simp [intOf]; omega
          · have hk9' : ((kk : Int) == 9) = false := by simp; omega
            clear hkk2
            go_upto_region 11 with fail
            clear c0
            by_cases q1 : 1 ≤ E
            rotate_left
            · have e1 : claimS s ⟨E, (v : Int)⟩ = (1, s) := hI.claim_arg _ (ok_not fun h => q1 h.1)
              have HC := Lib.hid (claim_f' hf5 hn E (v : Int) E (v : Int) rfl rfl _ e1)
              dsimp only at HC
              have HI := Lib.hid hI
              have HL := Lib.hid (fun K W (h : Free w1.heap.size K W g s) => last_f' h hn xe xw xe xw rfl rfl HI.out.tells)
              have HB5 := Lib.hid hB5
              have HKX := Lib.hid hkx
              have HKL := Lib.hid hkl5
              have x0 := cell_blk hkx 0 _ rfl
              have x1 := cell_blk hkx 1 _ rfl
              have d1 : decide (((E : Nat) : Int) < 1) = true := decide_eq_true (by omega)
              clear q1
              clear hI hf5 hB5 hkl5 hkx e1
              go_wp2_with fail
              refine HC.out.mono ?_
              rintro e w7 ⟨rfl, hd7⟩
              have hkl7 := (hd7.keep lb (by simp)).trans HKL.out
              have hkx7 := (hd7.keep xb (by simp)).trans HKX.out
              have hB7 := HB5.out.trans (hd7.below.mono HB1.out)
              have x0 := cell_blk hkx7 0 _ rfl
              have x1 := cell_blk hkx7 1 _ rfl
              have l0 := cell_blk hkl7 0 _ rfl
              have HF7 := Lib.hid hd7.free
              have HKL7 := Lib.hid hkl7
              have HB7 := Lib.hid hB7
              clear HC hd7 hkl7 hkx7 hB7 HB5 HKL HKX
              go_wp2_with fail
              refine (HL.out _ _ HF7.out).mono ?_
              rintro e w8 ⟨rfl, hf8, hb8⟩
              have hkl8 := (hb8.block _ (lt_of_block HKL7.out)).trans HKL7.out
              have hA8 : Below w8.heap.size w8 (w8.alloc (.cells #[.int .u64 xe, .int .i64 xw] 30)) := (Below.refl _ _).alloc (Nat.le_refl _) _
              have hkl9 := (hA8.block _ (lt_of_block hkl8)).trans hkl8
              have hky9 := heap_alloc_new w8 (.cells #[.int .u64 xe, .int .i64 xw] 30)
              have hB9 := (HB7.out.trans (hb8.mono HB7.out.size)).trans (hA8.mono (Nat.le_trans HB7.out.size hb8.size))
              have hf9 := (hf8.keep hA8).drop
              clear hf8 hb8 hkl8 hA8 HF7 HB7 HKL7
              go_upto_region 22 with fail
              generalize w8.alloc (.cells #[.int .u64 xe, .int .i64 xw] 30) = w9 at *
              have l0 := cell_blk hkl9 0 _ rfl
              have l1 := cell_blk hkl9 1 _ rfl
              have y0 := cell_blk hky9 0 _ rfl
              have y1 := cell_blk hky9 1 _ rfl
              have HALL := Lib.hid (And.intro hf9 (And.intro hkl9 hB9))
              clear hf9 hkl9 hky9 hB9
              go_wp2
              go_roundw
              case rel => exact ⟨k + 1, ⟨xe, xw⟩, _, by omega, by omega, by go_num, HALL.out.1, HI.out, hxe, HALL.out.2.1, HALL.out.2.2⟩
              case measure => simp [intOf]; omega
            by_cases q2 : E ≤ 281474976710655
            rotate_left
            · have e1 : claimS s ⟨E, (v : Int)⟩ = (1, s) := hI.claim_arg _ (ok_not fun h => q2 h.2.1)
              have HC := Lib.hid (claim_f' hf5 hn E (v : Int) E (v : Int) rfl rfl _ e1)
              dsimp only at HC
              have HI := Lib.hid hI
              have HL := Lib.hid (fun K W (h : Free w1.heap.size K W g s) => last_f' h hn xe xw xe xw rfl rfl HI.out.tells)
              have HB5 := Lib.hid hB5
              have HKX := Lib.hid hkx
              have HKL := Lib.hid hkl5
              have x0 := cell_blk hkx 0 _ rfl
              have x1 := cell_blk hkx 1 _ rfl
              have d1 : decide (((E : Nat) : Int) < 1) = false := decide_eq_false (by omega)
              have d2 : decide ((281474976710656 : Int) ≤ ((E : Nat) : Int)) = true := decide_eq_true (by omega)
              clear q1 q2
              clear hI hf5 hB5 hkl5 hkx e1
              go_wp2_with fail
              refine HC.out.mono ?_
              rintro e w7 ⟨rfl, hd7⟩
              have hkl7 := (hd7.keep lb (by simp)).trans HKL.out
              have hkx7 := (hd7.keep xb (by simp)).trans HKX.out
              have hB7 := HB5.out.trans (hd7.below.mono HB1.out)
              have x0 := cell_blk hkx7 0 _ rfl
              have x1 := cell_blk hkx7 1 _ rfl
              have l0 := cell_blk hkl7 0 _ rfl
              have HF7 := Lib.hid hd7.free
              have HKL7 := Lib.hid hkl7
              have HB7 := Lib.hid hB7
              clear HC hd7 hkl7 hkx7 hB7 HB5 HKL HKX
              go_wp2_with fail
              refine (HL.out _ _ HF7.out).mono ?_
              rintro e w8 ⟨rfl, hf8, hb8⟩
              have hkl8 := (hb8.block _ (lt_of_block HKL7.out)).trans HKL7.out
              have hA8 : Below w8.heap.size w8 (w8.alloc (.cells #[.int .u64 xe, .int .i64 xw] 30)) := (Below.refl _ _).alloc (Nat.le_refl _) _
              have hkl9 := (hA8.block _ (lt_of_block hkl8)).trans hkl8
              have hky9 := heap_alloc_new w8 (.cells #[.int .u64 xe, .int .i64 xw] 30)
              have hB9 := (HB7.out.trans (hb8.mono HB7.out.size)).trans (hA8.mono (Nat.le_trans HB7.out.size hb8.size))
              have hf9 := (hf8.keep hA8).drop
              clear hf8 hb8 hkl8 hA8 HF7 HB7 HKL7
              go_upto_region 22 with fail
              generalize w8.alloc (.cells #[.int .u64 xe, .int .i64 xw] 30) = w9 at *
              have l0 := cell_blk hkl9 0 _ rfl
              have l1 := cell_blk hkl9 1 _ rfl
              have y0 := cell_blk hky9 0 _ rfl
              have y1 := cell_blk hky9 1 _ rfl
              have HALL := Lib.hid (And.intro hf9 (And.intro hkl9 hB9))
              clear hf9 hkl9 hky9 hB9
              go_wp2
              go_roundw
              case rel => exact ⟨k + 1, ⟨xe, xw⟩, _, by omega, by omega, by go_num, HALL.out.1, HI.out, hxe, HALL.out.2.1, HALL.out.2.2⟩
              case measure => simp [intOf]; omega
            have hok : okE ⟨E, (v : Int)⟩ = true := ok_of q1 q2 (by omega) (by omega)
            have d1 : decide (((E : Nat) : Int) < 1) = false := decide_eq_false (by omega)
            have d2 : decide ((281474976710656 : Int) ≤ ((E : Nat) : Int)) = false := decide_eq_false (by omega)
            have d3 : decide ((v : Int) < 0) = false := decide_eq_false (by omega)
            have d4 : decide (1 < (v : Int)) = false := decide_eq_false (by omega)
            have Q2 := Lib.hid q2
            clear q1 q2
            by_cases q5 : E ≤ xe
            · have e1 : claimS s ⟨E, (v : Int)⟩ = (6, s) := hI.claim_order _ hok q5
              have HC := Lib.hid (claim_f' hf5 hn E (v : Int) E (v : Int) rfl rfl _ e1)
              dsimp only at HC
              have HI := Lib.hid hI
              have HL := Lib.hid (fun K W (h : Free w1.heap.size K W g s) => last_f' h hn xe xw xe xw rfl rfl HI.out.tells)
              have HB5 := Lib.hid hB5
              have HKX := Lib.hid hkx
              have HKL := Lib.hid hkl5
              have x0 := cell_blk hkx 0 _ rfl
              have x1 := cell_blk hkx 1 _ rfl
              clear hok
              clear hI hf5 hB5 hkl5 hkx e1
              go_wp2_with fail
              refine HC.out.mono ?_
              rintro e w7 ⟨rfl, hd7⟩
              have hkl7 := (hd7.keep lb (by simp)).trans HKL.out
              have hkx7 := (hd7.keep xb (by simp)).trans HKX.out
              have hB7 := HB5.out.trans (hd7.below.mono HB1.out)
              have x0 := cell_blk hkx7 0 _ rfl
              have x1 := cell_blk hkx7 1 _ rfl
              have l0 := cell_blk hkl7 0 _ rfl
              have HF7 := Lib.hid hd7.free
              have HKL7 := Lib.hid hkl7
              have HB7 := Lib.hid hB7
              clear HC hd7 hkl7 hkx7 hB7 HB5 HKL HKX
              go_wp2_with fail
              refine (HL.out _ _ HF7.out).mono ?_
              rintro e w8 ⟨rfl, hf8, hb8⟩
              have hkl8 := (hb8.block _ (lt_of_block HKL7.out)).trans HKL7.out
              have hA8 : Below w8.heap.size w8 (w8.alloc (.cells #[.int .u64 xe, .int .i64 xw] 30)) := (Below.refl _ _).alloc (Nat.le_refl _) _
              have hkl9 := (hA8.block _ (lt_of_block hkl8)).trans hkl8
              have hky9 := heap_alloc_new w8 (.cells #[.int .u64 xe, .int .i64 xw] 30)
              have hB9 := (HB7.out.trans (hb8.mono HB7.out.size)).trans (hA8.mono (Nat.le_trans HB7.out.size hb8.size))
              have hf9 := (hf8.keep hA8).drop
              clear hf8 hb8 hkl8 hA8 HF7 HB7 HKL7
              go_upto_region 22 with fail
              generalize w8.alloc (.cells #[.int .u64 xe, .int .i64 xw] 30) = w9 at *
              have l0 := cell_blk hkl9 0 _ rfl
              have l1 := cell_blk hkl9 1 _ rfl
              have y0 := cell_blk hky9 0 _ rfl
              have y1 := cell_blk hky9 1 _ rfl
              have HALL := Lib.hid (And.intro hf9 (And.intro hkl9 hB9))
              clear hf9 hkl9 hky9 hB9
              go_wp2
              go_roundw
              case rel => exact ⟨k + 1, ⟨xe, xw⟩, _, by omega, by omega, by go_num, HALL.out.1, HI.out, hxe, HALL.out.2.1, HALL.out.2.2⟩
              case measure => simp [intOf]; omega
            have q5a : xe < E := by omega
            obtain ⟨s', e1, hI'⟩ := claim_ok hI hok q5a (Nat.zero_le _)
            have HC := Lib.hid (claim_f' hf5 hn E (v : Int) E (v : Int) rfl rfl _ e1)
            dsimp only at HC
            have HI := Lib.hid hI'
            have hn' : 1 < s'.n := by rw [hI'.nm.n]; omega
            have HL := Lib.hid (fun K W (h : Free w1.heap.size K W g s') => last_f' h hn' E (v : Int) E (v : Int) rfl rfl HI.out.tells)
            have HB5 := Lib.hid hB5
            have HKX := Lib.hid hkx
            have HKL := Lib.hid hkl5
            have x0 := cell_blk hkx 0 _ rfl
            have x1 := cell_blk hkx 1 _ rfl
            clear hI hf5 hB5 hkl5 hkx e1 hok hI'
            go_wp2_with fail
            refine HC.out.mono ?_
            rintro e w7 ⟨rfl, hd7⟩
            have hkl7 := (hd7.keep lb (by simp)).trans HKL.out
            have hkx7 := (hd7.keep xb (by simp)).trans HKX.out
            have hB7 := HB5.out.trans (hd7.below.mono HB1.out)
            have x0 := cell_blk hkx7 0 _ rfl
            have x1 := cell_blk hkx7 1 _ rfl
            have l0 := cell_blk hkl7 0 _ rfl
            have l1 := cell_blk hkl7 1 _ rfl
            have lz0 := frozen_blk hkl7 0
            have lz1 := frozen_blk hkl7 1
            have hf8 := ((hd7.free.store (b := lb) (o := 0) (.int .u64 E) (by simp) hbl).store (b := lb) (o := 1) (.int .i64 (v : Int)) (by simp) hbl)
            have hkl8 := two_set (v0 := .int .u64 E) (v1 := .int .i64 (v : Int)) hkl7
            have hB8 := hB7.trans ((set_below w7 lb 0 (.int .u64 E) (Nat.le_trans HB1.out hbl)).trans (set_below _ lb 1 (.int .i64 (v : Int)) (Nat.le_trans HB1.out hbl)))
            have HF7 := Lib.hid hf8
            have HKL7 := Lib.hid hkl8
            have HB7 := Lib.hid hB8
            clear HC hd7 hkl7 hkx7 hB7 HB5 HKL HKX hf8 hkl8 hB8
            go_wp2_with fail
            refine (HL.out _ _ HF7.out).mono ?_
            rintro e w8 ⟨rfl, hf8, hb8⟩
            have hkl8 := (hb8.block _ (lt_of_block HKL7.out)).trans HKL7.out
            have hA8 : Below w8.heap.size w8 (w8.alloc (.cells #[.int .u64 E, .int .i64 (v : Int)] 30)) := (Below.refl _ _).alloc (Nat.le_refl _) _
            have hkl9 := (hA8.block _ (lt_of_block hkl8)).trans hkl8
            have hky9 := heap_alloc_new w8 (.cells #[.int .u64 E, .int .i64 (v : Int)] 30)
            have hB9 := (HB7.out.trans (hb8.mono HB7.out.size)).trans (hA8.mono (Nat.le_trans HB7.out.size hb8.size))
            have hf9 := (hf8.keep hA8).drop
            clear hf8 hb8 hkl8 hA8 HF7 HB7 HKL7
            go_upto_region 22 with fail
            generalize w8.alloc (.cells #[.int .u64 E, .int .i64 (v : Int)] 30) = w9 at *
            have l0 := cell_blk hkl9 0 _ rfl
            have l1 := cell_blk hkl9 1 _ rfl
            have y0 := cell_blk hky9 0 _ rfl
            have y1 := cell_blk hky9 1 _ rfl
            have HALL := Lib.hid (And.intro hf9 (And.intro hkl9 hB9))
            clear hf9 hkl9 hky9 hB9
            go_wp2
            go_roundw
            case rel => exact ⟨k + 1, ⟨E, (v : Int)⟩, _, by omega, by omega, by go_num, HALL.out.1, HI.out, Q2.out, HALL.out.2.1, HALL.out.2.2⟩
            case measure => simp [intOf]; omega
      · have hend : ¬ ((k : Int) < 80) := by omega
        have HNX := Lib.hid (show Calls Tryd.prog 14 #[.pointer (some ⟨g, 0, none⟩), .int .i64 2] wr (fun e w' => e = .returned (.int .i64 0) ∧ wr = w') from by
          have h := next_f hf 2 (by rw [hI.nm.n]; omega)
          rw [hI.rest 2 (by omega)] at h
          exact h)
        clear hf hI
        go_wp2_with (go_at_call 14; (refine HNX.out.mono ?_); rintro e w10 ⟨rfl, rfl⟩)
        go_ret
        exact ⟨rfl, hB⟩
    · have hend : ¬ ((k : Int) < (l.length : Int)) := by omega
      have HNX := Lib.hid (show Calls Tryd.prog 14 #[.pointer (some ⟨g, 0, none⟩), .int .i64 2] wr (fun e w' => e = .returned (.int .i64 0) ∧ wr = w') from by
        have h := next_f hf 2 (by rw [hI.nm.n]; omega)
        rw [hI.rest 2 (by omega)] at h
        exact h)
      clear hf hI
      go_wp2_with (go_at_call 14; (refine HNX.out.mono ?_); rintro e w10 ⟨rfl, rfl⟩)
      go_ret
      exact ⟨rfl, hB⟩
end Go.Proofs.YtcbgccmoeleanaaDoor.Lg
