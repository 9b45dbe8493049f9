/- The walk of the law LogbookFalls. -/
import Derived.Test.YtcbgccmoeleanaaDoorUseF
import Derived.Test.YtcbgccmoeleanaaDoorArgL
import Derived.Deep.CutRange
namespace Drawbar.Log
open Go.RowKit
open Go.Proofs.YtcbgccmoeleanaaDoor Drawbar Drawbar.Sheet Drawbar.Nand
theorem Inv.arms {s : Arr} {n p f m : Nat} {x : En} (h : Inv s n p f m x) (k : Nat) : Inv { s with armed := k } n p f k x := ⟨⟨h.nm.n, h.nm.p, h.nm.f, rfl, h.nm.off⟩, h.n2, h.p1, h.fit, h.rest, h.last⟩
theorem Inv.again {s : Arr} {n p f m : Nat} {x : En} (h : Inv s n p f m x) (hb : s.begun = .no) (cut : Int) : Inv (s.restart cut) n p 0 0 x := by
  have e : s.resume cut = s := by
    unfold Arr.resume
    rw [hb]
  unfold Arr.restart
  rw [e]
  exact ⟨⟨h.nm.n, h.nm.p, rfl, rfl, rfl⟩, h.n2, h.p1, h.fit, h.rest, h.last⟩
end Drawbar.Log
namespace Go.Proofs.YtcbgccmoeleanaaDoor.Lg
open Go.RowKit
open Drawbar Drawbar.Sheet Drawbar.Nand Drawbar.Log Go.Proofs.YtcbgccmoeleanaaDoor.Nd

theorem Free.calm {B : Nat} {K : List Nat} {w : World} {g : Nat} {s : Arr} (h : Free B K w g s) (ho : s.off = false) : s.begun = .no := by
  obtain ⟨F, ha, _⟩ := h.arr
  exact ha.1.idle ho

set_option maxHeartbeats 16000000 in
set_option maxRecDepth 100000 in
theorem falls_any (pg : Nat) (l : List ActV) (a : Option Addr) (cap : Nat) (w : World) (h1 : pg < 256) (hs : Acts w a l) (hT : Tab w) :
    Calls Tryd.prog 4 #[.int .u8 pg, .slice a l.length cap] w (Yes w) := by
  have HA := Lib.hid (awake_any w hT)
  have HT := Lib.hid hT
  have HS := Lib.hid hs
  clear hT hs
  obtain ⟨p, hp, hp6⟩ : ∃ p : Nat, (pg : Int) % 6 = p ∧ p < 6 := ⟨pg % 6, by omega, by omega⟩
  go_enter Tryd.func4, Tryd.ntmps4
  go_wp2_with fail
  refine HA.out.mono ?_
  rintro e w1 ⟨rfl, hB1⟩
  have HN := Lib.hid (new_f 2 (1 + p) 2 (1 + (p : Int)) rfl (by omega) w1 (HT.out.below hB1 HT.out.pos) (by omega) (by omega) (by omega) (by omega))
  clear HA
  go_wp2_with fail
  refine HN.out.mono ?_
  rintro e w2 ⟨g, rfl, hf2, hb2⟩
  have hB2 := hB1.trans (hb2.mono hB1.size)
  obtain ⟨lb, hlb⟩ : ∃ lb, lb = w2.heap.size := ⟨_, rfl⟩
  have hA : Below w2.heap.size w2 (w2.alloc (.cells #[.int .u64 0, .int .i64 0] 30)) := (Below.refl _ _).alloc (Nat.le_refl _) _
  have hk4 : (w2.alloc (.cells #[.int .u64 0, .int .i64 0] 30)).heap[lb]? = some (.cells #[.int .u64 0, .int .i64 0] 30) := hlb ▸ heap_alloc_new w2 _
  have hf4 : Free w1.heap.size [lb] (w2.alloc (.cells #[.int .u64 0, .int .i64 0] 30)) g _ := hf2.more hA lb (by omega) (lt_of_block hk4)
  have hB4 := hB2.trans (hA.mono hB2.size)
  have hI4 : Inv _ 2 (1 + p) 0 0 En.z := inv_new 2 (1 + p) (by omega) (by omega)
  have hbl : w1.heap.size ≤ lb := by rw [hlb]; exact hf2.size
  have HB1 := Lib.hid hB1.size
  have HF4 := Lib.hid (And.intro hf4 (And.intro hI4 (And.intro hk4 hB4)))
  have HLB := Lib.hid hlb
  clear HN hA hk4 hf4 hB4 hI4 hlb hB2 hf2 hb2 hB1
  go_wp2
  try rw [← HLB.out]
  go_loopw [8] (fun iv wr => ∃ (k m : Nat) (x : En) (s : Arr), k ≤ l.length ∧ k ≤ 80 ∧ iv = .int .i64 k ∧ Free w1.heap.size [lb] wr g s ∧ Inv s 2 (1 + p) 0 m x ∧ x.e ≤ 3 * k ∧ wr.heap[lb]? = some (ebox x) ∧ Below w.heap.size w wr)
    (fun iv _ => l.length - (intOf iv).toNat)
  case atStart => exact ⟨0, 0, En.z, _, by omega, by omega, rfl, HF4.out.1, HF4.out.2.1, Nat.le_refl _, HF4.out.2.2.1, HF4.out.2.2.2⟩
  case round =>
    obtain ⟨k, m, ⟨xe, xw⟩, s, hk, hk80, rfl, hf, hI, hxe, hkl, hB⟩ := hrel
    dsimp only at hxe hkl
    clear HF4
    by_cases hlt : k < l.length
    · by_cases h80 : k < 80
      · obtain ⟨r, hr⟩ : ∃ r, l[k]? = some r := ⟨_, List.getElem?_eq_getElem hlt⟩
        obtain ⟨hok, b, off, rfl, hc⟩ := HS.out k r hr
        have hcell : ∀ j v, r.cells[j]? = some v → j < 6 → wr.cell? ⟨b, off + k * 6 + j, none⟩ = some v := fun j v hv hj => (hB.cell (p := ⟨b, off + k * 6 + j, none⟩) (World.block_lt_of_cell? w _ ((hc j hj).trans hv))).trans ((hc j hj).trans hv)
        have c0 := hcell 0 _ rfl (by omega)
        have c1 := hcell 1 _ rfl (by omega)
        have c2 := hcell 2 _ rfl (by omega)
        have c3 := hcell 3 _ rfl (by omega)
        have c4 := hcell 4 _ rfl (by omega)
        have c5 := hcell 5 _ rfl (by omega)
        rw [Nat.add_zero] at c0
        obtain ⟨bd1, bd2⟩ := bounds_i64 hok.n
        have bd3 := bounds_u8 hok.kind
        have bd4 := bounds_u8 hok.up
        have bd5 := bounds_u8 hok.who
        clear hcell hc hr hok
        obtain ⟨kd, up0, wh0, n0, e0, v0⟩ := r
        dsimp only at c0 c1 c2 c3 c4 c5 bd1 bd2 bd3 bd4 bd5
        obtain ⟨kk, hkk, hkk2⟩ : ∃ kk : Nat, kd % 10 = kk ∧ kk < 10 := ⟨(kd % 10).toNat, by omega, by omega⟩
        obtain ⟨u, hu, hu2⟩ : ∃ u : Nat, up0 % 3 = u ∧ u < 3 := ⟨(up0 % 3).toNat, by omega, by omega⟩
        obtain ⟨v, hv, hv2⟩ : ∃ v : Nat, wh0 % 2 = v ∧ v < 2 := ⟨(wh0 % 2).toNat, by omega, by omega⟩
        obtain ⟨q, hq, hq2⟩ : ∃ q : Nat, IntKind.u64.wrap n0 = q ∧ (q : Int) ≤ 18446744073709551615 := ⟨(IntKind.u64.wrap n0).toNat, by rw [IntKind.wrap_u64]; omega, by rw [IntKind.wrap_u64]; omega⟩
        obtain ⟨q3, hq3, hq32⟩ : ∃ q3 : Nat, (q : Int) % 3 = q3 ∧ q3 < 3 := ⟨q % 3, by omega, by omega⟩
        -- the variable that holds the call
        obtain ⟨ab, hab⟩ : ∃ ab, ab = wr.heap.size := ⟨_, rfl⟩
        obtain ⟨w5, hw5⟩ : ∃ w5, w5 = wr.alloc (.cells #[.int .u8 kd, .int .u8 up0, .int .u8 wh0, .int .i64 n0, .int .u64 e0, .int .i64 v0] 32) := ⟨_, rfl⟩
        have hA : Below wr.heap.size wr w5 := hw5 ▸ (Below.refl _ _).alloc (Nat.le_refl _) _
        have hka : w5.heap[ab]? = some (.cells #[.int .u8 kd, .int .u8 up0, .int .u8 wh0, .int .i64 n0, .int .u64 e0, .int .i64 v0] 32) := hab ▸ hw5 ▸ heap_alloc_new wr _
        have hkl5 : w5.heap[lb]? = some (ebox ⟨xe, xw⟩) := (hA.block _ (lt_of_block hkl)).trans hkl
        have hf5 : Free w1.heap.size [ab, lb] w5 g s := hf.more hA ab (by omega) (lt_of_block hka)
        have hB5 := hB.trans (hA.mono hB.size)
        have hn : 1 < s.n := by rw [hI.nm.n]; omega
        have habB : w1.heap.size ≤ ab := by rw [hab]; exact hf.size
        have a0 := cell_blk hka 0 _ rfl
        have a1 := cell_blk hka 1 _ rfl
        have a2 := cell_blk hka 2 _ rfl
        have a3 := cell_blk hka 3 _ rfl
        have HW5 := Lib.hid hw5
        have HAB := Lib.hid hab
        by_cases hk7 : kk = 7
        · subst hk7
          have HC := Lib.hid (show Calls Tryd.prog 15 #[.pointer (some ⟨g, 0, none⟩), .int .i64 (1 + (q3 : Int))] w5 _ from by
            have h := arm_f hf5 (1 + q3) (by omega)
            rw [show ((1 + q3 : Nat) : Int) = 1 + (q3 : Int) by omega] at h
            exact h)
          have HI := Lib.hid (hI.arms (1 + q3))
          clear hf hI hkl hB hA hf5 hn hw5 hab hu hv
          go_wp2_with fail
          rw [← HW5.out]
          try rw [← HAB.out]
          refine HC.out.mono ?_
          rintro e w6 ⟨rfl, hd6⟩
          have hkl6 := (hd6.keep lb (by simp)).trans hkl5
          have hB6 := hB5.trans (hd6.below.mono HB1.out)
          have HALL := Lib.hid (And.intro hd6.free.drop (And.intro hkl6 hB6))
          clear HC hd6 hkl6 hB6 hka hkl5 hB5 a0 a1 a2 a3
          go_wp2
          go_roundw
          case rel => exact ⟨k + 1, 1 + q3, ⟨xe, xw⟩, _, by omega, by omega, by go_num, HALL.out.1, HI.out, by show xe ≤ 3 * (k + 1); omega, HALL.out.2.1, HALL.out.2.2⟩
          case measure => simp [intOf]; omega
        · -- the claim that is asked
          have hk7' : ((kk : Int) == 7) = false := by simp; omega
          have l0 := cell_blk hkl5 0 _ rfl
          have l1 := cell_blk hkl5 1 _ rfl
          obtain ⟨xb, hxb⟩ : ∃ xb, xb = w5.heap.size := ⟨_, rfl⟩
          obtain ⟨w6, hw6⟩ : ∃ w6, w6 = w5.alloc (.cells #[.int .u64 ((xe : Int) + 1 + u), .int .i64 v] 30) := ⟨_, rfl⟩
          have hA6 : Below w5.heap.size w5 w6 := hw6 ▸ (Below.refl _ _).alloc (Nat.le_refl _) _
          have hkx : w6.heap[xb]? = some (.cells #[.int .u64 ((xe : Int) + 1 + u), .int .i64 v] 30) := hxb ▸ hw6 ▸ heap_alloc_new w5 _
          have hkl6 := (hA6.block _ (lt_of_block hkl5)).trans hkl5
          have hka6 := (hA6.block _ (lt_of_block hka)).trans hka
          have hf6 : Free w1.heap.size [xb, ab, lb] w6 g s := hf5.more hA6 xb (by omega) (lt_of_block hkx)
          have hB6 := hB5.trans (hA6.mono hB5.size)
          have hxl : xb ≠ lb := by have := lt_of_block hkl5; omega
          have hxa : xb ≠ ab := by have := lt_of_block hka; omega
          have hal : ab ≠ lb := by have := lt_of_block hkl; omega
          have hxbB : w1.heap.size ≤ xb := by rw [hxb]; exact hf5.size
          have HW6 := Lib.hid hw6
          have HXB := Lib.hid hxb
          have HKX := Lib.hid hkx
          have HKL := Lib.hid hkl6
          have HKA := Lib.hid hka6
          have b0 := cell_blk hka6 0 _ rfl
          have b3 := cell_blk hka6 3 _ rfl
          have x0 := cell_blk hkx 0 _ rfl
          have x1 := cell_blk hkx 1 _ rfl
          clear hkx hkl6 hka6 hka hkl5 hA6 hA hf5 hB5 hw5 hw6 hab hxb
          -- behind the fall
          have hok : okE ⟨xe + 1 + u, v⟩ = true := ok_of (by omega) (by omega) (by omega) (by omega)
          by_cases hk8 : kk = 8
          · subst hk8
            have HI := Lib.hid (hI.again (hf6.calm hI.nm.off) n0)
            have HC := Lib.hid (restart_f hf6 n0)
            have hn' : 1 < (s.restart n0).n := by rw [HI.out.nm.n]; omega
            have HL := Lib.hid (fun K W (h : Free w1.heap.size K W g _) => last_f' h hn' (xe) xw xe xw (by omega) rfl HI.out.tells)
            have HB6 := Lib.hid hB6
            clear hf hI hkl hB hn hf6 hB6 hok
            go_upto_region 9 with fail
            rw [← HW5.out]
            try rw [← HAB.out]
            go_upto_region 12 with fail
            rw [← HW6.out]
            try rw [← HXB.out]
            go_wp2_with fail
            refine HC.out.mono ?_
            rintro e w7 ⟨rfl, hd7⟩
            have hkl7 := (hd7.keep lb (by simp)).trans HKL.out
            have hkx7 := (hd7.keep xb (by simp)).trans HKX.out
            have hka7 := (hd7.keep ab (by simp)).trans HKA.out
            have hB7 := HB6.out.trans (hd7.below.mono HB1.out)
            have HF7 := Lib.hid hd7.free
            have HKL8 := Lib.hid hkl7
            have HKX8 := Lib.hid hkx7
            have HKA8 := Lib.hid hka7
            have HB7 := Lib.hid hB7
            clear HC hd7 hkl7 hkx7 hka7 hB7 HB6 HKL HKX HKA x0 x1 b0 b3 l0 l1
            go_wp2_with fail
            refine (HL.out _ _ HF7.out).mono ?_
            rintro e w8 ⟨rfl, hf8, hb8⟩
            have hkl8 := (hb8.block _ (lt_of_block HKL8.out)).trans HKL8.out
            have hkx8 := (hb8.block _ (lt_of_block HKX8.out)).trans HKX8.out
            have hka8 := (hb8.block _ (lt_of_block HKA8.out)).trans HKA8.out
            have hA8 : Below w8.heap.size w8 (w8.alloc (.cells #[.int .u64 xe, .int .i64 xw] 30)) := (Below.refl _ _).alloc (Nat.le_refl _) _
            have hkl9 := (hA8.block _ (lt_of_block hkl8)).trans hkl8
            have hkx9 := (hA8.block _ (lt_of_block hkx8)).trans hkx8
            have hka9 := (hA8.block _ (lt_of_block hka8)).trans hka8
            have hky9 := heap_alloc_new w8 (.cells #[.int .u64 xe, .int .i64 xw] 30)
            have hB9 := (HB7.out.trans (hb8.mono HB7.out.size)).trans (hA8.mono (Nat.le_trans HB7.out.size hb8.size))
            have hf9 := (hf8.keep hA8).drop.drop
            clear hf8 hb8 hkl8 hkx8 hka8 hA8 HF7 HB7 HKL8 HKX8 HKA8
            go_upto_region 22 with fail
            generalize w8.alloc (.cells #[.int .u64 xe, .int .i64 xw] 30) = w9 at *
            have l0 := cell_blk hkl9 0 _ rfl
            have l1 := cell_blk hkl9 1 _ rfl
            have lz0 := frozen_blk hkl9 0
            have lz1 := frozen_blk hkl9 1
            have x0 := cell_blk hkx9 0 _ rfl
            have x1 := cell_blk hkx9 1 _ rfl
            have b0 := cell_blk hka9 0 _ rfl
            have y0 := cell_blk hky9 0 _ rfl
            have y1 := cell_blk hky9 1 _ rfl
            have hf10 := ((hf9.store (b := lb) (o := 0) (.int .u64 xe) (by simp) hbl).store (b := lb) (o := 1) (.int .i64 xw) (by simp) hbl)
            have hkl10 := two_set (v0 := .int .u64 xe) (v1 := .int .i64 xw) hkl9
            have hB10 := hB9.trans ((set_below w9 lb 0 (.int .u64 xe) (Nat.le_trans HB1.out hbl)).trans (set_below _ lb 1 (.int .i64 xw) (Nat.le_trans HB1.out hbl)))
            have HALL := Lib.hid (And.intro hf10 (And.intro hkl10 hB10))
            clear hf10 hkl10 hB10 hf9 hkl9 hkx9 hka9 hky9 hB9
            go_wp2
            go_roundw
            case rel => exact ⟨k + 1, _, ⟨xe, xw⟩, _, by omega, by omega, by go_num, HALL.out.1, HI.out, by show xe ≤ 3 * (k + 1); omega, HALL.out.2.1, HALL.out.2.2⟩
            case measure => simp [intOf]; omega
          have hk8' : ((kk : Int) != 8) = true := by simp; omega
          rcases claim_out hI hok (show xe < xe + 1 + u by omega) (Nat.zero_le _) with ⟨s', m', e1, hI', -⟩ | ⟨-, s', e1, hback⟩
          · have HC := Lib.hid (claim_f' hf6 hn (xe + 1 + u) v ((xe : Int) + 1 + u) v (by omega) rfl _ e1)
            dsimp only at HC
            have HI := Lib.hid hI'
            have hn' : 1 < s'.n := by rw [hI'.nm.n]; omega
            have HL := Lib.hid (fun K W (h : Free w1.heap.size K W g _) => last_f' h hn' (xe + 1 + u) v ((xe : Int) + 1 + u) v (by omega) rfl HI.out.tells)
            have HB6 := Lib.hid hB6
            clear hf hI hkl hB hn hf6 hB6 hok hI' e1
            go_upto_region 9 with fail
            rw [← HW5.out]
            try rw [← HAB.out]
            go_upto_region 12 with fail
            rw [← HW6.out]
            try rw [← HXB.out]
            go_wp2_with fail
            refine HC.out.mono ?_
            rintro e w7 ⟨rfl, hd7⟩
            have hkl7 := (hd7.keep lb (by simp)).trans HKL.out
            have hkx7 := (hd7.keep xb (by simp)).trans HKX.out
            have hka7 := (hd7.keep ab (by simp)).trans HKA.out
            have hB7 := HB6.out.trans (hd7.below.mono HB1.out)
            have l0 := cell_blk hkl7 0 _ rfl
            have l1 := cell_blk hkl7 1 _ rfl
            have lz0 := frozen_blk hkl7 0
            have lz1 := frozen_blk hkl7 1
            have x0 := cell_blk hkx7 0 _ rfl
            have x1 := cell_blk hkx7 1 _ rfl
            have hf8 := ((hd7.free.store (b := lb) (o := 0) (.int .u64 ((xe : Int) + 1 + u)) (by simp) hbl).store (b := lb) (o := 1) (.int .i64 v) (by simp) hbl)
            have hkl8 := two_set (v0 := .int .u64 ((xe : Int) + 1 + u)) (v1 := .int .i64 v) hkl7
            have hkx8 := (set_heap_other (w7.setCell ⟨lb, 0, none⟩ (.int .u64 ((xe : Int) + 1 + u))) lb 1 xb (.int .i64 v) hxl).trans ((set_heap_other w7 lb 0 xb (.int .u64 ((xe : Int) + 1 + u)) hxl).trans hkx7)
            have hka8 := (set_heap_other (w7.setCell ⟨lb, 0, none⟩ (.int .u64 ((xe : Int) + 1 + u))) lb 1 ab (.int .i64 v) hal).trans ((set_heap_other w7 lb 0 ab (.int .u64 ((xe : Int) + 1 + u)) hal).trans hka7)
            have hB8 := hB7.trans ((set_below w7 lb 0 (.int .u64 ((xe : Int) + 1 + u)) (Nat.le_trans HB1.out hbl)).trans (set_below _ lb 1 (.int .i64 v) (Nat.le_trans HB1.out hbl)))
            have HF7 := Lib.hid hf8
            have HKL8 := Lib.hid hkl8
            have HKX8 := Lib.hid hkx8
            have HKA8 := Lib.hid hka8
            have HB7 := Lib.hid hB8
            clear HC hd7 hkl7 hkx7 hka7 hB7 HB6 HKL HKX HKA b0 b3 hf8 hkl8 hkx8 hka8 hB8
            go_wp2_with fail
            refine (HL.out _ _ HF7.out).mono ?_
            rintro e w8 ⟨rfl, hf8, hb8⟩
            have hkl8 := (hb8.block _ (lt_of_block HKL8.out)).trans HKL8.out
            have hkx8 := (hb8.block _ (lt_of_block HKX8.out)).trans HKX8.out
            have hka8 := (hb8.block _ (lt_of_block HKA8.out)).trans HKA8.out
            have hA8 : Below w8.heap.size w8 (w8.alloc (.cells #[.int .u64 ((xe : Int) + 1 + u), .int .i64 v] 30)) := (Below.refl _ _).alloc (Nat.le_refl _) _
            have hkl9 := (hA8.block _ (lt_of_block hkl8)).trans hkl8
            have hkx9 := (hA8.block _ (lt_of_block hkx8)).trans hkx8
            have hka9 := (hA8.block _ (lt_of_block hka8)).trans hka8
            have hky9 := heap_alloc_new w8 (.cells #[.int .u64 ((xe : Int) + 1 + u), .int .i64 v] 30)
            have hB9 := (HB7.out.trans (hb8.mono HB7.out.size)).trans (hA8.mono (Nat.le_trans HB7.out.size hb8.size))
            have hf9 := (hf8.keep hA8).drop.drop
            clear hf8 hb8 hkl8 hkx8 hka8 hA8 HF7 HB7 HKL8 HKX8 HKA8
            go_upto_region 22 with fail
            generalize w8.alloc (.cells #[.int .u64 ((xe : Int) + 1 + u), .int .i64 v] 30) = w9 at *
            have l0 := cell_blk hkl9 0 _ rfl
            have l1 := cell_blk hkl9 1 _ rfl
            have lz0 := frozen_blk hkl9 0
            have lz1 := frozen_blk hkl9 1
            have x0 := cell_blk hkx9 0 _ rfl
            have x1 := cell_blk hkx9 1 _ rfl
            have b0 := cell_blk hka9 0 _ rfl
            have y0 := cell_blk hky9 0 _ rfl
            have y1 := cell_blk hky9 1 _ rfl
            have hf10 := ((hf9.store (b := lb) (o := 0) (.int .u64 ((xe : Int) + 1 + u)) (by simp) hbl).store (b := lb) (o := 1) (.int .i64 v) (by simp) hbl)
            have hkl10 := two_set (v0 := .int .u64 ((xe : Int) + 1 + u)) (v1 := .int .i64 v) hkl9
            have hB10 := hB9.trans ((set_below w9 lb 0 (.int .u64 ((xe : Int) + 1 + u)) (Nat.le_trans HB1.out hbl)).trans (set_below _ lb 1 (.int .i64 v) (Nat.le_trans HB1.out hbl)))
            have HALL := Lib.hid (And.intro hf10 (And.intro hkl10 hB10))
            clear hf10 hkl10 hB10 hf9 hkl9 hkx9 hka9 hky9 hB9
            go_wp2
            go_roundw
            case rel => exact ⟨k + 1, _, ⟨xe + 1 + u, v⟩, _, by omega, by omega, by go_num, HALL.out.1, HI.out, by show xe + 1 + u ≤ 3 * (k + 1); omega, HALL.out.2.1, HALL.out.2.2⟩
            case measure => simp [intOf]; omega
          · have HC := Lib.hid (claim_f' hf6 hn (xe + 1 + u) v ((xe : Int) + 1 + u) v (by omega) rfl _ e1)
            dsimp only at HC
            have HB6 := Lib.hid hB6
            clear hf hI hkl hB hn hf6 hB6 hok e1
            go_upto_region 9 with fail
            rw [← HW5.out]
            try rw [← HAB.out]
            go_upto_region 12 with fail
            rw [← HW6.out]
            try rw [← HXB.out]
            go_wp2_with fail
            refine HC.out.mono ?_
            rintro e w7 ⟨rfl, hd7⟩
            have hkl7 := (hd7.keep lb (by simp)).trans HKL.out
            have hkx7 := (hd7.keep xb (by simp)).trans HKX.out
            have hka7 := (hd7.keep ab (by simp)).trans HKA.out
            have hB7 := HB6.out.trans (hd7.below.mono HB1.out)
            have b3 := cell_blk hka7 3 _ rfl
            have HRS := Lib.hid (restart_f hd7.free n0)
            have HKL := Lib.hid hkl7
            have HKX := Lib.hid hkx7
            have HKA := Lib.hid hka7
            have HB6 := Lib.hid hB7
            clear HC hd7 hkl7 hkx7 hka7 hB7 x0 x1 b0 l0 l1
            go_wp2_with fail
            refine HRS.out.mono ?_
            rintro e w10 ⟨rfl, hd7⟩
            have hkl7 := (hd7.keep lb (by simp)).trans HKL.out
            have hkx7 := (hd7.keep xb (by simp)).trans HKX.out
            have hka7 := (hd7.keep ab (by simp)).trans HKA.out
            have hB7 := HB6.out.trans (hd7.below.mono HB1.out)
            have HF7 := Lib.hid hd7.free
            have HKL8 := Lib.hid hkl7
            have HKX8 := Lib.hid hkx7
            have HKA8 := Lib.hid hka7
            have HB7 := Lib.hid hB7
            clear HRS hd7 hkl7 hkx7 hka7 hB7 HB6 HKL HKX HKA b3
            rcases hback n0 with hI' | hI'
            · have HI := Lib.hid hI'
              have hn' : 1 < (s'.restart n0).n := by rw [hI'.nm.n]; omega
              have HL := Lib.hid (fun K W (h : Free w1.heap.size K W g _) => last_f' h hn' (xe) xw xe xw (by omega) rfl HI.out.tells)
              clear hI' hback
              go_wp2_with fail
              refine (HL.out _ _ HF7.out).mono ?_
              rintro e w8 ⟨rfl, hf8, hb8⟩
              have hkl8 := (hb8.block _ (lt_of_block HKL8.out)).trans HKL8.out
              have hkx8 := (hb8.block _ (lt_of_block HKX8.out)).trans HKX8.out
              have hka8 := (hb8.block _ (lt_of_block HKA8.out)).trans HKA8.out
              have hA8 : Below w8.heap.size w8 (w8.alloc (.cells #[.int .u64 xe, .int .i64 xw] 30)) := (Below.refl _ _).alloc (Nat.le_refl _) _
              have hkl9 := (hA8.block _ (lt_of_block hkl8)).trans hkl8
              have hkx9 := (hA8.block _ (lt_of_block hkx8)).trans hkx8
              have hka9 := (hA8.block _ (lt_of_block hka8)).trans hka8
              have hky9 := heap_alloc_new w8 (.cells #[.int .u64 xe, .int .i64 xw] 30)
              have hB9 := (HB7.out.trans (hb8.mono HB7.out.size)).trans (hA8.mono (Nat.le_trans HB7.out.size hb8.size))
              have hf9 := (hf8.keep hA8).drop.drop
              clear hf8 hb8 hkl8 hkx8 hka8 hA8 HF7 HB7 HKL8 HKX8 HKA8
              go_upto_region 22 with fail
              generalize w8.alloc (.cells #[.int .u64 xe, .int .i64 xw] 30) = w9 at *
              have l0 := cell_blk hkl9 0 _ rfl
              have l1 := cell_blk hkl9 1 _ rfl
              have lz0 := frozen_blk hkl9 0
              have lz1 := frozen_blk hkl9 1
              have x0 := cell_blk hkx9 0 _ rfl
              have x1 := cell_blk hkx9 1 _ rfl
              have b0 := cell_blk hka9 0 _ rfl
              have y0 := cell_blk hky9 0 _ rfl
              have y1 := cell_blk hky9 1 _ rfl
              have hf10 := ((hf9.store (b := lb) (o := 0) (.int .u64 xe) (by simp) hbl).store (b := lb) (o := 1) (.int .i64 xw) (by simp) hbl)
              have hkl10 := two_set (v0 := .int .u64 xe) (v1 := .int .i64 xw) hkl9
              have hB10 := hB9.trans ((set_below w9 lb 0 (.int .u64 xe) (Nat.le_trans HB1.out hbl)).trans (set_below _ lb 1 (.int .i64 xw) (Nat.le_trans HB1.out hbl)))
              have HALL := Lib.hid (And.intro hf10 (And.intro hkl10 hB10))
              clear hf10 hkl10 hB10 hf9 hkl9 hkx9 hka9 hky9 hB9
              go_wp2
              go_roundw
              case rel => exact ⟨k + 1, _, ⟨xe, xw⟩, _, by omega, by omega, by go_num, HALL.out.1, HI.out, by show xe ≤ 3 * (k + 1); omega, HALL.out.2.1, HALL.out.2.2⟩
              case measure => simp [intOf]; omega
            · have HI := Lib.hid hI'
              have hn' : 1 < (s'.restart n0).n := by rw [hI'.nm.n]; omega
              have HL := Lib.hid (fun K W (h : Free w1.heap.size K W g _) => last_f' h hn' (xe + 1 + u) v ((xe : Int) + 1 + u) v (by omega) rfl HI.out.tells)
              clear hI' hback
              have hdf : ((xe : Int) + 1 + u == xe) = false := by simp; omega
              go_wp2_with fail
              refine (HL.out _ _ HF7.out).mono ?_
              rintro e w8 ⟨rfl, hf8, hb8⟩
              have hkl8 := (hb8.block _ (lt_of_block HKL8.out)).trans HKL8.out
              have hkx8 := (hb8.block _ (lt_of_block HKX8.out)).trans HKX8.out
              have hka8 := (hb8.block _ (lt_of_block HKA8.out)).trans HKA8.out
              have hA8 : Below w8.heap.size w8 (w8.alloc (.cells #[.int .u64 ((xe : Int) + 1 + u), .int .i64 v] 30)) := (Below.refl _ _).alloc (Nat.le_refl _) _
              have hkl9 := (hA8.block _ (lt_of_block hkl8)).trans hkl8
              have hkx9 := (hA8.block _ (lt_of_block hkx8)).trans hkx8
              have hka9 := (hA8.block _ (lt_of_block hka8)).trans hka8
              have hky9 := heap_alloc_new w8 (.cells #[.int .u64 ((xe : Int) + 1 + u), .int .i64 v] 30)
              have hB9 := (HB7.out.trans (hb8.mono HB7.out.size)).trans (hA8.mono (Nat.le_trans HB7.out.size hb8.size))
              have hf9 := (hf8.keep hA8).drop.drop
              clear hf8 hb8 hkl8 hkx8 hka8 hA8 HF7 HB7 HKL8 HKX8 HKA8
              go_upto_region 22 with fail
              generalize w8.alloc (.cells #[.int .u64 ((xe : Int) + 1 + u), .int .i64 v] 30) = w9 at *
              have l0 := cell_blk hkl9 0 _ rfl
              have l1 := cell_blk hkl9 1 _ rfl
              have lz0 := frozen_blk hkl9 0
              have lz1 := frozen_blk hkl9 1
              have x0 := cell_blk hkx9 0 _ rfl
              have x1 := cell_blk hkx9 1 _ rfl
              have b0 := cell_blk hka9 0 _ rfl
              have y0 := cell_blk hky9 0 _ rfl
              have y1 := cell_blk hky9 1 _ rfl
              have hf10 := ((hf9.store (b := lb) (o := 0) (.int .u64 ((xe : Int) + 1 + u)) (by simp) hbl).store (b := lb) (o := 1) (.int .i64 v) (by simp) hbl)
              have hkl10 := two_set (v0 := .int .u64 ((xe : Int) + 1 + u)) (v1 := .int .i64 v) hkl9
              have hB10 := hB9.trans ((set_below w9 lb 0 (.int .u64 ((xe : Int) + 1 + u)) (Nat.le_trans HB1.out hbl)).trans (set_below _ lb 1 (.int .i64 v) (Nat.le_trans HB1.out hbl)))
              have HALL := Lib.hid (And.intro hf10 (And.intro hkl10 hB10))
              clear hf10 hkl10 hB10 hf9 hkl9 hkx9 hka9 hky9 hB9
              go_wp2
              go_roundw
              case rel => exact ⟨k + 1, _, ⟨xe + 1 + u, v⟩, _, by omega, by omega, by go_num, HALL.out.1, HI.out, by show xe + 1 + u ≤ 3 * (k + 1); omega, HALL.out.2.1, HALL.out.2.2⟩
              case measure => simp [intOf]; omega
      · have hend : ¬ ((k : Int) < 80) := by omega
        clear hf hI
        go_wp2
        go_ret
        exact ⟨rfl, hB⟩
    · have hend : ¬ ((k : Int) < (l.length : Int)) := by omega
      clear hf hI
      go_wp2
      go_ret
      exact ⟨rfl, hB⟩
end Go.Proofs.YtcbgccmoeleanaaDoor.Lg
