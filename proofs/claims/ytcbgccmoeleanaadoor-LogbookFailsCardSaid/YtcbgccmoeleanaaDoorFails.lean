/- The walk of the law LogbookFails. -/
import Derived.Test.YtcbgccmoeleanaaDoorFailsP
import Derived.Test.YtcbgccmoeleanaaDoorUseF
namespace Go.Proofs.YtcbgccmoeleanaaDoor.Lg
open Go.RowKit
open Drawbar Drawbar.Sheet Drawbar.Nand Drawbar.Log Go.Proofs.YtcbgccmoeleanaaDoor.Nd

set_option maxHeartbeats 8000000 in
theorem fails_any (pg wh wn nn : Nat) (w : World) (h1 : pg < 256) (h2 : wh < 256) (h3 : wn < 256) (h4 : nn < 256) (hT : Tab w) :
    Calls Tryd.prog 5 #[.int .u8 pg, .int .u8 wh, .int .u8 wn, .int .u8 nn] w (Yes w) := by
  have HA := Lib.hid (awake_any w hT)
  have HT := Lib.hid hT
  clear hT
  obtain ⟨p, hp, hp6⟩ : ∃ p : Nat, (pg : Int) % 6 = p ∧ p < 6 := ⟨pg % 6, by omega, by omega⟩
  obtain ⟨d, hd, hd2⟩ : ∃ d : Nat, (wh : Int) % 2 = d ∧ d < 2 := ⟨wh % 2, by omega, by omega⟩
  obtain ⟨D, hD, hD30⟩ : ∃ D : Nat, (wn : Int) % 30 = D ∧ D < 30 := ⟨wn % 30, by omega, by omega⟩
  obtain ⟨N, hN, hN60⟩ : ∃ N : Nat, (nn : Int) % 60 = N ∧ N < 60 := ⟨nn % 60, by omega, by omega⟩
  go_enter Tryd.func5, Tryd.ntmps5
  go_wp2_with fail
  refine HA.out.mono ?_
  rintro e w1 ⟨rfl, hB1⟩
  have HN := Lib.hid (new_f 2 (1 + p) 2 (1 + (p : Int)) rfl (by omega) w1 (HT.out.below hB1 HT.out.pos) (by omega) (by omega) (by omega) (by omega))
  clear HA
  go_wp2_with fail
  refine HN.out.mono ?_
  rintro e w2 ⟨g, rfl, hf2, hb2⟩
  have hB2 := hB1.trans (hb2.mono hB1.size)
  have HD := Lib.hid (show Calls Tryd.prog 17 #[.pointer (some ⟨g, 0, none⟩), .int .i64 d, .int .i64 (1 + (D : Int))] w2 _ from by
    have h := doom_f hf2 d (1 + D) hd2 (by omega)
    rw [show ((1 + D : Nat) : Int) = 1 + (D : Int) by omega] at h
    exact h)
  have HB1 := Lib.hid hB1.size
  clear hf2 HN hb2 hB1
  go_wp2_with fail
  refine HD.out.mono ?_
  rintro e w3 ⟨rfl, hd3⟩
  have hB3 := hB2.trans (hd3.below.mono HB1.out)
  obtain ⟨lb, hlb⟩ : ∃ lb, lb = w3.heap.size := ⟨_, rfl⟩
  have hA : Below w3.heap.size w3 (w3.alloc (.cells #[.int .u64 0, .int .i64 0] 30)) := (Below.refl _ _).alloc (Nat.le_refl _) _
  have hk4 : (w3.alloc (.cells #[.int .u64 0, .int .i64 0] 30)).heap[lb]? = some (.cells #[.int .u64 0, .int .i64 0] 30) := hlb ▸ heap_alloc_new w3 _
  have hf4 : Free w1.heap.size [lb] (w3.alloc (.cells #[.int .u64 0, .int .i64 0] 30)) g _ := hd3.free.more hA lb (by omega) (lt_of_block hk4)
  have hB4 := hB3.trans (hA.mono hB3.size)
  have hI4 : Inv2 _ 2 (1 + p) d En.z := inv2_new (1 + p) d (1 + D) (by omega)
  have hbl : w1.heap.size ≤ lb := by rw [hlb]; exact hd3.free.size
  have HF4 := Lib.hid (And.intro hf4 (And.intro hI4 (And.intro hk4 hB4)))
  have HLB := Lib.hid hlb
  clear HD hd3 hB3 hA hk4 hf4 hB4 hI4 hlb hB2
  go_wp2
  try rw [← HLB.out]
  go_loopw [11, 13] (fun lv iv wr => ∃ (k : Nat) (q : Bool) (x : En) (s : Arr), k ≤ N ∧ iv = .int .i64 k ∧ lv = .bool q ∧ Free w1.heap.size [lb] wr g s ∧ Inv2 s 2 (1 + p) d x ∧ (q = true → (s.b d).failed = true) ∧ x.e ≤ k ∧ wr.heap[lb]? = some (ebox x) ∧ Below w.heap.size w wr)
    (fun _ iv _ => N - (intOf iv).toNat)
  case atStart => exact ⟨0, false, En.z, _, by omega, rfl, rfl, HF4.out.1, HF4.out.2.1, (fun h => by cases h), Nat.le_refl _, HF4.out.2.2.1, HF4.out.2.2.2⟩
  case round =>
    obtain ⟨k, q, ⟨xe, xw⟩, s, hk, rfl, rfl, hf, hI, hq, hxe, hkl, hB⟩ := hrel
    dsimp only at hxe hkl
    clear HF4
    by_cases hkn : k < N
    · obtain ⟨r, hr, hr2⟩ : ∃ r : Nat, (k : Int) % 2 = r ∧ r < 2 := ⟨k % 2, by omega, by omega⟩
      have l0 := cell_blk hkl 0 _ rfl
      have l1 := cell_blk hkl 1 _ rfl
      obtain ⟨xb, hxb⟩ : ∃ xb, xb = wr.heap.size := ⟨_, rfl⟩
      obtain ⟨w5, hw5⟩ : ∃ w5, w5 = wr.alloc (.cells #[.int .u64 ((xe : Int) + 1), .int .i64 r] 30) := ⟨_, rfl⟩
      have hA : Below wr.heap.size wr w5 := hw5 ▸ (Below.refl _ _).alloc (Nat.le_refl _) _
      have hkx : w5.heap[xb]? = some (.cells #[.int .u64 ((xe : Int) + 1), .int .i64 r] 30) := hxb ▸ hw5 ▸ heap_alloc_new wr _
      have hkl5 : w5.heap[lb]? = some (ebox ⟨xe, xw⟩) := (hA.block _ (lt_of_block hkl)).trans hkl
      have hf5 : Free w1.heap.size [xb, lb] w5 g s := hf.more hA xb (by omega) (lt_of_block hkx)
      have hB5 := hB.trans (hA.mono hB.size)
      have hok : okE ⟨xe + 1, r⟩ = true := ok_of (by omega) (by omega) (by omega) (by omega)
      have hn : 1 < s.n := by rw [hI.nm.n]; omega
      have hne : xb ≠ lb := by have := lt_of_block hkl; omega
      have hxbB : w1.heap.size ≤ xb := by rw [hxb]; exact hf.size
      have x0 := cell_blk hkx 0 _ rfl
      have x1 := cell_blk hkx 1 _ rfl
      have HW5 := Lib.hid hw5
      have HXB := Lib.hid hxb
      have HB1L := Lib.hid (Nat.le_trans HB1.out (Nat.le_refl _))
      rcases claim_soft hI hok (show xe < xe + 1 by omega) with ⟨s', ⟨e1, hI', hkeep⟩ | ⟨e1, hI', hfl⟩⟩
      · have HC := Lib.hid (claim_f' hf5 hn (xe + 1) r ((xe : Int) + 1) r (by omega) rfl _ e1)
        dsimp only at HC
        have hn' : 1 < s'.n := by rw [hI'.nm.n]; omega
        have HL := Lib.hid (fun K W (h : Free w1.heap.size K W g s') => last_f' h hn' (xe + 1) r ((xe : Int) + 1) r (by omega) rfl hI'.tells)
        have HI := Lib.hid hI'
        have HQ := Lib.hid (fun h => hkeep (hq h))
        clear hf hI hq hkl hB hA hf5 hok hn hkeep hI' hw5 hxb e1
        go_wp2_with fail
        rw [← HW5.out]
        try rw [← HXB.out]
        refine HC.out.mono ?_
        rintro e w6 ⟨rfl, hd6⟩
        have hkx6 := (hd6.keep xb (by simp)).trans hkx
        have hkl6 := (hd6.keep lb (by simp)).trans hkl5
        have hB6 := hB5.trans (hd6.below.mono HB1.out)
        have l0 := cell_blk hkl6 0 _ rfl
        have l1 := cell_blk hkl6 1 _ rfl
        have z0 := frozen_blk hkl6 0
        have z1 := frozen_blk hkl6 1
        have x0 := cell_blk hkx6 0 _ rfl
        have x1 := cell_blk hkx6 1 _ rfl
        have hf7 := ((hd6.free.store (b := lb) (o := 0) (.int .u64 ((xe : Int) + 1)) (by simp) hbl).store (b := lb) (o := 1) (.int .i64 r) (by simp) hbl)
        have hkl7 := two_set (v0 := .int .u64 ((xe : Int) + 1)) (v1 := .int .i64 r) hkl6
        have hB7 := hB6.trans ((set_below w6 lb 0 (.int .u64 ((xe : Int) + 1)) (Nat.le_trans HB1.out hbl)).trans (set_below _ lb 1 (.int .i64 r) (Nat.le_trans HB1.out hbl)))
        have HF7 := Lib.hid hf7
        have HK7 := Lib.hid hkl7
        have HB7 := Lib.hid hB7
        clear HC hd6 hkx6 hkl6 hB6 hf7 hkl7 hB7 hkx hkl5 hB5
        go_wp2_with fail
        refine (HL.out _ _ HF7.out).mono ?_
        rintro e w8 ⟨rfl, hf8, hb8⟩
        have hkl8 := (hb8.block _ (lt_of_block HK7.out)).trans HK7.out
        have l0 := cell_blk hkl8 0 _ rfl
        have l1 := cell_blk hkl8 1 _ rfl
        have hA8 : Below w8.heap.size w8 (w8.alloc (.cells #[.int .u64 ((xe : Int) + 1), .int .i64 r] 30)) := (Below.refl _ _).alloc (Nat.le_refl _) _
        have hB9 := (HB7.out.trans (hb8.mono HB7.out.size)).trans (hA8.mono (Nat.le_trans HB7.out.size hb8.size))
        have hf9 := (hf8.keep hA8).drop
        have hkl9 := (hA8.block _ (lt_of_block hkl8)).trans hkl8
        have l0 := cell_blk hkl9 0 _ rfl
        have l1 := cell_blk hkl9 1 _ rfl
        have HALL := Lib.hid (And.intro hf9 (And.intro hkl9 hB9))
        have HFD := Lib.hid (failed_f hf9 d (by omega))
        clear hf8 hb8 hkl8 hA8 hB9 hf9 hkl9 HF7 HK7 HB7
        cases q with
        | false =>
          clear HFD
          go_wp2
          go_roundw
          case rel => exact ⟨k + 1, false, ⟨xe + 1, r⟩, s', by omega, by go_num, rfl, HALL.out.1, HI.out, (fun h => by cases h), by show xe + 1 ≤ k + 1; omega, HALL.out.2.1, HALL.out.2.2⟩
          case measure => simp [intOf]; omega
        | true =>
          rw [HQ.out rfl] at HFD
          go_wp2_with (go_at_call 18; (refine HFD.out.mono ?_); rintro e w10 ⟨rfl, rfl⟩)
          go_roundw
          case rel => exact ⟨k + 1, true, ⟨xe + 1, r⟩, s', by omega, by go_num, rfl, HALL.out.1, HI.out, (fun _ => HQ.out trivial), by show xe + 1 ≤ k + 1; omega, HALL.out.2.1, HALL.out.2.2⟩
          case measure => simp [intOf]; omega
      · have HC := Lib.hid (claim_f' hf5 hn (xe + 1) r ((xe : Int) + 1) r (by omega) rfl _ e1)
        dsimp only at HC
        have hn' : 1 < s'.n := by rw [hI'.nm.n]; omega
        have HL := Lib.hid (fun K W (h : Free w1.heap.size K W g s') => last_f' h hn' xe xw xe xw rfl rfl hI'.tells)
        have HI := Lib.hid hI'
        have HFL := Lib.hid hfl
        clear hf hI hq hkl hB hA hf5 hok hn hfl hI' hw5 hxb e1
        go_wp2_with fail
        rw [← HW5.out]
        try rw [← HXB.out]
        refine HC.out.mono ?_
        rintro e w6 ⟨rfl, hd6⟩
        have hkl6 := (hd6.keep lb (by simp)).trans hkl5
        have hB6 := hB5.trans (hd6.below.mono HB1.out)
        have HF6 := Lib.hid hd6.free
        clear HC hd6 hkx hkl5 hB5
        go_wp2_with fail
        refine (HL.out _ _ HF6.out).mono ?_
        rintro e w8 ⟨rfl, hf8, hb8⟩
        have hkl8 := (hb8.block _ (lt_of_block hkl6)).trans hkl6
        have l0 := cell_blk hkl8 0 _ rfl
        have l1 := cell_blk hkl8 1 _ rfl
        have hA8 : Below w8.heap.size w8 (w8.alloc (.cells #[.int .u64 xe, .int .i64 xw] 30)) := (Below.refl _ _).alloc (Nat.le_refl _) _
        have hB9 := (hB6.trans (hb8.mono hB6.size)).trans (hA8.mono (Nat.le_trans hB6.size hb8.size))
        have hf9 := (hf8.keep hA8).drop
        have hkl9 := (hA8.block _ (lt_of_block hkl8)).trans hkl8
        have l0 := cell_blk hkl9 0 _ rfl
        have l1 := cell_blk hkl9 1 _ rfl
        have HALL := Lib.hid (And.intro hf9 (And.intro hkl9 hB9))
        have HFD := Lib.hid (failed_f hf9 d (by omega))
        rw [HFL.out] at HFD
        clear hf8 hb8 hkl8 hA8 hB9 hf9 hkl9 HF6 hkl6 hB6
        go_wp2_with (go_at_call 18; (refine HFD.out.mono ?_); rintro e w10 ⟨rfl, rfl⟩)
        go_roundw
        case rel => exact ⟨k + 1, true, ⟨xe, xw⟩, s', by omega, by go_num, rfl, HALL.out.1, HI.out, fun _ => HFL.out, by show xe ≤ k + 1; omega, HALL.out.2.1, HALL.out.2.2⟩
        case measure => simp [intOf]; omega
    · have hend : ¬ ((k : Int) < (N : Int)) := by omega
      clear hf hI hq
      go_wp2
      go_ret
      exact ⟨rfl, hB⟩
end Go.Proofs.YtcbgccmoeleanaaDoor.Lg
