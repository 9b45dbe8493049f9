/- The walk of the law LogbookMany. -/
import Derived.Test.YtcbgccmoeleanaaDoorUse
namespace Go.Proofs.YtcbgccmoeleanaaDoor.Lg
open Go.RowKit
open Drawbar Drawbar.Sheet Drawbar.Nand Drawbar.Log Go.Proofs.YtcbgccmoeleanaaDoor.Nd

theorem rest_next {B : Nat} {w : World} {g p f m : Nat} {x : En} (h : Has B w g 3 p f m x) : Calls Tryd.prog 14 #[.pointer (some ⟨g, 0, none⟩), .int .i64 2] w fun e w' => e = .returned (.int .i64 0) ∧ w = w' := by
  obtain ⟨h0, hB, hT, s, hm, hi⟩ := h
  have hn := next_m hm 2 (by rw [hi.nm.n]; omega)
  rw [hi.rest 2 (by omega)] at hn
  exact hn
theorem rest_erases {B : Nat} {w : World} {g p f m : Nat} {x : En} (h : Has B w g 3 p f m x) : Calls Tryd.prog 21 #[.pointer (some ⟨g, 0, none⟩), .int .i64 2] w fun e w' => e = .returned (.int .i64 0) ∧ w = w' := by
  obtain ⟨h0, hB, hT, s, hm, hi⟩ := h
  have hn := erases_m hm 2 (by rw [hi.nm.n]; omega)
  rw [hi.rest 2 (by omega)] at hn
  exact hn

def mx (k : Nat) : En := if k = 0 then En.z else ⟨k, (k % 2 : Nat)⟩

set_option maxHeartbeats 2000000 in
theorem many_any (pg n : Nat) (w : World) (h1 : pg < 256) (h2 : n < 256) (hT : Tab w) : Calls Tryd.prog 8 #[.int .u8 pg, .int .u8 n] w (Yes w) := by
  have HA := Lib.hid (awake_any w hT)
  have HT := Lib.hid hT
  clear hT
  obtain ⟨p, hp, hp4⟩ : ∃ p : Nat, (pg : Int) % 4 = p ∧ p < 4 := ⟨pg % 4, by omega, by omega⟩
  go_enter Tryd.func8, Tryd.ntmps8
  go_wp2_with fail
  refine HA.out.mono ?_
  rintro e w1 ⟨rfl, hB1⟩
  have HN := Lib.hid (new_has' 3 (1 + p) 3 (1 + (p : Int)) rfl (by omega) w1 (HT.out.below hB1 HT.out.pos) (by omega) (by omega) (by omega) (by omega))
  clear HA
  go_wp2_with fail
  refine HN.out.mono ?_
  rintro e w2 ⟨g, rfl, hh2, hb2⟩
  have hB2 := hB1.trans (hb2.mono hB1.size)
  replace hh2 := hh2.base hB1.size HT.out.pos
  clear hb2 HN hB1
  go_wp2
  go_loopw [7] (fun iv wr => ∃ k : Nat, k ≤ n ∧ iv = .int .i64 ((k : Int) + 1) ∧ Has w.heap.size wr g 3 (1 + p) 0 0 (mx k) ∧ Below w.heap.size w wr) (fun iv _ => n + 1 - (intOf iv).toNat)
  case atStart => exact ⟨0, by omega, rfl, hh2, hB2⟩
  case round =>
    obtain ⟨k, hk, rfl, hh, hB⟩ := hrel
    clear hh2 hB2
    by_cases hkn : k < n
    · have hok : okE ⟨k + 1, ((k + 1) % 2 : Nat)⟩ = true := ok_of (by omega) (by omega) (by omega) (by omega)
      have hlt : (mx k).e < k + 1 := by
        unfold mx
        by_cases h0 : k = 0
        · rw [if_pos h0]; show 0 < k + 1; omega
        · rw [if_neg h0]; show k < k + 1; omega
      obtain ⟨r, hr, hr2⟩ : ∃ r : Nat, (k + 1) % 2 = r ∧ r < 2 := ⟨_, rfl, by omega⟩
      have hr3 : ((k : Int) + 1) % 2 = r := by omega
      rw [hr] at hok
      have HC := Lib.hid (claim_yes' hh (k + 1) r ((k : Int) + 1) r (by omega) rfl hok hlt (by omega))
      have HM : mx (k + 1) = ⟨k + 1, (r : Nat)⟩ := by
        unfold mx
        rw [if_neg (by omega), hr]
      have HMX := Lib.hid HM
      clear hok hlt hh HM hr
      go_wp2_with fail
      refine HC.out.mono ?_
      rintro e w3 ⟨rfl, hh3, hb3⟩
      have hB3 := hB.trans hb3
      have HL := Lib.hid (last_m' ((k : Int) + 1) r (by omega) rfl hh3)
      clear HC hb3 hB hh3
      go_wp2_with fail
      refine HL.out.mono ?_
      rintro e w4 ⟨rfl, hh4, hb4⟩
      have hA : Below w4.heap.size w4 (w4.alloc (.cells #[.int .u64 ((k : Int) + 1), .int .i64 r] 30)) := (Below.refl _ _).alloc (Nat.le_refl _) _
      have hB4 := (hB3.trans (hb4.mono hB3.size)).trans (hA.mono (Nat.le_trans hB3.size hb4.size))
      have hh5 := hh4.keep hA
      clear HL hb4 hA hB3 hh4
      go_wp2
      go_roundw
      case rel => exact ⟨k + 1, by omega, by go_num, by rw [HMX.out]; exact hh5, hB4⟩
      case measure => simp [intOf]; omega
    · have hend : ¬ ((k : Int) + 1 ≤ (n : Int)) := by omega
      have HNX := Lib.hid (rest_next hh)
      have HER := Lib.hid (rest_erases hh)
      clear hh
      go_wp2_with (first
        | (go_at_call 14; (refine HNX.out.mono ?_); rintro e w5 ⟨rfl, rfl⟩)
        | (go_at_call 21; (refine HER.out.mono ?_); rintro e w5 ⟨rfl, rfl⟩))
      go_ret
      exact ⟨rfl, hB⟩
end Go.Proofs.YtcbgccmoeleanaaDoor.Lg
