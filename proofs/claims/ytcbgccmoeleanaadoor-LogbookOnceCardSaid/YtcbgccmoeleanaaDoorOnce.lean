/- The walk of the law LogbookOnce. -/
import Derived.Test.YtcbgccmoeleanaaDoorUse
namespace Go.Proofs.YtcbgccmoeleanaaDoor.Lg
open Go.RowKit
open Drawbar Drawbar.Sheet Drawbar.Nand Drawbar.Log Go.Proofs.YtcbgccmoeleanaaDoor.Nd

set_option maxHeartbeats 2000000 in
theorem once_false (ep : Nat) (l : List Nat) (a : Option Addr) (cap : Nat) (w : World) (h1 : ep < 4294967296) (hr : Rd w a l) (hT : Tab w) :
    Calls Tryd.prog 9 #[.int .u32 ep, .bool false, .slice a l.length cap] w (Yes w) := by
  have HA := Lib.hid (awake_any w hT)
  have HT := Lib.hid hT
  have HR := Lib.hid hr
  clear hT hr
  go_enter Tryd.func9, Tryd.ntmps9
  go_wp2_with fail
  refine HA.out.mono ?_
  rintro e w1 ⟨rfl, hB1⟩
  have HN := Lib.hid (new_has' 2 3 2 3 rfl rfl w1 (HT.out.below hB1 HT.out.pos) (by omega) (by omega) (by omega) (by omega))
  clear HA
  go_wp2_with fail
  refine HN.out.mono ?_
  rintro e w2 ⟨g, rfl, hh2, hb2⟩
  have hB2 := hB1.trans (hb2.mono hB1.size)
  replace hh2 := hh2.base hB1.size HT.out.pos
  have HC := Lib.hid (claim_yes' hh2 (1 + ep) 0 (1 + (ep : Int)) 0 (by omega) rfl (ok_of (by omega) (by omega) (by omega) (by omega)) (show 0 < 1 + ep by omega) (by omega))
  clear hh2 hb2 HN hB1
  go_wp2_with fail
  refine HC.out.mono ?_
  rintro e w3 ⟨rfl, hh3, hb3⟩
  have hB3 := hB2.trans hb3
  clear HC hb3 hB2
  go_wp2
  go_loopw [11, 12] (fun lv iv wr => ∃ k L : Nat, k ≤ l.length ∧ k ≤ 20 ∧ iv = .int .i64 k ∧ lv = .int .u64 L ∧ 1 + ep ≤ L ∧ L ≤ 1 + ep + 256 * k ∧ Has w.heap.size wr g 2 3 0 0 ⟨L, 0⟩ ∧ Below w.heap.size w wr) (fun _ iv _ => l.length - (intOf iv).toNat)
  case atStart => exact ⟨0, 1 + ep, by omega, by omega, rfl, by go_num, by omega, by omega, hh3, hB3⟩
  case round =>
    obtain ⟨k, L, hk, hk20, rfl, rfl, hL1, hL2, hh, hB⟩ := hrel
    clear hh3 hB3
    by_cases hlt : k < l.length
    · by_cases h20 : k < 20
      · obtain ⟨hl, hlen, hc⟩ := HR.out.below hB
        obtain ⟨b, off, rfl, hcell⟩ := hc (by omega)
        have c0 := hcell k hlt
        obtain ⟨x, hx, hx2⟩ : ∃ x, l.getD k 0 = x ∧ x < 256 := ⟨_, rfl, hl _ (getD_mem l k hlt)⟩
        rw [hx] at c0
        have HC := Lib.hid (claim_yes' hh (L + (1 + x)) 0 ((L : Int) + (1 + (x : Int))) 0 (by omega) rfl (ok_of (by omega) (by omega) (by omega) (by omega)) (show L < L + (1 + x) by omega) (by omega))
        clear hl hlen hc hcell hx hh
        go_wp2_with fail
        refine HC.out.mono ?_
        rintro e w4 ⟨rfl, hh4, hb4⟩
        have hB4 := hB.trans hb4
        clear HC hb4 hB c0
        go_wp2
        go_roundw
        case rel => exact ⟨k + 1, L + (1 + x), by omega, by omega, by go_num, by go_num, by omega, by omega, hh4, hB4⟩
        case measure => simp [intOf]; omega
      · have hend : ¬ ((k : Int) < 20) := by omega
        have HC := Lib.hid (claim_low' hh (1 + ep) 1 (1 + (ep : Int)) 1 (by omega) rfl (ok_of (by omega) (by omega) (by omega) (by omega)) hL1)
        clear hh
        go_wp2_with fail
        refine HC.out.mono ?_
        rintro e w4 ⟨rfl, hh4, hb4⟩
        have hB4 := hB.trans hb4
        have HL := Lib.hid (last_m' (L : Int) 0 rfl rfl hh4)
        clear HC hb4 hB hh4
        go_wp2_with fail
        refine HL.out.mono ?_
        rintro e w6 ⟨rfl, -, hb6⟩
        have hA : Below w6.heap.size w6 (w6.alloc (.cells #[.int .u64 L, .int .i64 0] 30)) := (Below.refl _ _).alloc (Nat.le_refl _) _
        have hB6 := (hB4.trans (hb6.mono hB4.size)).trans (hA.mono (Nat.le_trans hB4.size hb6.size))
        clear HL hb6 hA hB4
        go_wp2
        go_ret
        exact ⟨rfl, hB6⟩
    · have hend : ¬ ((k : Int) < (l.length : Int)) := by omega
      have HC := Lib.hid (claim_low' hh (1 + ep) 1 (1 + (ep : Int)) 1 (by omega) rfl (ok_of (by omega) (by omega) (by omega) (by omega)) hL1)
      clear hh
      go_wp2_with fail
      refine HC.out.mono ?_
      rintro e w4 ⟨rfl, hh4, hb4⟩
      have hB4 := hB.trans hb4
      have HL := Lib.hid (last_m' (L : Int) 0 rfl rfl hh4)
      clear HC hb4 hB hh4
      go_wp2_with fail
      refine HL.out.mono ?_
      rintro e w6 ⟨rfl, -, hb6⟩
      have hA : Below w6.heap.size w6 (w6.alloc (.cells #[.int .u64 L, .int .i64 0] 30)) := (Below.refl _ _).alloc (Nat.le_refl _) _
      have hB6 := (hB4.trans (hb6.mono hB4.size)).trans (hA.mono (Nat.le_trans hB4.size hb6.size))
      clear HL hb6 hA hB4
      go_wp2
      go_ret
      exact ⟨rfl, hB6⟩

set_option maxHeartbeats 2000000 in
theorem once_true (ep : Nat) (l : List Nat) (a : Option Addr) (cap : Nat) (w : World) (h1 : ep < 4294967296) (hr : Rd w a l) (hT : Tab w) :
    Calls Tryd.prog 9 #[.int .u32 ep, .bool true, .slice a l.length cap] w (Yes w) := by
  have HA := Lib.hid (awake_any w hT)
  have HT := Lib.hid hT
  have HR := Lib.hid hr
  clear hT hr
  go_enter Tryd.func9, Tryd.ntmps9
  go_wp2_with fail
  refine HA.out.mono ?_
  rintro e w1 ⟨rfl, hB1⟩
  have HN := Lib.hid (new_has' 2 3 2 3 rfl rfl w1 (HT.out.below hB1 HT.out.pos) (by omega) (by omega) (by omega) (by omega))
  clear HA
  go_wp2_with fail
  refine HN.out.mono ?_
  rintro e w2 ⟨g, rfl, hh2, hb2⟩
  have hB2 := hB1.trans (hb2.mono hB1.size)
  replace hh2 := hh2.base hB1.size HT.out.pos
  have HC := Lib.hid (claim_yes' hh2 (1 + ep) 1 (1 + (ep : Int)) 1 (by omega) rfl (ok_of (by omega) (by omega) (by omega) (by omega)) (show 0 < 1 + ep by omega) (by omega))
  clear hh2 hb2 HN hB1
  go_wp2_with fail
  refine HC.out.mono ?_
  rintro e w3 ⟨rfl, hh3, hb3⟩
  have hB3 := hB2.trans hb3
  clear HC hb3 hB2
  go_wp2
  go_loopw [11, 12] (fun lv iv wr => ∃ k L : Nat, k ≤ l.length ∧ k ≤ 20 ∧ iv = .int .i64 k ∧ lv = .int .u64 L ∧ 1 + ep ≤ L ∧ L ≤ 1 + ep + 256 * k ∧ Has w.heap.size wr g 2 3 0 0 ⟨L, 1⟩ ∧ Below w.heap.size w wr) (fun _ iv _ => l.length - (intOf iv).toNat)
  case atStart => exact ⟨0, 1 + ep, by omega, by omega, rfl, by go_num, by omega, by omega, hh3, hB3⟩
  case round =>
    obtain ⟨k, L, hk, hk20, rfl, rfl, hL1, hL2, hh, hB⟩ := hrel
    clear hh3 hB3
    by_cases hlt : k < l.length
    · by_cases h20 : k < 20
      · obtain ⟨hl, hlen, hc⟩ := HR.out.below hB
        obtain ⟨b, off, rfl, hcell⟩ := hc (by omega)
        have c0 := hcell k hlt
        obtain ⟨x, hx, hx2⟩ : ∃ x, l.getD k 0 = x ∧ x < 256 := ⟨_, rfl, hl _ (getD_mem l k hlt)⟩
        rw [hx] at c0
        have HC := Lib.hid (claim_yes' hh (L + (1 + x)) 1 ((L : Int) + (1 + (x : Int))) 1 (by omega) rfl (ok_of (by omega) (by omega) (by omega) (by omega)) (show L < L + (1 + x) by omega) (by omega))
        clear hl hlen hc hcell hx hh
        go_wp2_with fail
        refine HC.out.mono ?_
        rintro e w4 ⟨rfl, hh4, hb4⟩
        have hB4 := hB.trans hb4
        clear HC hb4 hB c0
        go_wp2
        go_roundw
        case rel => exact ⟨k + 1, L + (1 + x), by omega, by omega, by go_num, by go_num, by omega, by omega, hh4, hB4⟩
        case measure => simp [intOf]; omega
      · have hend : ¬ ((k : Int) < 20) := by omega
        have HC := Lib.hid (claim_low' hh (1 + ep) 0 (1 + (ep : Int)) 0 (by omega) rfl (ok_of (by omega) (by omega) (by omega) (by omega)) hL1)
        clear hh
        go_wp2_with fail
        refine HC.out.mono ?_
        rintro e w4 ⟨rfl, hh4, hb4⟩
        have hB4 := hB.trans hb4
        have HL := Lib.hid (last_m' (L : Int) 1 rfl rfl hh4)
        clear HC hb4 hB hh4
        go_wp2_with fail
        refine HL.out.mono ?_
        rintro e w6 ⟨rfl, -, hb6⟩
        have hA : Below w6.heap.size w6 (w6.alloc (.cells #[.int .u64 L, .int .i64 1] 30)) := (Below.refl _ _).alloc (Nat.le_refl _) _
        have hB6 := (hB4.trans (hb6.mono hB4.size)).trans (hA.mono (Nat.le_trans hB4.size hb6.size))
        clear HL hb6 hA hB4
        go_wp2
        go_ret
        exact ⟨rfl, hB6⟩
    · have hend : ¬ ((k : Int) < (l.length : Int)) := by omega
      have HC := Lib.hid (claim_low' hh (1 + ep) 0 (1 + (ep : Int)) 0 (by omega) rfl (ok_of (by omega) (by omega) (by omega) (by omega)) hL1)
      clear hh
      go_wp2_with fail
      refine HC.out.mono ?_
      rintro e w4 ⟨rfl, hh4, hb4⟩
      have hB4 := hB.trans hb4
      have HL := Lib.hid (last_m' (L : Int) 1 rfl rfl hh4)
      clear HC hb4 hB hh4
      go_wp2_with fail
      refine HL.out.mono ?_
      rintro e w6 ⟨rfl, -, hb6⟩
      have hA : Below w6.heap.size w6 (w6.alloc (.cells #[.int .u64 L, .int .i64 1] 30)) := (Below.refl _ _).alloc (Nat.le_refl _) _
      have hB6 := (hB4.trans (hb6.mono hB4.size)).trans (hA.mono (Nat.le_trans hB4.size hb6.size))
      clear HL hb6 hA hB4
      go_wp2
      go_ret
      exact ⟨rfl, hB6⟩

theorem once_any (ep : Nat) (q : Bool) (l : List Nat) (a : Option Addr) (cap : Nat) (w : World) (h1 : ep < 4294967296) (hr : Rd w a l) (hT : Tab w) :
    Calls Tryd.prog 9 #[.int .u32 ep, .bool q, .slice a l.length cap] w (Yes w) := by
  cases q with
  | false => exact once_false ep l a cap w h1 hr hT
  | true => exact once_true ep l a cap w h1 hr hT
end Go.Proofs.YtcbgccmoeleanaaDoor.Lg
