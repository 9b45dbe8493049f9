/- The contract of slices.rotateCmpFunc at []int: two neighbouring ranges are exchanged. -/
import Derived.Test.YtfehioapjoihkaaSwr
namespace Go.Proofs.Ytfehioapjoihkaa
open Go.Shelf Go.RowKit Go.Lib Go.Sort Drawbar.Stab
variable {α : Type} [Inhabited α]

set_option maxHeartbeats 4000000 in
set_option maxRecDepth 1000000 in
theorem rotate_any (enc : α → Value) (fv : Value) (blk off cap a m b : Nat) (d0 d : Array α) (w0 w : World)
    (R : Row1 enc w0 blk off d0) (hs : d0.size = d.size) (S : SW enc w0 blk off d w) (ham : a < m) (hmb : m < b) (hb : b ≤ d.size) (hsz : d.size < 1000000) :
    Calls Try.prog 45 #[.slice (some ⟨blk, off, none⟩) d.size cap, .int .i64 a, .int .i64 m, .int .i64 b, fv] w fun e w' => e = .returned (.tuple #[]) ∧ ∃ d', Aside (Rot a m b d d') ∧ Aside (SW enc w0 blk off d' w') := by
  have S0 : Aside (SW enc w0 blk off d w) := S
  have Z0 : Aside (Rots a m b (m - a) (b - m) d d) := Rots.start d (by omega) (by omega)
  have hi1 : (m : Int) - (a : Int) = ((m - a : Nat) : Int) := by omega
  have hj1 : (b : Int) - (m : Int) = ((b - m : Nat) : Int) := by omega
  have HI := Lib.hid hi1
  have HJ := Lib.hid hj1
  have hm0 : (0 : Int) ≤ a := by omega
  have hb9 : (b : Int) < 1000000 := by omega
  have ham9 : (a : Int) < m := by omega
  have hmb9 : (m : Int) < b := by omega
  clear S hi1 hj1
  go_enter Try.func45, Try.ntmps45
  go_wp2
  go_loopg [10, 11] (b - a) (fun kx vi vj wr => ∃ (i j : Nat) (dk : Array α), vi = .int .i64 i ∧ vj = .int .i64 j ∧ 0 < i ∧ 0 < j ∧ i ≤ m - a ∧ j ≤ b - m ∧ i + j ≤ kx ∧ dk.size = d.size ∧ Aside (SW enc w0 blk off dk wr) ∧ Aside (Rots a m b i j d dk))
  case atStart => exact ⟨m - a, b - m, d, by rw [HI.out], by rw [HJ.out], by omega, by omega, Nat.le_refl _, Nat.le_refl _, by omega, rfl, S0, Z0⟩
  case round =>
    clear S0 Z0
    obtain ⟨i, j, dk, rfl, rfl, hi0, hj0, hi, hj, hkx, hds, S1, Z1⟩ := hrel
    have i9 : (0 : Int) < i := by omega
    have j9 : (0 : Int) < j := by omega
    have i8 : (i : Int) ≤ m := by omega
    have i7 : (i : Int) ≤ (m : Int) - a := by omega
    have j8 : (m : Int) + j ≤ b := by omega
    by_cases hlt : j < i
    · have h1 : ((i : Int) == (j : Int)) = false := by simp; omega
      have h2 : ((i : Int) != (j : Int)) = true := by simp; omega
      have h3 : (j : Int) < (i : Int) := by omega
      have hc := swapRange_any enc fv blk off cap (m - i) m j d0 dk w0 wr R (by omega) S1.out (by omega) (by omega) (by omega)
      rw [show ((m - i : Nat) : Int) = (m : Int) - (i : Int) by omega, hds] at hc
      have HC := Lib.hid hc
      have zz : (i : Int) - (j : Int) = ((i - j : Nat) : Int) := by omega
      have ZZ := Lib.hid zz
      clear hc S1 zz
      go_wp2_with (go_at_call 57; (with_reducible refine HC.out.mono ?_); rintro e w2 ⟨rfl, d2, Y2, S2⟩)
      have Z2 : Aside (Rots a m b (i - j) j d d2) := Z1.out.more Y2.out hlt hi hj (by omega) (by omega) hb
      go_roundg (i - j + j)
      case measure => omega
      case rel => exact ⟨i - j, j, d2, by rw [ZZ.out], rfl, by omega, hj0, by omega, hj, Nat.le_refl _, Y2.out.size.trans hds, S2, Z2⟩
    · by_cases heq : i = j
      · subst heq
        have hc := swapRange_any enc fv blk off cap (m - i) m i d0 dk w0 wr R (by omega) S1.out (by omega) (by omega) (by omega)
        rw [show ((m - i : Nat) : Int) = (m : Int) - (i : Int) by omega, hds] at hc
        have HC := Lib.hid hc
        clear hc S1
        go_wp2_with (go_at_call 57; (with_reducible refine HC.out.mono ?_); rintro e w2 ⟨rfl, d2, Y2, S2⟩)
        go_end0
        exact ⟨rfl, d2, Z1.out.done Y2.out hi hj (by omega) (by omega) hb, S2⟩
      · have h1 : ((i : Int) == (j : Int)) = false := by simp; omega
        have h2 : ((i : Int) != (j : Int)) = true := by simp; omega
        have h3 : ¬ (j : Int) < (i : Int) := by omega
        have hc := swapRange_any enc fv blk off cap (m - i) (m + j - i) i d0 dk w0 wr R (by omega) S1.out (by omega) (by omega) (by omega)
        rw [show ((m - i : Nat) : Int) = (m : Int) - (i : Int) by omega, show ((m + j - i : Nat) : Int) = (m : Int) + (j : Int) - (i : Int) by omega, hds] at hc
        have HC := Lib.hid hc
        have zz : (j : Int) - (i : Int) = ((j - i : Nat) : Int) := by omega
        have ZZ := Lib.hid zz
        clear hc S1 zz
        go_wp2_with (go_at_call 57; (with_reducible refine HC.out.mono ?_); rintro e w2 ⟨rfl, d2, Y2, S2⟩)
        have Z2 : Aside (Rots a m b i (j - i) d d2) := Z1.out.less Y2.out (by omega) hi hj (by omega) (by omega) hb
        go_roundg (i + (j - i))
        case measure => omega
        case rel => exact ⟨i, j - i, d2, rfl, by rw [ZZ.out], hi0, by omega, hi, by omega, Nat.le_refl _, Y2.out.size.trans hds, S2, Z2⟩
end Go.Proofs.Ytfehioapjoihkaa
