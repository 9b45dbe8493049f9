/- utf8.RuneLen of a valid rune, and how many bytes the model's encoding has. -/
import Derived.Test.YthldbcngbkemnaaProg
import Derived.WalkKit
import Derived.Handy
import Derived.Lib.Hide
namespace Go.Proofs.Ythldbcngbkemnaa
open Go.RowKit

/-- how many bytes a sign has -/
def rlen (r : Nat) : Nat := if r < 128 then 1 else if r < 2048 then 2 else if r < 65536 then 3 else 4

theorem rlen_le (r : Nat) : 1 ≤ rlen r ∧ rlen r ≤ 4 := by
  unfold rlen
  repeat' split
  all_goals omega

theorem encode_size (r : Nat) (hv : Utf8.valid (r : Int) = true) : (Utf8.encode (r : Int)).size = rlen r := by
  have e : ((r : Int).toNat) = r := by omega
  unfold Utf8.encode rlen
  simp only [hv, if_true, e]
  by_cases h1 : r < 128
  · rw [if_pos h1, if_pos h1]; rfl
  · rw [if_neg h1, if_neg h1]
    by_cases h2 : r < 2048
    · rw [if_pos h2, if_pos h2]; rfl
    · rw [if_neg h2, if_neg h2]
      by_cases h3 : r < 65536
      · rw [if_pos h3, if_pos h3]; rfl
      · rw [if_neg h3, if_neg h3]; rfl

set_option maxRecDepth 1000000 in
set_option maxHeartbeats 1000000 in
theorem runelen_any (r : Nat) (hv : Utf8.valid (r : Int) = true) (w : World) :
    Calls Try.prog 38 #[.int .i32 (r : Int)] w fun e w' => e = .returned (.int .i64 (rlen r : Nat)) ∧ w = w' := by
  have hv2 : ((r : Int) < 55296) ∨ (57344 ≤ (r : Int) ∧ (r : Int) ≤ 1114111) := by
    simp [Utf8.valid] at hv
    omega
  have i0 : 0 ≤ (r : Int) := by omega
  have hl : rlen r = if r < 128 then 1 else if r < 2048 then 2 else if r < 65536 then 3 else 4 := rfl
  generalize rlen r = L at *
  clear hv
  have HV := Lib.hid hv2
  clear hv2
  by_cases h1 : r < 128
  · rw [if_pos h1] at hl
    subst hl
    have j1 : (r : Int) ≤ 127 := by omega
    clear h1 HV
    generalize (r : Int) = x at *
    go_enter Try.func38, Try.ntmps38
    go_wp2
    go_ret
    exact ⟨rfl, rfl⟩
  rw [if_neg h1] at hl
  by_cases h2 : r < 2048
  · rw [if_pos h2] at hl
    subst hl
    have j1 : ¬ (r : Int) ≤ 127 := by omega
    have j2 : (r : Int) ≤ 2047 := by omega
    clear h1 h2 HV
    generalize (r : Int) = x at *
    go_enter Try.func38, Try.ntmps38
    go_wp2
    go_ret
    exact ⟨rfl, rfl⟩
  rw [if_neg h2] at hl
  have j1 : ¬ (r : Int) ≤ 127 := by omega
  have j2 : ¬ (r : Int) ≤ 2047 := by omega
  by_cases h3 : r < 65536
  · rw [if_pos h3] at hl
    subst hl
    have j3 : (r : Int) ≤ 65535 := by omega
    have hv3 : ¬ 55296 ≤ (r : Int) ∨ (55296 ≤ (r : Int) ∧ ¬ (r : Int) ≤ 57343) := by have := HV.out; omega
    clear h1 h2 h3 HV
    generalize (r : Int) = x at *
    rcases hv3 with j4 | ⟨j4, j5⟩
    · go_enter Try.func38, Try.ntmps38
      go_wp2
      go_ret
      exact ⟨rfl, rfl⟩
    · go_enter Try.func38, Try.ntmps38
      go_wp2
      go_ret
      exact ⟨rfl, rfl⟩
  · rw [if_neg h3] at hl
    subst hl
    have j3 : ¬ (r : Int) ≤ 65535 := by omega
    have j4 : 55296 ≤ (r : Int) := by omega
    have j5 : ¬ (r : Int) ≤ 57343 := by omega
    have j6 : (r : Int) ≤ 1114111 := by have := HV.out; omega
    clear h1 h2 h3 HV
    generalize (r : Int) = x at *
    go_enter Try.func38, Try.ntmps38
    go_wp2
    go_ret
    exact ⟨rfl, rfl⟩

end Go.Proofs.Ythldbcngbkemnaa
