/- The contract of octet.Get: the number of the first eight bytes, the lowest first. -/
import Derived.Test.YtopmljbemogcoaaDoorPut
namespace Go.Proofs.YtopmljbemogcoaaDoor
open Go.RowKit
open Drawbar

theorem le_take (l : List Nat) (k : Nat) (hk : k < l.length) : Crc.le (l.take (k + 1)) = Crc.le (l.take k) + l.getD k 0 * 2 ^ (8 * k) := by
  rw [take_getD l k hk, Crc.le_append, List.length_take, Nat.min_eq_left (by omega)]
  simp only [Crc.le]; rw [Nat.mul_comm]; simp
theorem le_take_lt (l : List Nat) (k : Nat) (hl : ∀ x ∈ l, x < 256) : Crc.le (l.take k) < 2 ^ (8 * k) := by
  refine Nat.lt_of_lt_of_le (Crc.le_lt _ fun x hx => hl x (List.mem_of_mem_take hx)) (Nat.pow_le_pow_right (by omega) ?_)
  rw [List.length_take]; omega

theorem or_step (c b k : Nat) (hc : c < 2 ^ (8 * k)) (hb : b < 256) (hk : k < 8) : bits .or .u64 (c : Int) (IntKind.u64.wrap ((b : Int) * 2 ^ (8 * k))) = ((c + b * 2 ^ (8 * k) : Nat) : Int) := by
  have h1 : 2 ^ (8 * k) ≤ 2 ^ 56 := Nat.pow_le_pow_right (by omega) (by omega)
  have h2 : b * 2 ^ (8 * k) < 2 ^ 64 := by
    have := Nat.mul_le_mul (show b ≤ 255 by omega) h1; omega
  have e : ((b : Int) * 2 ^ (8 * k)) = ((b * 2 ^ (8 * k) : Nat) : Int) := by simp
  rw [e]
  have hw : IntKind.u64.wrap ((b * 2 ^ (8 * k) : Nat) : Int) = ((b * 2 ^ (8 * k) : Nat) : Int) := by
    rw [IntKind.wrap_u64]; omega
  rw [hw, u64_or_nat _ _ (by omega) (by omega), Nat.or_comm, nat_join (8 * k) _ _ (by simp) hc, Nat.add_comm]

theorem get_any (l : List Nat) (a : Option Addr) (cap : Nat) (w : World) (hr : Rd w a l) :
    Calls Tryd.prog 34 #[.slice a l.length cap] w fun e w' => e = .returned (.int .u64 (Crc.le (l.take 8) : Nat)) ∧ w = w' := by
  obtain ⟨hl, hlen, hc⟩ := hr
  go_enter Tryd.func34, Tryd.ntmps34
  go_wp2
  all_goals
    go_loop [3, 8] (fun c i => ∃ k : Nat, k ≤ l.length ∧ k ≤ 8 ∧ i = .int .i64 k ∧ c = .int .u64 (Crc.le (l.take k) : Nat)) (fun _ i => 8 - (intOf i).toNat)
    case atStart => exact ⟨0, Nat.zero_le _, Nat.zero_le _, rfl, rfl⟩
    case round =>
      obtain ⟨k, hk, hk8, rfl, rfl⟩ := hrel
      by_cases hlt : k < l.length ∧ k < 8
      · obtain ⟨hlt, hlt8⟩ := hlt
        obtain ⟨b, off, rfl, hcell⟩ := hc (by omega)
        have h1 := hcell k hlt
        have hb : l.getD k 0 < 256 := hl _ (getD_mem l k hlt)
        have HF := Lib.hid (le_take l k hlt)
        have hc0 := le_take_lt l k hl
        clear hcell hc
        generalize l.getD k 0 = b0 at h1 hb HF
        generalize Crc.le (l.take k) = c0 at HF hc0
        have hor := or_step c0 b0 k hc0 hb hlt8
        clear hc0
        have HO := Lib.hid hor
        clear hor
        go_wp2
        go_round
        case rel => exact ⟨k + 1, by omega, by omega, by go_num, by rw [HF.out, HO.out]⟩
        case measure => simp [intOf]; omega
      · have HK : Hid (l.take k = l.take 8) := Lib.hid (by
          rcases Nat.lt_or_ge k 8 with h | h
          · rw [List.take_of_length_le (by omega), List.take_of_length_le (by omega)]
          · rw [show k = 8 by omega])
        clear hc
        go_wp2
        go_ret
        exact ⟨ret_int (by rw [HK.out]), rfl⟩
end Go.Proofs.YtopmljbemogcoaaDoor
