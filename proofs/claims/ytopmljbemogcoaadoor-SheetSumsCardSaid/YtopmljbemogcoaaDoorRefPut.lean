/- The contract of the document's Put and Get (drawbarref01): a number's bytes, the lowest first, in new memory. -/
import Derived.Test.YtopmljbemogcoaaDoorOne
namespace Go.Proofs.YtopmljbemogcoaaDoor
open Go.RowKit
open Drawbar

theorem put_div (n k : Nat) : n / 256 ^ k % 256 = n / 2 ^ (8 * k) % 256 := by
  rw [Nat.pow_mul]

theorem refput_any (n size : Nat) (w : World) (hn : n < 2 ^ 64) (hs8 : size ≤ 8) :
    Calls Tryd.prog 27 #[.int .u64 n, .int .i64 size] w (NewBytes w (put n size)) := by
  obtain ⟨i0, hi, hz0, hz1, hz2⟩ := info_parts info_u8
  go_enter Tryd.func27, Tryd.ntmps27
  go_wp2
  go_loopw [0, 5, 6] (fun m v i wr => ∃ k : Nat, k ≤ size ∧ i = .int .i64 k ∧ m = .int .u64 (n / 256 ^ k : Nat) ∧ Below w.heap.size w wr ∧ wr.ownsRow w.heap.size 5 1 v k ((put n k).map bv)) (fun _ _ i _ => size - (intOf i).toNat)
  case atStart => exact ⟨0, Nat.zero_le _, rfl, by simp, Below.refl _ _, by simpa [put] using World.ownsRow_nil _ _ _ _⟩
  case round =>
    obtain ⟨k, hk, rfl, rfl, hbel, hown⟩ := hrel
    by_cases hlt : k < size
    · have hsz := hbel.size
      have hm : n / 256 ^ k < 2 ^ 64 := Nat.lt_of_le_of_lt (Nat.div_le_self _ _) hn
      have hX : bv (n / 256 ^ k % 256) = bv (n / 2 ^ (8 * k) % 256) := by rw [put_div]
      have hdiv : n / 256 ^ k / 256 = n / 256 ^ (k + 1) := by rw [Nat.div_div_eq_div_mul, ← Nat.pow_succ]
      have HX := Lib.hid hX
      have HD := Lib.hid hdiv
      clear hX hdiv
      generalize n / 256 ^ k = m at hm HX HD
      go_wp2_with (at_builtin; refine wpList_append_tail rfl _ _ 23 rfl w.heap.size 5 i0 (.int .u8 0) 1 1 Tryd.underlying23 hi hz0 hz1 hz2 rfl (by decide) _ _ _ rfl (.inl (hown.alloc _)) _ 1 1 [_] rfl (by simp) rfl (At.one _ _ _) ?c1 ?c2 ?c3 ?c4 ?_)
      case c1 => intro u hu; simp at hu; subst hu; rfl
      case c2 => unfold maxLen; omega
      case c3 => omega
      case c4 => simp; omega
      intro v' w' _ h2 h3
      have hB : Below w.heap.size w w' := hbel.trans (((Below.refl _ _).alloc hsz _).trans h3)
      have h2' := h2
      clear h2 h3 hown hbel
      go_wp2
      go_roundw
      case rel =>
        refine ⟨k + 1, by omega, by go_num, ?_, hB, ?_⟩
        · rw [← HD.out]; simp
        · have e : List.map bv (put n k) ++ [Value.int IntKind.u8 ((m : Int) % 256)] = List.map bv (put n (k + 1)) := by
            rw [put_succ, List.map_append, List.map_cons, ← HX.out]; simp [bv]
          rw [← e]; exact h2'
      case measure => simp [intOf]; omega
    · obtain rfl : k = size := by omega
      go_wp2
      go_ret
      exact ⟨_, rfl, by rw [put_length]; exact hown, hbel⟩
end Go.Proofs.YtopmljbemogcoaaDoor
