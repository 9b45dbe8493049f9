/- The walk of WordAdds. -/
import Derived.Test.YthaicfnlchkcoaaCounts
import Derived.Test.YthaicfnlchkcoaaJoin
namespace Go.Proofs.Ythaicfnlchkcoaa
open Go.RowKit
open Drawbar Drawbar.Line Drawbar.Sign

theorem cntR_le (s : ByteArray) : (cntR s).1 ≤ s.size := by
  have h := eachR_count s s.size 0 0
  unfold cntR
  split
  · have := h.1
    omega
  · simp

theorem below3 {w w1 w2 w3 : World} (h1 : Below w.heap.size w w1) (h2 : Below w1.heap.size w1 w2) (h3 : Below w2.heap.size w2 w3) : Below w.heap.size w w3 := below_step (below_step h1 h2) h3
theorem below4 {w w1 w2 w3 w4 : World} (h1 : Below w.heap.size w w1) (h2 : Below w1.heap.size w1 w2) (h3 : Below w2.heap.size w2 w3) (h4 : Below w3.heap.size w3 w4) : Below w.heap.size w w4 := below_step (below3 h1 h2 h3) h4

theorem adds_small (n m k : Nat) (ok is both : Bool) (a b : ByteArray) (ha : a.size ≤ 1000) (hb : b.size ≤ 1000) (hn : n ≤ 1000) (hm : m ≤ 1000)
    (hA : ∀ w, Calls Try.prog 15 #[.string a] w fun e w' => e = .returned (.tuple #[.int .i64 (n : Nat), .bool ok]) ∧ Below w.heap.size w w')
    (hB : ∀ w, Calls Try.prog 15 #[.string b] w fun e w' => e = .returned (.tuple #[.int .i64 (m : Nat), .bool is]) ∧ Below w.heap.size w w')
    (hC : ∀ w, Calls Try.prog 15 #[.string (a ++ b)] w fun e w' => e = .returned (.tuple #[.int .i64 (k : Nat), .bool both]) ∧ Below w.heap.size w w')
    (h1 : ok = true → is = true → both = true ∧ k = n + m) (h2 : ok = false → is = false → both = true → 0 < k) (W : World) :
    Calls Try.prog 9 #[.string a, .string b] W (Yes W) := by
  have HA := Lib.hid awake_any
  have i1 : decide ((1000 : Int) < (a.size : Int)) = false := by simp; omega
  have i2 : decide ((1000 : Int) < (b.size : Int)) = false := by simp; omega
  have HX := Lib.hid hA
  have HY := Lib.hid hB
  have HZ := Lib.hid hC
  have hcc : ¬ 9223372036854775807 < a.size + b.size := by omega
  clear hA hB hC ha hb
  cases ok with
  | true =>
    cases is with
    | true =>
      obtain ⟨rfl, rfl⟩ := h1 rfl rfl
      clear h1 h2
      have i3 : IntKind.i64.wrap ((n : Int) + (m : Int)) = (n : Int) + (m : Int) := IntWalk.i64_in _ (by omega)
      have i4 : (((n + m : Nat) : Int) == (n : Int) + (m : Int)) = true := by simp
      go_enter Try.func9, Try.ntmps9
      go_wp2_with (first | (go_at_call 11; refine (HA.out W).mono ?_; rintro e w2 ⟨rfl, hb⟩) | (go_at_call 15; with_reducible refine (HX.out w2).mono ?_; rintro e w3 ⟨rfl, hb3⟩) | (go_at_call 15; with_reducible refine (HY.out w3).mono ?_; rintro e w4 ⟨rfl, hb4⟩) | (go_at_call 15; with_reducible refine (HZ.out w4).mono ?_; rintro e w5 ⟨rfl, hb5⟩))
      go_ret
      exact ⟨rfl, below4 hb hb3 hb4 hb5⟩
    | false =>
      clear h1 h2
      go_enter Try.func9, Try.ntmps9
      go_wp2_with (first | (go_at_call 11; refine (HA.out W).mono ?_; rintro e w2 ⟨rfl, hb⟩) | (go_at_call 15; with_reducible refine (HX.out w2).mono ?_; rintro e w3 ⟨rfl, hb3⟩) | (go_at_call 15; with_reducible refine (HY.out w3).mono ?_; rintro e w4 ⟨rfl, hb4⟩) | (go_at_call 15; with_reducible refine (HZ.out w4).mono ?_; rintro e w5 ⟨rfl, hb5⟩))
      go_ret
      exact ⟨rfl, below4 hb hb3 hb4 hb5⟩
  | false =>
    cases is with
    | true =>
      clear h1 h2
      go_enter Try.func9, Try.ntmps9
      go_wp2_with (first | (go_at_call 11; refine (HA.out W).mono ?_; rintro e w2 ⟨rfl, hb⟩) | (go_at_call 15; with_reducible refine (HX.out w2).mono ?_; rintro e w3 ⟨rfl, hb3⟩) | (go_at_call 15; with_reducible refine (HY.out w3).mono ?_; rintro e w4 ⟨rfl, hb4⟩) | (go_at_call 15; with_reducible refine (HZ.out w4).mono ?_; rintro e w5 ⟨rfl, hb5⟩))
      go_ret
      exact ⟨rfl, below4 hb hb3 hb4 hb5⟩
    | false =>
      cases both with
      | false =>
        clear h1 h2
        go_enter Try.func9, Try.ntmps9
        go_wp2_with (first | (go_at_call 11; refine (HA.out W).mono ?_; rintro e w2 ⟨rfl, hb⟩) | (go_at_call 15; with_reducible refine (HX.out w2).mono ?_; rintro e w3 ⟨rfl, hb3⟩) | (go_at_call 15; with_reducible refine (HY.out w3).mono ?_; rintro e w4 ⟨rfl, hb4⟩) | (go_at_call 15; with_reducible refine (HZ.out w4).mono ?_; rintro e w5 ⟨rfl, hb5⟩))
        go_ret
        exact ⟨rfl, below4 hb hb3 hb4 hb5⟩
      | true =>
        have h3 := h2 rfl rfl rfl
        have i3 : decide (0 < k) = true := by simp; omega
        clear h1 h2 h3
        go_enter Try.func9, Try.ntmps9
        go_wp2_with (first | (go_at_call 11; refine (HA.out W).mono ?_; rintro e w2 ⟨rfl, hb⟩) | (go_at_call 15; with_reducible refine (HX.out w2).mono ?_; rintro e w3 ⟨rfl, hb3⟩) | (go_at_call 15; with_reducible refine (HY.out w3).mono ?_; rintro e w4 ⟨rfl, hb4⟩) | (go_at_call 15; with_reducible refine (HZ.out w4).mono ?_; rintro e w5 ⟨rfl, hb5⟩))
        go_ret
        exact ⟨by first | rfl | (show Ending.returned (Value.bool (decide (0 < k))) = _; rw [i3]), below4 hb hb3 hb4 hb5⟩

theorem adds_any (a b : ByteArray) (W : World) : Calls Try.prog 9 #[.string a, .string b] W (Yes W) := by
  have HA := Lib.hid awake_any
  by_cases ha : 1000 < a.size
  · have i1 : decide ((1000 : Int) < (a.size : Int)) = true := by simp; omega
    clear ha
    go_enter Try.func9, Try.ntmps9
    go_wp2_with (first | (go_at_call 11; refine (HA.out W).mono ?_; rintro e w2 ⟨rfl, hb⟩) | (go_at_call 11; refine (HA.out w2).mono ?_; rintro e w3 ⟨rfl, hb3⟩))
    go_ret
    exact ⟨rfl, below_step hb hb3⟩
  by_cases hb : 1000 < b.size
  · have i1 : decide ((1000 : Int) < (a.size : Int)) = false := by simp; omega
    have i2 : decide ((1000 : Int) < (b.size : Int)) = true := by simp; omega
    clear ha hb
    go_enter Try.func9, Try.ntmps9
    go_wp2_with (first | (go_at_call 11; refine (HA.out W).mono ?_; rintro e w2 ⟨rfl, hb⟩) | (go_at_call 11; refine (HA.out w2).mono ?_; rintro e w3 ⟨rfl, hb3⟩))
    go_ret
    exact ⟨rfl, below_step hb hb3⟩
  · have hs := size_app a b
    have h1 := cntR_le a
    have h2 := cntR_le b
    refine adds_small (cntR a).1 (cntR b).1 (cntR (a ++ b)).1 (cntR a).2 (cntR b).2 (cntR (a ++ b)).2 a b (by omega) (by omega) (by omega) (by omega) (fun w => count_any a (by omega) w) (fun w => count_any b (by omega) w) (fun w => count_any (a ++ b) (by omega) w) (fun ha hb => ?_) (fun ha hb hc => ?_) W
    · rw [cntR_append a b ha hb]
      exact ⟨rfl, rfl⟩
    · by_cases h0 : a.size = 0
      · rw [cntR_empty a h0] at ha
        cases ha
      · exact cntR_pos _ hc (by omega)
end Go.Proofs.Ythaicfnlchkcoaa
