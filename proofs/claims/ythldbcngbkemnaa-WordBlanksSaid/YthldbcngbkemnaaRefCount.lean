/- drawbarref02.Count: the document's count. -/
import Derived.Test.YthldbcngbkemnaaProg
import Derived.Test.YthldbcngbkemnaaSign
import Derived.Test.YthldbcngbkemnaaRefSign
import Derived.Test.YthldbcngbkemnaaCount
import Derived.WalkKit
import Derived.Handy
import Derived.Lib.Hide
namespace Go.Proofs.Ythldbcngbkemnaa
open Go.RowKit
open Drawbar.Sign

set_option maxRecDepth 1000000 in
set_option maxHeartbeats 1000000 in
theorem refcount_any (s : ByteArray) (hs : s.size < 1000000) (w : World) :
    Calls Try.prog 12 #[.string s] w fun e w' => e = .returned (.tuple #[.int .i64 ((cntR s).1 : Nat), .bool (cntR s).2]) ∧ w = w' := by
  have hR : ∀ R, eachR cstep s s.size 0 0 = R → cntR s = if R.1.2 = 0 then (R.2, true) else (0, false) := by rintro R rfl; rfl
  generalize hR0 : eachR cstep s s.size 0 0 = R at *
  have hR := Lib.hid (hR R rfl)
  generalize cntR s = Z at *
  go_enter Try.func12, Try.ntmps12
  go_wp2
  go_loop [4, 5] (fun n i => ∃ p k fuel : Nat, i = .int .i64 p ∧ n = .int .i64 k ∧ Hid (eachR cstep s fuel p k = R) ∧ s.size ≤ p + fuel ∧ k ≤ p ∧ p ≤ s.size) (fun _ i => s.size - (intOf i).toNat)
  case atStart => exact ⟨0, 0, s.size, rfl, rfl, Lib.hid hR0, by omega, by omega, by omega⟩
  case round =>
    obtain ⟨p, k, fuel, rfl, rfl, HR, hb, hk, hps⟩ := hrel
    by_cases hp : p < s.size
    · obtain ⟨fuel, rfl⟩ : ∃ f', fuel = f' + 1 := ⟨fuel - 1, by omega⟩
      have hS := sign_any s p hp hs
      have hle := sgn_le s p hp
      have hR1 : eachR cstep s (fuel + 1) p k = if (sgn s p).1 = 0 then ((p, 14), k) else eachR cstep s fuel (p + (sgn s p).1) (k + 1) := by
        have e : cstep k (sgn s p).2 = (0, k + 1) := rfl
        simp only [eachR, if_pos hp, e, if_true]
      have HR1 := Lib.hid hR1
      clear hR1
      by_cases hz : (sgn s p).1 = 0
      · have hR2 : Z = (0, false) := by
          rw [hR.out, ← HR.out, HR1.out, if_pos hz]; rfl
        subst hR2
        rw [hz] at hS
        go_wp2_with (go_at_call 20; refine (hS _).mono ?_; rintro e w2 ⟨rfl, rfl⟩)
        go_ret2
        exact ⟨rfl, rfl⟩
      · have hi9 : ¬ (((sgn s p).1 : Nat) : Int) = 0 := by omega
        have hi8 : ((((sgn s p).1 : Nat) : Int) == 0) = false := by simpa using hi9
        have HR2 : Hid (eachR cstep s fuel (p + (sgn s p).1) (k + 1) = R) := Lib.hid (by rw [← HR.out, HR1.out, if_neg hz])
        have h1 := hle.1
        go_wp2_with (go_at_call 20; refine (hS _).mono ?_; rintro e w2 ⟨rfl, rfl⟩)
        go_round
        case rel => exact ⟨p + (sgn s p).1, k + 1, fuel, by go_num, by go_num, HR2, by omega, by omega, by omega⟩
        case measure => simp [intOf]; omega
    · have hR2 : Z = (k, true) := by
        rw [hR.out, ← HR.out, eachR_end cstep s fuel p k hp]; rfl
      subst hR2
      have hpe : ¬ (p : Int) < (s.size : Int) := by omega
      go_wp2
      go_ret2
      exact ⟨rfl, rfl⟩

end Go.Proofs.Ythldbcngbkemnaa
