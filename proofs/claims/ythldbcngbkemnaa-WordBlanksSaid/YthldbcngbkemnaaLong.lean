/- drawbarref02.sign and Count, of a text of any length that a program can hold. -/
import Derived.Test.YthldbcngbkemnaaRefSign
import Derived.Test.YthldbcngbkemnaaCount
import Derived.Test.YthldbcngbkemnaaRun
import Derived.WalkKit
import Derived.Handy
import Derived.Lib.Hide
namespace Go.Proofs.Ythldbcngbkemnaa
open Go.RowKit
open Drawbar Drawbar.Sign
set_option maxHeartbeats 4000000 in
set_option maxRecDepth 1000000 in
theorem signb_any (s : ByteArray) (p : Nat) (hp : p < s.size) (hs : s.size < 281474976710656) (w : World) :
    Calls Try.prog 20 #[.string s, .int .i64 p] w fun e w' => e = .returned (.tuple #[.int .i64 (sgn s p).1, .int .i64 (sgn s p).2]) ∧ w = w' := by
  have hb := bt_lt s p
  have h0 := bt_at s p hp
  obtain ⟨q2, q3, q4⟩ := sgn_long s p
  have qe := sgn_eq s p
  generalize hR : sgn s p = R at *
  by_cases c1 : bt s p < 128
  · rw [if_pos c1] at qe
    subst qe
    generalize bt s p = b at *
    go_enter Try.func20, Try.ntmps20
    go_wp2
    go_ret2
    exact ⟨rfl, rfl⟩
  by_cases c2 : 192 ≤ bt s p ∧ bt s p < 224
  · have qR := q2 c2
    clear q2 q3 q4 qe
    have hv0 : bt s p - 192 < 32 := by omega
    have i0 : ¬ ((bt s p : Nat) : Int) < 128 := by omega
    have i1 : 192 ≤ ((bt s p : Nat) : Int) := by omega
    have i2 : ((bt s p : Nat) : Int) < 224 := by omega
    have hsm := acc_small s p (bt s p - 192) hv0
    have hlg : long s p 2 (bt s p - 192) 128 = R := qR.symm
    by_cases hn : p + 2 ≤ s.size
    · have i3 : ¬ (s.size : Int) < (p : Int) + 2 := by omega
      go_enter Try.func20, Try.ntmps20
      go_wp2
      go_loop [8, 10] (fun v k => ∃ j : Nat, 1 ≤ j ∧ j ≤ 2 ∧ k = .int .i64 j ∧ v = .int .i64 (acc s p (bt s p - 192) (j - 1) : Nat) ∧ allGo s p (j - 1)) (fun _ k => 2 - (intOf k).toNat)
      case atStart => exact ⟨1, by omega, by omega, rfl, by show _ = Value.int .i64 (((bt s p - 192 : Nat)) : Int); congr 1; omega, fun j a b => by omega⟩
      case round =>
        obtain ⟨j, hj1, hjn, rfl, rfl, hall⟩ := hrel
        have hsj := hsm (j - 1) (by omega)
        by_cases hlt : j < 2
        · have hbj := bt_at s (p + j) (by omega)
          have hb1 := bt_lt s (p + j)
          have hstep : acc s p (bt s p - 192) j = acc s p (bt s p - 192) (j - 1) * 64 + bt s (p + j) - 128 := by
            obtain ⟨i, rfl⟩ : ∃ i, j = i + 1 := ⟨j - 1, by omega⟩
            rfl
          generalize acc s p (bt s p - 192) (j - 1) = V at *
          by_cases hg : goes s (p + j)
          · have hg2 := hg.2
            clear hlg qR
            go_wp2
            go_round
            case rel =>
              refine ⟨j + 1, by omega, by omega, rfl, ?_, fun i a b => ?_⟩
              · rw [Nat.add_sub_cancel, hstep]
                show Value.int .i64 ((V : Int) * 64 + (bt s (p + j) : Int) - 128) = _
                congr 1; omega
              · by_cases hi : i = j
                · subst hi; exact hg
                · exact hall i a (by omega)
            case measure => simp [intOf]; omega
          · have hz : R = (0, 0) := by
              rw [← hlg]
              unfold long
              rw [if_neg (fun c => hg (c.1 j hj1 (by omega)))]
            subst hz
            clear hlg qR
            have hg2 : bt s (p + j) < 128 ∨ 191 < bt s (p + j) := by
              unfold goes at hg
              omega
            clear hg hall
            generalize bt s (p + j) = B at *
            rcases hg2 with hg2 | hg2
            · go_wp2
              go_ret2
              exact ⟨rfl, rfl⟩
            · go_wp2
              go_ret2
              exact ⟨rfl, rfl⟩
        · have hje : j - 1 = 2 - 1 := by omega
          rw [hje] at hall hsj
          obtain rfl : j = 2 := by omega
          unfold long at hlg
          generalize acc s p (bt s p - 192) (2 - 1) = V at *
          by_cases l : 128 ≤ V ∧ V ≤ 1114111 ∧ ¬ (55296 ≤ V ∧ V < 57344)
          · rw [if_pos ⟨hall, l⟩] at hlg
            subst hlg
            clear qR
            go_wp2
            all_goals go_ret2
            all_goals exact ⟨rfl, rfl⟩
          · rw [if_neg (fun c => l c.2)] at hlg
            subst hlg
            clear qR
            go_wp2
            all_goals go_ret2
            all_goals exact ⟨rfl, rfl⟩
    · have hz : R = (0, 0) := by
        rw [← hlg]
        unfold long
        rw [if_neg (fun c => hn (by have := (c.1 (2 - 1) (by omega) (by omega)).1; omega))]
      subst hz
      clear hlg qR hsm
      go_enter Try.func20, Try.ntmps20
      go_wp2
      go_ret2
      exact ⟨rfl, rfl⟩
  by_cases c3 : 224 ≤ bt s p ∧ bt s p < 240
  · have qR := q3 c3
    clear q2 q3 q4 qe
    have hv0 : bt s p - 224 < 32 := by omega
    have i0 : ¬ ((bt s p : Nat) : Int) < 128 := by omega
    have i1 : 224 ≤ ((bt s p : Nat) : Int) := by omega
    have i2 : ((bt s p : Nat) : Int) < 240 := by omega
    have hsm := acc_small s p (bt s p - 224) hv0
    have hlg : long s p 3 (bt s p - 224) 2048 = R := qR.symm
    by_cases hn : p + 3 ≤ s.size
    · have i3 : ¬ (s.size : Int) < (p : Int) + 3 := by omega
      go_enter Try.func20, Try.ntmps20
      go_wp2
      go_loop [8, 10] (fun v k => ∃ j : Nat, 1 ≤ j ∧ j ≤ 3 ∧ k = .int .i64 j ∧ v = .int .i64 (acc s p (bt s p - 224) (j - 1) : Nat) ∧ allGo s p (j - 1)) (fun _ k => 3 - (intOf k).toNat)
      case atStart => exact ⟨1, by omega, by omega, rfl, by show _ = Value.int .i64 (((bt s p - 224 : Nat)) : Int); congr 1; omega, fun j a b => by omega⟩
      case round =>
        obtain ⟨j, hj1, hjn, rfl, rfl, hall⟩ := hrel
        have hsj := hsm (j - 1) (by omega)
        by_cases hlt : j < 3
        · have hbj := bt_at s (p + j) (by omega)
          have hb1 := bt_lt s (p + j)
          have hstep : acc s p (bt s p - 224) j = acc s p (bt s p - 224) (j - 1) * 64 + bt s (p + j) - 128 := by
            obtain ⟨i, rfl⟩ : ∃ i, j = i + 1 := ⟨j - 1, by omega⟩
            rfl
          generalize acc s p (bt s p - 224) (j - 1) = V at *
          by_cases hg : goes s (p + j)
          · have hg2 := hg.2
            clear hlg qR
            go_wp2
            go_round
            case rel =>
              refine ⟨j + 1, by omega, by omega, rfl, ?_, fun i a b => ?_⟩
              · rw [Nat.add_sub_cancel, hstep]
                show Value.int .i64 ((V : Int) * 64 + (bt s (p + j) : Int) - 128) = _
                congr 1; omega
              · by_cases hi : i = j
                · subst hi; exact hg
                · exact hall i a (by omega)
            case measure => simp [intOf]; omega
          · have hz : R = (0, 0) := by
              rw [← hlg]
              unfold long
              rw [if_neg (fun c => hg (c.1 j hj1 (by omega)))]
            subst hz
            clear hlg qR
            have hg2 : bt s (p + j) < 128 ∨ 191 < bt s (p + j) := by
              unfold goes at hg
              omega
            clear hg hall
            generalize bt s (p + j) = B at *
            rcases hg2 with hg2 | hg2
            · go_wp2
              go_ret2
              exact ⟨rfl, rfl⟩
            · go_wp2
              go_ret2
              exact ⟨rfl, rfl⟩
        · have hje : j - 1 = 3 - 1 := by omega
          rw [hje] at hall hsj
          obtain rfl : j = 3 := by omega
          unfold long at hlg
          generalize acc s p (bt s p - 224) (3 - 1) = V at *
          by_cases l : 2048 ≤ V ∧ V ≤ 1114111 ∧ ¬ (55296 ≤ V ∧ V < 57344)
          · rw [if_pos ⟨hall, l⟩] at hlg
            subst hlg
            clear qR
            go_wp2
            all_goals go_ret2
            all_goals exact ⟨rfl, rfl⟩
          · rw [if_neg (fun c => l c.2)] at hlg
            subst hlg
            clear qR
            go_wp2
            all_goals go_ret2
            all_goals exact ⟨rfl, rfl⟩
    · have hz : R = (0, 0) := by
        rw [← hlg]
        unfold long
        rw [if_neg (fun c => hn (by have := (c.1 (3 - 1) (by omega) (by omega)).1; omega))]
      subst hz
      clear hlg qR hsm
      go_enter Try.func20, Try.ntmps20
      go_wp2
      go_ret2
      exact ⟨rfl, rfl⟩
  by_cases c4 : 240 ≤ bt s p ∧ bt s p < 248
  · have qR := q4 c4
    clear q2 q3 q4 qe
    have hv0 : bt s p - 240 < 32 := by omega
    have i0 : ¬ ((bt s p : Nat) : Int) < 128 := by omega
    have i1 : 240 ≤ ((bt s p : Nat) : Int) := by omega
    have i2 : ((bt s p : Nat) : Int) < 248 := by omega
    have hsm := acc_small s p (bt s p - 240) hv0
    have hlg : long s p 4 (bt s p - 240) 65536 = R := qR.symm
    by_cases hn : p + 4 ≤ s.size
    · have i3 : ¬ (s.size : Int) < (p : Int) + 4 := by omega
      go_enter Try.func20, Try.ntmps20
      go_wp2
      go_loop [8, 10] (fun v k => ∃ j : Nat, 1 ≤ j ∧ j ≤ 4 ∧ k = .int .i64 j ∧ v = .int .i64 (acc s p (bt s p - 240) (j - 1) : Nat) ∧ allGo s p (j - 1)) (fun _ k => 4 - (intOf k).toNat)
      case atStart => exact ⟨1, by omega, by omega, rfl, by show _ = Value.int .i64 (((bt s p - 240 : Nat)) : Int); congr 1; omega, fun j a b => by omega⟩
      case round =>
        obtain ⟨j, hj1, hjn, rfl, rfl, hall⟩ := hrel
        have hsj := hsm (j - 1) (by omega)
        by_cases hlt : j < 4
        · have hbj := bt_at s (p + j) (by omega)
          have hb1 := bt_lt s (p + j)
          have hstep : acc s p (bt s p - 240) j = acc s p (bt s p - 240) (j - 1) * 64 + bt s (p + j) - 128 := by
            obtain ⟨i, rfl⟩ : ∃ i, j = i + 1 := ⟨j - 1, by omega⟩
            rfl
          generalize acc s p (bt s p - 240) (j - 1) = V at *
          by_cases hg : goes s (p + j)
          · have hg2 := hg.2
            clear hlg qR
            go_wp2
            go_round
            case rel =>
              refine ⟨j + 1, by omega, by omega, rfl, ?_, fun i a b => ?_⟩
              · rw [Nat.add_sub_cancel, hstep]
                show Value.int .i64 ((V : Int) * 64 + (bt s (p + j) : Int) - 128) = _
                congr 1; omega
              · by_cases hi : i = j
                · subst hi; exact hg
                · exact hall i a (by omega)
            case measure => simp [intOf]; omega
          · have hz : R = (0, 0) := by
              rw [← hlg]
              unfold long
              rw [if_neg (fun c => hg (c.1 j hj1 (by omega)))]
            subst hz
            clear hlg qR
            have hg2 : bt s (p + j) < 128 ∨ 191 < bt s (p + j) := by
              unfold goes at hg
              omega
            clear hg hall
            generalize bt s (p + j) = B at *
            rcases hg2 with hg2 | hg2
            · go_wp2
              go_ret2
              exact ⟨rfl, rfl⟩
            · go_wp2
              go_ret2
              exact ⟨rfl, rfl⟩
        · have hje : j - 1 = 4 - 1 := by omega
          rw [hje] at hall hsj
          obtain rfl : j = 4 := by omega
          unfold long at hlg
          generalize acc s p (bt s p - 240) (4 - 1) = V at *
          by_cases l : 65536 ≤ V ∧ V ≤ 1114111 ∧ ¬ (55296 ≤ V ∧ V < 57344)
          · rw [if_pos ⟨hall, l⟩] at hlg
            subst hlg
            clear qR
            go_wp2
            all_goals go_ret2
            all_goals exact ⟨rfl, rfl⟩
          · rw [if_neg (fun c => l c.2)] at hlg
            subst hlg
            clear qR
            go_wp2
            all_goals go_ret2
            all_goals exact ⟨rfl, rfl⟩
    · have hz : R = (0, 0) := by
        rw [← hlg]
        unfold long
        rw [if_neg (fun c => hn (by have := (c.1 (4 - 1) (by omega) (by omega)).1; omega))]
      subst hz
      clear hlg qR hsm
      go_enter Try.func20, Try.ntmps20
      go_wp2
      go_ret2
      exact ⟨rfl, rfl⟩
  rw [if_neg c1, if_neg c2, if_neg c3, if_neg c4] at qe
  subst qe
  clear q2 q3 q4
  generalize bt s p = b at *
  have hc : b < 192 ∨ 248 ≤ b := by omega
  rcases hc with hc | hc
  · have i0 : ¬ ((b : Nat) : Int) < 128 := by omega
    have i1 : ((b : Nat) : Int) < 192 := by omega
    go_enter Try.func20, Try.ntmps20
    go_wp2
    go_ret2
    exact ⟨rfl, rfl⟩
  · have i0 : ¬ ((b : Nat) : Int) < 128 := by omega
    have i1 : 248 ≤ ((b : Nat) : Int) := by omega
    go_enter Try.func20, Try.ntmps20
    go_wp2
    go_ret2
    exact ⟨rfl, rfl⟩


set_option maxRecDepth 1000000 in
set_option maxHeartbeats 1000000 in
theorem refcountb_any (s : ByteArray) (hs : s.size < 281474976710656) (w : World) :
    Calls Try.prog 12 #[.string s] w fun e w' => e = .returned (.tuple #[.int .i64 ((cntR s).1 : Nat), .bool (cntR s).2]) ∧ w = w' := by
  have hR : ∀ R, eachR cstep s s.size 0 0 = R → cntR s = if R.1.2 = 0 then (R.2, true) else (0, false) := by rintro R rfl; rfl
  generalize hR0 : eachR cstep s s.size 0 0 = R at *
  have hR := Lib.hid (hR R rfl)
  generalize cntR s = Z at *
  go_enter Try.func12, Try.ntmps12
  go_wp2
  go_loop [4, 5] (fun n i => ∃ p k fuel : Nat, i = .int .i64 p ∧ n = .int .i64 k ∧ Hid (eachR cstep s fuel p k = R) ∧ s.size ≤ p + fuel ∧ k ≤ p ∧ p ≤ s.size) (fun _ i => s.size - (intOf i).toNat)
  case atStart => exact ⟨0, 0, s.size, rfl, rfl, Lib.hid hR0, by omega, by omega, by omega⟩
  case round =>
    obtain ⟨p, k, fuel, rfl, rfl, HR, hb, hk, hps⟩ := hrel
    by_cases hp : p < s.size
    · obtain ⟨fuel, rfl⟩ : ∃ f', fuel = f' + 1 := ⟨fuel - 1, by omega⟩
      have hS := signb_any s p hp hs
      have hle := sgn_le s p hp
      have hR1 : eachR cstep s (fuel + 1) p k = if (sgn s p).1 = 0 then ((p, 14), k) else eachR cstep s fuel (p + (sgn s p).1) (k + 1) := by
        have e : cstep k (sgn s p).2 = (0, k + 1) := rfl
        simp only [eachR, if_pos hp, e, if_true]
      have HR1 := Lib.hid hR1
      clear hR1
      by_cases hz : (sgn s p).1 = 0
      · have hR2 : Z = (0, false) := by
          rw [hR.out, ← HR.out, HR1.out, if_pos hz]; rfl
        subst hR2
        rw [hz] at hS
        go_wp2_with (go_at_call 20; refine (hS _).mono ?_; rintro e w2 ⟨rfl, rfl⟩)
        go_ret2
        exact ⟨rfl, rfl⟩
      · have hi9 : ¬ (((sgn s p).1 : Nat) : Int) = 0 := by omega
        have hi8 : ((((sgn s p).1 : Nat) : Int) == 0) = false := by simpa using hi9
        have HR2 : Hid (eachR cstep s fuel (p + (sgn s p).1) (k + 1) = R) := Lib.hid (by rw [← HR.out, HR1.out, if_neg hz])
        have h1 := hle.1
        go_wp2_with (go_at_call 20; refine (hS _).mono ?_; rintro e w2 ⟨rfl, rfl⟩)
        go_round
        case rel => exact ⟨p + (sgn s p).1, k + 1, fuel, by go_num, by go_num, HR2, by omega, by omega, by omega⟩
        case measure => simp [intOf]; omega
    · have hR2 : Z = (k, true) := by
        rw [hR.out, ← HR.out, eachR_end cstep s fuel p k hp]; rfl
      subst hR2
      have hpe : ¬ (p : Int) < (s.size : Int) := by omega
      go_wp2
      go_ret2
      exact ⟨rfl, rfl⟩

end Go.Proofs.Ythldbcngbkemnaa
