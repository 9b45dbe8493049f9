/- drawbarref02.sign: the document's reading of a sign. -/
import Derived.Test.YthldbcngbkemnaaProg
import Derived.Test.YthldbcngbkemnaaSign
import Derived.WalkKit
import Derived.Handy
import Derived.Lib.Hide
namespace Go.Proofs.Ythldbcngbkemnaa
open Go.RowKit
open Drawbar.Sign

def acc (s : ByteArray) (p v0 : Nat) : Nat → Nat
  | 0 => v0
  | k + 1 => acc s p v0 k * 64 + bt s (p + (k + 1)) - 128

def allGo (s : ByteArray) (p k : Nat) : Prop := ∀ j, 1 ≤ j → j ≤ k → goes s (p + j)

theorem acc_small (s : ByteArray) (p v0 : Nat) (h0 : v0 < 32) (k : Nat) (hk : k ≤ 3) : acc s p v0 k < 10000000 := by
  have b1 := bt_lt s (p + 1)
  have b2 := bt_lt s (p + 2)
  have b3 := bt_lt s (p + 3)
  have a0 : acc s p v0 0 = v0 := rfl
  have a1 : acc s p v0 1 = acc s p v0 0 * 64 + bt s (p + 1) - 128 := rfl
  have a2 : acc s p v0 2 = acc s p v0 1 * 64 + bt s (p + 2) - 128 := rfl
  have a3 : acc s p v0 3 = acc s p v0 2 * 64 + bt s (p + 3) - 128 := rfl
  have : k = 0 ∨ k = 1 ∨ k = 2 ∨ k = 3 := by omega
  rcases this with rfl | rfl | rfl | rfl <;> omega

open Classical in
noncomputable def long (s : ByteArray) (p n v0 least : Nat) : Nat × Nat :=
  if allGo s p (n - 1) ∧ least ≤ acc s p v0 (n - 1) ∧ acc s p v0 (n - 1) ≤ 1114111 ∧ ¬ (55296 ≤ acc s p v0 (n - 1) ∧ acc s p v0 (n - 1) < 57344) then (n, acc s p v0 (n - 1)) else (0, 0)

theorem sgn_long (s : ByteArray) (p : Nat) :
    (192 ≤ bt s p ∧ bt s p < 224 → sgn s p = long s p 2 (bt s p - 192) 128) ∧
    (224 ≤ bt s p ∧ bt s p < 240 → sgn s p = long s p 3 (bt s p - 224) 2048) ∧
    (240 ≤ bt s p ∧ bt s p < 248 → sgn s p = long s p 4 (bt s p - 240) 65536) := by
  refine ⟨?_, ?_, ?_⟩
  · intro h
    rw [sgn_eq, if_neg (by omega), if_pos h]
    unfold long
    have hb := bt_lt s (p + 1)
    have ea : acc s p (bt s p - 192) (2 - 1) = (bt s p - 192) * 64 + bt s (p + 1) - 128 := rfl
    rw [ea]
    by_cases g : goes s (p + 1)
    · have hA : allGo s p (2 - 1) := fun j a b => by
        have : j = 1 := by omega
        subst this; exact g
      by_cases l : 128 ≤ (bt s p - 192) * 64 + bt s (p + 1) - 128
      · rw [if_pos ⟨g, l⟩, if_pos ⟨hA, l, by omega, by omega⟩]
      · rw [if_neg (fun c => l c.2), if_neg (fun c => l c.2.1)]
    · rw [if_neg (fun c => g c.1), if_neg (fun c => g (c.1 1 (by omega) (by omega)))]
  · intro h
    rw [sgn_eq, if_neg (by omega), if_neg (by omega), if_pos h]
    unfold long
    have hb := bt_lt s (p + 1)
    have hb2 := bt_lt s (p + 2)
    have ea : acc s p (bt s p - 224) (3 - 1) = ((bt s p - 224) * 64 + bt s (p + 1) - 128) * 64 + bt s (p + 2) - 128 := rfl
    rw [ea]
    by_cases g : goes s (p + 1) ∧ goes s (p + 2)
    · have hA : allGo s p (3 - 1) := fun j a b => by
        have : j = 1 ∨ j = 2 := by omega
        rcases this with rfl | rfl
        · exact g.1
        · exact g.2
      have g1 := g.1.2
      have g2 := g.2.2
      have hm : ((bt s p - 224) * 64 + bt s (p + 1) - 128) * 64 + bt s (p + 2) - 128 ≤ 1114111 := by omega
      generalize ((bt s p - 224) * 64 + bt s (p + 1) - 128) * 64 + bt s (p + 2) - 128 = X at hm ⊢
      by_cases l : 2048 ≤ X ∧ ¬ (55296 ≤ X ∧ X < 57344)
      · rw [if_pos ⟨g.1, g.2, l⟩, if_pos ⟨hA, l.1, hm, l.2⟩]
      · rw [if_neg (fun c => l c.2.2), if_neg (fun c => l ⟨c.2.1, c.2.2.2⟩)]
    · rw [if_neg (fun c => g ⟨c.1, c.2.1⟩), if_neg (fun c => g ⟨c.1 1 (by omega) (by omega), c.1 2 (by omega) (by omega)⟩)]
  · intro h
    rw [sgn_eq, if_neg (by omega), if_neg (by omega), if_neg (by omega), if_pos h]
    unfold long
    have ea : acc s p (bt s p - 240) (4 - 1) = (((bt s p - 240) * 64 + bt s (p + 1) - 128) * 64 + bt s (p + 2) - 128) * 64 + bt s (p + 3) - 128 := rfl
    rw [ea]
    by_cases g : goes s (p + 1) ∧ goes s (p + 2) ∧ goes s (p + 3)
    · have hA : allGo s p (4 - 1) := fun j a b => by
        have : j = 1 ∨ j = 2 ∨ j = 3 := by omega
        rcases this with rfl | rfl | rfl
        · exact g.1
        · exact g.2.1
        · exact g.2.2
      generalize (((bt s p - 240) * 64 + bt s (p + 1) - 128) * 64 + bt s (p + 2) - 128) * 64 + bt s (p + 3) - 128 = X
      by_cases l : 65536 ≤ X ∧ X ≤ 1114111
      · rw [if_pos ⟨g.1, g.2.1, g.2.2, l⟩, if_pos ⟨hA, l.1, l.2, by omega⟩]
      · rw [if_neg (fun c => l c.2.2.2), if_neg (fun c => l ⟨c.2.1, c.2.2.1⟩)]
    · rw [if_neg (fun c => g ⟨c.1, c.2.1, c.2.2.1⟩), if_neg (fun c => g ⟨c.1 1 (by omega) (by omega), c.1 2 (by omega) (by omega), c.1 3 (by omega) (by omega)⟩)]

set_option maxHeartbeats 4000000 in
set_option maxRecDepth 1000000 in
theorem sign_any (s : ByteArray) (p : Nat) (hp : p < s.size) (hs : s.size < 1000000) (w : World) :
    Calls Try.prog 20 #[.string s, .int .i64 p] w fun e w' => e = .returned (.tuple #[.int .i64 (sgn s p).1, .int .i64 (sgn s p).2]) ∧ w = w' := by
  have hb := bt_lt s p
  have h0 := bt_at s p hp
  obtain ⟨q2, q3, q4⟩ := sgn_long s p
  have qe := sgn_eq s p
  generalize hR : sgn s p = R at *
  by_cases c1 : bt s p < 128
  · rw [if_pos c1] at qe
    subst qe
    generalize bt s p = b at *
    go_enter Try.func20, Try.ntmps20
    go_wp2
    go_ret2
    exact ⟨rfl, rfl⟩
  by_cases c2 : 192 ≤ bt s p ∧ bt s p < 224
  · have qR := q2 c2
    clear q2 q3 q4 qe
    have hv0 : bt s p - 192 < 32 := by omega
    have i0 : ¬ ((bt s p : Nat) : Int) < 128 := by omega
    have i1 : 192 ≤ ((bt s p : Nat) : Int) := by omega
    have i2 : ((bt s p : Nat) : Int) < 224 := by omega
    have hsm := acc_small s p (bt s p - 192) hv0
    have hlg : long s p 2 (bt s p - 192) 128 = R := qR.symm
    by_cases hn : p + 2 ≤ s.size
    · have i3 : ¬ (s.size : Int) < (p : Int) + 2 := by omega
      go_enter Try.func20, Try.ntmps20
      go_wp2
      go_loop [8, 10] (fun v k => ∃ j : Nat, 1 ≤ j ∧ j ≤ 2 ∧ k = .int .i64 j ∧ v = .int .i64 (acc s p (bt s p - 192) (j - 1) : Nat) ∧ allGo s p (j - 1)) (fun _ k => 2 - (intOf k).toNat)
      case atStart => exact ⟨1, by omega, by omega, rfl, by show _ = Value.int .i64 (((bt s p - 192 : Nat)) : Int); congr 1; omega, fun j a b => by omega⟩
      case round =>
        obtain ⟨j, hj1, hjn, rfl, rfl, hall⟩ := hrel
        have hsj := hsm (j - 1) (by omega)
        by_cases hlt : j < 2
        · have hbj := bt_at s (p + j) (by omega)
          have hb1 := bt_lt s (p + j)
          have hstep : acc s p (bt s p - 192) j = acc s p (bt s p - 192) (j - 1) * 64 + bt s (p + j) - 128 := by
            obtain ⟨i, rfl⟩ : ∃ i, j = i + 1 := ⟨j - 1, by omega⟩
            rfl
          generalize acc s p (bt s p - 192) (j - 1) = V at *
          by_cases hg : goes s (p + j)
          · have hg2 := hg.2
            clear hlg qR
            go_wp2
            go_round
            case rel =>
              refine ⟨j + 1, by omega, by omega, rfl, ?_, fun i a b => ?_⟩
              · rw [Nat.add_sub_cancel, hstep]
                show Value.int .i64 ((V : Int) * 64 + (bt s (p + j) : Int) - 128) = _
                congr 1; omega
              · by_cases hi : i = j
                · subst hi; exact hg
                · exact hall i a (by omega)
            case measure => simp [intOf]; omega
          · have hz : R = (0, 0) := by
              rw [← hlg]
              unfold long
              rw [if_neg (fun c => hg (c.1 j hj1 (by omega)))]
            subst hz
            clear hlg qR
            have hg2 : bt s (p + j) < 128 ∨ 191 < bt s (p + j) := by
              unfold goes at hg
              omega
            clear hg hall
            generalize bt s (p + j) = B at *
            rcases hg2 with hg2 | hg2
            · go_wp2
              go_ret2
              exact ⟨rfl, rfl⟩
            · go_wp2
              go_ret2
              exact ⟨rfl, rfl⟩
        · have hje : j - 1 = 2 - 1 := by omega
          rw [hje] at hall hsj
          obtain rfl : j = 2 := by omega
          unfold long at hlg
          generalize acc s p (bt s p - 192) (2 - 1) = V at *
          by_cases l : 128 ≤ V ∧ V ≤ 1114111 ∧ ¬ (55296 ≤ V ∧ V < 57344)
          · rw [if_pos ⟨hall, l⟩] at hlg
            subst hlg
            clear qR
            go_wp2
            all_goals go_ret2
            all_goals exact ⟨rfl, rfl⟩
          · rw [if_neg (fun c => l c.2)] at hlg
            subst hlg
            clear qR
            go_wp2
            all_goals go_ret2
            all_goals exact ⟨rfl, rfl⟩
    · have hz : R = (0, 0) := by
        rw [← hlg]
        unfold long
        rw [if_neg (fun c => hn (by have := (c.1 (2 - 1) (by omega) (by omega)).1; omega))]
      subst hz
      clear hlg qR hsm
      go_enter Try.func20, Try.ntmps20
      go_wp2
      go_ret2
      exact ⟨rfl, rfl⟩
  by_cases c3 : 224 ≤ bt s p ∧ bt s p < 240
  · have qR := q3 c3
    clear q2 q3 q4 qe
    have hv0 : bt s p - 224 < 32 := by omega
    have i0 : ¬ ((bt s p : Nat) : Int) < 128 := by omega
    have i1 : 224 ≤ ((bt s p : Nat) : Int) := by omega
    have i2 : ((bt s p : Nat) : Int) < 240 := by omega
    have hsm := acc_small s p (bt s p - 224) hv0
    have hlg : long s p 3 (bt s p - 224) 2048 = R := qR.symm
    by_cases hn : p + 3 ≤ s.size
    · have i3 : ¬ (s.size : Int) < (p : Int) + 3 := by omega
      go_enter Try.func20, Try.ntmps20
      go_wp2
      go_loop [8, 10] (fun v k => ∃ j : Nat, 1 ≤ j ∧ j ≤ 3 ∧ k = .int .i64 j ∧ v = .int .i64 (acc s p (bt s p - 224) (j - 1) : Nat) ∧ allGo s p (j - 1)) (fun _ k => 3 - (intOf k).toNat)
      case atStart => exact ⟨1, by omega, by omega, rfl, by show _ = Value.int .i64 (((bt s p - 224 : Nat)) : Int); congr 1; omega, fun j a b => by omega⟩
      case round =>
        obtain ⟨j, hj1, hjn, rfl, rfl, hall⟩ := hrel
        have hsj := hsm (j - 1) (by omega)
        by_cases hlt : j < 3
        · have hbj := bt_at s (p + j) (by omega)
          have hb1 := bt_lt s (p + j)
          have hstep : acc s p (bt s p - 224) j = acc s p (bt s p - 224) (j - 1) * 64 + bt s (p + j) - 128 := by
            obtain ⟨i, rfl⟩ : ∃ i, j = i + 1 := ⟨j - 1, by omega⟩
            rfl
          generalize acc s p (bt s p - 224) (j - 1) = V at *
          by_cases hg : goes s (p + j)
          · have hg2 := hg.2
            clear hlg qR
            go_wp2
            go_round
            case rel =>
              refine ⟨j + 1, by omega, by omega, rfl, ?_, fun i a b => ?_⟩
              · rw [Nat.add_sub_cancel, hstep]
                show Value.int .i64 ((V : Int) * 64 + (bt s (p + j) : Int) - 128) = _
                congr 1; omega
              · by_cases hi : i = j
                · subst hi; exact hg
                · exact hall i a (by omega)
            case measure => simp [intOf]; omega
          · have hz : R = (0, 0) := by
              rw [← hlg]
              unfold long
              rw [if_neg (fun c => hg (c.1 j hj1 (by omega)))]
            subst hz
            clear hlg qR
            have hg2 : bt s (p + j) < 128 ∨ 191 < bt s (p + j) := by
              unfold goes at hg
              omega
            clear hg hall
            generalize bt s (p + j) = B at *
            rcases hg2 with hg2 | hg2
            · go_wp2
              go_ret2
              exact ⟨rfl, rfl⟩
            · go_wp2
              go_ret2
              exact ⟨rfl, rfl⟩
        · have hje : j - 1 = 3 - 1 := by omega
          rw [hje] at hall hsj
          obtain rfl : j = 3 := by omega
          unfold long at hlg
          generalize acc s p (bt s p - 224) (3 - 1) = V at *
          by_cases l : 2048 ≤ V ∧ V ≤ 1114111 ∧ ¬ (55296 ≤ V ∧ V < 57344)
          · rw [if_pos ⟨hall, l⟩] at hlg
            subst hlg
            clear qR
            go_wp2
            all_goals go_ret2
            all_goals exact ⟨rfl, rfl⟩
          · rw [if_neg (fun c => l c.2)] at hlg
            subst hlg
            clear qR
            go_wp2
            all_goals go_ret2
            all_goals exact ⟨rfl, rfl⟩
    · have hz : R = (0, 0) := by
        rw [← hlg]
        unfold long
        rw [if_neg (fun c => hn (by have := (c.1 (3 - 1) (by omega) (by omega)).1; omega))]
      subst hz
      clear hlg qR hsm
      go_enter Try.func20, Try.ntmps20
      go_wp2
      go_ret2
      exact ⟨rfl, rfl⟩
  by_cases c4 : 240 ≤ bt s p ∧ bt s p < 248
  · have qR := q4 c4
    clear q2 q3 q4 qe
    have hv0 : bt s p - 240 < 32 := by omega
    have i0 : ¬ ((bt s p : Nat) : Int) < 128 := by omega
    have i1 : 240 ≤ ((bt s p : Nat) : Int) := by omega
    have i2 : ((bt s p : Nat) : Int) < 248 := by omega
    have hsm := acc_small s p (bt s p - 240) hv0
    have hlg : long s p 4 (bt s p - 240) 65536 = R := qR.symm
    by_cases hn : p + 4 ≤ s.size
    · have i3 : ¬ (s.size : Int) < (p : Int) + 4 := by omega
      go_enter Try.func20, Try.ntmps20
      go_wp2
      go_loop [8, 10] (fun v k => ∃ j : Nat, 1 ≤ j ∧ j ≤ 4 ∧ k = .int .i64 j ∧ v = .int .i64 (acc s p (bt s p - 240) (j - 1) : Nat) ∧ allGo s p (j - 1)) (fun _ k => 4 - (intOf k).toNat)
      case atStart => exact ⟨1, by omega, by omega, rfl, by show _ = Value.int .i64 (((bt s p - 240 : Nat)) : Int); congr 1; omega, fun j a b => by omega⟩
      case round =>
        obtain ⟨j, hj1, hjn, rfl, rfl, hall⟩ := hrel
        have hsj := hsm (j - 1) (by omega)
        by_cases hlt : j < 4
        · have hbj := bt_at s (p + j) (by omega)
          have hb1 := bt_lt s (p + j)
          have hstep : acc s p (bt s p - 240) j = acc s p (bt s p - 240) (j - 1) * 64 + bt s (p + j) - 128 := by
            obtain ⟨i, rfl⟩ : ∃ i, j = i + 1 := ⟨j - 1, by omega⟩
            rfl
          generalize acc s p (bt s p - 240) (j - 1) = V at *
          by_cases hg : goes s (p + j)
          · have hg2 := hg.2
            clear hlg qR
            go_wp2
            go_round
            case rel =>
              refine ⟨j + 1, by omega, by omega, rfl, ?_, fun i a b => ?_⟩
              · rw [Nat.add_sub_cancel, hstep]
                show Value.int .i64 ((V : Int) * 64 + (bt s (p + j) : Int) - 128) = _
                congr 1; omega
              · by_cases hi : i = j
                · subst hi; exact hg
                · exact hall i a (by omega)
            case measure => simp [intOf]; omega
          · have hz : R = (0, 0) := by
              rw [← hlg]
              unfold long
              rw [if_neg (fun c => hg (c.1 j hj1 (by omega)))]
            subst hz
            clear hlg qR
            have hg2 : bt s (p + j) < 128 ∨ 191 < bt s (p + j) := by
              unfold goes at hg
              omega
            clear hg hall
            generalize bt s (p + j) = B at *
            rcases hg2 with hg2 | hg2
            · go_wp2
              go_ret2
              exact ⟨rfl, rfl⟩
            · go_wp2
              go_ret2
              exact ⟨rfl, rfl⟩
        · have hje : j - 1 = 4 - 1 := by omega
          rw [hje] at hall hsj
          obtain rfl : j = 4 := by omega
          unfold long at hlg
          generalize acc s p (bt s p - 240) (4 - 1) = V at *
          by_cases l : 65536 ≤ V ∧ V ≤ 1114111 ∧ ¬ (55296 ≤ V ∧ V < 57344)
          · rw [if_pos ⟨hall, l⟩] at hlg
            subst hlg
            clear qR
            go_wp2
            all_goals go_ret2
            all_goals exact ⟨rfl, rfl⟩
          · rw [if_neg (fun c => l c.2)] at hlg
            subst hlg
            clear qR
            go_wp2
            all_goals go_ret2
            all_goals exact ⟨rfl, rfl⟩
    · have hz : R = (0, 0) := by
        rw [← hlg]
        unfold long
        rw [if_neg (fun c => hn (by have := (c.1 (4 - 1) (by omega) (by omega)).1; omega))]
      subst hz
      clear hlg qR hsm
      go_enter Try.func20, Try.ntmps20
      go_wp2
      go_ret2
      exact ⟨rfl, rfl⟩
  rw [if_neg c1, if_neg c2, if_neg c3, if_neg c4] at qe
  subst qe
  clear q2 q3 q4
  generalize bt s p = b at *
  have hc : b < 192 ∨ 248 ≤ b := by omega
  rcases hc with hc | hc
  · have i0 : ¬ ((b : Nat) : Int) < 128 := by omega
    have i1 : ((b : Nat) : Int) < 192 := by omega
    go_enter Try.func20, Try.ntmps20
    go_wp2
    go_ret2
    exact ⟨rfl, rfl⟩
  · have i0 : ¬ ((b : Nat) : Int) < 128 := by omega
    have i1 : 248 ≤ ((b : Nat) : Int) := by omega
    go_enter Try.func20, Try.ntmps20
    go_wp2
    go_ret2
    exact ⟨rfl, rfl⟩

end Go.Proofs.Ythldbcngbkemnaa
