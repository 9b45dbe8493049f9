/- drawbarref02.Words: the document's words of a line are the program's. -/
import Derived.Test.YthldbcngbkemnaaRefQuoted
namespace Go.Proofs.Ythldbcngbkemnaa
open Go.RowKit
open Drawbar Drawbar.Line Drawbar.Sign

theorem one_row {w : World} {B : Nat} {v : Value} {out : List ByteArray} {x : ByteArray} {n : Nat} {xs : List Value} (h : w.ownsRow B 9 1 v n xs) (hn : n = out.length + 1) (hx : xs = out.map Value.string ++ [.string x]) :
    ∃ a c, v = .slice a (out ++ [x]).length c ∧ w.ownsRow B 9 1 (.slice a (out ++ [x]).length c) (out ++ [x]).length ((out ++ [x]).map Value.string) := by
  subst hn hx
  have e : (out ++ [x]).length = out.length + 1 := by simp
  have e2 : out.map Value.string ++ [.string x] = (out ++ [x]).map Value.string := by simp
  rw [e2, ← e] at h
  obtain ⟨a, c, rfl⟩ := shape_str h
  exact ⟨a, c, rfl, h⟩

theorem told_err (w w' : World) (j er : Nat) (hb : Below w.heap.size w w') : Told w ([], j, er) (.returned (.tuple #[.slice none 0 0, .int .i64 (j : Nat), .int .i64 (er : Nat)])) w' := ⟨none, 0, rfl, World.ownsRow_nil _ _ _ 1, hb⟩

set_option maxRecDepth 1000000 in
set_option maxHeartbeats 4000000 in
theorem refwords_any (s : ByteArray) (w : World) : Calls Try.prog 11 #[.string s] w (Told w (wordsR s)) := by
  by_cases h4 : 400 < s.size
  · unfold wordsR
    rw [if_pos h4]
    have i4 : decide ((400 : Int) < (s.size : Int)) = true := by simp; omega
    have HF := Lib.hid (told_err w w 400 2 (Below.refl _ _))
    generalize Told w _ = P at HF ⊢
    clear h4
    go_enter Try.func11, Try.ntmps11
    go_wp2
    exact HF.out
  have hsz : s.size ≤ 400 := by omega
  have hR : wordsR s = goR s 0 ⟨[], [], 0⟩ := wordsR_fin s hsz
  generalize wordsR s = R at hR ⊢
  have HR := Lib.hid hR
  clear hR
  have hB := fun r => blank_any r
  have i4 : decide ((400 : Int) < (s.size : Int)) = false := by simp; omega
  obtain ⟨i0, hi0, hz0, hz1, hz2⟩ := info_parts info_str
  clear h4
  go_enter Try.func11, Try.ntmps11
  go_wp2
  go_loopw [5, 6] (fun v i wr => ∃ (p : Nat) (out : List ByteArray) (a : Option Addr) (c : Nat), v = .slice a out.length c ∧ i = .int .i64 p ∧ p ≤ s.size ∧ out.length ≤ p ∧ wr.ownsRow w.heap.size 9 1 (.slice a out.length c) out.length (out.map Value.string) ∧ Below w.heap.size w wr ∧ Hid (R = goR s p ⟨out, [], 0⟩)) (fun _ i _ => s.size - (intOf i).toNat)
  case atStart => exact ⟨0, [], none, 0, rfl, rfl, Nat.zero_le _, Nat.le_refl _, World.ownsRow_nil _ _ _ 1, Below.refl _ _, HR⟩
  case round =>
    obtain ⟨p, out, a, c, rfl, rfl, hps, hop, hown, hb, HG⟩ := hrel
    by_cases hp : p < s.size
    · have hS := sign_any s p hp (by omega)
      have hst := fun l => goR_step s p l hp
      have hle := sgn_le s p hp
      by_cases hz : (sgn s p).1 = 0
      · obtain rfl : R = ([], p, 14) := by rw [HG.out, hst, if_pos hz]
        have HF := Lib.hid (told_err w wr p 14 hb)
        rw [hz] at hS
        clear hst hle hz HG HR
        go_wp2_with (go_at_call 20; (with_reducible refine (hS _).mono ?_); rintro e w2 ⟨rfl, rfl⟩)
        go_ret3
        exact HF.out
      · have hbl := hB (sgn s p).2
        by_cases hpt : isPart (sgn s p).2 = true
        · have HG2 : Hid (R = goR s (p + (sgn s p).1) ⟨out, [], 0⟩) := Lib.hid (by rw [HG.out, hst, if_neg hz, take_between _ _ hpt]; rfl)
          rw [hpt] at hbl
          have hle1 := hle.1
          clear hst hle
          generalize (sgn s p).2 = k at *
          generalize (sgn s p).1 = n at *
          have i2 : ((n : Int) == 0) = false := by simp; omega
          clear hpt HG
          go_wp2_with (first | (go_at_call 20; (with_reducible refine (hS _).mono ?_); rintro e w2 ⟨rfl, rfl⟩) | (go_at_call 21; (with_reducible refine (hbl _).mono ?_); rintro e w2 ⟨rfl, rfl⟩))
          go_roundw
          case rel => exact ⟨p + n, out, a, c, rfl, by go_num, by omega, by omega, hown, hb, HG2⟩
          case measure => simp [intOf]; omega
        · rw [Bool.eq_false_iff.2 hpt] at hbl
          have hQ := fun w => refquoted_any s hsz (p + 1) (by omega) w
          simp only [Int.natCast_add, Int.cast_ofNat_Int] at hQ
          by_cases hq : (sgn s p).2 = 34
          · have HG1 : Hid (R = goR s (p + 1) ⟨out, [], 2⟩) := Lib.hid (by rw [HG.out, hst, if_neg hz, small_rlen s p hz (by omega), hq]; rfl)
            clear hst hle HG HR hpt hB
            have hn1 := small_rlen s p hz (by omega)
            rw [hq, hn1] at hS
            rw [hq] at hbl
            simp only [Int.cast_ofNat_Int] at hbl
            clear hn1 hz hq
            go_wp2_with (first | (go_at_call 20; (with_reducible refine (hS _).mono ?_); rintro e w2 ⟨rfl, rfl⟩) | (go_at_call 21; (with_reducible refine (hbl _).mono ?_); rintro e w2 ⟨rfl, rfl⟩) | (go_at_call 22; (with_reducible refine (hQ _).mono ?_); rintro e w2 ⟨x, j, er, rfl, hsay, rfl⟩; have HSAY := Lib.hid hsay; clear hsay) | (at_builtin; refine wpList_append_ownz rfl (.tmp 53) (.tmp 55) 22 rfl w.heap.size 9 i0 (.string ⟨#[]⟩) 1 16 Try.underlying22 hi0 hz0 hz1 hz2 rfl (by decide) _ out.length (out.map Value.string) rfl (hown.alloc _) (some ⟨wr.heap.size, 0, none⟩) 1 1 [.string x] rfl (fun h => by cases h) rfl (At.one wr (.string x) _) (by simp [Value.oneCell']) (by unfold maxLen; omega) (by omega) (by have := hb.size; simp; omega) ?_; intro v6 w6 hown6 hb6; obtain ⟨a6, c6, rfl, hown7⟩ := one_row hown6 rfl rfl; clear hown6))
            · have hne : ((er : Int) != 0) = true := by assumption
              have her : er ≠ 0 := by rintro rfl; simp at hne
              obtain rfl : R = ([], j, er) := by rw [HG1.out, HSAY.out.2.2.2 out, if_neg her]
              go_ret3
              exact told_err w wr j er hb
            · have hne : ((er : Int) != 0) = false := by assumption
              have her : er = 0 := by simpa using hne
              have hlt := HSAY.out.2.2.1 her
              have hjs := HSAY.out.1
              have HG2 : Hid (R = goR s j ⟨out ++ [x], [], 0⟩) := Lib.hid (by rw [HG1.out, HSAY.out.2.2.2 out, if_pos her])
              go_roundw
              case rel => exact ⟨j, out ++ [x], a6, c6, by simp, rfl, hjs, by simp; omega, hown7, (hb.alloc hb.size _).trans hb6, HG2⟩
              case measure => simp [intOf]; omega
          · have hBR := fun w => refbare_any s hsz p hp hz hpt hq w
            have i2 : (((sgn s p).1 : Int) == 0) = false := by simp; omega
            have i3 : (((sgn s p).2 : Int) == 34) = false := by simp; omega
            clear hst hle HR hpt hB hz hq
            generalize (sgn s p).2 = k at *
            generalize (sgn s p).1 = n at *
            go_wp2_with (first | (go_at_call 20; (with_reducible refine (hS _).mono ?_); rintro e w2 ⟨rfl, rfl⟩) | (go_at_call 21; (with_reducible refine (hbl _).mono ?_); rintro e w2 ⟨rfl, rfl⟩) | (go_at_call 23; (with_reducible refine (hBR _).mono ?_); rintro e w2 ⟨x, j, er, rfl, hsay, rfl⟩; have HSAY := Lib.hid hsay; clear hsay) | (at_builtin; refine wpList_append_ownz rfl (.tmp 53) (.tmp 55) 22 rfl w.heap.size 9 i0 (.string ⟨#[]⟩) 1 16 Try.underlying22 hi0 hz0 hz1 hz2 rfl (by decide) _ out.length (out.map Value.string) rfl (hown.alloc _) (some ⟨wr.heap.size, 0, none⟩) 1 1 [.string x] rfl (fun h => by cases h) rfl (At.one wr (.string x) _) (by simp [Value.oneCell']) (by unfold maxLen; omega) (by omega) (by have := hb.size; simp; omega) ?_; intro v6 w6 hown6 hb6; obtain ⟨a6, c6, rfl, hown7⟩ := one_row hown6 rfl rfl; clear hown6))
            · have hne : ((er : Int) != 0) = true := by assumption
              have her : er ≠ 0 := by rintro rfl; simp at hne
              obtain rfl : R = ([], j, er) := by rw [HG.out, HSAY.out.2.2.2 out, if_neg her]
              go_ret3
              exact told_err w wr j er hb
            · have hne : ((er : Int) != 0) = false := by assumption
              have her : er = 0 := by simpa using hne
              have hlt := HSAY.out.2.2.1 her
              have hjs := HSAY.out.1
              have HG2 : Hid (R = goR s j ⟨out ++ [x], [], 0⟩) := Lib.hid (by rw [HG.out, HSAY.out.2.2.2 out, if_pos her])
              go_roundw
              case rel => exact ⟨j, out ++ [x], a6, c6, by simp, rfl, hjs, by simp; omega, hown7, (hb.alloc hb.size _).trans hb6, HG2⟩
              case measure => simp [intOf]; omega
    · have hpe : ¬ (p : Int) < (s.size : Int) := by omega
      obtain rfl : R = (out, 0, 0) := by
        rw [HG.out, goR_end s p _ hp]
        simp [Ln.part]
      have HF := Lib.hid (show Told w (out, 0, 0) (.returned (.tuple #[.slice a out.length c, .int .i64 0, .int .i64 0])) wr from ⟨a, c, rfl, hown, hb⟩)
      go_wp2
      go_ret3
      exact HF.out
end Go.Proofs.Ythldbcngbkemnaa
