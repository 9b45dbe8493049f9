/- drawbarref02.quoted: the document's reading of a text in quotes. -/
import Derived.Test.YthldbcngbkemnaaRefBare
namespace Go.Proofs.Ythldbcngbkemnaa
open Go.RowKit
open Drawbar Drawbar.Line Drawbar.Sign

theorem small_rlen (s : ByteArray) (p : Nat) (h : (sgn s p).1 ≠ 0) (h2 : (sgn s p).2 < 128) : (sgn s p).1 = 1 := by
  rw [(sgn_rlen s p h).1]
  exact (enc1 h2).2
theorem q_close (s : ByteArray) (p : Nat) (hp : p < s.size) (hz : (sgn s p).1 ≠ 0) (hc : (sgn s p).2 = 34) (out : List ByteArray) (wd : List Nat) : goR s p ⟨out, wd, 2⟩ = goR s (p + 1) ⟨out, wd, 4⟩ := by
  rw [goR_step s p _ hp, if_neg hz, small_rlen s p hz (by omega), hc]
  rfl
theorem q_slash (s : ByteArray) (p : Nat) (hp : p < s.size) (hz : (sgn s p).1 ≠ 0) (hc : (sgn s p).2 = 92) (out : List ByteArray) (wd : List Nat) : goR s p ⟨out, wd, 2⟩ = goR s (p + 1) ⟨out, wd, 3⟩ := by
  rw [goR_step s p _ hp, if_neg hz, small_rlen s p hz (by omega), hc]
  rfl
theorem add_small (l : Ln) (r : Nat) (h : r < 128) : l.add r = if 200 < l.word.length + 1 then (2, l) else (0, { l with word := l.word ++ [r] }) := by
  unfold Ln.add
  rw [(enc1 h).1, (enc1 h).2]
/-- A sign behind a slash. -/
theorem q_esc (s : ByteArray) (p : Nat) (hp : p < s.size) (hz : (sgn s p).1 ≠ 0) (hc : (sgn s p).2 < 128) (r : Nat) (hr : r < 128) (out : List ByteArray) (wd : List Nat) (ht : (⟨out, wd, 3⟩ : Ln).take (sgn s p).2 = (⟨out, wd, 2⟩ : Ln).add r) :
    goR s p ⟨out, wd, 3⟩ = if 200 < wd.length + 1 then ([], p, 2) else goR s (p + 1) ⟨out, wd ++ [r], 2⟩ := by
  rw [goR_step s p _ hp, if_neg hz, ht, add_small _ _ hr, small_rlen s p hz hc]
  by_cases h : 200 < wd.length + 1
  · rw [if_pos h, if_pos h]; rfl
  · rw [if_neg h, if_neg h]; rfl
theorem q_bad (s : ByteArray) (p : Nat) (hp : p < s.size) (hc : (sgn s p).1 = 0 ∨ ((sgn s p).2 ≠ 34 ∧ (sgn s p).2 ≠ 92 ∧ (sgn s p).2 ≠ 110 ∧ (sgn s p).2 ≠ 116)) (out : List ByteArray) (wd : List Nat) : goR s p ⟨out, wd, 3⟩ = ([], p, 14) := by
  rw [goR_step s p _ hp]
  by_cases hz : (sgn s p).1 = 0
  · rw [if_pos hz]
  · have h := hc.resolve_left hz
    have e : (⟨out, wd, 3⟩ : Ln).take (sgn s p).2 = (14, ⟨out, wd, 2⟩) := by
      rw [take_slashed, if_neg (fun c => by omega), if_neg h.2.2.1, if_neg h.2.2.2]
    rw [if_neg hz, e]
    rfl
theorem closed_bad (s : ByteArray) (p : Nat) (hp : p < s.size) (hc : (sgn s p).1 = 0 ∨ ¬ isPart (sgn s p).2 = true) (out : List ByteArray) (wd : List Nat) : goR s p ⟨out, wd, 4⟩ = ([], p, 14) := by
  rw [goR_step s p _ hp]
  by_cases hz : (sgn s p).1 = 0
  · rw [if_pos hz]
  · rw [if_neg hz, take_closed]
    have h := hc.resolve_left hz
    rw [if_neg h]
    rfl
theorem extract_one (s : ByteArray) (p : Nat) (hp : p < s.size) (hz : (sgn s p).1 ≠ 0) (hc : (sgn s p).2 < 128) : s.extract p (p + 1) = strOf [(sgn s p).2] := by
  have h := sgn_extract s p hp hz
  rw [small_rlen s p hz hc, (enc1 hc).1] at h
  exact h

set_option maxRecDepth 1000000 in
set_option maxHeartbeats 4000000 in
theorem refquoted_any (s : ByteArray) (hs : s.size ≤ 400) (i0 : Nat) (hi0 : i0 ≤ s.size) (w : World) :
    Calls Try.prog 22 #[.string s, .int .i64 (i0 : Nat)] w (Read1 s i0 2 w) := by
  have hB := fun r => blank_any r
  go_enter Try.func22, Try.ntmps22
  go_wp2
  go_loop [1, 7] (fun i x => ∃ (p : Nat) (wd : List Nat), i = .int .i64 p ∧ x = .string (strOf wd) ∧ i0 ≤ p ∧ p ≤ s.size ∧ wd.length ≤ 200 ∧ Hid (∀ out, goR s i0 ⟨out, [], 2⟩ = goR s p ⟨out, wd, 2⟩)) (fun i _ => s.size - (intOf i).toNat)
  case atStart => exact ⟨i0, [], rfl, rfl, Nat.le_refl _, hi0, by simp, Lib.hid fun _ => rfl⟩
  case round =>
    obtain ⟨p, wd, rfl, rfl, hip, hps, hwd, HG⟩ := hrel
    have hxs : (strOf wd).size = wd.length := size_str wd
    by_cases hp : p < s.size
    · have hS := sign_any s p hp (by omega)
      have hle := sgn_le s p hp
      have hst := fun l => goR_step s p l hp
      by_cases hz : (sgn s p).1 = 0
      · have HF := Lib.hid (said_err (w := w) (er := 14) (Nat.le_of_lt hp) (by omega) (by omega) fun out => by rw [HG.out out, hst, if_pos hz])
        rw [hz] at hS
        clear hst hle hz
        go_wp2_with (go_at_call 20; refine (hS _).mono ?_; rintro e w2 ⟨rfl, rfl⟩)
        go_ret3
        exact HF.out
      · have hq := fun out => take_quoted out wd (sgn s p).2
        have hg := fun out => (HG.out out).trans (hst ⟨out, wd, 2⟩)
        simp only [hq, if_neg hz] at hg
        by_cases h32 : (sgn s p).2 < 32
        · have HF := Lib.hid (said_err (w := w) (er := 14) (Nat.le_of_lt hp) (by omega) (by omega) fun out => by rw [hg out, if_pos h32]; rfl)
          clear hg hst hq
          generalize (sgn s p).2 = c at *
          generalize (sgn s p).1 = n at *
          have i2 : ((n : Int) == 0) = false := by simp; omega
          have i3 : decide ((c : Int) < 32) = true := by simp; omega
          clear hle hz h32
          go_wp2_with (go_at_call 20; refine (hS _).mono ?_; rintro e w2 ⟨rfl, rfl⟩)
          go_ret3
          exact HF.out
        · by_cases h34 : (sgn s p).2 = 34
          · have hcl := fun out => (HG.out out).trans (q_close s p hp hz h34 out wd)
            have hn1 := small_rlen s p hz (by omega)
            rw [h34, hn1] at hS
            clear hg hst hq
            by_cases hp2 : p + 1 < s.size
            · have hS2 := sign_any s (p + 1) hp2 (by omega)
              simp only [Int.natCast_add, Int.cast_ofNat_Int] at hS2
              have hpi : ((p : Int) + 1) < (s.size : Int) := by omega
              by_cases hz2 : (sgn s (p + 1)).1 = 0
              · have HF := Lib.hid (said_err (w := w) (er := 14) (Nat.le_of_lt hp2) (by omega) (by omega) fun out => by rw [hcl out, closed_bad s (p + 1) hp2 (.inl hz2) out wd])
                rw [hz2] at hS2
                clear hcl hle hz hz2 h32 h34 hn1
                go_wp2_with (first | (go_at_call 20; (with_reducible refine (hS _).mono ?_); rintro e w2 ⟨rfl, rfl⟩) | (go_at_call 20; (with_reducible refine (hS2 _).mono ?_); rintro e w2 ⟨rfl, rfl⟩) | (go_at_call 21; (with_reducible refine (hb _).mono ?_); rintro e w2 ⟨rfl, rfl⟩))
                go_ret3
                exact HF.out
              · have hb := hB (sgn s (p + 1)).2
                by_cases hpt : isPart (sgn s (p + 1)).2 = true
                · have HF := Lib.hid (said_ok (i0 := i0) (w := w) (x := strOf wd) (Nat.le_of_lt hp2) (by omega) fun out => by rw [hcl out]; exact closed_ends s (p + 1) wd out fun _ => ⟨hz2, hpt⟩)
                  rw [hpt] at hb
                  generalize (sgn s (p + 1)).2 = c at *
                  generalize (sgn s (p + 1)).1 = n at *
                  have i2 : ((n : Int) == 0) = false := by simp; omega
                  clear hcl hle hz hz2 h32 h34 hn1 hpt hB
                  go_wp2_with (first | (go_at_call 20; (with_reducible refine (hS _).mono ?_); rintro e w2 ⟨rfl, rfl⟩) | (go_at_call 20; (with_reducible refine (hS2 _).mono ?_); rintro e w2 ⟨rfl, rfl⟩) | (go_at_call 21; (with_reducible refine (hb _).mono ?_); rintro e w2 ⟨rfl, rfl⟩))
                  go_ret3
                  exact HF.out
                · have HF := Lib.hid (said_err (w := w) (er := 14) (Nat.le_of_lt hp2) (by omega) (by omega) fun out => by rw [hcl out, closed_bad s (p + 1) hp2 (.inr hpt) out wd])
                  rw [Bool.eq_false_iff.2 hpt] at hb
                  generalize (sgn s (p + 1)).2 = c at *
                  generalize (sgn s (p + 1)).1 = n at *
                  have i2 : ((n : Int) == 0) = false := by simp; omega
                  clear hcl hle hz hz2 h32 h34 hn1 hpt hB
                  go_wp2_with (first | (go_at_call 20; (with_reducible refine (hS _).mono ?_); rintro e w2 ⟨rfl, rfl⟩) | (go_at_call 20; (with_reducible refine (hS2 _).mono ?_); rintro e w2 ⟨rfl, rfl⟩) | (go_at_call 21; (with_reducible refine (hb _).mono ?_); rintro e w2 ⟨rfl, rfl⟩))
                  go_ret3
                  exact HF.out
            · have HF := Lib.hid (said_ok (s := s) (i0 := i0) (w := w) (j := p + 1) (x := strOf wd) (by omega) (by omega) fun out => by rw [hcl out]; exact closed_ends s (p + 1) wd out fun h => absurd h hp2)
              have hpi : ¬ ((p : Int) + 1) < (s.size : Int) := by omega
              clear hcl hle hz h32 h34 hn1
              go_wp2_with (go_at_call 20; refine (hS _).mono ?_; rintro e w2 ⟨rfl, rfl⟩)
              go_ret3
              exact HF.out
          · by_cases h92 : (sgn s p).2 = 92
            · have hcl := fun out => (HG.out out).trans (q_slash s p hp hz h92 out wd)
              have hn1 := small_rlen s p hz (by omega)
              rw [h92, hn1] at hS
              clear hg hst hq
              by_cases hp2 : p + 1 < s.size
              · have hS2 := sign_any s (p + 1) hp2 (by omega)
                simp only [Int.natCast_add, Int.cast_ofNat_Int] at hS2
                have hpi : (((p : Int) + 1) == (s.size : Int)) = false := by simp; omega
                by_cases hz2 : (sgn s (p + 1)).1 = 0
                · have HF := Lib.hid (said_err (w := w) (er := 14) (Nat.le_of_lt hp2) (by omega) (by omega) fun out => by rw [hcl out, q_bad s (p + 1) hp2 (.inl hz2) out wd])
                  rw [hz2] at hS2
                  clear hcl hle hz hz2 h32 h34 h92 hn1
                  go_wp2_with (first | (go_at_call 20; (with_reducible refine (hS _).mono ?_); rintro e w2 ⟨rfl, rfl⟩) | (go_at_call 20; (with_reducible refine (hS2 _).mono ?_); rintro e w2 ⟨rfl, rfl⟩) | (go_at_call 21; (with_reducible refine (hb _).mono ?_); rintro e w2 ⟨rfl, rfl⟩))
                  go_ret3
                  exact HF.out
                · by_cases hno : (sgn s (p + 1)).2 ≠ 34 ∧ (sgn s (p + 1)).2 ≠ 92 ∧ (sgn s (p + 1)).2 ≠ 110 ∧ (sgn s (p + 1)).2 ≠ 116
                  · have HF := Lib.hid (said_err (w := w) (er := 14) (Nat.le_of_lt hp2) (by omega) (by omega) fun out => by rw [hcl out, q_bad s (p + 1) hp2 (.inr hno) out wd])
                    generalize (sgn s (p + 1)).2 = c at *
                    generalize (sgn s (p + 1)).1 = n at *
                    have i2 : ((n : Int) == 0) = false := by simp; omega
                    have i3 : ((c : Int) == 34) = false := by simp; omega
                    have i4 : ((c : Int) == 92) = false := by simp; omega
                    have i5 : ((c : Int) == 110) = false := by simp; omega
                    have i6 : ((c : Int) == 116) = false := by simp; omega
                    clear hcl hle hz hz2 h32 h34 h92 hn1 hno
                    go_wp2_with (first | (go_at_call 20; (with_reducible refine (hS _).mono ?_); rintro e w2 ⟨rfl, rfl⟩) | (go_at_call 20; (with_reducible refine (hS2 _).mono ?_); rintro e w2 ⟨rfl, rfl⟩) | (go_at_call 21; (with_reducible refine (hb _).mono ?_); rintro e w2 ⟨rfl, rfl⟩))
                    go_ret3
                    exact HF.out
                  · have hyes : (sgn s (p + 1)).2 = 34 ∨ (sgn s (p + 1)).2 = 92 ∨ (sgn s (p + 1)).2 = 110 ∨ (sgn s (p + 1)).2 = 116 := by omega
                    have hn2 := small_rlen s (p + 1) hz2 (by omega)
                    have hone := extract_one s (p + 1) hp2 hz2 (by omega)
                    clear hno
                    rcases hyes with hc | hc | hc | hc
                    · have hes := fun out => (hcl out).trans (q_esc s (p + 1) hp2 hz2 (by omega) 34 (by omega) out wd (by rw [hc, take_slashed]; rfl))
                      rw [hc, hn2] at hS2
                      rw [hc] at hone
                      clear hcl
                      by_cases hlong : 200 < wd.length + 1
                      · have HF := Lib.hid (said_err (w := w) (er := 2) (Nat.le_of_lt hp2) (by omega) (by omega) fun out => by rw [hes out, if_pos hlong])
                        have HC : Hid (strOf wd ++ strOf [34] = strOf (wd ++ [34])) := Lib.hid (str_app wd [34]).symm
                        have hY1 : (strOf [34]).size = 1 := rfl
                        have j2 : (strOf wd ++ strOf [34]).size = (strOf wd).size + 1 := size_app _ _
                        have j1 : ¬ 9223372036854775807 < (strOf wd).size + 1 := by omega
                        generalize strOf [34] = Y at *
                        have j3 : (200 : Int) < ((strOf wd).size : Int) + 1 := by omega
                        clear hle hz hz2 h32 h34 h92 hn1 hn2 hc hes
                        go_wp2_with (first | (go_at_call 20; (with_reducible refine (hS _).mono ?_); rintro e w2 ⟨rfl, rfl⟩) | (go_at_call 20; (with_reducible refine (hS2 _).mono ?_); rintro e w2 ⟨rfl, rfl⟩) | (go_at_call 21; (with_reducible refine (hb _).mono ?_); rintro e w2 ⟨rfl, rfl⟩))
                        go_ret3
                        exact HF.out
                      · have HG2 : Hid (∀ out, goR s i0 ⟨out, [], 2⟩ = goR s (p + 1 + 1) ⟨out, wd ++ [34], 2⟩) := Lib.hid fun out => by rw [hes out, if_neg hlong]
                        have HC : Hid (strOf wd ++ strOf [34] = strOf (wd ++ [34])) := Lib.hid (str_app wd [34]).symm
                        have hY1 : (strOf [34]).size = 1 := rfl
                        have j2 : (strOf wd ++ strOf [34]).size = (strOf wd).size + 1 := size_app _ _
                        have j1 : ¬ 9223372036854775807 < (strOf wd).size + 1 := by omega
                        generalize strOf [34] = Y at *
                        have j3 : ¬ (200 : Int) < ((strOf wd).size : Int) + 1 := by omega
                        clear hle hz hz2 h32 h34 h92 hn1 hn2 hc hes
                        go_wp2_with (first | (go_at_call 20; (with_reducible refine (hS _).mono ?_); rintro e w2 ⟨rfl, rfl⟩) | (go_at_call 20; (with_reducible refine (hS2 _).mono ?_); rintro e w2 ⟨rfl, rfl⟩) | (go_at_call 21; (with_reducible refine (hb _).mono ?_); rintro e w2 ⟨rfl, rfl⟩))
                        go_round
                        case rel => exact ⟨p + 1 + 1, wd ++ [34], by go_num, by rw [HC.out], by omega, by omega, by simp; omega, HG2⟩
                        case measure => simp [intOf]; omega
                    · have hes := fun out => (hcl out).trans (q_esc s (p + 1) hp2 hz2 (by omega) 92 (by omega) out wd (by rw [hc, take_slashed]; rfl))
                      rw [hc, hn2] at hS2
                      rw [hc] at hone
                      clear hcl
                      by_cases hlong : 200 < wd.length + 1
                      · have HF := Lib.hid (said_err (w := w) (er := 2) (Nat.le_of_lt hp2) (by omega) (by omega) fun out => by rw [hes out, if_pos hlong])
                        have HC : Hid (strOf wd ++ strOf [92] = strOf (wd ++ [92])) := Lib.hid (str_app wd [92]).symm
                        have hY1 : (strOf [92]).size = 1 := rfl
                        have j2 : (strOf wd ++ strOf [92]).size = (strOf wd).size + 1 := size_app _ _
                        have j1 : ¬ 9223372036854775807 < (strOf wd).size + 1 := by omega
                        generalize strOf [92] = Y at *
                        have j3 : (200 : Int) < ((strOf wd).size : Int) + 1 := by omega
                        clear hle hz hz2 h32 h34 h92 hn1 hn2 hc hes
                        go_wp2_with (first | (go_at_call 20; (with_reducible refine (hS _).mono ?_); rintro e w2 ⟨rfl, rfl⟩) | (go_at_call 20; (with_reducible refine (hS2 _).mono ?_); rintro e w2 ⟨rfl, rfl⟩) | (go_at_call 21; (with_reducible refine (hb _).mono ?_); rintro e w2 ⟨rfl, rfl⟩))
                        go_ret3
                        exact HF.out
                      · have HG2 : Hid (∀ out, goR s i0 ⟨out, [], 2⟩ = goR s (p + 1 + 1) ⟨out, wd ++ [92], 2⟩) := Lib.hid fun out => by rw [hes out, if_neg hlong]
                        have HC : Hid (strOf wd ++ strOf [92] = strOf (wd ++ [92])) := Lib.hid (str_app wd [92]).symm
                        have hY1 : (strOf [92]).size = 1 := rfl
                        have j2 : (strOf wd ++ strOf [92]).size = (strOf wd).size + 1 := size_app _ _
                        have j1 : ¬ 9223372036854775807 < (strOf wd).size + 1 := by omega
                        generalize strOf [92] = Y at *
                        have j3 : ¬ (200 : Int) < ((strOf wd).size : Int) + 1 := by omega
                        clear hle hz hz2 h32 h34 h92 hn1 hn2 hc hes
                        go_wp2_with (first | (go_at_call 20; (with_reducible refine (hS _).mono ?_); rintro e w2 ⟨rfl, rfl⟩) | (go_at_call 20; (with_reducible refine (hS2 _).mono ?_); rintro e w2 ⟨rfl, rfl⟩) | (go_at_call 21; (with_reducible refine (hb _).mono ?_); rintro e w2 ⟨rfl, rfl⟩))
                        go_round
                        case rel => exact ⟨p + 1 + 1, wd ++ [92], by go_num, by rw [HC.out], by omega, by omega, by simp; omega, HG2⟩
                        case measure => simp [intOf]; omega
                    · have hes := fun out => (hcl out).trans (q_esc s (p + 1) hp2 hz2 (by omega) 10 (by omega) out wd (by rw [hc, take_slashed]; rfl))
                      rw [hc, hn2] at hS2
                      rw [hc] at hone
                      clear hcl
                      by_cases hlong : 200 < wd.length + 1
                      · have HF := Lib.hid (said_err (w := w) (er := 2) (Nat.le_of_lt hp2) (by omega) (by omega) fun out => by rw [hes out, if_pos hlong])
                        have HC : Hid (strOf wd ++ ⟨#[10]⟩ = strOf (wd ++ [10])) := Lib.hid (str_app wd [10]).symm
                        have hY1 : (ByteArray.size ⟨#[10]⟩) = 1 := rfl
                        have j2 : (strOf wd ++ ⟨#[10]⟩).size = (strOf wd).size + 1 := size_app _ _
                        have j1 : ¬ 9223372036854775807 < (strOf wd).size + (ByteArray.size ⟨#[10]⟩) := by omega
                        have j4 : ¬ 9223372036854775807 < (strOf wd).size + 1 := by omega
                        clear hone
                        have j3 : (200 : Int) < ((strOf wd).size : Int) + 1 := by omega
                        clear hle hz hz2 h32 h34 h92 hn1 hn2 hc hes
                        go_wp2_with (first | (go_at_call 20; (with_reducible refine (hS _).mono ?_); rintro e w2 ⟨rfl, rfl⟩) | (go_at_call 20; (with_reducible refine (hS2 _).mono ?_); rintro e w2 ⟨rfl, rfl⟩) | (go_at_call 21; (with_reducible refine (hb _).mono ?_); rintro e w2 ⟨rfl, rfl⟩))
                        go_ret3
                        exact HF.out
                      · have HG2 : Hid (∀ out, goR s i0 ⟨out, [], 2⟩ = goR s (p + 1 + 1) ⟨out, wd ++ [10], 2⟩) := Lib.hid fun out => by rw [hes out, if_neg hlong]
                        have HC : Hid (strOf wd ++ ⟨#[10]⟩ = strOf (wd ++ [10])) := Lib.hid (str_app wd [10]).symm
                        have hY1 : (ByteArray.size ⟨#[10]⟩) = 1 := rfl
                        have j2 : (strOf wd ++ ⟨#[10]⟩).size = (strOf wd).size + 1 := size_app _ _
                        have j1 : ¬ 9223372036854775807 < (strOf wd).size + (ByteArray.size ⟨#[10]⟩) := by omega
                        have j4 : ¬ 9223372036854775807 < (strOf wd).size + 1 := by omega
                        clear hone
                        have j3 : ¬ (200 : Int) < ((strOf wd).size : Int) + 1 := by omega
                        clear hle hz hz2 h32 h34 h92 hn1 hn2 hc hes
                        go_wp2_with (first | (go_at_call 20; (with_reducible refine (hS _).mono ?_); rintro e w2 ⟨rfl, rfl⟩) | (go_at_call 20; (with_reducible refine (hS2 _).mono ?_); rintro e w2 ⟨rfl, rfl⟩) | (go_at_call 21; (with_reducible refine (hb _).mono ?_); rintro e w2 ⟨rfl, rfl⟩))
                        go_round
                        case rel => exact ⟨p + 1 + 1, wd ++ [10], by go_num, by rw [HC.out], by omega, by omega, by simp; omega, HG2⟩
                        case measure => simp [intOf]; omega
                    · have hes := fun out => (hcl out).trans (q_esc s (p + 1) hp2 hz2 (by omega) 9 (by omega) out wd (by rw [hc, take_slashed]; rfl))
                      rw [hc, hn2] at hS2
                      rw [hc] at hone
                      clear hcl
                      by_cases hlong : 200 < wd.length + 1
                      · have HF := Lib.hid (said_err (w := w) (er := 2) (Nat.le_of_lt hp2) (by omega) (by omega) fun out => by rw [hes out, if_pos hlong])
                        have HC : Hid (strOf wd ++ ⟨#[9]⟩ = strOf (wd ++ [9])) := Lib.hid (str_app wd [9]).symm
                        have hY1 : (ByteArray.size ⟨#[9]⟩) = 1 := rfl
                        have j2 : (strOf wd ++ ⟨#[9]⟩).size = (strOf wd).size + 1 := size_app _ _
                        have j1 : ¬ 9223372036854775807 < (strOf wd).size + (ByteArray.size ⟨#[9]⟩) := by omega
                        have j4 : ¬ 9223372036854775807 < (strOf wd).size + 1 := by omega
                        clear hone
                        have j3 : (200 : Int) < ((strOf wd).size : Int) + 1 := by omega
                        clear hle hz hz2 h32 h34 h92 hn1 hn2 hc hes
                        go_wp2_with (first | (go_at_call 20; (with_reducible refine (hS _).mono ?_); rintro e w2 ⟨rfl, rfl⟩) | (go_at_call 20; (with_reducible refine (hS2 _).mono ?_); rintro e w2 ⟨rfl, rfl⟩) | (go_at_call 21; (with_reducible refine (hb _).mono ?_); rintro e w2 ⟨rfl, rfl⟩))
                        go_ret3
                        exact HF.out
                      · have HG2 : Hid (∀ out, goR s i0 ⟨out, [], 2⟩ = goR s (p + 1 + 1) ⟨out, wd ++ [9], 2⟩) := Lib.hid fun out => by rw [hes out, if_neg hlong]
                        have HC : Hid (strOf wd ++ ⟨#[9]⟩ = strOf (wd ++ [9])) := Lib.hid (str_app wd [9]).symm
                        have hY1 : (ByteArray.size ⟨#[9]⟩) = 1 := rfl
                        have j2 : (strOf wd ++ ⟨#[9]⟩).size = (strOf wd).size + 1 := size_app _ _
                        have j1 : ¬ 9223372036854775807 < (strOf wd).size + (ByteArray.size ⟨#[9]⟩) := by omega
                        have j4 : ¬ 9223372036854775807 < (strOf wd).size + 1 := by omega
                        clear hone
                        have j3 : ¬ (200 : Int) < ((strOf wd).size : Int) + 1 := by omega
                        clear hle hz hz2 h32 h34 h92 hn1 hn2 hc hes
                        go_wp2_with (first | (go_at_call 20; (with_reducible refine (hS _).mono ?_); rintro e w2 ⟨rfl, rfl⟩) | (go_at_call 20; (with_reducible refine (hS2 _).mono ?_); rintro e w2 ⟨rfl, rfl⟩) | (go_at_call 21; (with_reducible refine (hb _).mono ?_); rintro e w2 ⟨rfl, rfl⟩))
                        go_round
                        case rel => exact ⟨p + 1 + 1, wd ++ [9], by go_num, by rw [HC.out], by omega, by omega, by simp; omega, HG2⟩
                        case measure => simp [intOf]; omega
              · have HF := Lib.hid (said_err (s := s) (i0 := i0) (w := w) (j := p + 1) (er := 14) (by omega) (by omega) (by omega) fun out => by rw [hcl out, goR_end s (p + 1) _ hp2, if_pos (.inr rfl), show s.size = p + 1 by omega])
                have hpi : (((p : Int) + 1) == (s.size : Int)) = true := by simp; omega
                clear hcl hle hz h32 h34 h92 hn1
                go_wp2_with (go_at_call 20; refine (hS _).mono ?_; rintro e w2 ⟨rfl, rfl⟩)
                go_ret3
                exact HF.out
            · simp only [if_neg h32, if_neg h34, if_neg h92] at hg
              have he := sgn_extract s p hp hz
              have hr4 := (rlen_le (sgn s p).2)
              have hle1 := hle.1
              have hys : (strOf (enc (sgn s p).2)).size = rlen (sgn s p).2 := by rw [size_str, enc_length]
              have hcat : strOf wd ++ strOf (enc (sgn s p).2) = strOf (wd ++ enc (sgn s p).2) := (str_app _ _).symm
              have hlw : (wd ++ enc (sgn s p).2).length = wd.length + rlen (sgn s p).2 := by rw [List.length_append, enc_length]
              clear hst hle hq
              by_cases hlong : 200 < wd.length + rlen (sgn s p).2
              · have HF := Lib.hid (said_err (w := w) (er := 2) (Nat.le_of_lt hp) (by omega) (by omega) fun out => by rw [hg out, if_pos hlong]; rfl)
                rw [← hxs, ← hys] at hlong
                have hyr := hys
                rw [← he] at hlong hyr
                generalize hY : s.extract p (p + (sgn s p).1) = Y at *
                generalize (sgn s p).2 = c at *
                generalize (sgn s p).1 = n at *
                have i2 : ((n : Int) == 0) = false := by simp; omega
                have i3 : decide ((c : Int) < 32) = false := by simp; omega
                have i4 : ((c : Int) == 34) = false := by simp; omega
                have i5 : ((c : Int) != 92) = true := by simp; omega
                have hY4 : Y.size ≤ 4 := by omega
                clear hz hg he hcat hr4 hlw h32 h34 h92
                have j1 : ¬ 9223372036854775807 < (strOf wd).size + Y.size := by omega
                have j2 : (strOf wd ++ Y).size = (strOf wd).size + Y.size := size_app _ _
                have j3 : (200 : Int) < ((strOf wd).size : Int) + (Y.size : Int) := by omega
                go_wp2_with (go_at_call 20; refine (hS _).mono ?_; rintro e w2 ⟨rfl, rfl⟩)
                go_ret3
                exact HF.out
              · have HG2 : Hid (∀ out, goR s i0 ⟨out, [], 2⟩ = goR s (p + (sgn s p).1) ⟨out, wd ++ enc (sgn s p).2, 2⟩) := Lib.hid fun out => by rw [hg out, if_neg hlong]; rfl
                have HC : Hid (strOf wd ++ s.extract p (p + (sgn s p).1) = strOf (wd ++ enc (sgn s p).2)) := Lib.hid (by rw [he, hcat])
                rw [← hxs, ← hys] at hlong
                have hyr := hys
                rw [← he] at hlong hyr
                clear hg he hcat
                generalize hY : s.extract p (p + (sgn s p).1) = Y at *
                generalize wd ++ enc (sgn s p).2 = wd2 at *
                generalize (sgn s p).2 = c at *
                generalize (sgn s p).1 = n at *
                have i2 : ((n : Int) == 0) = false := by simp; omega
                have i3 : decide ((c : Int) < 32) = false := by simp; omega
                have i4 : ((c : Int) == 34) = false := by simp; omega
                have i5 : ((c : Int) != 92) = true := by simp; omega
                clear h32 h34 h92
                have j1 : ¬ 9223372036854775807 < (strOf wd).size + Y.size := by omega
                have j2 : (strOf wd ++ Y).size = (strOf wd).size + Y.size := size_app _ _
                have j3 : ¬ (200 : Int) < ((strOf wd).size : Int) + (Y.size : Int) := by omega
                go_wp2_with (go_at_call 20; refine (hS _).mono ?_; rintro e w2 ⟨rfl, rfl⟩)
                go_round
                case rel => exact ⟨p + n, wd2, by go_num, by rw [HC.out], by omega, by omega, by omega, HG2⟩
                case measure => simp [intOf]; omega
    · obtain rfl : p = s.size := by omega
      have HF := Lib.hid (said_err (s := s) (i0 := i0) (t := 2) (j := s.size) (w := w) (er := 14) (Nat.le_refl _) (by omega) (by omega) fun out => by rw [HG.out out, goR_end s s.size _ (by omega), if_pos (.inl rfl)])
      clear hB
      go_wp2
      go_ret3
      exact HF.out
end Go.Proofs.Ythldbcngbkemnaa
