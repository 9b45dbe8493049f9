/- drawbarref02.bare and drawbarref02.blank: the document's reading of a word without quotes. -/
import Derived.Test.YthldbcngbkemnaaGo
import Derived.Test.YthldbcngbkemnaaRefSign
namespace Go.Proofs.Ythldbcngbkemnaa
open Go.RowKit
open Drawbar Drawbar.Line Drawbar.Sign

set_option maxHeartbeats 1000000 in
theorem blank_any (r : Nat) (w : World) :
    Calls Try.prog 21 #[.int .i64 (r : Int)] w fun e w' => e = .returned (.bool (isPart r)) ∧ w = w' := by
  by_cases h1 : r = 32
  · subst h1
    go_enter Try.func21, Try.ntmps21
    go_wp2
    all_goals go_ret
    all_goals exact ⟨rfl, rfl⟩
  by_cases h2 : r = 9
  · subst h2
    go_enter Try.func21, Try.ntmps21
    go_wp2
    all_goals go_ret
    all_goals exact ⟨rfl, rfl⟩
  have e : isPart r = ((r : Int) == 12288) := by
    unfold isPart
    rw [Bool.eq_iff_iff]
    simp
    omega
  have i1 : ((r : Int) == 32) = false := by simp; omega
  have i2 : ((r : Int) == 9) = false := by simp; omega
  rw [e]
  clear e h1 h2
  go_enter Try.func21, Try.ntmps21
  go_wp2
  all_goals go_ret
  all_goals exact ⟨rfl, rfl⟩

/-- A reading of one word. -/
def Read1 (s : ByteArray) (i0 t : Nat) (w : World) (e : Ending) (w' : World) : Prop :=
  ∃ (x : ByteArray) (j er : Nat), e = .returned (.tuple #[.string x, .int .i64 (j : Nat), .int .i64 (er : Nat)]) ∧ Says s i0 t x j er ∧ w = w'

theorem said_ok {s : ByteArray} {i0 t : Nat} {x : ByteArray} {j : Nat} {w : World} (h1 : j ≤ s.size) (h2 : i0 < j) (h : ∀ out, goR s i0 ⟨out, [], t⟩ = goR s j ⟨out ++ [x], [], 0⟩) : Read1 s i0 t w (.returned (.tuple #[.string x, .int .i64 (j : Nat), .int .i64 0])) w :=
  ⟨x, j, 0, rfl, ⟨h1, by omega, fun _ => h2, fun out => by rw [if_pos rfl]; exact h out⟩, rfl⟩
theorem said_err {s : ByteArray} {i0 t : Nat} {j er : Nat} {w : World} (h1 : j ≤ s.size) (h2 : er ≠ 0) (h3 : er < 1000) (h : ∀ out, goR s i0 ⟨out, [], t⟩ = ([], j, er)) : Read1 s i0 t w (.returned (.tuple #[.string ⟨#[]⟩, .int .i64 (j : Nat), .int .i64 (er : Nat)])) w :=
  ⟨⟨#[]⟩, j, er, rfl, ⟨h1, h3, fun e => absurd e h2, fun out => by rw [if_neg h2]; exact h out⟩, rfl⟩

set_option maxRecDepth 1000000 in
set_option maxHeartbeats 2000000 in
theorem refbare_any (s : ByteArray) (hs : s.size ≤ 400) (i0 : Nat) (hi0 : i0 < s.size) (hz0 : (sgn s i0).1 ≠ 0) (hp0 : ¬ isPart (sgn s i0).2 = true) (hq0 : (sgn s i0).2 ≠ 34) (w : World) :
    Calls Try.prog 23 #[.string s, .int .i64 (i0 : Nat)] w (Read1 s i0 0 w) := by
  have HG0 := Lib.hid (fun out => goR_first s i0 hi0 hz0 hp0 hq0 out)
  have HP0 := Lib.hid hp0
  have hB := fun r => blank_any r
  go_enter Try.func23, Try.ntmps23
  clear hz0 hp0 hq0
  go_wp2
  go_loop [1, 7] (fun i x => ∃ (p : Nat) (wd : List Nat), i = .int .i64 p ∧ x = .string (strOf wd) ∧ i0 ≤ p ∧ p ≤ s.size ∧ wd.length ≤ 200 ∧ Hid (∀ out, goR s i0 ⟨out, [], 0⟩ = goR s p ⟨out, wd, 1⟩)) (fun i _ => s.size - (intOf i).toNat)
  case atStart => exact ⟨i0, [], rfl, rfl, Nat.le_refl _, Nat.le_of_lt hi0, by simp, Lib.hid HG0.out⟩
  case round =>
    obtain ⟨p, wd, rfl, rfl, hip, hps, hwd, HG⟩ := hrel
    have hxs : (strOf wd).size = wd.length := size_str wd
    by_cases hp : p < s.size
    · have hS := sign_any s p hp (by omega)
      have hle := sgn_le s p hp
      have hst := fun l => goR_step s p l hp
      have hex := sgn_extract s p hp
      have hrl := sgn_rlen s p
      have hbe := fun out => bare_ends s p wd out
      by_cases hz : (sgn s p).1 = 0
      · have HF := Lib.hid (said_err (w := w) (er := 14) (Nat.le_of_lt hp) (by omega) (by omega) fun out => by rw [HG.out out, hst, if_pos hz])
        rw [hz] at hS
        clear hst hex hrl hbe hle hz
        go_wp2_with (go_at_call 20; refine (hS _).mono ?_; rintro e w2 ⟨rfl, rfl⟩)
        go_ret3
        exact HF.out
      · by_cases hpt : isPart (sgn s p).2 = true
        · have hne : i0 < p := by
            rcases Nat.lt_or_ge i0 p with h | h
            · exact h
            · obtain rfl : i0 = p := by omega
              exact absurd hpt HP0.out
          have HF := Lib.hid (said_ok (w := w) (x := strOf wd) (Nat.le_of_lt hp) hne fun out => by rw [HG.out out]; exact hbe out fun _ => ⟨hz, hpt⟩)
          have hb := hB (sgn s p).2
          rw [hpt] at hb
          generalize (sgn s p).2 = c at *
          generalize (sgn s p).1 = n at *
          have i1 : 0 < n := by omega
          clear hst hex hrl hbe hle hz hpt hB
          go_wp2_with (first | (go_at_call 20; refine (hS _).mono ?_; rintro e w2 ⟨rfl, rfl⟩) | (go_at_call 21; refine (hb _).mono ?_; rintro e w2 ⟨rfl, rfl⟩))
          go_ret3
          exact HF.out
        · have hb := hB (sgn s p).2
          rw [Bool.eq_false_iff.2 hpt] at hb
          have htk := fun out => take_bare out wd (sgn s p).2
          have he := hex hz
          have hr := (hrl hz).1
          have hr4 := (rlen_le (sgn s p).2)
          have hg := fun out => (HG.out out).trans (hst ⟨out, wd, 1⟩)
          simp only [htk, if_neg hz, if_neg hpt] at hg
          have hle1 := hle.1
          clear hst hex hrl hbe hle hB htk
          have hys : (strOf (enc (sgn s p).2)).size = rlen (sgn s p).2 := by rw [size_str, enc_length]
          have hcat : strOf wd ++ strOf (enc (sgn s p).2) = strOf (wd ++ enc (sgn s p).2) := (str_app _ _).symm
          have hlw : (wd ++ enc (sgn s p).2).length = wd.length + rlen (sgn s p).2 := by rw [List.length_append, enc_length]
          by_cases hbad : (sgn s p).2 < 32 ∨ (sgn s p).2 = 34 ∨ (sgn s p).2 = 127
          · have HF := Lib.hid (said_err (w := w) (er := 14) (Nat.le_of_lt hp) (by omega) (by omega) fun out => by rw [hg out, if_pos hbad]; rfl)
            clear hg he hcat
            generalize (sgn s p).2 = c at *
            generalize (sgn s p).1 = n at *
            have i1 : 0 < n := by omega
            have i2 : ((n : Int) == 0) = false := by simp; omega
            by_cases h32 : c < 32
            · have i3 : decide ((c : Int) < 32) = true := by simp; omega
              clear hz hpt hbad h32
              go_wp2_with (first | (go_at_call 20; refine (hS _).mono ?_; rintro e w2 ⟨rfl, rfl⟩) | (go_at_call 21; refine (hb _).mono ?_; rintro e w2 ⟨rfl, rfl⟩))
              go_ret3
              exact HF.out
            · have i3 : decide ((c : Int) < 32) = false := by simp; omega
              have hq := hbad.resolve_left h32
              clear hz hpt hbad h32
              rcases hq with rfl | rfl
              · go_wp2_with (first | (go_at_call 20; refine (hS _).mono ?_; rintro e w2 ⟨rfl, rfl⟩) | (go_at_call 21; refine (hb _).mono ?_; rintro e w2 ⟨rfl, rfl⟩))
                go_ret3
                exact HF.out
              · go_wp2_with (first | (go_at_call 20; refine (hS _).mono ?_; rintro e w2 ⟨rfl, rfl⟩) | (go_at_call 21; refine (hb _).mono ?_; rintro e w2 ⟨rfl, rfl⟩))
                go_ret3
                exact HF.out
          · simp only [if_neg hbad] at hg
            have h3 : ¬ (sgn s p).2 < 32 ∧ (sgn s p).2 ≠ 34 ∧ (sgn s p).2 ≠ 127 := by omega
            clear hbad
            by_cases hlong : 200 < wd.length + rlen (sgn s p).2
            · have HF := Lib.hid (said_err (w := w) (er := 2) (Nat.le_of_lt hp) (by omega) (by omega) fun out => by rw [hg out, if_pos hlong]; rfl)
              rw [← hxs, ← hys] at hlong
              have hyr := hys
              rw [← he] at hlong hyr
              generalize hY : s.extract p (p + (sgn s p).1) = Y at *
              generalize (sgn s p).2 = c at *
              generalize (sgn s p).1 = n at *
              have i1 : 0 < n := by omega
              have i2 : ((n : Int) == 0) = false := by simp; omega
              have i3 : decide ((c : Int) < 32) = false := by simp; omega
              have i4 : ((c : Int) == 34) = false := by simp; omega
              have i5 : ((c : Int) == 127) = false := by simp; omega
              have hY4 : Y.size ≤ 4 := by omega
              clear hz hpt hg he hcat hr4 hlw hr
              have j1 : ¬ 9223372036854775807 < (strOf wd).size + Y.size := by omega
              have j2 : (strOf wd ++ Y).size = (strOf wd).size + Y.size := size_app _ _
              have j3 : (200 : Int) < ((strOf wd).size : Int) + (Y.size : Int) := by omega
              go_wp2_with (first | (go_at_call 20; refine (hS _).mono ?_; rintro e w2 ⟨rfl, rfl⟩) | (go_at_call 21; refine (hb _).mono ?_; rintro e w2 ⟨rfl, rfl⟩))
              go_ret3
              exact HF.out
            · have HG2 : Hid (∀ out, goR s i0 ⟨out, [], 0⟩ = goR s (p + (sgn s p).1) ⟨out, wd ++ enc (sgn s p).2, 1⟩) := Lib.hid fun out => by rw [hg out, if_neg hlong]; rfl
              have HC : Hid (strOf wd ++ s.extract p (p + (sgn s p).1) = strOf (wd ++ enc (sgn s p).2)) := Lib.hid (by rw [he, hcat])
              rw [← hxs, ← hys] at hlong
              have hyr := hys
              rw [← he] at hlong hyr
              clear hg he hcat
              generalize hY : s.extract p (p + (sgn s p).1) = Y at *
              generalize wd ++ enc (sgn s p).2 = wd2 at *
              generalize (sgn s p).2 = c at *
              generalize (sgn s p).1 = n at *
              have i1 : 0 < n := by omega
              have i2 : ((n : Int) == 0) = false := by simp; omega
              have i3 : decide ((c : Int) < 32) = false := by simp; omega
              have i4 : ((c : Int) == 34) = false := by simp; omega
              have i5 : ((c : Int) == 127) = false := by simp; omega
              clear hz hpt hr
              have j1 : ¬ 9223372036854775807 < (strOf wd).size + Y.size := by omega
              have j2 : (strOf wd ++ Y).size = (strOf wd).size + Y.size := size_app _ _
              have j3 : ¬ (200 : Int) < ((strOf wd).size : Int) + (Y.size : Int) := by omega
              go_wp2_with (first | (go_at_call 20; refine (hS _).mono ?_; rintro e w2 ⟨rfl, rfl⟩) | (go_at_call 21; refine (hb _).mono ?_; rintro e w2 ⟨rfl, rfl⟩))
              go_round
              case rel => exact ⟨p + n, wd2, by go_num, by rw [HC.out], by omega, by omega, by omega, HG2⟩
              case measure => simp [intOf]; omega
    · obtain rfl : p = s.size := by omega
      have HF := Lib.hid (said_ok (w := w) (x := strOf wd) (Nat.le_refl _) hi0 fun out => by rw [HG.out out]; exact bare_ends s s.size wd out fun h => absurd h (by omega))
      clear hB
      go_wp2
      go_ret3
      exact HF.out
end Go.Proofs.Ythldbcngbkemnaa
