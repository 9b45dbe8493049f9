/- The contracts of (*line).take and what it calls. -/
import Derived.Test.YthldbcngbkemnaaPart
import Derived.Test.YthldbcngbkemnaaBare
namespace Go.Proofs.Ythldbcngbkemnaa
open Go.RowKit
open Drawbar Drawbar.Line

theorem plain_eq (r : Nat) : plain r = isPlain r := by
  unfold plain isPlain
  rw [Bool.eq_iff_iff]
  simp
  omega

set_option maxHeartbeats 1000000 in
theorem parts_any (r : Nat) (w : World) :
    Calls Try.prog 31 #[.int .i32 (r : Int)] w fun e w' => e = .returned (.bool (isPart r)) ∧ w = w' := by
  by_cases h1 : r = 32
  · subst h1
    go_enter Try.func31, Try.ntmps31
    go_wp2
    all_goals go_ret
    all_goals exact ⟨rfl, rfl⟩
  by_cases h2 : r = 9
  · subst h2
    go_enter Try.func31, Try.ntmps31
    go_wp2
    all_goals go_ret
    all_goals exact ⟨rfl, rfl⟩
  have e : isPart r = ((r : Int) == 12288) := by
    unfold isPart
    rw [Bool.eq_iff_iff]
    simp
    omega
  have i1 : ((r : Int) == 32) = false := by simp; omega
  have i2 : ((r : Int) == 9) = false := by simp; omega
  rw [e]
  clear e h1 h2
  go_enter Try.func31, Try.ntmps31
  go_wp2
  all_goals go_ret
  all_goals exact ⟨rfl, rfl⟩

section
variable {W : World} {B bl : Nat} {v1 v2 : Value} {l : Ln}

theorem LineIn.sets (h : LineIn W B bl v1 v2 l) (x : Nat) (hx : x < 5) (n : Nat) {W0 : World} (ht : Turned B W0 W) : Took W0 B bl (n, { l with at' := x }) (.returned (.int .i64 (n : Nat))) (W.setCell ⟨bl, 2, none⟩ (.int .u8 x)) :=
  ⟨rfl, ⟨_, _, h.setAt x hx⟩, ht.setCell h.base _ _ h.c2⟩
theorem Took.from {W0 W1 : World} {r : Nat × Ln} {e : Ending} {W' : World} (ht : Turned B W0 W1) (h : Took W1 B bl r e W') : Took W0 B bl r e W' := ⟨h.1, h.2.1, ht.trans h.2.2⟩

theorem quoted_any (h : LineIn W B bl v1 v2 l) (hB : B ≤ W.heap.size) (r : Nat) (hv : Utf8.valid (r : Int) = true) :
    Calls Try.prog 29 #[.pointer (some ⟨bl, 0, none⟩), .int .i32 r] W (Took W B bl (l.takeQuoted r)) := by
  have hc2 := h.c2
  have hf2 := h.fz 2
  have hA := add_any h hB r hv
  unfold Ln.takeQuoted
  by_cases h1 : r = 34
  · rw [if_pos h1]
    subst h1
    have HF := Lib.hid (h.sets 4 (by omega) 0 (Turned.refl _ _))
    generalize Took W B bl _ = P at HF ⊢
    clear h hA
    go_enter Try.func29, Try.ntmps29
    go_wp2
    exact HF.out
  rw [if_neg h1]
  by_cases h2 : r = 92
  · rw [if_pos h2]
    subst h2
    have HF := Lib.hid (h.sets 3 (by omega) 0 (Turned.refl _ _))
    generalize Took W B bl _ = P at HF ⊢
    clear h hA
    go_enter Try.func29, Try.ntmps29
    go_wp2
    exact HF.out
  rw [if_neg h2]
  have i1 : ((r : Int) == 34) = false := by simp; omega
  have i2 : ((r : Int) == 92) = false := by simp; omega
  by_cases h3 : r < 32
  · rw [if_pos h3]
    have HF := Lib.hid (show Took W B bl (14, l) (.returned (.int .i64 14)) W from ⟨rfl, ⟨_, _, h⟩, Turned.refl _ _⟩)
    generalize Took W B bl _ = P at HF ⊢
    have i3 : decide ((r : Int) < 32) = true := by simp; omega
    clear h hA h1 h2 h3
    go_enter Try.func29, Try.ntmps29
    go_wp2
    exact HF.out
  · rw [if_neg h3]
    have HF := Lib.hid hA
    generalize hr : l.add r = R at HF ⊢
    have HS := Lib.hid (fun e W' (hw : Took W B bl R e W') => hw.1)
    generalize Took W B bl _ = P at HF HS ⊢
    have i3 : decide ((r : Int) < 32) = false := by simp; omega
    clear h hA h1 h2 h3 hr
    go_enter Try.func29, Try.ntmps29
    go_wp2_with (go_at_call 33; refine HF.out.mono ?_; rintro e W' hw; obtain rfl := HS.out _ _ hw; have HW := Lib.hid hw; clear hw)
    exact HW.out

theorem slashed_any (h : LineIn W B bl v1 v2 l) (hB : B ≤ W.heap.size) (r : Nat) (hv : Utf8.valid (r : Int) = true) :
    Calls Try.prog 30 #[.pointer (some ⟨bl, 0, none⟩), .int .i32 r] W (Took W B bl (l.takeSlashed r)) := by
  have hc2 := h.c2
  have hf2 := h.fz 2
  have hs := h.setAt 2 (by omega)
  have ht : Turned B W (W.setCell ⟨bl, 2, none⟩ (.int .u8 2)) := (Turned.refl B W).setCell h.base _ _ h.c2
  have hB2 : B ≤ (W.setCell ⟨bl, 2, none⟩ (.int .u8 2)).heap.size := Nat.le_trans hB ht.below.size
  have hA := add_any hs hB2 r hv
  have hA10 := add_any hs hB2 10 (by decide)
  have hA9 := add_any hs hB2 9 (by decide)
  unfold Ln.takeSlashed
  by_cases h1 : r = 34 ∨ r = 92
  · rw [if_pos h1]
    have HF := Lib.hid (hA.mono fun e W' hw => hw.from ht)
    generalize hr : Ln.add _ r = R at HF ⊢
    have HS := Lib.hid (fun e W' (hw : Took W B bl R e W') => hw.1)
    generalize Took W B bl _ = P at HF HS ⊢
    rcases h1 with rfl | rfl
    · clear h hA hA10 hA9 hs ht hB2 hr
      go_enter Try.func30, Try.ntmps30
      go_wp2_with (go_at_call 33; refine HF.out.mono ?_; rintro e W' hw; obtain rfl := HS.out _ _ hw; have HW := Lib.hid hw; clear hw)
      exact HW.out
    · clear h hA hA10 hA9 hs ht hB2 hr
      go_enter Try.func30, Try.ntmps30
      go_wp2_with (go_at_call 33; refine HF.out.mono ?_; rintro e W' hw; obtain rfl := HS.out _ _ hw; have HW := Lib.hid hw; clear hw)
      exact HW.out
  rw [if_neg h1]
  have i1 : ((r : Int) == 34) = false := by simp; omega
  have i2 : ((r : Int) == 92) = false := by simp; omega
  by_cases h2 : r = 110
  · rw [if_pos h2]
    subst h2
    have HF := Lib.hid (hA10.mono fun e W' hw => hw.from ht)
    generalize hr : Ln.add _ 10 = R at HF ⊢
    have HS := Lib.hid (fun e W' (hw : Took W B bl R e W') => hw.1)
    generalize Took W B bl _ = P at HF HS ⊢
    clear h hA hA10 hA9 hs ht hB2 hr
    go_enter Try.func30, Try.ntmps30
    go_wp2_with (go_at_call 33; refine HF.out.mono ?_; rintro e W' hw; obtain rfl := HS.out _ _ hw; have HW := Lib.hid hw; clear hw)
    exact HW.out
  rw [if_neg h2]
  by_cases h3 : r = 116
  · rw [if_pos h3]
    subst h3
    have HF := Lib.hid (hA9.mono fun e W' hw => hw.from ht)
    generalize hr : Ln.add _ 9 = R at HF ⊢
    have HS := Lib.hid (fun e W' (hw : Took W B bl R e W') => hw.1)
    generalize Took W B bl _ = P at HF HS ⊢
    clear h hA hA10 hA9 hs ht hB2 hr
    go_enter Try.func30, Try.ntmps30
    go_wp2_with (go_at_call 33; refine HF.out.mono ?_; rintro e W' hw; obtain rfl := HS.out _ _ hw; have HW := Lib.hid hw; clear hw)
    exact HW.out
  · rw [if_neg h3]
    have HF := Lib.hid (h.sets 2 (by omega) 14 (Turned.refl _ _))
    generalize Took W B bl _ = P at HF ⊢
    have i3 : ((r : Int) == 110) = false := by simp; omega
    have i4 : ((r : Int) == 116) = false := by simp; omega
    clear h hA hA10 hA9 hs ht hB2 h1 h2 h3
    go_enter Try.func30, Try.ntmps30
    go_wp2
    exact HF.out
set_option maxHeartbeats 1000000 in
theorem take_any (h : LineIn W B bl v1 v2 l) (hB : B ≤ W.heap.size) (hl : l.words.length ≤ 1000) (r : Nat) (hv : Utf8.valid (r : Int) = true) :
    Calls Try.prog 18 #[.pointer (some ⟨bl, 0, none⟩), .int .i32 r] W (Took W B bl (l.take r)) := by
  have hc2 := h.c2
  have hf2 := h.fz 2
  have h5 := h.at5
  unfold Ln.take
  by_cases h2 : l.at' = 2
  · rw [if_pos h2]
    have HF := Lib.hid (quoted_any h hB r hv)
    generalize hr : l.takeQuoted r = R at HF ⊢
    have HS := Lib.hid (fun e W' (hw : Took W B bl R e W') => hw.1)
    generalize Took W B bl _ = P at HF HS ⊢
    rw [h2] at hc2
    clear h hr
    go_enter Try.func18, Try.ntmps18
    go_wp2_with (go_at_call 29; refine HF.out.mono ?_; rintro e W' hw; obtain rfl := HS.out _ _ hw; have HW := Lib.hid hw; clear hw)
    exact HW.out
  rw [if_neg h2]
  by_cases h3 : l.at' = 3
  · rw [if_pos h3]
    have HF := Lib.hid (slashed_any h hB r hv)
    generalize hr : l.takeSlashed r = R at HF ⊢
    have HS := Lib.hid (fun e W' (hw : Took W B bl R e W') => hw.1)
    generalize Took W B bl _ = P at HF HS ⊢
    rw [h3] at hc2
    clear h hr
    go_enter Try.func18, Try.ntmps18
    go_wp2_with (go_at_call 30; refine HF.out.mono ?_; rintro e W' hw; obtain rfl := HS.out _ _ hw; have HW := Lib.hid hw; clear hw)
    exact HW.out
  rw [if_neg h3]
  have i2 : ((l.at' : Int) == 2) = false := by simp; omega
  have i3 : ((l.at' : Int) == 3) = false := by simp; omega
  have hPA := parts_any r
  unfold Ln.takeBare
  by_cases h4 : isPart r = true
  · rw [if_pos h4]
    rw [h4] at hPA
    have HPA := Lib.hid hPA
    have HP := Lib.hid (part_any h hB hl)
    have HF := Lib.hid (fun W' (hw : Went W B bl l.part (.returned (.tuple #[])) W') => show Took W B bl (0, l.part) (.returned (.int .i64 0)) W' from ⟨rfl, hw.2⟩)
    generalize Took W B bl _ = P at HF ⊢
    clear h hPA h4 h2 h3
    go_enter Try.func18, Try.ntmps18
    go_wp2_with (first | (go_at_call 31; refine (HPA.out _).mono ?_; rintro e W' ⟨rfl, rfl⟩) | (go_at_call 32; refine HP.out.mono ?_; rintro e W' hw; obtain rfl := hw.1; have HW := Lib.hid (HF.out _ hw); clear hw))
    exact HW.out
  rw [if_neg h4]
  have h4' : isPart r = false := by simpa using h4
  rw [h4'] at hPA
  have HPA := Lib.hid hPA
  by_cases h6 : r = 34 ∧ l.at' = 0
  · rw [if_pos h6]
    obtain ⟨rfl, h7⟩ := h6
    rw [h7] at hc2 i2 i3
    have HF := Lib.hid (h.sets 2 (by omega) 0 (Turned.refl _ _))
    generalize Took W B bl _ = P at HF ⊢
    clear h hPA h4 h2 h3
    go_enter Try.func18, Try.ntmps18
    go_wp2_with (go_at_call 31; refine (HPA.out _).mono ?_; rintro e W' ⟨rfl, rfl⟩)
    exact HF.out
  rw [if_neg h6]
  have hPL := plain_any r
  rw [plain_eq] at hPL
  have HPL := Lib.hid hPL
  clear hPL hPA
  by_cases h7 : l.at' = 4 ∨ isPlain r = false
  · rw [if_pos h7]
    have HF := Lib.hid (show Took W B bl (14, l) (.returned (.int .i64 14)) W from ⟨rfl, ⟨_, _, h⟩, Turned.refl _ _⟩)
    generalize Took W B bl _ = P at HF ⊢
    by_cases h8 : r = 34
    · subst h8
      have h0 : ¬ l.at' = 0 := fun e => h6 ⟨rfl, e⟩
      have i0 : ((l.at' : Int) == 0) = false := by simp; omega
      rcases h7 with h9 | h9
      · rw [h9] at hc2 i2 i3 i0
        clear h h4 h2 h3 h6 h0 h9
        go_enter Try.func18, Try.ntmps18
        go_wp2_with (first | (go_at_call 31; refine (HPA.out _).mono ?_; rintro e W' ⟨rfl, rfl⟩) | (go_at_call 25; refine (HPL.out _).mono ?_; rintro e W' ⟨rfl, rfl⟩))
        exact HF.out
      · rw [h9] at HPL
        by_cases h10 : l.at' = 4
        · rw [h10] at hc2 i2 i3 i0
          clear h h4 h2 h3 h6 h0 h9 h10
          go_enter Try.func18, Try.ntmps18
          go_wp2_with (first | (go_at_call 31; refine (HPA.out _).mono ?_; rintro e W' ⟨rfl, rfl⟩) | (go_at_call 25; refine (HPL.out _).mono ?_; rintro e W' ⟨rfl, rfl⟩))
          exact HF.out
        · have i4 : ((l.at' : Int) == 4) = false := by simp; omega
          clear h h4 h2 h3 h6 h0 h9 h10
          go_enter Try.func18, Try.ntmps18
          go_wp2_with (first | (go_at_call 31; refine (HPA.out _).mono ?_; rintro e W' ⟨rfl, rfl⟩) | (go_at_call 25; refine (HPL.out _).mono ?_; rintro e W' ⟨rfl, rfl⟩))
          exact HF.out
    · have i8 : ((r : Int) == 34) = false := by simp; omega
      by_cases h10 : l.at' = 4
      · rw [h10] at hc2 i2 i3
        clear h h4 h2 h3 h6 h7 h8 h10
        go_enter Try.func18, Try.ntmps18
        go_wp2_with (first | (go_at_call 31; refine (HPA.out _).mono ?_; rintro e W' ⟨rfl, rfl⟩) | (go_at_call 25; refine (HPL.out _).mono ?_; rintro e W' ⟨rfl, rfl⟩))
        exact HF.out
      · have h9 : isPlain r = false := h7.resolve_left h10
        rw [h9] at HPL
        have i4 : ((l.at' : Int) == 4) = false := by simp; omega
        clear h h4 h2 h3 h6 h7 h8 h9 h10
        go_enter Try.func18, Try.ntmps18
        go_wp2_with (first | (go_at_call 31; refine (HPA.out _).mono ?_; rintro e W' ⟨rfl, rfl⟩) | (go_at_call 25; refine (HPL.out _).mono ?_; rintro e W' ⟨rfl, rfl⟩))
        exact HF.out
  · rw [if_neg h7]
    have h10 : ¬ l.at' = 4 := fun e => h7 (.inl e)
    have h9 : isPlain r = true := by
      cases hq : isPlain r with
      | true => rfl
      | false => exact absurd (.inr hq) h7
    have h8 : ¬ r = 34 := by
      rintro rfl
      revert h9
      decide
    rw [h9] at HPL
    have i4 : ((l.at' : Int) == 4) = false := by simp; omega
    have i8 : ((r : Int) == 34) = false := by simp; omega
    have hs := h.setAt 1 (by omega)
    have ht : Turned B W (W.setCell ⟨bl, 2, none⟩ (.int .u8 1)) := (Turned.refl B W).setCell h.base _ _ h.c2
    have hB2 : B ≤ (W.setCell ⟨bl, 2, none⟩ (.int .u8 1)).heap.size := Nat.le_trans hB ht.below.size
    have HF := Lib.hid ((add_any hs hB2 r hv).mono fun e W' hw => hw.from ht)
    generalize hr : Ln.add _ r = R at HF ⊢
    have HS := Lib.hid (fun e W' (hw : Took W B bl R e W') => hw.1)
    generalize Took W B bl _ = P at HF HS ⊢
    clear h h4 h2 h3 h6 h7 h8 h9 h10 hs ht hB2 hr
    go_enter Try.func18, Try.ntmps18
    go_wp2_with (first | (go_at_call 31; refine (HPA.out _).mono ?_; rintro e W' ⟨rfl, rfl⟩) | (go_at_call 25; refine (HPL.out _).mono ?_; rintro e W' ⟨rfl, rfl⟩) | (go_at_call 33; refine HF.out.mono ?_; rintro e W' hw; obtain rfl := HS.out _ _ hw; have HW := Lib.hid hw; clear hw))
    exact HW.out
end
end Go.Proofs.Ythldbcngbkemnaa
