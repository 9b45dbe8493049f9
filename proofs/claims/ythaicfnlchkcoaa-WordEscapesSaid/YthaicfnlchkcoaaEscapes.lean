/- The walk of WordEscapes. -/
import Derived.Test.YthaicfnlchkcoaaRefWords
import Derived.Test.YthaicfnlchkcoaaSignsW
namespace Go.Proofs.Ythaicfnlchkcoaa
open Go.RowKit
open Drawbar Drawbar.Line Drawbar.Sign

theorem escs : (List.range 256).all (fun c => ((wordsR ⟨#[34, 97, 92, UInt8.ofNat c, 34]⟩).2.2 == 0) == (c == 92 || c == 110 || c == 116 || c == 34)) = true := by kernel_rfl
theorem esc_one (c : Nat) (h : c < 256) : ((wordsR ⟨#[34, 97, 92, UInt8.ofNat c, 34]⟩).2.2 == 0) = (c == 92 || c == 110 || c == 116 || c == 34) := by
  have := List.all_eq_true.1 escs c (List.mem_range.2 h)
  exact eq_of_beq this
theorem rd_one (w : World) (c : Nat) (h : c < 256) : Rd (w.alloc (.cells #[.int .u8 c] 5)) (some ⟨w.heap.size, 0, none⟩) [c] := by
  refine ⟨by simpa using h, by simp, fun _ => ⟨_, _, rfl, fun i hi => ?_⟩⟩
  obtain rfl : i = 0 := by simpa using hi
  rw [World.cell?_alloc_mark]
  rfl

theorem below_alloc_self (w : World) (o : Obj) : Below w.heap.size w (w.alloc o) := (Below.refl _ _).alloc (Nat.le_refl _) o
theorem esc_below {w w3 w4 w5 w6 : World} {o o2 : Obj} (h3 : Below (w.alloc o).heap.size (w.alloc o) w3) (h4 : Below (w3.alloc o2).heap.size (w3.alloc o2) w4) (h5 : Below w4.heap.size w4 w5) (h6 : Below w5.heap.size w5 w6) : Below w.heap.size w w6 :=
  below_step (below_step (below_step (below_step (below_alloc_self w o) h3) (below_alloc_self w3 o2)) h4) (below_step h5 h6)

set_option maxRecDepth 100000 in
set_option maxHeartbeats 4000000 in
theorem escapes_any (c : Nat) (hc : c < 256) (W : World) : Calls Try.prog 10 #[.int .u8 c] W (Yes W) := by
  have HA := Lib.hid awake_any
  have hcv : ∀ w : World, (convert 33 9 (.slice (some ⟨w.heap.size, 0, none⟩) 1 1)).run Try.prog (w.alloc (.cells #[.int .u8 c] 5)) = .ok (.string (strOf [c])) (w.alloc (.cells #[.int .u8 c] 5)) := fun (w : World) => conv_str (w.alloc (.cells #[.int .u8 c] 5)) (some ⟨w.heap.size, 0, none⟩) [c] 1 (rd_one w c hc)
  have he := esc_one c hc
  have hs : ({ data := #[34, 97, 92] } : ByteArray) ++ strOf [c] ++ { data := #[34] } = ⟨#[34, 97, 92, UInt8.ofNat c, 34]⟩ := by
    apply str_ext
    simp [strOf]
  rw [← hs] at he
  have hsz : (strOf [c]).size = 1 := rfl
  generalize strOf [c] = X at *
  clear hs
  have HX := Lib.hid (fun w => words_any (({ data := #[34, 97, 92] } : ByteArray) ++ X ++ { data := #[34] }) w)
  have HY := Lib.hid (fun w => refwords_any (({ data := #[34, 97, 92] } : ByteArray) ++ X ++ { data := #[34] }) w)
  have hle := wordsR_le (({ data := #[34, 97, 92] } : ByteArray) ++ X ++ { data := #[34] })
  generalize wordsR _ = R at hle HX HY he
  obtain ⟨l, at', e⟩ := R
  have HS := Lib.hid (fun a1 a2 c1 c2 w h1 h2 => same_self l (Nat.le_trans hle.1 (by omega)) l.length rfl a1 a2 c1 c2 w h1 h2)
  have e1 : ({ data := #[34, 97, 92] } : ByteArray).size = 3 := rfl
  have e2 : ({ data := #[34] } : ByteArray).size = 1 := rfl
  have k1 : ¬ 9223372036854775807 < ({ data := #[34, 97, 92] } : ByteArray).size + X.size := by omega
  have k3 : ¬ 9223372036854775807 < (({ data := #[34, 97, 92] } : ByteArray) ++ X).size + ({ data := #[34] } : ByteArray).size := by rw [size_app]; omega
  have k5 : (({ data := #[34, 97, 92] } : ByteArray) ++ X).size = 4 := by rw [size_app]; omega
  clear hle
  dsimp only at he HX HY HS
  by_cases hin : c = 92 ∨ c = 110 ∨ c = 116 ∨ c = 34
  · have he0 : e = 0 := by
      have h2 : (c == 92 || c == 110 || c == 116 || c == 34) = true := by simpa [or_assoc] using hin
      rw [h2] at he
      simpa using he
    subst he0
    clear he hc
    rcases hin with rfl | rfl | rfl | rfl
    all_goals simp only [Int.cast_ofNat_Int] at hcv
    all_goals go_enter Try.func10, Try.ntmps10
    all_goals (go_wp2_with (first | (go_at_call 12; refine (HX.out _).mono ?_; intro e1 w3 ht; obtain ⟨a1, c1, rfl, hl1, hb3⟩ := told_lst ht; clear ht) | (go_at_call 13; refine (HY.out _).mono ?_; intro e1 w4 ht; obtain ⟨a2, c2, rfl, hl2, hb4⟩ := told_lst ht; clear ht) | (go_at_call 11; refine (HA.out _).mono ?_; rintro e1 w5 ⟨rfl, hb5⟩) | (go_at_call 14; (with_reducible refine (HS.out a1 a2 c1 c2 w5 (((hl1.below (below_alloc_self w3 _)).below hb4).below hb5).rd (hl2.below hb5).rd).mono ?_); rintro e1 w6 ⟨rfl, hb6⟩)))
    all_goals go_ret
    all_goals exact ⟨by first | rfl | simp, esc_below hb3 hb4 hb5 hb6⟩
  · have he0 : e ≠ 0 := by
      rintro rfl
      have h2 : (c == 92 || c == 110 || c == 116 || c == 34) = true := by rw [← he]; rfl
      exact hin (by simpa [or_assoc] using h2)
    have i0 : ((e : Int) == 0) = false := by simp; omega
    have i1 : ((c : Int) == 92) = false := by simp; omega
    have i2 : ((c : Int) == 110) = false := by simp; omega
    have i3 : ((c : Int) == 116) = false := by simp; omega
    have i4 : ((c : Int) == 34) = false := by simp; omega
    clear he hc hin he0
    go_enter Try.func10, Try.ntmps10
    (go_wp2_with (first | (go_at_call 12; refine (HX.out _).mono ?_; intro e1 w3 ht; obtain ⟨a1, c1, rfl, hl1, hb3⟩ := told_lst ht; clear ht) | (go_at_call 13; refine (HY.out _).mono ?_; intro e1 w4 ht; obtain ⟨a2, c2, rfl, hl2, hb4⟩ := told_lst ht; clear ht) | (go_at_call 11; refine (HA.out _).mono ?_; rintro e1 w5 ⟨rfl, hb5⟩) | (go_at_call 14; (with_reducible refine (HS.out a1 a2 c1 c2 w5 (((hl1.below (below_alloc_self w3 _)).below hb4).below hb5).rd (hl2.below hb5).rd).mono ?_); rintro e1 w6 ⟨rfl, hb6⟩)))
    go_ret
    exact ⟨by first | rfl | simp, esc_below hb3 hb4 hb5 hb6⟩
end Go.Proofs.Ythaicfnlchkcoaa
