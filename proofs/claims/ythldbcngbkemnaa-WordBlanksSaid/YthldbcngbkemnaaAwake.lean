/- drawbarlaw02.awake answers true. -/
import Derived.Test.YthldbcngbkemnaaSame
import Derived.KernelRfl
namespace Go.Proofs.Ythldbcngbkemnaa
open Go.RowKit
open Drawbar Drawbar.Line Drawbar.Sign

theorem awake_words : wordsR ⟨#[119, 114, 105, 116, 101, 32, 51, 32, 34, 97, 32, 98, 34]⟩ = ([⟨#[119, 114, 105, 116, 101]⟩, ⟨#[51]⟩, ⟨#[97, 32, 98]⟩], 0, 0) := by kernel_rfl

theorem awake_any (w : World) : Calls Try.prog 5 #[] w (Yes w) := by
  have hW := words_any ⟨#[119, 114, 105, 116, 101, 32, 51, 32, 34, 97, 32, 98, 34]⟩ w
  rw [awake_words] at hW
  have HW := Lib.hid (hW.mono fun e W' (h : Told w _ e W') => show ∃ g cap, e = .returned (.tuple #[.slice (some ⟨g, 0, none⟩) 3 cap, .int .i64 0, .int .i64 0]) ∧ W'.cell? ⟨g, 2, none⟩ = some (.string ⟨#[97, 32, 98]⟩) ∧ Below w.heap.size w W' from by
    obtain ⟨a, cap, rfl, hown, hb⟩ := h
    obtain ⟨g, off, rfl, hc⟩ := rdS_of_own hown (by simp)
    have h2 := hc 2 (by simp)
    obtain rfl : off = 0 := by
      rcases hown.2 with ⟨e, _⟩ | ⟨g2, cap', cur, e, _⟩
      · cases e
      · cases e; rfl
    exact ⟨g, cap, rfl, by rw [Nat.zero_add] at h2; exact h2, hb⟩)
  clear hW
  go_enter Try.func5, Try.ntmps5
  go_wp2_with (go_at_call 9; refine HW.out.mono ?_; rintro e w2 ⟨g, cap, rfl, hc, hb⟩)
  go_ret
  exact ⟨rfl, hb⟩
end Go.Proofs.Ythldbcngbkemnaa
