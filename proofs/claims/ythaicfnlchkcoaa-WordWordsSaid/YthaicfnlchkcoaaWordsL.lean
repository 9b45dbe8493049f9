/- The walk of WordWords. -/
import Derived.Test.YthaicfnlchkcoaaRefWords
import Derived.Test.YthaicfnlchkcoaaSignsW
namespace Go.Proofs.Ythaicfnlchkcoaa
open Go.RowKit
open Drawbar Drawbar.Line Drawbar.Sign

set_option maxHeartbeats 1000000 in
theorem wordsl_any (s : ByteArray) (W : World) : Calls Try.prog 3 #[.string s] W (Yes W) := by
  have HA := Lib.hid awake_any
  have hle := wordsR_le s
  have HX := Lib.hid (fun w => words_any s w)
  have HY := Lib.hid (fun w => refwords_any s w)
  generalize wordsR s = R at hle HX HY
  obtain ⟨l, at', e⟩ := R
  have HS := Lib.hid (fun a1 a2 c1 c2 w h1 h2 => same_self l (Nat.le_trans hle.1 (by omega)) l.length rfl a1 a2 c1 c2 w h1 h2)
  clear hle
  go_enter Try.func3, Try.ntmps3
  go_wp2_with (first | (go_at_call 11; (with_reducible refine (HA.out W).mono ?_); rintro e1 w2 ⟨rfl, hb⟩) | (go_at_call 12; (with_reducible refine (HX.out w2).mono ?_); intro e1 w3 ht; obtain ⟨a1, c1, rfl, hl1, hb3⟩ := told_lst ht; clear ht) | (go_at_call 13; (with_reducible refine (HY.out w3).mono ?_); intro e1 w4 ht; obtain ⟨a2, c2, rfl, hl2, hb4⟩ := told_lst ht; clear ht) | (go_at_call 14; (with_reducible refine (HS.out a1 a2 c1 c2 w4 (hl1.below hb4).rd hl2.rd).mono ?_); rintro e1 w5 ⟨rfl, hb5⟩))
  go_ret
  exact ⟨by first | rfl | simp, below_step (below3 hb hb3 hb4) hb5⟩
end Go.Proofs.Ythaicfnlchkcoaa
