/- The walk of the law OctetNil: a nil reader has a fault, and nothing. -/
import Derived.Test.YtopmljbemogcoaaDoorGets
import Derived.WalkSpells
namespace Go.Proofs.YtopmljbemogcoaaDoor
open Go.RowKit
open Drawbar

theorem bad_nil (w : World) : Calls Tryd.prog 41 #[.pointer none] w fun e w' => e = .returned (.bool true) ∧ w = w' := by
  go_enter Tryd.func41, Tryd.ntmps41
  go_wp2
  go_ret
  exact ⟨rfl, rfl⟩

theorem next_nil (n m : Int) (w : World) : Calls Tryd.prog 40 #[.pointer none, .int .i64 n, .int .i64 m] w fun e w' => e = .returned (.slice none 0 0) ∧ w = w' := by
  go_enter Tryd.func40, Tryd.ntmps40
  go_wp2_with (go_at_call 41; refine (bad_nil _).mono ?_; rintro e w' ⟨rfl, rfl⟩)
  go_ret
  exact ⟨rfl, rfl⟩

theorem get_nil (w : World) : Calls Tryd.prog 34 #[.slice none 0 0] w fun e w' => e = .returned (.int .u64 0) ∧ w = w' := get_any [] none 0 w (rd_nil w)

theorem num_nil (n : Int) (m : Nat) (w : World) : Calls Tryd.prog 37 #[.pointer none, .int .i64 n, .int .u64 m] w fun e w' => e = .returned (.int .u64 0) ∧ w = w' := by
  have hm : ¬ (m : Int) < 0 := by omega
  go_enter Tryd.func37, Tryd.ntmps37
  go_wp2_with fail
  refine (next_nil _ _ _).mono ?_
  rintro e w' ⟨rfl, rfl⟩
  go_wp2_with fail
  refine (get_nil _).mono ?_
  rintro e w' ⟨rfl, rfl⟩
  go_wp2
  go_ret
  exact ⟨rfl, rfl⟩

/-- New memory that reads as these bytes, or none. -/
def BytesAre (w : World) (l : List Nat) (e : Ending) (w' : World) : Prop :=
  ∃ a cap, e = .returned (.slice a l.length cap) ∧ l.length ≤ cap ∧ Rd w' a l ∧ Below w.heap.size w w'

theorem clone_nil (w : World) : Calls Tryd.prog 35 #[.slice none 0 0] w fun e w' => e = .returned (.slice none 0 0) ∧ w = w' := by
  have he := Lib.run_eql_slice_nil (P := Tryd.prog) w 23 5 none 0 0 0 0 Tryd.underlying23
  go_enter Tryd.func35, Tryd.ntmps35
  go_wp2
  go_ret
  exact ⟨rfl, rfl⟩

theorem clone_any (l : List Nat) (a : Option Addr) (cap : Nat) (w : World) (hr : Rd w a l) (hnil : a = none → cap = 0) : Calls Tryd.prog 35 #[.slice a l.length cap] w (BytesAre w l) := by
  cases a with
  | none =>
    obtain rfl : l = [] := List.eq_nil_of_length_eq_zero (hr.ofNil rfl)
    rw [hnil rfl]
    exact (clone_nil w).mono fun e w' ⟨he, hw⟩ => ⟨none, 0, he, by simp, hw ▸ rd_nil w, hw ▸ Below.refl _ _⟩
  | some ad =>
    obtain ⟨i0, hi, hz0, hz1, hz2⟩ := info_parts info_u8
    have he := Lib.run_eql_slice_nil (P := Tryd.prog) w 23 5 (some ad) l.length cap 0 0 Tryd.underlying23
    have hat := hr.at
    have hlen := hr.2.1
    have hll := hr.1
    clear hr hnil
    go_enter Tryd.func35, Tryd.ntmps35
    go_wp2_with (at_builtin; refine wpList_append_tail rfl _ _ 23 rfl w.heap.size 5 i0 (.int .u8 0) 1 1 Tryd.underlying23 hi hz0 hz1 hz2 rfl (by decide) _ 0 [] rfl (.inr ⟨_, rfl, by simp, by simp, fun _ _ _ _ h => by simp at h⟩) (some ad) l.length cap (l.map bv) rfl (by simp) (by simp) (hat.alloc _) (bv_one l) ?c2 ?c3 ?c4 ?_)
    case c2 => unfold maxLen; omega
    case c3 => omega
    case c4 => simp
    intro v' w' h1 h2 h3
    have hB : Below w.heap.size w w' := ((Below.refl _ _).alloc (Nat.le_refl _) _).trans h3
    have hv : ∃ a cap, v' = .slice a l.length cap ∧ l.length ≤ cap ∧ Rd w' a l := by
      rcases Nat.eq_zero_or_pos l.length with h0 | h0
      · obtain rfl : l = [] := List.eq_nil_of_length_eq_zero h0
        rcases h1 with h1 | ⟨ao, e, _⟩
        · obtain ⟨a, c, rfl, hc, hrd, _⟩ := rd_of_own (l := []) (by simpa using h1) (by simp) (by simp)
          exact ⟨a, c, rfl, hc, hrd⟩
        · exact ⟨ao, 0, by simpa using e, by simp, rd_empty _ _⟩
      · obtain ⟨a, c, rfl, hc, hrd, _⟩ := rd_of_own (h2 h0) (by simpa using hll) (by simpa using hlen)
        exact ⟨a, c, by simp, by simpa using hc, by simpa using hrd⟩
    obtain ⟨a', c', rfl, hc', hrd'⟩ := hv
    clear h1 h2 h3
    go_wp2
    go_ret
    exact ⟨a', c', rfl, hc', hrd', hB⟩

theorem bytes_nil (m : Int) (w : World) : Calls Tryd.prog 38 #[.pointer none, .int .i64 m] w fun e w' => e = .returned (.slice none 0 0) ∧ w = w' := by
  go_enter Tryd.func38, Tryd.ntmps38
  go_wp2_with fail
  refine (num_nil 2 65535 _).mono ?_
  rintro e w' ⟨rfl, rfl⟩
  go_wp2_with fail
  refine (next_nil _ _ _).mono ?_
  rintro e w' ⟨rfl, rfl⟩
  go_wp2_with fail
  refine (clone_nil _).mono ?_
  rintro e w' ⟨rfl, rfl⟩
  go_wp2
  go_ret
  exact ⟨rfl, rfl⟩

end Go.Proofs.YtopmljbemogcoaaDoor
