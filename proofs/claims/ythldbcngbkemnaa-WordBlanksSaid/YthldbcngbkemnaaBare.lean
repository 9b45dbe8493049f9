/- word.isBare: are the signs of a text those of a word that needs no quotes? -/
import Derived.Test.YthldbcngbkemnaaProg
import Derived.Test.YthldbcngbkemnaaSign
import Derived.Test.YthldbcngbkemnaaEach
import Derived.WalkKit
import Derived.Handy
import Derived.Lib.Hide
import Derived.Lib.OthersKept
namespace Go.Proofs.Ythldbcngbkemnaa
open Go.RowKit
open Drawbar.Sign

/-- a sign that can stand in a word without quotes -/
def plain (r : Nat) : Bool := decide (32 < (r : Int)) && ((r : Int) != 127 && (r : Int) != 34 && (r : Int) != 12288)

set_option maxHeartbeats 1000000 in
theorem plain_any (r : Nat) (w : World) :
    Calls Try.prog 25 #[.int .i32 (r : Int)] w fun e w' => e = .returned (.bool (plain r)) ∧ w = w' := by
  by_cases h : 32 < (r : Int)
  · have e : plain r = ((r : Int) != 127 && (r : Int) != 34 && (r : Int) != 12288) := by simp only [plain, h, decide_true, Bool.true_and]
    rw [e]
    go_enter Try.func25, Try.ntmps25
    go_wp2
    all_goals go_ret
    all_goals first | exact ⟨rfl, rfl⟩ | (refine ⟨?_, rfl⟩; simp; omega)
  · have e : plain r = false := by simp only [plain, h, decide_false, Bool.false_and]
    rw [e]
    go_enter Try.func25, Try.ntmps25
    go_wp2
    all_goals go_ret
    all_goals first | exact ⟨rfl, rfl⟩ | (refine ⟨?_, rfl⟩; simp; omega)

def bstep (_ : Unit) (r : Nat) : Nat × Unit := if plain r = true ∧ r ≠ 92 then (0, ()) else (14, ())

theorem bstep_fst (r : Nat) : (bstep () r).1 = if plain r = true ∧ r ≠ 92 then 0 else 14 := by
  unfold bstep; split <;> rfl

theorem bstep_lt (r : Nat) : (bstep () r).1 < 1000 := by
  rw [bstep_fst]; split <;> decide

set_option maxHeartbeats 1000000 in
theorem bare1_any (r : Nat) (w : World) :
    Calls Try.prog 24 #[.int .i32 (r : Int)] w fun e w' => e = .returned (.int .i64 ((bstep () r).1 : Nat)) ∧ w = w' := by
  have hP := plain_any r
  rw [bstep_fst]
  by_cases h : plain r = true
  · rw [h] at hP ⊢
    by_cases h9 : r = 92
    · subst h9
      rw [if_neg (by simp)]
      go_enter Try.func24, Try.ntmps24
      go_wp2_with (go_at_call 25; refine (hP _).mono ?_; rintro e w2 ⟨rfl, rfl⟩)
      go_ret
      exact ⟨rfl, rfl⟩
    · have i9 : ¬ (r : Int) = 92 := by omega
      have i8 : ((r : Int) == 92) = false := by simpa using i9
      rw [if_pos ⟨rfl, h9⟩]
      go_enter Try.func24, Try.ntmps24
      go_wp2_with (go_at_call 25; refine (hP _).mono ?_; rintro e w2 ⟨rfl, rfl⟩)
      go_ret
      exact ⟨rfl, rfl⟩
  · have h : plain r = false := by simpa using h
    rw [h] at hP ⊢
    rw [if_neg (by simp)]
    go_enter Try.func24, Try.ntmps24
    go_wp2_with (go_at_call 25; refine (hP _).mono ?_; rintro e w2 ⟨rfl, rfl⟩)
    go_ret
    exact ⟨rfl, rfl⟩

/-- are all signs whole, and can stand without quotes? -/
def bareR (s : ByteArray) : Bool := decide ((eachR bstep s s.size 0 ()).1.2 = 0)

set_option maxRecDepth 1000000 in
set_option maxHeartbeats 1000000 in
theorem bare_any (s : ByteArray) (hs : s.size < 1000000) (w : World) :
    Calls Try.prog 13 #[.string s] w fun e w' => e = .returned (.bool (bareR s)) ∧ Below w.heap.size w w' := by
  have hEach := each_any bstep (fun _ W' => Below w.heap.size w W') 24 #[] s hs () w (fun _ _ => rfl) ((Below.refl _ _).alloc (Nat.le_refl _) _)
    (fun _ W2 p hi h p' => Lib.below_iterAt h (Nat.le_refl _) s p')
    (fun _ r => bstep_lt r)
    (fun _ W2 r p h hi _ _ => (bare1_any r W2).mono (by
      rintro e W3 ⟨rfl, rfl⟩
      exact ⟨rfl, h, hi⟩))
  have hb : bareR s = decide ((eachR bstep s s.size 0 ()).1.2 = 0) := rfl
  generalize bareR s = b at *
  generalize eachR bstep s s.size 0 () = R at *
  by_cases h : R.1.2 = 0
  · rw [decide_eq_true h] at hb
    subst hb
    rw [h] at hEach
    go_enter Try.func13, Try.ntmps13
    go_wp2_with (go_at_call 16; refine hEach.mono ?_; rintro e w2 ⟨rfl, hbl⟩)
    go_ret
    exact ⟨rfl, hbl⟩
  · rw [decide_eq_false h] at hb
    subst hb
    have i9 : ¬ ((R.1.2 : Nat) : Int) = 0 := by omega
    have i8 : (((R.1.2 : Nat) : Int) == 0) = false := by simpa using i9
    go_enter Try.func13, Try.ntmps13
    go_wp2_with (go_at_call 16; refine hEach.mono ?_; rintro e w2 ⟨rfl, hbl⟩)
    go_ret
    exact ⟨rfl, hbl⟩

end Go.Proofs.Ythldbcngbkemnaa
