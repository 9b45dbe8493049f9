/- word.Count: how many signs. -/
import Derived.Test.YthaicfnlchkcoaaProg
import Derived.Test.YthaicfnlchkcoaaSign
import Derived.Test.YthaicfnlchkcoaaEach
import Derived.WalkKit
import Derived.Handy
import Derived.Lib.Hide
import Derived.Lib.OthersKept
namespace Go.Proofs.Ythaicfnlchkcoaa
open Go.RowKit
open Drawbar.Sign

def cstep (n : Nat) (_ : Nat) : Nat × Nat := (0, n + 1)

/-- the variable that is counted in -/
def CAt (C n : Nat) (W : World) : Prop := W.cell? ⟨C, 0, none⟩ = some (.int .i64 (wrap64 (n : Int))) ∧ W.frozen? ⟨C, 0, none⟩ = false

theorem cell_iterAt (W : World) (k : Nat) (s : ByteArray) (p' : Nat) (a : Addr) (ha : a.block ≠ k) : (W.iterAt k s p').cell? a = W.cell? a ∧ (W.iterAt k s p').frozen? a = W.frozen? a := by
  have e := Lib.iterAt_other W k a.block s p' ha
  constructor
  · simp only [World.cell?, e]
  · simp only [World.frozen?, e]

set_option maxHeartbeats 1000000 in
theorem count1_any (C n r : Nat) (W : World) (h : CAt C n W) :
    Calls Try.prog 28 #[.int .i32 (r : Int), .pointer (some ⟨C, 0, none⟩)] W fun e W' => e = .returned (.int .i64 (0 : Nat)) ∧ CAt C (n + 1) W' ∧ ∃ v, W' = W.setCell ⟨C, 0, none⟩ v := by
  obtain ⟨hc, hf⟩ := h
  go_enter Try.func28, Try.ntmps28
  go_wp2
  go_ret
  have hw : wrap64 (wrap64 (n : Int) + 1) = wrap64 ((n + 1 : Nat) : Int) := by unfold wrap64; omega
  refine ⟨rfl, ⟨?_, ?_⟩, _, rfl⟩
  · rw [hw]
    exact World.cell?_setCell_same _ _ _ hc
  · rw [World.frozen?_setCell]; exact hf

theorem eachR_count (s : ByteArray) : ∀ f p n, (eachR cstep s f p n).2 ≤ n + f ∧ ((eachR cstep s f p n).1.2 = 0 ∨ (eachR cstep s f p n).1.2 = 14)
  | 0, p, n => by simp [eachR]
  | f + 1, p, n => by
    have ih := eachR_count s f (p + (sgn s p).1) (n + 1)
    simp only [eachR]
    split
    · split
      · simp
      · have e : cstep n (sgn s p).2 = (0, n + 1) := rfl
        rw [e, if_pos rfl]
        exact ⟨Nat.le_trans ih.1 (by omega), ih.2⟩
    · simp

/-- how many signs; none: one isn't whole -/
def cntR (s : ByteArray) : Nat × Bool := if (eachR cstep s s.size 0 0).1.2 = 0 then ((eachR cstep s s.size 0 0).2, true) else (0, false)

set_option maxRecDepth 1000000 in
set_option maxHeartbeats 1000000 in
theorem count_any (s : ByteArray) (hs : s.size < 1000000) (w : World) :
    Calls Try.prog 15 #[.string s] w fun e w' => e = .returned (.tuple #[.int .i64 ((cntR s).1 : Nat), .bool (cntR s).2]) ∧ Below w.heap.size w w' := by
  have hE := eachR_count s s.size 0 0
  have hR : ∀ R, eachR cstep s s.size 0 0 = R → cntR s = if R.1.2 = 0 then (R.2, true) else (0, false) := by rintro R rfl; rfl
  have hEach := fun W (h0 : CAt w.heap.size 0 (W.iter s 0) ∧ Below w.heap.size w (W.iter s 0)) (hsz : W.heap.size = w.heap.size + 1) =>
    each_any cstep (fun n W' => CAt w.heap.size n W' ∧ Below w.heap.size w W') 28 #[.pointer (some ⟨w.heap.size, 0, none⟩)] s hs 0 W (fun _ _ => rfl) h0
      (fun st W2 p hi h p' => ⟨⟨by rw [(cell_iterAt W2 W.heap.size s p' ⟨w.heap.size, 0, none⟩ (by simp [hsz])).1]; exact h.1.1, by rw [(cell_iterAt W2 W.heap.size s p' ⟨w.heap.size, 0, none⟩ (by simp [hsz])).2]; exact h.1.2⟩, Lib.below_iterAt h.2 (by omega) s p'⟩)
      (fun _ _ => by simp [cstep])
      (fun st W2 r p h hi _ _ => (count1_any w.heap.size st r W2 h.1).mono (by
        rintro e W3 ⟨rfl, h3, v, rfl⟩
        exact ⟨rfl, ⟨h3, h.2.setCell (Nat.le_refl _) v⟩, by rw [heap_setCell_other W2 _ _ _ (by simp [hsz])]; exact hi⟩))
  have hA : CAt w.heap.size 0 ((w.alloc (.cells #[.int .i64 0] 3)).iter s 0) := by
    refine ⟨?_, ?_⟩
    · show ((w.alloc (.cells #[.int .i64 0] 3)).alloc (.stringIter s 0)).cell? ⟨w.heap.size, 0, none⟩ = _
      rw [World.cell?_alloc2_first, show wrap64 ((0 : Nat) : Int) = 0 by unfold wrap64; omega]
      rfl
    · show ((w.alloc (.cells #[.int .i64 0] 3)).alloc (.stringIter s 0)).frozen? ⟨w.heap.size, 0, none⟩ = _
      rw [World.frozen?_alloc2_first]
  have hB : Below w.heap.size w ((w.alloc (.cells #[.int .i64 0] 3)).iter s 0) := (((Below.refl _ _).alloc (Nat.le_refl _) _).alloc (by simp) _)
  have hEach := hEach _ ⟨hA, hB⟩ (by simp)
  clear hA hB
  generalize eachR cstep s s.size 0 0 = R at *
  have hR := hR R rfl
  have hb : wrap64 (R.2 : Int) = R.2 := by unfold wrap64; omega
  generalize cntR s = Z at *
  subst hR
  go_enter Try.func15, Try.ntmps15
  rcases hE.2 with h0 | h0
  · rw [if_pos h0]
    rw [h0] at hEach
    go_wp2_with (go_at_call 20; refine hEach.mono ?_; rintro e w2 ⟨rfl, ⟨hc, hf⟩, hbl⟩; rw [hb] at hc)
    go_ret2
    exact ⟨rfl, hbl⟩
  · rw [if_neg (by omega)]
    rw [h0] at hEach
    go_wp2_with (go_at_call 20; refine hEach.mono ?_; rintro e w2 ⟨rfl, ⟨hc, hf⟩, hbl⟩; rw [hb] at hc)
    go_ret2
    exact ⟨rfl, hbl⟩

end Go.Proofs.Ythaicfnlchkcoaa
