/- The contract of word.Words. -/
import Derived.Test.YthldbcngbkemnaaTake
import Derived.Test.YthldbcngbkemnaaEachW
import Derived.Test.YthldbcngbkemnaaCount
namespace Go.Proofs.Ythldbcngbkemnaa
open Go.RowKit
open Drawbar Drawbar.Line Drawbar.Sign

theorem part_words (l : Ln) : l.part.words.length ≤ l.words.length + 1 := by
  unfold Ln.part
  dsimp only
  split <;> simp
theorem add_words (l : Ln) (r : Nat) : (l.add r).2.words = l.words := by unfold Ln.add; split <;> rfl
theorem take_words (l : Ln) (r : Nat) : (l.take r).2.words.length ≤ l.words.length + 1 := by
  have hp := part_words l
  unfold Ln.take Ln.takeQuoted Ln.takeSlashed Ln.takeBare
  repeat' split
  all_goals first | (simp only [add_words]; omega) | (dsimp only; omega) | exact hp
theorem add_err (l : Ln) (r : Nat) : (l.add r).1 < 1000 := by unfold Ln.add; split <;> simp
theorem take_err (l : Ln) (r : Nat) : (l.take r).1 < 1000 := by
  unfold Ln.take Ln.takeQuoted Ln.takeSlashed Ln.takeBare
  repeat' split
  all_goals first | exact add_err _ _ | simp
theorem end_err (l : Ln) : l.end'.1 < 1000 := by unfold Ln.end'; split <;> simp

theorem eachR_words (s : ByteArray) : ∀ f p (l : Ln), l.words.length ≤ p → p ≤ s.size → (eachR Ln.take s f p l).2.words.length ≤ s.size ∧ (eachR Ln.take s f p l).1.2 < 1000 ∧ (eachR Ln.take s f p l).1.1 ≤ s.size
  | 0, p, l => by
    intro h h2
    simp only [eachR]
    omega
  | f + 1, p, l => by
    intro h h2
    have hw := take_words l (sgn s p).2
    have he := take_err l (sgn s p).2
    simp only [eachR]
    by_cases hp : p < s.size
    · have hle := sgn_le s p hp
      rw [if_pos hp]
      by_cases hz : (sgn s p).1 = 0
      · rw [if_pos hz]; dsimp only; omega
      · rw [if_neg hz]
        split
        · exact eachR_words s f _ _ (by omega) hle.1
        · dsimp only; omega
    · rw [if_neg hp]; dsimp only; omega

/-- The words of a line; the place at fault; the fault. -/
def wordsR (s : ByteArray) : List ByteArray × Nat × Nat :=
  if 400 < s.size then ([], 400, 2) else
  if (eachR Ln.take s s.size 0 ⟨[], [], 0⟩).1.2 ≠ 0 then ([], (eachR Ln.take s s.size 0 ⟨[], [], 0⟩).1.1, (eachR Ln.take s s.size 0 ⟨[], [], 0⟩).1.2)
  else if (eachR Ln.take s s.size 0 ⟨[], [], 0⟩).2.end'.1 ≠ 0 then ([], (eachR Ln.take s s.size 0 ⟨[], [], 0⟩).1.1, (eachR Ln.take s s.size 0 ⟨[], [], 0⟩).2.end'.1)
  else ((eachR Ln.take s s.size 0 ⟨[], [], 0⟩).2.end'.2.words, 0, 0)

/-- What Words comes to. -/
def Told (W : World) (r : List ByteArray × Nat × Nat) (e : Ending) (W' : World) : Prop :=
  ∃ a cap, e = .returned (.tuple #[.slice a r.1.length cap, .int .i64 (r.2.1 : Nat), .int .i64 (r.2.2 : Nat)]) ∧
    W'.ownsRow W.heap.size 9 1 (.slice a r.1.length cap) r.1.length (r.1.map Value.string) ∧ Below W.heap.size W W'

/-- The line's state, and the world beyond it. -/
def Inv (W : World) (l : Ln) (W' : World) : Prop := (∃ v1 v2, LineIn W' W.heap.size W.heap.size v1 v2 l) ∧ Below W.heap.size W W' ∧ W.heap.size < W'.heap.size

theorem row_iter {W : World} {e : TypeId} {size n : Nat} {v : Value} {xs : List Value} (h : W.ownsRow 0 e size v n xs) {k : Nat} {s : ByteArray} {p : Nat} (hk : W.heap[k]? = some (.stringIter s p)) : v.ownBlock ≠ some k := by
  intro e2
  rcases h.2 with ⟨rfl, _⟩ | ⟨g, cap, cur, rfl, _, hgg, _⟩
  · cases e2
  · obtain rfl : g = k := by simpa [Value.ownBlock] using e2
    rw [hk] at hgg
    cases hgg
theorem LineIn.notIter {W : World} {B bl : Nat} {v1 v2 : Value} {l : Ln} (h : LineIn W B bl v1 v2 l) {k : Nat} {s : ByteArray} {p : Nat} (hk : W.heap[k]? = some (.stringIter s p)) : bl ≠ k := by
  rintro rfl
  have hc := h.c0
  unfold World.cell? at hc
  rw [hk] at hc
  cases hc

theorem Inv.iterAt {W W2 : World} {l : Ln} (h : Inv W l W2) {k : Nat} (hk0 : W.heap.size < k) {s : ByteArray} {p : Nat} (hk : W2.heap[k]? = some (.stringIter s p)) (p' : Nat) : Inv W l (W2.iterAt k s p') := by
  obtain ⟨⟨v1, v2, hl⟩, hb, hs⟩ := h
  refine ⟨⟨v1, v2, hl.keep (Lib.iterAt_other W2 k _ s p' (hl.notIter hk)) (fun d hd => Lib.iterAt_other W2 k _ s p' fun e => ?_) (fun d hd => Lib.iterAt_other W2 k _ s p' fun e => ?_)⟩, Lib.below_iterAt hb (by omega) s p', ?_⟩
  · subst e; exact row_iter hl.r1 hk hd
  · subst e; exact row_iter hl.r2 hk hd
  · exact Nat.lt_of_lt_of_le hs (Lib.below_iterAt (Below.refl 0 W2) (Nat.zero_le _) s p').size

theorem words1_any {W W2 : World} {l : Ln} (h : Inv W l W2) (hl : l.words.length ≤ 1000) (r : Nat) (hv : Utf8.valid (r : Int) = true) :
    Calls Try.prog 17 #[.int .i32 r, .pointer (some ⟨W.heap.size, 0, none⟩)] W2 fun e W' => e = .returned (.int .i64 ((l.take r).1 : Nat)) ∧ Inv W (l.take r).2 W' ∧ Turned W.heap.size W2 W' := by
  obtain ⟨⟨v1, v2, hL⟩, hb, hs⟩ := h
  have HF := Lib.hid ((take_any hL (Nat.le_of_lt hs) hl r hv).mono fun e W' (hw : Took W2 W.heap.size W.heap.size (l.take r) e W') =>
    show e = .returned (.int .i64 ((l.take r).1 : Nat)) ∧ Inv W (l.take r).2 W' ∧ Turned W.heap.size W2 W' from ⟨hw.1, ⟨hw.2.1, hb.trans hw.2.2.below, Nat.lt_of_lt_of_le hs hw.2.2.below.size⟩, hw.2.2⟩)
  generalize l.take r = R at HF ⊢
  clear hL hb hs
  go_enter Try.func17, Try.ntmps17
  go_wp2_with (go_at_call 18; refine HF.out.mono ?_; rintro e W' ⟨rfl, h2, h3⟩)
  go_ret
  exact ⟨rfl, h2, h3⟩

theorem Inv.start (w : World) (s : ByteArray) : Inv w ⟨[], [], 0⟩ ((w.alloc (.cells #[.slice none 0 0, .slice none 0 0, .int .u8 0] 39)).iter s 0) := by
  have hb : Below w.heap.size w ((w.alloc (.cells #[.slice none 0 0, .slice none 0 0, .int .u8 0] 39)).iter s 0) := (((Below.refl _ _).alloc (Nat.le_refl _) _).alloc (by simp) _)
  refine ⟨⟨.slice none 0 0, .slice none 0 0, ?_⟩, hb, ?_⟩
  · have h1 : ((w.alloc (.cells #[.slice none 0 0, .slice none 0 0, .int .u8 0] 39)).iter s 0).heap[w.heap.size]? = some (.cells #[.slice none 0 0, .slice none 0 0, .int .u8 0] 39) := by
      refine (Below.heap_alloc _ _ _ (by simp)).trans ?_
      exact heap_alloc_new w _
    have hc : ∀ k, ((w.alloc (.cells #[.slice none 0 0, .slice none 0 0, .int .u8 0] 39)).iter s 0).cell? ⟨w.heap.size, k, none⟩ = #[Value.slice none 0 0, .slice none 0 0, .int .u8 0][k]? := fun k => cell_of_row _ _ k _ _ _ h1
    refine ⟨hc 0, hc 1, hc 2, fun k => ?_, World.ownsRow_nil _ 0 _ 1, World.ownsRow_nil _ 0 _ 1, by simp, by simp [Value.ownBlock], by simp [Value.ownBlock], by simp [Value.ownBlock], Nat.le_refl _, by simp [Value.ownBlock], by simp [Value.ownBlock], by simp, by show 0 < 5; omega⟩
    unfold World.frozen?
    rw [h1]
    simp
  · show w.heap.size < ((w.alloc _).alloc _).heap.size
    simp
    omega

set_option maxRecDepth 1000000 in
theorem words_each (s : ByteArray) (hs : s.size ≤ 400) (w W : World) (hsz : W.heap.size = w.heap.size + 1) (h0 : Inv w ⟨[], [], 0⟩ (W.iter s 0)) :
    Calls Try.prog 16 #[.string s, .func (.func 17) #[] #[.pointer (some ⟨w.heap.size, 0, none⟩)]] W fun e w' =>
      e = .returned (.tuple #[.int .i64 ((eachR Ln.take s s.size 0 ⟨[], [], 0⟩).1.1 : Nat), .int .i64 ((eachR Ln.take s s.size 0 ⟨[], [], 0⟩).1.2 : Nat)]) ∧ Inv w (eachR Ln.take s s.size 0 ⟨[], [], 0⟩).2 w' :=
  each_with Ln.take (Inv w) (fun l pos => l.words.length ≤ pos) 17 #[.pointer (some ⟨w.heap.size, 0, none⟩)] s (by omega) ⟨[], [], 0⟩ W (fun _ _ => rfl) h0
    (fun st W2 p hi h p' => h.iterAt (by omega) hi p') take_err (Nat.zero_le _)
    (fun st pos r n h hn => by have := take_words st r; omega)
    (fun st W2 r p pos h hp hz hr hI hi hr2 hv => (words1_any hI (by omega) r hv).mono (by
      rintro e W3 ⟨rfl, h3, h4⟩
      exact ⟨rfl, h3, h4.iters _ _ _ hi⟩))

theorem words_end {w W2 : World} {l : Ln} (h : Inv w l W2) (hl : l.words.length ≤ 1000) :
    Calls Try.prog 19 #[.pointer (some ⟨w.heap.size, 0, none⟩)] W2 fun e W' => e = .returned (.int .i64 (l.end'.1 : Nat)) ∧ Inv w l.end'.2 W' := by
  obtain ⟨⟨v1, v2, hL⟩, hb, hs⟩ := h
  exact (end_any hL (Nat.le_of_lt hs) hl).mono fun e W' hw => ⟨hw.1, hw.2.1, hb.trans hw.2.2.below, Nat.lt_of_lt_of_le hs hw.2.2.below.size⟩

theorem Inv.told {w W2 : World} {l : Ln} (h : Inv w l W2) : ∃ a cap, W2.cell? ⟨w.heap.size, 0, none⟩ = some (.slice a l.words.length cap) ∧ Told w (l.words, 0, 0) (.returned (.tuple #[.slice a l.words.length cap, .int .i64 0, .int .i64 0])) W2 := by
  obtain ⟨⟨v1, v2, hL⟩, hb, hs⟩ := h
  obtain ⟨a, cap, rfl, hcap⟩ := shape_of hL.r1
  refine ⟨a, cap, hL.c0, a, cap, rfl, ⟨hL.r1.1, ?_⟩, hb⟩
  rcases hL.r1.2 with h1 | ⟨g, c, cur, h1, _, h3⟩
  · exact .inl h1
  · exact .inr ⟨g, c, cur, h1, hL.b1 g (by rw [h1]; rfl), h3⟩

set_option maxRecDepth 1000000 in
set_option maxHeartbeats 1000000 in
theorem words_any (s : ByteArray) (w : World) : Calls Try.prog 9 #[.string s] w (Told w (wordsR s)) := by
  unfold wordsR
  by_cases h4 : 400 < s.size
  · rw [if_pos h4]
    have i4 : decide ((400 : Int) < (s.size : Int)) = true := by simp; omega
    have HF := Lib.hid (show Told w ([], 400, 2) (.returned (.tuple #[.slice none 0 0, .int .i64 400, .int .i64 2])) w from ⟨none, 0, rfl, World.ownsRow_nil _ _ _ 1, Below.refl _ _⟩)
    generalize Told w _ = P at HF ⊢
    clear h4
    go_enter Try.func9, Try.ntmps9
    go_wp2
    exact HF.out
  rw [if_neg h4]
  have hW := words_each s (by omega) w _ (by simp) (Inv.start w s)
  have hR := eachR_words s s.size 0 ⟨[], [], 0⟩ (Nat.zero_le _) (Nat.zero_le _)
  have i4 : decide ((400 : Int) < (s.size : Int)) = false := by simp; omega
  have hsz : s.size ≤ 400 := by omega
  generalize eachR Ln.take s s.size 0 ⟨[], [], 0⟩ = R at hW hR ⊢
  obtain ⟨⟨place, e⟩, l⟩ := R
  dsimp only at hW hR ⊢
  by_cases he : e = 0
  · subst he
    rw [if_neg (by simp)]
    have hE := fun W2 (hI : Inv w l W2) => words_end hI (by omega)
    have hEn := end_err l
    have hlw : l.end'.2.words.length ≤ 1000 := by
      have := part_words l
      unfold Ln.end'
      split
      · dsimp only; omega
      · dsimp only; omega
    generalize l.end' = E at hE hEn hlw ⊢
    obtain ⟨n, l2⟩ := E
    dsimp only at hE hEn hlw ⊢
    have HW := Lib.hid hW
    have HE := Lib.hid hE
    by_cases hn : n = 0
    · subst hn
      rw [if_neg (by simp)]
      have HF := Lib.hid (fun W2 (hI : Inv w l2 W2) => hI.told)
      generalize Told w _ = P at HF ⊢
      clear h4 hW hE hR
      go_enter Try.func9, Try.ntmps9
      go_wp2_with (first | (go_at_call 16; refine HW.out.mono ?_; rintro e' w2 ⟨rfl, hI⟩; have HI := Lib.hid (HE.out _ hI); clear hI) | (go_at_call 19; refine HI.out.mono ?_; rintro e' w3 ⟨rfl, hI⟩; obtain ⟨a, cap, hc, hp⟩ := HF.out _ hI; have HP := Lib.hid hp; clear hI hp))
      exact HP.out
    · rw [if_pos hn]
      have HF := Lib.hid (fun W' (hI : Inv w l2 W') => show Told w ([], place, n) (.returned (.tuple #[.slice none 0 0, .int .i64 place, .int .i64 n])) W' from ⟨none, 0, rfl, World.ownsRow_nil _ _ _ 1, hI.2.1⟩)
      generalize Told w _ = P at HF ⊢
      have ie : ((n : Int) == 0) = false := by simp; omega
      clear h4 hW hE hR hn
      go_enter Try.func9, Try.ntmps9
      go_wp2_with (first | (go_at_call 16; refine HW.out.mono ?_; rintro e' w2 ⟨rfl, hI⟩; have HI := Lib.hid (HE.out _ hI); clear hI) | (go_at_call 19; refine HI.out.mono ?_; rintro e' w3 ⟨rfl, hI⟩; have HP := Lib.hid (HF.out _ hI); clear hI))
      exact HP.out
  · rw [if_pos he]
    have HF := Lib.hid (fun W' (hI : Inv w l W') => show Told w ([], place, e) (.returned (.tuple #[.slice none 0 0, .int .i64 place, .int .i64 e])) W' from ⟨none, 0, rfl, World.ownsRow_nil _ _ _ 1, hI.2.1⟩)
    generalize Told w _ = P at HF ⊢
    have ie : ((e : Int) == 0) = false := by simp; omega
    have HW := Lib.hid hW
    clear h4 hW he hR
    go_enter Try.func9, Try.ntmps9
    go_wp2_with (go_at_call 16; refine HW.out.mono ?_; rintro e' w2 ⟨rfl, hI⟩; have HI := Lib.hid (HF.out _ hI); clear hI)
    exact HI.out
end Go.Proofs.Ythldbcngbkemnaa
