/- The contracts of drawbarlaw08.awake and of the laws PoolNil and PoolDead. -/
import Derived.Test.YtfehioapjoihkaaQLeast
namespace Go.Proofs.Ytfehioapjoihkaa
open Go.RowKit
open Drawbar Drawbar.Pl

/-- It answers true, and lays nothing but new memory. -/
def QYes (w : World) (e : Ending) (w' : World) : Prop := e = .returned (.bool true) ∧ Below w.heap.size w w'
/-- A pool whose memory lies from block B on. -/
structure Own (B : Nat) (w : World) (g mb : Nat) (s : St) : Prop where
  at_ : PoolAt w g mb s
  g9 : B ≤ g
  m9 : B ≤ mb
section
variable {B : Nat} {w w' : World} {g mb : Nat} {s s' : St}
theorem Own.below (h : Own B w g mb s) (hb : Below w.heap.size w w') : Own B w' g mb s := ⟨h.at_.below hb, h.g9, h.m9⟩
theorem Own.alloc (h : Own B w g mb s) (o : Obj) : Own B (w.alloc o) g mb s := ⟨h.at_.alloc o, h.g9, h.m9⟩
theorem Own.turn (h : Own B w g mb s) (hb : Turned w g mb s' w') : Own B w' g mb s' := ⟨hb.1, h.g9, h.m9⟩
theorem Own.low (h : Own B w g mb s) (hb : Turned w g mb s' w') (hB : B ≤ w.heap.size) : Below B w w' := hb.2.toBelow (fun k hk => by rw [hk]; exact h.m9) hB
theorem PMade.own {l : List Int} {e : Ending} (h : PMade w l e w') : ∃ g mb, e = .returned (.tuple #[.pointer (some ⟨g, 0, none⟩), .int .i64 0]) ∧ Own w.heap.size w' g mb (St.new l) ∧ Below w.heap.size w w' := by
  obtain ⟨g, mb, he, h1, h2, h3, h4⟩ := h
  exact ⟨g, mb, he, ⟨h1, h2, h3⟩, h4⟩
end
instance (l : List Int) (i : Nat) : Decidable (okAt l i) := by unfold okAt; infer_instance
theorem rise_of {l : List Int} (h : (List.range l.length).all (fun i => decide (okAt l i)) = true) : Rise l := fun i hi => of_decide_eq_true (List.all_eq_true.1 h i (List.mem_range.2 hi))

set_option maxHeartbeats 1000000 in
theorem qawake_any (w : World) : Calls Try.prog 20 #[] w (QYes w) := by
  have hn : Calls Try.prog 21 #[.slice (some ⟨w.heap.size, 0, none⟩) 2 2] (w.alloc (.cells #[.int .i64 2, .int .i64 3] 3)) (PMade (w.alloc (.cells #[.int .i64 2, .int .i64 3] 3)) [2, 3]) :=
    new_rise [2, 3] _ 2 _ (fun _ => ⟨w.heap.size, 0, rfl, fun i hi => by
      have : i = 0 ∨ i = 1 := by simp at hi; omega
      rcases this with rfl | rfl <;> simp⟩) (rise_of (by decide))
  have HN := Lib.hid hn
  clear hn
  go_enter Try.func20, Try.ntmps20
  go_wp2_with fail
  refine HN.out.mono ?_
  intro e w1 hm
  obtain ⟨g, mb, rfl, h1, b1⟩ := hm.own
  have b1 : Below w.heap.size w w1 := ((Below.refl _ _).alloc (Nat.le_refl _) _).trans (b1.mono (by simp))
  have hs : Calls Try.prog 22 #[.pointer (some ⟨g, 0, none⟩), .int .i64 2, .int .u8 2] w1 fun e w' => e = .returned (.int .i64 0) ∧ Turned w1 g mb ((St.new [2, 3]).set 2 2) w' := set_in_ g mb _ _ h1.at_ 2 0 (by decide) 2 (by decide) (by decide)
  have HS := Lib.hid hs
  clear hs hm HN
  go_wp2_with fail
  refine HS.out.mono ?_
  rintro e w2 ⟨rfl, hb2⟩
  have h2 := h1.turn hb2
  have b2 := b1.trans ((h1.low hb2 (by have := b1.size; have := h1.g9; have := h1.at_.gl; simp at *; omega)).mono (by simp))
  have hs : Calls Try.prog 22 #[.pointer (some ⟨g, 0, none⟩), .int .i64 3, .int .u8 2] w2 fun e w' => e = .returned (.int .i64 0) ∧ Turned w2 g mb (((St.new [2, 3]).set 2 2).set 3 2) w' := set_in_ g mb _ _ h2.at_ 3 0 (by decide) 2 (by decide) (by decide)
  have HT := Lib.hid hs
  clear hs HS h1 b1 hb2
  go_wp2_with fail
  refine HT.out.mono ?_
  rintro e w3 ⟨rfl, hb3⟩
  have h3 := h2.turn hb3
  have b3 := b2.trans ((h2.low hb3 (by have := b2.size; have := h2.g9; have := h2.at_.gl; simp at *; omega)).mono (by simp))
  have hh : Calls Try.prog 24 #[.pointer (some ⟨g, 0, none⟩), .int .i64 2] w3 fun e w' => e = .returned (.int .u8 1) ∧ w3 = w' := how_in g mb _ w3 h3.at_ 2 (wf_in (by decide))
  have HH := Lib.hid hh
  clear hh HT h2 b2 hb3
  go_wp2_with fail
  refine HH.out.mono ?_
  rintro e w4 ⟨rfl, rfl⟩
  go_wp2
  go_ret
  exact ⟨rfl, b3⟩

theorem pnil_any (x : Int) (v : Nat) (wt : List Int) (wa : Option Addr) (wc : Nat) (w : World) (hw : RdI w wa wt) : Calls Try.prog 9 #[.int .i64 x, .int .u8 v, .slice wa wt.length wc] w (QYes w) := by
  have hl : Calls Try.prog 25 #[.pointer none, .int .u8 v, .slice wa wt.length wc] w fun e w' => e = .returned (.tuple #[.int .i64 0, .bool false]) ∧ Below w.heap.size w w' :=
    least_of (.pointer none) v [] wt wa wc w hw (fun b hb => by cases hb) (by simp) ((pthose_nil v w).mono fun e w' ⟨he, hw'⟩ => ⟨none, 0, he, rdI_nil _ _, by rw [← hw']; exact Below.refl _ _⟩)
  have HL := Lib.hid hl
  clear hl hw
  go_enter Try.func9, Try.ntmps9
  go_wp2_with fail
  refine (popen_nil _).mono ?_
  rintro e w1 ⟨rfl, rfl⟩
  go_wp2_with fail
  refine HL.out.mono ?_
  rintro e w1 ⟨rfl, b1⟩
  have B1 := Lib.hid b1
  clear b1 HL
  go_wp2_with fail
  refine (qawake_any _).mono ?_
  rintro e w2 ⟨rfl, b2⟩
  have B2 := Lib.hid (B1.out.trans (b2.mono B1.out.size))
  clear b2 B1
  go_wp2_with fail
  refine (pset_nil x v _).mono ?_
  rintro e w3 ⟨rfl, rfl⟩
  go_wp2_with fail
  refine (phow_nil x _).mono ?_
  rintro e w3 ⟨rfl, rfl⟩
  go_wp2_with fail
  refine (pcount_nil v _).mono ?_
  rintro e w3 ⟨rfl, rfl⟩
  go_wp2
  go_ret
  exact ⟨rfl, B2.out⟩
end Go.Proofs.Ytfehioapjoihkaa
