/- A logbook in a law's hands: what Claim and Last do to it; the contract of the laws' awake. -/
import Derived.Test.YtcbgccmoeleanaaDoorPure
namespace Go.Proofs.YtcbgccmoeleanaaDoor.Lg
open Go.RowKit
open Drawbar Drawbar.Sheet Drawbar.Nand Drawbar.Log Go.Proofs.YtcbgccmoeleanaaDoor.Nd

/-- A law's array, the memory of which lies from B on, and its logbook. -/
def Has (B : Nat) (w : World) (g n p f m : Nat) (x : En) : Prop := 0 < B ∧ B ≤ w.heap.size ∧ Tab w ∧ ∃ s, Mine B w g s ∧ Inv s n p f m x
theorem Has.keep {B : Nat} {w w' : World} {g n p f m : Nat} {x : En} (h : Has B w g n p f m x) (hb : Below w.heap.size w w') : Has B w' g n p f m x := by
  obtain ⟨h0, h1, hT, s, hm, hi⟩ := h
  exact ⟨h0, Nat.le_trans h1 hb.size, hT.below hb hT.pos, s, hm.keep hb, hi⟩
theorem Has.base {B B' : Nat} {w : World} {g n p f m : Nat} {x : En} (h : Has B w g n p f m x) (hb : B' ≤ B) (h0 : 0 < B') : Has B' w g n p f m x := by
  obtain ⟨_, h1, hT, s, hm, hi⟩ := h
  exact ⟨h0, Nat.le_trans hb h1, hT, s, hm.base hb, hi⟩
theorem Tab.low {B : Nat} {w w' : World} (hT : Tab w) (hb : Below B w w') (h0 : 0 < B) : Tab w' := hT.below hb h0
theorem claim_m {B : Nat} {w : World} {g : Nat} {s : Arr} (h0 : 0 < B) (hB : B ≤ w.heap.size) (hT : Tab w) (hm : Mine B w g s) (h2 : 1 < s.n) (x : En) :
    Calls Tryd.prog 12 #[.pointer (some ⟨g, 0, none⟩), ev x] w (Does B w g (claimS s x)) := by
  obtain ⟨F, h, hF⟩ := hm.arr
  exact (claim_at h h2 x hT (fun h => by have := hF 0 h; omega)).mono fun e w' hd => hd.does hF hB
theorem claims {B : Nat} {w : World} {g n p f m : Nat} {x : En} (h : Has B w g n p f m x) (y : En) :
    ∃ s, Inv s n p f m x ∧ Calls Tryd.prog 12 #[.pointer (some ⟨g, 0, none⟩), ev y] w (fun e w' => e = .returned (.int .i64 (claimS s y).1) ∧ Mine B w' g (claimS s y).2 ∧ Below B w w' ∧ B ≤ w'.heap.size ∧ Tab w') := by
  obtain ⟨h0, hB, hT, s, hm, hi⟩ := h
  refine ⟨s, hi, (claim_m h0 hB hT hm (by have := hi.nm.n; have := hi.n2; omega) y).mono ?_⟩
  rintro e w' ⟨he, h1, h2⟩
  exact ⟨he, h1, h2, Nat.le_trans hB h2.size, Tab.low hT h2 h0⟩
/-- A claim above all others. -/
theorem claim_yes {B : Nat} {w : World} {g n p f : Nat} {x : En} (h : Has B w g n p f 0 x) (y : En) (hy : okE y = true) (hxy : x.e < y.e) (he : f ≤ y.e) :
    Calls Tryd.prog 12 #[.pointer (some ⟨g, 0, none⟩), ev y] w (fun e w' => e = .returned (.int .i64 0) ∧ Has B w' g n p f 0 y ∧ Below B w w') := by
  obtain ⟨s, hi, hc⟩ := claims h y
  obtain ⟨s', e1, hi'⟩ := claim_ok hi hy hxy he
  rw [e1] at hc
  refine hc.mono ?_
  rintro e w' ⟨he, hm, hb, hs, hT⟩
  exact ⟨he, ⟨h.1, hs, hT, s', hm, hi'⟩, hb⟩
/-- A claim that isn't above the last one. -/
theorem claim_low {B : Nat} {w : World} {g n p f m : Nat} {x : En} (h : Has B w g n p f m x) (y : En) (hy : okE y = true) (hle : y.e ≤ x.e) :
    Calls Tryd.prog 12 #[.pointer (some ⟨g, 0, none⟩), ev y] w (fun e w' => e = .returned (.int .i64 6) ∧ Has B w' g n p f m x ∧ Below B w w') := by
  obtain ⟨s, hi, hc⟩ := claims h y
  rw [hi.claim_order y hy hle] at hc
  refine hc.mono ?_
  rintro e w' ⟨he, hm, hb, hs, hT⟩
  exact ⟨he, ⟨h.1, hs, hT, s, hm, hi⟩, hb⟩
theorem claim_bad {B : Nat} {w : World} {g n p f m : Nat} {x : En} (h : Has B w g n p f m x) (y : En) (hy : okE y = false) :
    Calls Tryd.prog 12 #[.pointer (some ⟨g, 0, none⟩), ev y] w (fun e w' => e = .returned (.int .i64 1) ∧ Has B w' g n p f m x ∧ Below B w w') := by
  obtain ⟨s, hi, hc⟩ := claims h y
  rw [hi.claim_arg y hy] at hc
  refine hc.mono ?_
  rintro e w' ⟨he, hm, hb, hs, hT⟩
  exact ⟨he, ⟨h.1, hs, hT, s, hm, hi⟩, hb⟩
theorem last_m {B : Nat} {w : World} {g n p f m : Nat} {x : En} (h : Has B w g n p f m x) :
    Calls Tryd.prog 13 #[.pointer (some ⟨g, 0, none⟩)] w (fun e w' => e = .returned (.tuple #[ev x, .int .i64 0]) ∧ Has B w' g n p f m x ∧ Below w.heap.size w w') := by
  have h9 := h
  obtain ⟨h0, hB, hT, s, hm, hi⟩ := h
  obtain ⟨F, ha, hF⟩ := hm.arr
  have hl := last_any ha (by have := hi.nm.n; have := hi.n2; omega) hT
  rw [hi.tells] at hl
  exact hl.mono fun e w' ⟨he, hb⟩ => ⟨he, h9.keep hb, hb⟩
theorem new_has (n p : Nat) (w : World) (hT : Tab w) (h2 : 2 ≤ n) (hn : n ≤ 64) (h3 : 0 < p) (h4 : p ≤ 32) :
    Calls Tryd.prog 11 #[.int .i64 n, .int .i64 p, .slice none 0 0] w (fun e w' => ∃ g, e = .returned (.tuple #[.pointer (some ⟨g, 0, none⟩), .int .i64 0]) ∧ Has w.heap.size w' g n p 0 0 En.z ∧ Below w.heap.size w w') := by
  refine (new_at n p w (by omega) hn h3 h4).mono ?_
  intro e w' hm
  obtain ⟨g, he, h1, hb⟩ := hm.mine
  exact ⟨g, he, ⟨hT.pos, hb.size, hT.below hb hT.pos, _, h1, inv_new n p h2 h3⟩, hb⟩

theorem ok_of {e : Nat} {w : Int} (h1 : 1 ≤ e) (h2 : e ≤ 281474976710655) (h3 : 0 ≤ w) (h4 : w ≤ 1) : okE ⟨e, w⟩ = true := decide_eq_true ⟨h1, h2, h3, h4⟩
/-- The same with literal numbers. -/
theorem claim_yes' {B : Nat} {w : World} {g n p f : Nat} {x : En} (h : Has B w g n p f 0 x) (e0 : Nat) (w0 a b : Int) (ha : a = e0) (hb : b = w0) (hy : okE ⟨e0, w0⟩ = true) (hxy : x.e < e0) (he : f ≤ e0) :
    Calls Tryd.prog 12 #[.pointer (some ⟨g, 0, none⟩), .agg #[.int .u64 a, .int .i64 b]] w (fun e w' => e = .returned (.int .i64 0) ∧ Has B w' g n p f 0 ⟨e0, w0⟩ ∧ Below B w w') := by
  subst ha hb; exact claim_yes h ⟨e0, b⟩ hy hxy he
theorem claim_low' {B : Nat} {w : World} {g n p f m : Nat} {x : En} (h : Has B w g n p f m x) (e0 : Nat) (w0 a b : Int) (ha : a = e0) (hb : b = w0) (hy : okE ⟨e0, w0⟩ = true) (hle : e0 ≤ x.e) :
    Calls Tryd.prog 12 #[.pointer (some ⟨g, 0, none⟩), .agg #[.int .u64 a, .int .i64 b]] w (fun e w' => e = .returned (.int .i64 6) ∧ Has B w' g n p f m x ∧ Below B w w') := by
  subst ha hb; exact claim_low h ⟨e0, b⟩ hy hle
theorem last_m' {B : Nat} {w : World} {g n p f m e0 : Nat} {w0 : Int} (a b : Int) (ha : a = e0) (hb : b = w0) (h : Has B w g n p f m ⟨e0, w0⟩) :
    Calls Tryd.prog 13 #[.pointer (some ⟨g, 0, none⟩)] w (fun e w' => e = .returned (.tuple #[.agg #[.int .u64 a, .int .i64 b], .int .i64 0]) ∧ Has B w' g n p f m ⟨e0, w0⟩ ∧ Below w.heap.size w w') := by
  subst ha hb; exact last_m h
theorem new_has' (n p : Nat) (a b : Int) (ha : a = n) (hb : b = p) (w : World) (hT : Tab w) (h2 : 2 ≤ n) (hn : n ≤ 64) (h3 : 0 < p) (h4 : p ≤ 32) :
    Calls Tryd.prog 11 #[.int .i64 a, .int .i64 b, .slice none 0 0] w (fun e w' => ∃ g, e = .returned (.tuple #[.pointer (some ⟨g, 0, none⟩), .int .i64 0]) ∧ Has w.heap.size w' g n p 0 0 En.z ∧ Below w.heap.size w w') := by
  subst ha hb; exact new_has n p w hT h2 hn h3 h4

set_option maxHeartbeats 1000000 in
theorem awake_any (w : World) (hT : Tab w) : Calls Tryd.prog 10 #[] w (Yes w) := by
  have HN := Lib.hid (new_has' 4 4 4 4 rfl rfl w hT (by omega) (by omega) (by omega) (by omega))
  clear hT
  go_enter Tryd.func10, Tryd.ntmps10
  go_wp2_with fail
  refine HN.out.mono ?_
  rintro e w1 ⟨g, rfl, h1, hB1⟩
  have HC := Lib.hid (claim_yes' h1 1 0 1 0 rfl rfl (by decide) (by decide) (by decide))
  clear h1 HN
  go_wp2_with fail
  refine HC.out.mono ?_
  rintro e w2 ⟨rfl, h2, hb2⟩
  have hB2 := hB1.trans hb2
  have HC2 := Lib.hid (claim_yes' h2 2 1 2 1 rfl rfl (by decide) (by decide) (by decide))
  clear h2 HC hb2 hB1
  go_wp2_with fail
  refine HC2.out.mono ?_
  rintro e w3 ⟨rfl, h3, hb3⟩
  have hB3 := hB2.trans hb3
  have HL := Lib.hid (last_m' 2 1 rfl rfl h3)
  clear h3 HC2 hb3 hB2
  go_wp2_with fail
  refine HL.out.mono ?_
  rintro e w4 ⟨rfl, h4, hb4⟩
  have hA : Below w4.heap.size w4 (w4.alloc (.cells #[.int .u64 2, .int .i64 1] 30)) := (Below.refl _ _).alloc (Nat.le_refl _) _
  have hB4 := (hB3.trans (hb4.mono hB3.size)).trans (hA.mono (Nat.le_trans hB3.size hb4.size))
  have HC3 := Lib.hid (claim_low' (h4.keep hA) 2 0 2 0 rfl rfl (by decide) (by decide))
  clear h4 HL hb4 hA hB3
  go_wp2_with fail
  refine HC3.out.mono ?_
  rintro e w5 ⟨rfl, h5, hb5⟩
  have hB5 := hB4.trans hb5
  clear h5 hb5 HC3 hB4
  go_wp2
  go_ret
  exact ⟨rfl, hB5⟩
end Go.Proofs.YtcbgccmoeleanaaDoor.Lg
