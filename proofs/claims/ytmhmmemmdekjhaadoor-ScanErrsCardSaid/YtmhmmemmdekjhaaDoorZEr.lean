/- Geometries of any numbers: has it the form (the code's, and the document's). The walk of the law ScanErrs, over what array(h, nil) tells. The document's array of no happenings. The law's array, of no happenings. -/
import Derived.Test.YtmhmmemmdekjhaaDoorZSe
import Derived.Test.YtmhmmemmdekjhaaDoorZFo
import Derived.Deep.RegionHeld
import Derived.Deep.CutRange
import Derived.BigQuiet
import Derived.Deep.QuietTactic
namespace Go.Proofs.YtmhmmemmdekjhaaDoor.Sc
open Go.RowKit
open Drawbar Drawbar.Sheet Drawbar.Nand Drawbar.Scan Drawbar.Gm Go.Proofs.YtmhmmemmdekjhaaDoor.Nd
/-- The three ranges of a geometry. -/
def rng (b p s : Int) : Prop := 4 ≤ b ∧ b ≤ 64 ∧ 2 ≤ p ∧ p ≤ 32 ∧ 0 ≤ s ∧ s ≤ 8
set_option maxRecDepth 100000 in
theorem form_rng {b p s : Int} {B : List Int} (h : ¬ rng b p s) : Plan.form b p s B = false := by
  unfold Plan.form
  exact decide_eq_false fun k => h ⟨k.1, k.2.1, k.2.2.1, k.2.2.2.1, k.2.2.2.2.1, k.2.2.2.2.2.1⟩
set_option maxRecDepth 100000 in
theorem small_rng {b p s : Int} (h : rng b p s) : Plan.Small b p s := by unfold rng at h; exact ⟨by omega, by omega, by omega⟩
set_option maxRecDepth 100000 in
theorem form_no (b p s : Int) (a : Option Addr) (n c : Nat) (w : World) (h : ¬ rng b p s) :
    Calls Tryd.prog 70 #[Pn.geo b p s a n c] w fun e w' => e = .returned (.bool false) ∧ Below w.heap.size w w' := by
  have hbx : Below w.heap.size w (w.alloc (Pn.boxed b p s a n c)) := (Below.refl _ _).alloc (Nat.le_refl _) _
  obtain ⟨q0, q1, q2, q3⟩ := Pn.boxed_cells w b p s a n c _ (Below.refl _ _)
  have hw1 := fun W => Pn.within_any b 4 64 W
  have hw2 := fun W => Pn.within_any p 2 32 W
  have hw3 := fun W => Pn.within_any s 0 8 W
  have hd : (decide (4 ≤ b ∧ b ≤ 64) && decide (2 ≤ p ∧ p ≤ 32) && decide (0 ≤ s ∧ s ≤ 8)) = false := by
    rw [Bool.eq_false_iff]
    intro k
    simp only [Bool.and_eq_true, decide_eq_true_eq] at k
    exact h ⟨k.1.1.1, k.1.1.2, k.1.2.1, k.1.2.2, k.2.1, k.2.2⟩
  unfold Pn.geo
  generalize decide (4 ≤ b ∧ b ≤ 64) = d1 at *
  generalize decide (2 ≤ p ∧ p ≤ 32) = d2 at *
  generalize decide (0 ≤ s ∧ s ≤ 8) = d3 at *
  have H1 := Lib.hid hw1
  have H2 := Lib.hid hw2
  have H3 := Lib.hid hw3
  have HF := Lib.hid hbx
  clear hw1 hw2 hw3 hbx h
  cases d1
  · clear hd
    go_enter Tryd.func70, Tryd.ntmps70
    go_wp2_with (go_at_call 85; first | ((with_reducible refine (H1.out _).mono ?_); rintro e w1 ⟨rfl, rfl⟩))
    go_ret
    exact ⟨rfl, HF.out⟩
  cases d2
  · clear hd
    go_enter Tryd.func70, Tryd.ntmps70
    go_wp2_with (go_at_call 85; first | ((with_reducible refine (H1.out _).mono ?_); rintro e w1 ⟨rfl, rfl⟩) | ((with_reducible refine (H2.out _).mono ?_); rintro e w1 ⟨rfl, rfl⟩))
    go_ret
    exact ⟨rfl, HF.out⟩
  cases d3
  · clear hd
    go_enter Tryd.func70, Tryd.ntmps70
    go_wp2_with (go_at_call 85; first | ((with_reducible refine (H1.out _).mono ?_); rintro e w1 ⟨rfl, rfl⟩) | ((with_reducible refine (H2.out _).mono ?_); rintro e w1 ⟨rfl, rfl⟩) | ((with_reducible refine (H3.out _).mono ?_); rintro e w1 ⟨rfl, rfl⟩))
    go_ret
    exact ⟨rfl, HF.out⟩
  cases hd
set_option maxRecDepth 100000 in
theorem refform_no (b p s : Int) (a : Option Addr) (n c : Nat) (w : World) (h : ¬ rng b p s) (hb : b ≤ 64) :
    Calls Tryd.prog 25 #[Pn.geo b p s a n c] w fun e w' => e = .returned (.bool false) ∧ Below w.heap.size w w' := by
  have hbx : Below w.heap.size w (w.alloc (Pn.boxed b p s a n c)) := (Below.refl _ _).alloc (Nat.le_refl _) _
  obtain ⟨q0, q1, q2, q3⟩ := Pn.boxed_cells w b p s a n c _ (Below.refl _ _)
  unfold Pn.geo
  by_cases h0 : 4 ≤ b
  rotate_left
  · clear h
    go_enter Tryd.func25, Tryd.ntmps25
    go_wp2
    all_goals
      go_ret
      exact ⟨rfl, hbx⟩
  by_cases h2 : 2 ≤ p
  rotate_left
  · clear h
    go_enter Tryd.func25, Tryd.ntmps25
    go_wp2
    all_goals
      go_ret
      exact ⟨rfl, hbx⟩
  by_cases h3 : p ≤ 32
  rotate_left
  · clear h
    go_enter Tryd.func25, Tryd.ntmps25
    go_wp2
    all_goals
      go_ret
      exact ⟨rfl, hbx⟩
  by_cases h4 : 0 ≤ s
  rotate_left
  · clear h
    go_enter Tryd.func25, Tryd.ntmps25
    go_wp2
    all_goals
      go_ret
      exact ⟨rfl, hbx⟩
  by_cases h5 : s ≤ 8
  rotate_left
  · clear h
    go_enter Tryd.func25, Tryd.ntmps25
    go_wp2
    all_goals
      go_ret
      exact ⟨rfl, hbx⟩
  exact absurd ⟨h0, hb, h2, h3, h4, h5⟩ h
set_option maxRecDepth 100000 in
/-- A geometry of any numbers. -/
theorem form_gen (b p s : Int) (B : List Int) (a : Option Addr) (c : Nat) (w : World) (h : Pn.RdI w a B) (hB : B.length ≤ 1000) :
    Calls Tryd.prog 70 #[Pn.geo b p s a B.length c] w fun e w' => e = .returned (.bool (Plan.form b p s B)) ∧ Below w.heap.size w w' := by
  by_cases hr : rng b p s
  · exact Pn.form_any b p s B a c w h hB (small_rng hr)
  · rw [form_rng hr]; exact form_no b p s a B.length c w hr
set_option maxRecDepth 100000 in
theorem refform_gen (b p s : Int) (B : List Int) (a : Option Addr) (c : Nat) (w : World) (h : Pn.RdI w a B) (hB : B.length ≤ 1000) (hb : b ≤ 64) :
    Calls Tryd.prog 25 #[Pn.geo b p s a B.length c] w fun e w' => e = .returned (.bool (Plan.form b p s B)) ∧ Below w.heap.size w w' := by
  by_cases hr : rng b p s
  · exact Pn.refform_any b p s B a c w h hB (small_rng hr) hb
  · rw [form_rng hr]; exact refform_no b p s a B.length c w hr hb
set_option maxRecDepth 100000 in
/-- All, of an array that isn't off and holds little, and a geometry of any numbers: OK just if it is its own. -/
theorem all_gen {w : World} {F : Nat → Prop} {g : Nat} {ar : Arr} (hA : ArrAt w F g ar) (b p s : Int) (B : List Int) (a : Option Addr) (c : Nat) (h : Pn.RdI w a B) (hB : B.length ≤ 1000) (hoff : ar.off = false) (hT : Tab w) (hl9 : ∀ C, (heldI C ar (usb b B)).length ≤ 100000) :
    Calls Tryd.prog 15 #[.pointer (some ⟨g, 0, none⟩), Pn.geo b p s a B.length c] w fun e w' => ∃ (x0 : Option Addr) (x1 : Option Nat) (x2 : Nat) (x3 : Option Addr) (x4 x5 : Nat), e = .returned (.tuple #[.agg #[.pointer x0, .map x1, .int .u64 x2, .slice x3 x4 x5], .int .i64 (if Plan.form b p s B = true ∧ (ar.n : Int) = b ∧ (ar.pages : Int) = p then 0 else 1)]) ∧ Below w.heap.size w w' := by
  by_cases hc : Plan.form b p s B = true ∧ (ar.n : Int) = b ∧ (ar.pages : Int) = p
  · rw [if_pos hc]
    obtain ⟨h1, h2, h3⟩ := hc
    have hr : rng b p s := by
      by_cases hr : rng b p s
      · exact hr
      · rw [form_rng hr] at h1; cases h1
    have hcap : Plan.cap b p s B = (Plan.cap b p s B).toNat := by
      have : 0 < Plan.cap b p s B := by unfold Plan.form at h1; exact (of_decide_eq_true h1).2.2.2.2.2.2.2
      omega
    have hgm : Geom w ar b p s B a (Plan.cap b p s B).toNat := ⟨h, hB, small_rng hr, h1, hcap, h2, h3⟩
    exact (all_on (c := c) hA hgm hoff hT (hl9 _)).mono fun e w' ⟨g0, pb0, cb0, pb, N, a', c', he, _, _, _, hb⟩ => ⟨_, _, _, _, _, _, he, hb⟩
  · rw [if_neg hc]
    have hbx : Below w.heap.size w ((w.alloc (Pn.boxed b p s a B.length c)).alloc zst) := ((Below.refl _ _).alloc (Nat.le_refl _) _).alloc (by simp) _
    have hF := fits_any (hA.keep hbx) b p s a B.length c (Plan.form b p s B) (fun W hb => form_gen b p s B a c W ((h.below hbx).below hb) hB)
    rw [if_neg hc] at hF
    exact (all_early 1 (.inr rfl) hF).mono fun e w' ⟨he, hb⟩ => ⟨none, none, 0, none, 0, 0, he, hb⟩
set_option maxRecDepth 100000 in
/-- An operation at which the power is cut. -/
theorem erase_cut {s : Arr} (i : Nat) (hi : i < s.n) (hoff : s.off = false) (hf : s.fence = 0) (ha : s.armed = 1) (e : Nat) : (s.erase i e).2.off = true ∧ (s.erase i e).2.n = s.n ∧ (s.erase i e).2.pages = s.pages := by
  have c1 : ¬ ¬ inB (i : Int) s.n := fun h => h ⟨by omega, by omega⟩
  have c2 : ¬ s.off = true := by rw [hoff]; simp
  have c6 : ¬ e < s.fence := by rw [hf]; omega
  unfold Arr.erase
  rw [if_neg c1, if_neg c2, if_neg c6]
  unfold Arr.operate
  rw [if_pos ha]
  exact ⟨rfl, rfl, rfl⟩
end Go.Proofs.YtmhmmemmdekjhaaDoor.Sc
namespace Go.Proofs.YtmhmmemmdekjhaaDoor.Sc
open Go.RowKit
open Drawbar Drawbar.Sheet Drawbar.Nand Drawbar.Scan Drawbar.Gm Go.Proofs.YtmhmmemmdekjhaaDoor.Nd
set_option maxRecDepth 100000 in
theorem two_gus : ∀ n, n < 256 → (2 : Int) ∈ gus n := by
  have h : ((List.range 256).all fun n => decide ((2 : Int) ∈ gus n)) = true := by decide +kernel
  intro n hn
  exact of_decide_eq_true (List.all_eq_true.1 h n (List.mem_range.2 hn))
set_option maxRecDepth 100000 in
theorem held_S0 (C : Int) (n : Nat) (us : List Int) : heldI C (S0 n) us = [] := by
  unfold heldI
  rw [List.flatMap_eq_nil_iff]
  exact fun i _ => blockF_fresh (S0_b n _).1
def xE : Sh := ⟨1, 0, 0, 0, -1, []⟩
set_option maxRecDepth 100000 in
theorem xE_fm : fm xE = true := by decide
def sE (n : Nat) : Arr := putA (S0 n) 2 (page xE)
set_option maxRecDepth 100000 in
theorem sE_prog (n : Nat) (hn : n < 256) : (S0 n).program 2 0 (page xE) 0 = (0, sE n) :=
  (good_S0 n).program (i := 2) (two_gus n hn) (page_length _ (by simp [xE])) 0 (by rw [(S0_b n 2).1]; have := gP_le n; show 0 < gP n; omega) (S0_b n 2).2 0 (by rw [(S0_b n 2).1]; rfl)
set_option maxRecDepth 100000 in
theorem sE_cut (n : Nat) (hn : n < 256) : ({ sE n with armed := 1 }.erase 2 0).2.off = true ∧ ({ sE n with armed := 1 }.erase 2 0).2.n = gN n ∧ ({ sE n with armed := 1 }.erase 2 0).2.pages = gP n := by
  have hg := (good_S0 n).put 2 (page xE)
  exact erase_cut (s := { sE n with armed := 1 }) 2 (by have := (gus_rng n 2 (two_gus n hn)).2; show 2 < gN n; omega) hg.off hg.fence rfl 0
/-- What the law's array tells of no happenings. -/
def ArrNil (n : Nat) : Prop := ∀ W ga gc, Tab W → Bads W ga (gB n) → Calls Tryd.prog 11 #[.agg #[.int .i64 (gb n), .int .i64 (gp n), .int .i64 (gs n), .slice ga (gB n).length gc], .slice none 0 0] W
  fun e w' => ∃ g oa ol oc, e = .returned (.tuple #[.pointer (some ⟨g, 0, none⟩), .slice oa ol oc]) ∧ Free W.heap.size [] w' g (S0 n) ∧ Below W.heap.size W w'
set_option maxRecDepth 100000 in
set_option maxHeartbeats 4000000 in
theorem errs_of (n : Nat) (hn : n < 256) (hAR : ArrNil n) (b p s : Int) (B : List Int) (a : Option Addr) (c : Nat) (w : World) (hr : Pn.RdI w a B) (hT : Tab w) :
    Calls Tryd.prog 6 #[Pn.geo b p s a B.length c, .int .u8 n] w (Yes w) := by
  obtain ⟨w0, hw0⟩ : ∃ w0, w0 = w.alloc (Pn.boxed b p s a B.length c) := ⟨_, rfl⟩
  have hb0 : Below w.heap.size w w0 := by rw [hw0]; exact (Below.refl _ _).alloc (Nat.le_refl _) _
  have hT0 := hT.below hb0 hT.pos
  have hr0 := hr.below hb0
  have hcells := Pn.boxed_cells w b p s a B.length c
  rw [← hw0] at hcells
  have HAW := Lib.hid (awake_any w0 hT0)
  have HT := Lib.hid hT0
  have HR := Lib.hid hr0
  have HC := Lib.hid hcells
  have HB0 := Lib.hid hb0
  have HW0 := Lib.hid hw0
  rw [hw0] at HAW
  unfold Pn.geo
  clear hb0 hT hT0 hr hr0 hcells hw0
  by_cases hl : B.length ≤ 100 ∧ b ≤ 64
  rotate_left
  · go_enter Tryd.func6, Tryd.ntmps6
    go_wp2_with fail
    (with_reducible refine HAW.out.mono ?_)
    rintro e w1 ⟨rfl, hb1⟩
    rw [← HW0.out] at hb1
    obtain ⟨t0, t1, t2, t3⟩ := HC.out _ hb1
    have HA2 := Lib.hid (awake_any w1 (HT.out.below hb1 HT.out.pos))
    have HB1 := Lib.hid (HB0.out.trans (hb1.mono HB0.out.size))
    clear hb1
    by_cases h1 : B.length ≤ 100
    · have d1 : decide ((100 : Int) < (B.length : Int)) = false := decide_eq_false (by omega)
      have d2 : decide ((64 : Int) < b) = true := decide_eq_true (by omega)
      go_wp2_with fail
      (with_reducible refine HA2.out.mono ?_)
      rintro e w2 ⟨rfl, hb2⟩
      have HB2 := Lib.hid (HB1.out.trans (hb2.mono HB1.out.size))
      clear hb2
      go_wp2
      go_ret
      exact ⟨rfl, HB2.out⟩
    · have d1 : decide ((100 : Int) < (B.length : Int)) = true := decide_eq_true (by omega)
      go_wp2_with fail
      (with_reducible refine HA2.out.mono ?_)
      rintro e w2 ⟨rfl, hb2⟩
      have HB2 := Lib.hid (HB1.out.trans (hb2.mono HB1.out.size))
      clear hb2
      go_wp2
      go_ret
      exact ⟨rfl, HB2.out⟩
  · obtain ⟨hl1, hl2⟩ := hl
    have HG := Lib.hid (fun W => (geometry_any n hn W : Calls Tryd.prog 10 #[.int .u8 n] W (Geos W n)))
    have d1 : decide ((100 : Int) < (B.length : Int)) = false := decide_eq_false (by omega)
    have d2 : decide ((64 : Int) < b) = false := decide_eq_false (by omega)
    go_enter Tryd.func6, Tryd.ntmps6
    go_wp2_with fail
    (with_reducible refine HAW.out.mono ?_)
    rintro e w1 ⟨rfl, hb1⟩
    rw [← HW0.out] at hb1
    obtain ⟨t0, t1, t2, t3⟩ := HC.out _ hb1
    have hNil := all_early (w := w1) (b := b) (p := p) (s := s) (a := a) (n := B.length) (c := c) 5 (.inl rfl) (fits_nil b p s a B.length c _)
    unfold Pn.geo at hNil
    have HNil := Lib.hid hNil
    have HB1 := Lib.hid hb1
    clear hb1 hNil
    go_wp2_with fail
    (with_reducible refine HNil.out.mono ?_)
    rintro e w2 ⟨rfl, hb2⟩
    obtain ⟨w3, hw3⟩ : ∃ w3, w3 = w2.alloc (.cells #[.pointer none, .map none, .int .u64 0, .slice none 0 0] 54) := ⟨_, rfl⟩
    have hb3 : Below w0.heap.size w0 w3 := by rw [hw3]; exact (HB1.out.trans (hb2.mono HB1.out.size)).alloc (Nat.le_trans HB1.out.size hb2.size) _
    obtain ⟨u0, u1, u2, u3⟩ := HC.out _ hb3
    have hBl := block_nil b p s a B.length c n w3
    unfold Pn.geo at hBl
    have HBl := Lib.hid hBl
    have HB3 := Lib.hid hb3
    rw [hw3] at HBl u0 u1 u2 u3
    have HW3 := Lib.hid hw3
    clear hb2 hb3 hBl hw3 t0 t1 t2 t3
    go_wp2_with fail
    (with_reducible refine HBl.out.mono ?_)
    rintro e w4 ⟨aa, cc, rfl, -, -, hb4⟩
    rw [← HW3.out] at hb4
    have HB4 := Lib.hid (HB3.out.trans (hb4.mono HB3.out.size))
    clear hb4 u0 u1 u2 u3
    go_wp2_with fail
    (with_reducible refine (HG.out _).mono ?_)
    rintro e w5 ⟨ga, gc, rfl, hBd, hb5⟩
    obtain ⟨w6, hw6⟩ : ∃ w6, w6 = w5.alloc (Pn.boxed (gb n) (gp n) (gs n) ga (gB n).length gc) := ⟨_, rfl⟩
    have hb56 : Below w5.heap.size w5 w6 := by rw [hw6]; exact (Below.refl _ _).alloc (Nat.le_refl _) _
    have hb06 : Below w0.heap.size w0 w6 := (HB4.out.trans (hb5.mono HB4.out.size)).trans (hb56.mono (Nat.le_trans HB4.out.size hb5.size))
    have hgeo : w6.heap[w5.heap.size]? = some (Pn.boxed (gb n) (gp n) (gs n) ga (gB n).length gc) := by rw [hw6]; exact heap_alloc_new _ _
    have HAR := Lib.hid (hAR w6 ga gc (HT.out.below hb06 HT.out.pos) (hBd.below hb56))
    have H6 := Lib.hid (And.intro (hBd.below hb56) (And.intro hb06 (And.intro hgeo (Array.getElem?_eq_some_iff.1 hgeo).1)))
    rw [hw6] at HAR
    have HW6 := Lib.hid hw6
    unfold Pn.geo
    clear hb5 hb56 hb06 hgeo hBd hw6
    go_wp2_with fail
    (with_reducible refine HAR.out.mono ?_)
    rintro e w7 ⟨g, oa, ol, oc, rfl, hF7, hb7⟩
    rw [← HW6.out] at hF7 hb7
    obtain ⟨hBd6, hb06, hgeo6, hgl6⟩ := H6.out
    have hb07 : Below w0.heap.size w0 w7 := hb06.trans (hb7.mono hb06.size)
    obtain ⟨u0, u1, u2, u3⟩ := HC.out _ hb07
    obtain ⟨F, hA, -, -⟩ := hF7.arr
    have hAll := all_gen hA b p s B a c (HR.out.below hb07) (by omega) rfl hF7.tab (fun C => by rw [held_S0]; simp)
    unfold Pn.geo at hAll
    obtain ⟨z, hz⟩ : ∃ z : Int, (if Plan.form b p s B = true ∧ ((S0 n).n : Int) = b ∧ ((S0 n).pages : Int) = p then (0 : Int) else 1) = z := ⟨_, rfl⟩
    rw [hz] at hAll
    have HZ := Lib.hid hz
    have HAll := Lib.hid hAll
    have H7 := Lib.hid (And.intro hF7 (And.intro hb7 hb07))
    clear hAll hA hF7 hb7 hb06 hgeo6 hgl6 hBd6 hb07 hz
    go_wp2_with fail
    (with_reducible refine HAll.out.mono ?_)
    rintro e w8 ⟨x0, x1, x2, x3, x4, x5, rfl, hb8⟩
    obtain ⟨w9, hw9⟩ : ∃ w9, w9 = w8.alloc (.cells #[.pointer x0, .map x1, .int .u64 x2, .slice x3 x4 x5] 54) := ⟨_, rfl⟩
    have hb79 : Below w7.heap.size w7 w9 := by rw [hw9]; exact hb8.alloc hb8.size _
    have hb09 := H7.out.2.2.trans (hb79.mono H7.out.2.2.size)
    have HFm := Lib.hid (refform_gen b p s B a c w9 (HR.out.below hb09) (by omega) hl2)
    obtain ⟨v0, v1, v2, v3⟩ := HC.out _ hb09
    have H9 := Lib.hid (And.intro hb79 hb09)
    unfold Pn.geo at HFm
    rw [hw9] at v0 v1 v2 v3 HFm
    have HW9 := Lib.hid hw9
    clear hb8 hb79 hb09 hw9 u0 u1 u2 u3
    go_upto_region 8 with fail
    go_cut [89] from 55 to 88 (fun v wx => v = .bool false ∧ Below w9.heap.size w9 wx)
    case first =>
      by_cases hc : Plan.form b p s B = true ∧ ((S0 n).n : Int) = b ∧ ((S0 n).pages : Int) = p
      · have hz0 : z = 0 := by rw [← HZ.out, if_pos hc]
        subst hz0
        obtain ⟨hc1, hc2, hc3⟩ := hc
        have e1 : (b == gb n) = true := by rw [gb_eq, ← hc2]; exact beq_self_eq_true _
        have e2 : (p == gp n) = true := by rw [gp_eq, ← hc3]; exact beq_self_eq_true _
        rw [hc1] at HFm
        clear hc1 hc2 hc3
        go_wp2_with fail
        (with_reducible refine HFm.out.mono ?_)
        rintro e w10 ⟨rfl, hb10⟩
        rw [← HW9.out] at hb10
        obtain ⟨s0, s1, s2, s3⟩ := HC.out _ (H9.out.2.trans (hb10.mono H9.out.2.size))
        obtain ⟨hBd6, hb06, hgeo6, hgl6⟩ := H6.out
        have hb610 := (H7.out.2.1.trans (H9.out.1.mono H7.out.2.1.size)).trans (hb10.mono (Nat.le_trans H7.out.2.1.size H9.out.1.size))
        obtain ⟨⟨r0, r1, r2, r3⟩, -⟩ := four_cells ((hb610.block _ hgl6).trans hgeo6)
        have HB10 := Lib.hid hb10
        clear hb10 hb610 hBd6 hb06 hgeo6 hgl6
        go_wp2_with fail
        go_meet
        exact ⟨rfl, HB10.out⟩
      · have hz0 : z = 1 := by rw [← HZ.out, if_neg hc]
        subst hz0
        by_cases hf : Plan.form b p s B = true
        · rw [hf] at HFm
          by_cases eb : b = gb n
          · have e1 : (b == gb n) = true := by rw [eb]; exact beq_self_eq_true _
            have e2 : (p == gp n) = false := by
              rw [beq_eq_false_iff_ne]
              intro ep
              exact hc ⟨hf, by rw [eb, gb_eq]; rfl, by rw [ep, gp_eq]; rfl⟩
            clear hc hf eb
            go_wp2_with fail
            (with_reducible refine HFm.out.mono ?_)
            rintro e w10 ⟨rfl, hb10⟩
            rw [← HW9.out] at hb10
            obtain ⟨s0, s1, s2, s3⟩ := HC.out _ (H9.out.2.trans (hb10.mono H9.out.2.size))
            obtain ⟨hBd6, hb06, hgeo6, hgl6⟩ := H6.out
            have hb610 := (H7.out.2.1.trans (H9.out.1.mono H7.out.2.1.size)).trans (hb10.mono (Nat.le_trans H7.out.2.1.size H9.out.1.size))
            obtain ⟨⟨r0, r1, r2, r3⟩, -⟩ := four_cells ((hb610.block _ hgl6).trans hgeo6)
            have HB10 := Lib.hid hb10
            clear hb10 hb610 hBd6 hb06 hgeo6 hgl6
            go_wp2_with fail
            go_meet
            exact ⟨rfl, HB10.out⟩
          · have e1 : (b == gb n) = false := by rw [beq_eq_false_iff_ne]; exact eb
            clear hc hf eb
            go_wp2_with fail
            (with_reducible refine HFm.out.mono ?_)
            rintro e w10 ⟨rfl, hb10⟩
            rw [← HW9.out] at hb10
            obtain ⟨s0, s1, s2, s3⟩ := HC.out _ (H9.out.2.trans (hb10.mono H9.out.2.size))
            obtain ⟨hBd6, hb06, hgeo6, hgl6⟩ := H6.out
            have hb610 := (H7.out.2.1.trans (H9.out.1.mono H7.out.2.1.size)).trans (hb10.mono (Nat.le_trans H7.out.2.1.size H9.out.1.size))
            obtain ⟨⟨r0, r1, r2, r3⟩, -⟩ := four_cells ((hb610.block _ hgl6).trans hgeo6)
            have HB10 := Lib.hid hb10
            clear hb10 hb610 hBd6 hb06 hgeo6 hgl6
            go_wp2_with fail
            go_meet
            exact ⟨rfl, HB10.out⟩
        · rw [Bool.eq_false_iff.2 hf] at HFm
          clear hc hf
          go_wp2_with fail
          (with_reducible refine HFm.out.mono ?_)
          rintro e w10 ⟨rfl, hb10⟩
          rw [← HW9.out] at hb10
          obtain ⟨s0, s1, s2, s3⟩ := HC.out _ (H9.out.2.trans (hb10.mono H9.out.2.size))
          obtain ⟨hBd6, hb06, hgeo6, hgl6⟩ := H6.out
          have hb610 := (H7.out.2.1.trans (H9.out.1.mono H7.out.2.1.size)).trans (hb10.mono (Nat.le_trans H7.out.2.1.size H9.out.1.size))
          obtain ⟨⟨r0, r1, r2, r3⟩, -⟩ := four_cells ((hb610.block _ hgl6).trans hgeo6)
          have HB10 := Lib.hid hb10
          clear hb10 hb610 hBd6 hb06 hgeo6 hgl6
          go_wp2_with fail
          go_meet
          exact ⟨rfl, HB10.out⟩
    case rest =>
      obtain ⟨rfl, hbx⟩ := hcut
      clear v0 v1 v2 v3
      have hb7x : Below w7.heap.size w7 wc := H9.out.1.trans (hbx.mono H9.out.1.size)
      have hFx := H7.out.1.keep hb7x
      have hb6x := H7.out.2.1.trans (hb7x.mono H7.out.2.1.size)
      have HLY := Lib.hid (show Calls Tryd.prog 23 #[.agg #[.int .u8 1, .int .u64 0, .int .u64 0, .int .i64 0, .int .i64 (-1), .slice none 0 0]] wc (Gives wc (page xE) 96) from lay_gives xE none 0 wc xE_fm (rd_nil _) (Nat.le_refl _) (fun _ => rfl) hFx.tab)
      have HP := Lib.hid (fun W (hb : Below wc.heap.size wc W) a c (hrd : Rd W a (page xE)) => (show Calls Tryd.prog 22 #[.pointer (some ⟨g, 0, none⟩), .int .i64 2, .int .i64 0, .slice a 96 c, .int .u64 0] W (fun e w' => e = .returned (.int .i64 0) ∧ Did2 w6.heap.size [] W g (sE n) w') from (by
        have h := program_f (hFx.keep hb) 2 0 (page xE) a c 0 hrd 96 (page_length _ (by simp [xE]))
        rw [sE_prog n hn] at h
        exact h)))
      have Hx := Lib.hid hb6x
      clear hbx hb7x hFx hb6x
      go_wp2_with fail
      (with_reducible refine HLY.out.mono ?_)
      rintro e w10 ⟨a10, c10, rfl, hc10, hr10, hb10, -⟩
      have HP10 := Lib.hid (HP.out _ hb10 _ c10 hr10)
      have HB10 := Lib.hid (Hx.out.trans (hb10.mono Hx.out.size))
      clear hr10 hb10 hc10
      go_wp2_with fail
      (with_reducible refine HP10.out.mono ?_)
      rintro e w11 ⟨rfl, hD11⟩
      have HAm := Lib.hid (show Calls Tryd.prog 26 #[.pointer (some ⟨g, 0, none⟩), .int .i64 1] w11 (fun e w' => e = .returned (.int .i64 0) ∧ Did2 w6.heap.size [] w11 g { sE n with armed := 1 } w') from arm_f hD11.free 1 (by omega))
      have HB11 := Lib.hid (HB10.out.trans hD11.below)
      clear hD11
      go_wp2_with fail
      (with_reducible refine HAm.out.mono ?_)
      rintro e w12 ⟨rfl, hD12⟩
      have HEr := Lib.hid (show Calls Tryd.prog 24 #[.pointer (some ⟨g, 0, none⟩), .int .i64 2, .int .u64 0] w12 (fun e w' => e = .returned (.int .i64 ({ sE n with armed := 1 }.erase 2 0).1) ∧ Did2 w6.heap.size [] w12 g ({ sE n with armed := 1 }.erase 2 0).2 w') from erase_f hD12.free 2 0)
      have HB12 := Lib.hid (HB11.out.trans hD12.below)
      clear hD12
      go_wp2_with fail
      (with_reducible refine HEr.out.mono ?_)
      rintro e w13 ⟨rfl, hD13⟩
      have hb613 := HB12.out.trans hD13.below
      obtain ⟨hBd6, hb06, hgeo6, hgl6⟩ := H6.out
      obtain ⟨⟨t0, t1, t2, t3⟩, -⟩ := four_cells ((hb613.block _ hgl6).trans hgeo6)
      obtain ⟨F, hA, -, -⟩ := hD13.free.arr
      obtain ⟨ho, hn1, hp1⟩ := sE_cut n hn
      have hOff := all_off (c := gc) hA (geom_of hn (hBd6.below hb613) hn1 hp1) ho (by show 0 < (gus n).length; have := gus_len n hn; omega)
      unfold Pn.geo at hOff
      have HOff := Lib.hid hOff
      have HB13 := Lib.hid (HB0.out.trans ((hb06.trans (hb613.mono hb06.size)).mono HB0.out.size))
      clear hOff hA hD13 hb613 hBd6 hb06 hgeo6 hgl6 ho hn1 hp1
      go_wp2_with fail
      (with_reducible refine HOff.out.mono ?_)
      rintro e w14 ⟨rfl, hb14⟩
      have HF14 := Lib.hid (HB13.out.trans (hb14.mono HB13.out.size))
      clear hb14
      go_wp2
      go_ret
      exact ⟨rfl, HF14.out.alloc HF14.out.size _⟩
end Go.Proofs.YtmhmmemmdekjhaaDoor.Sc
namespace Go.Proofs.YtmhmmemmdekjhaaDoor.Sc
open Go.RowKit
open Drawbar Drawbar.Sheet Drawbar.Nand Drawbar.Scan Drawbar.Gm Go.Proofs.YtmhmmemmdekjhaaDoor.Nd
set_option maxRecDepth 100000 in
theorem info_rb : (Tryd.prog.info? 87).map (fun i => (i.zero, i.size, i.bytes)) = some (some (.agg #[.slice none 0 0, .int .i64 0, .bool false, .bool false, .bool false, .int .i64 0]), 6, 48) := by kernel_rfl
def zrb : Array Value := #[Value.slice none 0 0, .int .i64 0, .bool false, .bool false, .bool false, .int .i64 0]
set_option maxRecDepth 100000 in
theorem made_rb (n i k : Nat) (hi : i < n) (hk : k < 6) (v : Value) (h : zrb[k]? = some v) : (madeCells #[Value.slice none 0 0, .int .i64 0, .bool false, .bool false, .bool false, .int .i64 0] (n * 6)).toList[i * 6 + k]? = some v := by
  have hlt : i * 6 + k < n * 6 := by omega
  unfold madeCells
  have hm : (i * 6 + k) % 6 = k := by omega
  simp [hlt, hm]
  match k, hk, h with
  | 0, _, h => simpa [zrb] using h
  | 1, _, h => simpa [zrb] using h
  | 2, _, h => simpa [zrb] using h
  | 3, _, h => simpa [zrb] using h
  | 4, _, h => simpa [zrb] using h
  | 5, _, h => simpa [zrb] using h
/-- A row of the document's blocks, as far as it is read. -/
def Row0 (w : World) (rb N : Nat) : Prop :=
  (∀ i, i < N → w.cell? ⟨rb, i * 6, none⟩ = some (.slice none 0 0) ∧ w.cell? ⟨rb, i * 6 + 2, none⟩ = some (.bool false) ∧ (∃ v, w.cell? ⟨rb, i * 6 + 3, none⟩ = some v) ∧ ∃ v, w.cell? ⟨rb, i * 6 + 4, none⟩ = some v) ∧ ∀ o, w.frozen? ⟨rb, o, none⟩ = false
set_option maxRecDepth 100000 in
theorem some_set {w : World} {p q : Addr} {x v : Value} (h : w.cell? q = some v) : ∃ v', (w.setCell p x).cell? q = some v' := by
  by_cases e : p = q
  · subst e; exact ⟨x, World.cell?_setCell_same w p x h⟩
  · exact ⟨v, (World.cell?_setCell_other w p q x e).trans h⟩
set_option maxRecDepth 100000 in
theorem Row0.set {w : World} {rb N : Nat} (h : Row0 w rb N) (i k : Nat) (hk : k = 3 ∨ k = 4) (x : Value) : Row0 (w.setCell ⟨rb, i * 6 + k, none⟩ x) rb N := by
  refine ⟨fun j hj => ?_, fun o => by rw [World.frozen?_setCell]; exact h.2 o⟩
  obtain ⟨h0, h2, ⟨v3, h3⟩, v4, h4⟩ := h.1 j hj
  refine ⟨?_, ?_, some_set h3, some_set h4⟩
  · exact (World.cell?_setCell_other w _ _ x (fun e => by injection e with _ e2 _; omega)).trans h0
  · exact (World.cell?_setCell_other w _ _ x (fun e => by injection e with _ e2 _; omega)).trans h2
set_option maxRecDepth 100000 in
theorem Row0.keep {w w' : World} {rb N : Nat} (h : Row0 w rb N) (e : w'.heap[rb]? = w.heap[rb]?) : Row0 w' rb N := by
  refine ⟨fun j hj => ?_, fun o => (World.frozen?_of_block (w := w) (w' := w') (a := ⟨rb, o, none⟩) e).trans (h.2 o)⟩
  obtain ⟨h0, h2, ⟨v3, h3⟩, v4, h4⟩ := h.1 j hj
  exact ⟨(World.cell?_of_block (a := ⟨rb, _, none⟩) e).trans h0, (World.cell?_of_block (a := ⟨rb, _, none⟩) e).trans h2, ⟨v3, (World.cell?_of_block (a := ⟨rb, _, none⟩) e).trans h3⟩, v4, (World.cell?_of_block (a := ⟨rb, _, none⟩) e).trans h4⟩
/-- What the document's New makes. -/
def NewM (w : World) (N : Nat) (e : Ending) (w' : World) : Prop :=
  ∃ m rb, e = .returned (.tuple #[.pointer (some ⟨m, 0, none⟩), .int .i64 0]) ∧ Row0 w' rb N ∧ w'.cell? ⟨m, 0, none⟩ = some (.slice (some ⟨rb, 0, none⟩) N N) ∧ Below w.heap.size w w'
set_option maxRecDepth 100000 in
set_option maxHeartbeats 4000000 in
theorem refnew_any (N P : Nat) (B : List Int) (a : Option Addr) (c : Nat) (w : World) (h1 : 0 < N) (h2 : N ≤ 64) (h3 : 0 < P) (h4 : P ≤ 32) (hB : B = [] ∨ (B = [3] ∧ 3 < N)) (hr : Pn.RdI w a B) :
    Calls Tryd.prog 28 #[.int .i64 N, .int .i64 P, .slice a B.length c] w (NewM w N) := by
  obtain ⟨i0, hi0, hz0, hz1, hz2⟩ := info_parts info_rb
  have hn1 : (1 : Int) ≤ N ∧ (N : Int) ≤ 64 := by omega
  have hn2 : (1 : Int) ≤ P ∧ (P : Int) ≤ 32 := by omega
  have HR := Lib.hid hr
  have HBB := Lib.hid hB
  have hl1 : B.length ≤ 1 := by rcases hB with rfl | ⟨rfl, -⟩ <;> simp
  clear hr hB
  go_enter Tryd.func28, Tryd.ntmps28
  go_wp2_with (at_make; refine wpList_make_full _ rfl _ _ 88 rfl w.heap.size 87 i0 (.agg #[Value.slice none 0 0, .int .i64 0, .bool false, .bool false, .bool false, .int .i64 0]) 6 Tryd.underlying88 hi0 hz0 hz1 .i64 .i64 N N N rfl rfl rfl rfl ?c1 ?c2 (Nat.le_refl _) ?_)
  case c1 => rw [hz2]; omega
  case c2 => unfold maxLen; omega
  intro w1 hown hgr
  have hrow : Row0 w1 w.heap.size N := ⟨fun i hi => ⟨(hown.cellAt (i * 6) (by omega)).trans (made_rb N i 0 hi (by omega) _ rfl), (hown.cellAt (i * 6 + 2) (by omega)).trans (made_rb N i 2 hi (by omega) _ rfl), ⟨_, (hown.cellAt (i * 6 + 3) (by omega)).trans (made_rb N i 3 hi (by omega) _ rfl)⟩, _, (hown.cellAt (i * 6 + 4) (by omega)).trans (made_rb N i 4 hi (by omega) _ rfl)⟩, fun o => hown.frozenAt o⟩
  have hB1 : Below w.heap.size w w1 := (Below.refl _ _).grown hgr (Nat.le_refl _) (fun k hk => by cases hk)
  have hsz : w.heap.size < w1.heap.size := (hown.lt _ rfl).2
  have H1 := Lib.hid (And.intro hrow (And.intro hB1 hsz))
  clear hown hgr hi0 hz0 hz1 hz2 hrow hB1
  obtain ⟨w2, hw2⟩ : ∃ w2, w2 = w1.alloc (.cells #[.slice (some ⟨w.heap.size, 0, none⟩) N N, .int .i64 P, .int .u64 0, .int .i64 0, .int .i64 0, .bool false, .int .i64 0, .int .i64 (-1), .string { data := #[] }] 90) := ⟨_, rfl⟩
  have hb12 : Below w1.heap.size w1 w2 := by rw [hw2]; exact (Below.refl _ _).alloc (Nat.le_refl _) _
  have hm2 : w2.cell? ⟨w1.heap.size, 0, none⟩ = some (.slice (some ⟨w.heap.size, 0, none⟩) N N) := by rw [hw2]; unfold World.cell?; rw [heap_alloc_new]; rfl
  have H2 := Lib.hid (And.intro (H1.out.1.keep (hb12.block _ H1.out.2.2)) (And.intro hm2 (H1.out.2.1.trans (hb12.mono H1.out.2.1.size))))
  have HW2 := Lib.hid hw2
  clear hw2 hb12 hm2
  go_wp2_with fail
  rw [← HW2.out]
  go_loopw [9] (fun iv wr => ∃ j : Nat, j ≤ B.length ∧ iv = .int .i64 j ∧ Row0 wr w.heap.size N ∧ wr.cell? ⟨w1.heap.size, 0, none⟩ = some (.slice (some ⟨w.heap.size, 0, none⟩) N N) ∧ Below w.heap.size w wr) (fun iv _ => B.length - (intOf iv).toNat)
  case atStart => exact ⟨0, Nat.zero_le _, rfl, H2.out⟩
  case round =>
    obtain ⟨j, hj, rfl, hrow, hm, hb⟩ := hrel
    by_cases hjl : j < B.length
    · have hjl2 : (j : Int) < (B.length : Int) := by omega
      obtain ⟨hB3, hN3⟩ : B = [3] ∧ 3 < N := by
        rcases HBB.out with h | h
        · rw [h] at hjl; simp at hjl
        · exact h
      have hj0 : j = 0 := by omega
      have hg3 : B.getD j 0 = 3 := by rw [hB3, hj0]; rfl
      obtain ⟨ab, ao, rfl, hcell⟩ := HR.out (by omega)
      have hq0 := hcell j hjl
      rw [hg3] at hq0
      have hq : wr.cell? ⟨ab, ao + j, none⟩ = some (.int .i64 3) := (hb.cell (p := ⟨ab, ao + j, none⟩) (World.block_lt_of_cell? w _ hq0)).trans hq0
      have hab : ab < w.heap.size := World.block_lt_of_cell? w _ hq0
      have hJ0 := Lib.hid hj0
      clear hB3 hg3 hj0
      obtain ⟨-, -, ⟨v3, h3⟩, v4, h4⟩ := hrow.1 3 hN3
      have hN3i : (3 : Int) < (N : Int) := by omega
      have hR1 := hrow.set 3 3 (.inl rfl) (.bool true)
      have hR2 := hR1.set 3 4 (.inr rfl) (.bool true)
      have hf := hrow.2
      have HRW := Lib.hid (And.intro hR1 hR2)
      have hd : w1.heap.size ≠ w.heap.size := by have := H1.out.2.2; omega
      have hq1 := (World.cell?_setCell_far wr ⟨w.heap.size, 21, none⟩ ⟨ab, ao + j, none⟩ (.bool true) (by show w.heap.size ≠ ab; omega)).trans hq
      have hm1 := (World.cell?_setCell_far wr ⟨w.heap.size, 21, none⟩ ⟨w1.heap.size, 0, none⟩ (.bool true) (by show w.heap.size ≠ w1.heap.size; omega)).trans hm
      have hf1 : wr.frozen? ⟨w.heap.size, 21, none⟩ = false := hf 21
      have hB1 := hb.setCell (p := ⟨w.heap.size, 21, none⟩) (Nat.le_refl _) (.bool true)
      have hK := And.intro (hR1.keep (w' := (wr.setCell ⟨w.heap.size, 21, none⟩ (.bool true)).drew) rfl) (And.intro (show (wr.setCell ⟨w.heap.size, 21, none⟩ (.bool true)).drew.cell? ⟨w1.heap.size, 0, none⟩ = _ from hm1) (And.intro (show (wr.setCell ⟨w.heap.size, 21, none⟩ (.bool true)).drew.cell? ⟨ab, ao + j, none⟩ = _ from hq1) hB1.drew))
      have HK := Lib.hid hK
      have hs0 := And.intro hm hq
      clear hR1 hR2 hcell hq0 hf hB1 hK HRW hrow hb h4
      go_upto_region 9 with fail
      go_cut [] from 48 to 57 (fun wx => Row0 wx w.heap.size N ∧ wx.cell? ⟨w1.heap.size, 0, none⟩ = some (.slice (some ⟨w.heap.size, 0, none⟩) N N) ∧ wx.cell? ⟨ab, ao + j, none⟩ = some (.int .i64 3) ∧ Below w.heap.size w wx)
      case first =>
        go_region_held (fun W => W.cell? ⟨w1.heap.size, 0, none⟩ = some (.slice (some ⟨w.heap.size, 0, none⟩) N N) ∧ W.cell? ⟨ab, ao + j, none⟩ = some (.int .i64 3)) (first | exact hs0 | exact And.intro hm1 hq1) (first | fail)
        all_goals
          go_wp2_with fail
          go_meet
          exact HK.out
      case rest =>
        obtain ⟨hR3, hm3, hq3, hb3⟩ := hcut
        obtain ⟨-, -, -, v4', h4'⟩ := hR3.1 3 hN3
        have hq4 := (World.cell?_setCell_far wc ⟨w.heap.size, 22, none⟩ ⟨ab, ao + j, none⟩ (.bool true) (by show w.heap.size ≠ ab; omega)).trans hq3
        have hm4 := (World.cell?_setCell_far wc ⟨w.heap.size, 22, none⟩ ⟨w1.heap.size, 0, none⟩ (.bool true) (by show w.heap.size ≠ w1.heap.size; omega)).trans hm3
        have hf4 : wc.frozen? ⟨w.heap.size, 22, none⟩ = false := hR3.2 22
        have hB4 := hb3.setCell (p := ⟨w.heap.size, 22, none⟩) (Nat.le_refl _) (.bool true)
        have hR4 := hR3.set 3 4 (.inr rfl) (.bool true)
        have hs3 := And.intro hm3 hq3
        have HK4 := Lib.hid (And.intro (hR4.keep (w' := (wc.setCell ⟨w.heap.size, 22, none⟩ (.bool true)).drew) rfl) (And.intro (show (wc.setCell ⟨w.heap.size, 22, none⟩ (.bool true)).drew.cell? ⟨w1.heap.size, 0, none⟩ = _ from hm4) hB4.drew))
        clear hR3 hR4 hB4 hb3 hs0 hm1 hq1 hf1 hm hq h3
        go_wp2_with fail
        go_region_held (fun W => W.cell? ⟨w1.heap.size, 0, none⟩ = some (.slice (some ⟨w.heap.size, 0, none⟩) N N) ∧ W.cell? ⟨ab, ao + j, none⟩ = some (.int .i64 3)) (first | exact hs3 | exact And.intro hm4 hq4) (first | fail)
        all_goals
          go_wp2_with fail
          go_roundw
          case rel => exact ⟨j + 1, by omega, by go_num, HK4.out⟩
          case measure => simp [intOf]; omega
    · obtain rfl : j = B.length := by omega
      have hjl2 : ¬ ((B.length : Int) < (B.length : Int)) := by omega
      have HF := Lib.hid (show NewM w N (.returned (.tuple #[.pointer (some ⟨w1.heap.size, 0, none⟩), .int .i64 0])) wr from ⟨_, _, rfl, hrow, hm, hb⟩)
      clear hm hrow hb
      go_wp2
      go_ret2
      exact HF.out
end Go.Proofs.YtmhmmemmdekjhaaDoor.Sc
namespace Go.Proofs.YtmhmmemmdekjhaaDoor.Sc
open Go.RowKit
open Drawbar Drawbar.Sheet Drawbar.Nand Drawbar.Scan Drawbar.Gm Go.Proofs.YtmhmmemmdekjhaaDoor.Nd
set_option maxRecDepth 100000 in
theorem info_ss : (Tryd.prog.info? 85).map (fun i => (i.zero, i.size, i.bytes)) = some (some (.slice none 0 0), 1, 24) := by kernel_rfl
set_option maxRecDepth 100000 in
theorem shape_any {w : World} {base e size n : Nat} {v : Value} {xs : List Value} (h : w.ownsRow base e size v n xs) : ∃ oa ol oc, v = Value.slice oa ol oc := by
  rcases h.2 with ⟨h', _⟩ | ⟨g', cap', cur, h', _⟩ <;> exact ⟨_, _, _, h'⟩
def ArrP (W : World) (n : Nat) (e : Ending) (w' : World) : Prop := ∃ g oa ol oc, e = .returned (.tuple #[.pointer (some ⟨g, 0, none⟩), .slice oa ol oc]) ∧ Free W.heap.size [] w' g (S0 n) ∧ Below W.heap.size W w'
set_option maxRecDepth 100000 in
set_option maxHeartbeats 4000000 in
theorem arr_post (n : Nat) (W : World) (ga : Option Addr) (gc : Nat) (hT : Tab W) (hBd : Bads W ga (gB n)) : Calls Tryd.prog 11 #[.agg #[.int .i64 (gb n), .int .i64 (gp n), .int .i64 (gs n), .slice ga (gB n).length gc], .slice none 0 0] W (ArrP W n) := by
  obtain ⟨i0, hi, hz0, hz1, hz2⟩ := info_parts info_ss
  obtain ⟨W0, hW0⟩ : ∃ W0, W0 = W.alloc (Pn.boxed (gb n) (gp n) (gs n) ga (gB n).length gc) := ⟨_, rfl⟩
  have hb0 : Below W.heap.size W W0 := by rw [hW0]; exact (Below.refl _ _).alloc (Nat.le_refl _) _
  have hcells := Pn.boxed_cells W (gb n) (gp n) (gs n) ga (gB n).length gc
  rw [← hW0] at hcells
  have HN := Lib.hid (new_geo n W0 (hT.below hb0 hT.pos) ga gc (hBd.below hb0))
  have HC := Lib.hid hcells
  have HB0 := Lib.hid (And.intro hb0 (hBd.below hb0))
  have HW0 := Lib.hid hW0
  have hW0l : W.heap.size < W0.heap.size := by rw [hW0]; simp
  rw [hW0] at HN
  have HP0 := Lib.hid hT.pos
  clear hb0 hcells hT hBd hW0
  go_enter Tryd.func11, Tryd.ntmps11
  go_wp2_with fail
  (with_reducible refine HN.out.mono ?_)
  rintro e w4 ⟨g, rfl, hF4, hb4⟩
  rw [← HW0.out] at hF4 hb4
  obtain ⟨t0, t1, t2, t3⟩ := HC.out _ hb4
  have hM := refnew_any (gN n) (gP n) (gB n) ga gc w4 (by have := gN_le n; omega) (by have := gN_le n; omega) (by have := gP_le n; omega) (by have := gP_le n; omega) (by
    rcases gB_cases n with e | ⟨e, h⟩
    · exact .inl e
    · exact .inr ⟨e, by have := gN_le n; omega⟩) ((HB0.out.2.below hb4).rd)
  rw [← gb_eq, ← gp_eq] at hM
  have HM := Lib.hid hM
  have H4 := Lib.hid (And.intro hF4 hb4)
  clear hM hF4 hb4
  go_wp2_with fail
  (with_reducible refine HM.out.mono ?_)
  rintro e w5 hNM
  obtain ⟨m, rb, rfl, hrow, hm, hb5⟩ := hNM
  have hb05 := H4.out.2.trans (hb5.mono H4.out.2.size)
  obtain ⟨u0, u1, u2, u3⟩ := HC.out _ hb05
  have hU : Calls Tryd.prog 20 #[Pn.geo (gb n) (gp n) (gs n) ga (gB n).length gc] w5 (Pn.NewIntsF w5 (gus n)) := Pn.refusable_fr (gb n) (gp n) (gs n) (gB n) ga gc w5 ((HB0.out.2.below hb05).rd) (Nat.le_trans (gB_len n) (by omega)) (by rw [gb_eq]; have := gN_le n; omega)
  unfold Pn.geo at hU
  have HU := Lib.hid hU
  have H5 := Lib.hid (And.intro hrow (And.intro hm (And.intro (H4.out.1.keep hb5) hb05)))
  clear hU hrow hm hb5 hb05 t0 t1 t2 t3
  go_wp2_with fail
  (with_reducible refine HU.out.mono ?_)
  rintro e w6 ⟨au, cu, rfl, -, hb6, -⟩
  obtain ⟨N, hN⟩ : ∃ N, gN n = N := ⟨_, rfl⟩
  have hN9 : N ≤ 9 := by have := gN_le n; omega
  have hrb : rb < w5.heap.size := by have h := (H5.out.1.1 0 (by have := gN_le n; omega)).1; exact World.block_lt_of_cell? w5 _ h
  have hmb : m < w5.heap.size := World.block_lt_of_cell? w5 _ H5.out.2.1
  have H6 := Lib.hid (And.intro (H5.out.1.keep (hb6.block _ hrb)) (And.intro ((World.cell?_of_block (a := ⟨m, 0, none⟩) (hb6.block _ hmb)).trans H5.out.2.1) (And.intro (H5.out.2.2.1.keep hb6) (And.intro (H5.out.2.2.2.trans (hb6.mono H5.out.2.2.2.size)) (And.intro (Nat.lt_of_lt_of_le hrb hb6.size) (Nat.lt_of_lt_of_le hmb hb6.size))))))
  have HNN := Lib.hid hN
  rw [hN] at H6
  clear hb6 u0 u1 u2 u3 hrb hmb hN
  go_wp2_with fail
  go_loopw [13] (fun iv wr => iv = .int .i64 0 ∧ w6 = wr) (fun _ _ => 0)
  case atStart => exact ⟨rfl, rfl⟩
  case round =>
    obtain ⟨rfl, rfl⟩ := hrel
    go_wp2_with fail
    go_loopw [20, 21] (fun v iv wr => ∃ j : Nat, j ≤ N ∧ iv = .int .i64 j ∧ Below w6.heap.size w6 wr ∧ wr.ownsRow w6.heap.size 85 1 v j (List.replicate j (Value.slice none 0 0))) (fun _ iv _ => N - (intOf iv).toNat)
    case atStart => exact ⟨0, Nat.zero_le _, rfl, Below.refl _ _, World.ownsRow_nil _ _ _ 1⟩
    case round =>
      obtain ⟨j, hj, rfl, hb, hown⟩ := hrel
      obtain ⟨t0, t1, t2, t3⟩ := HC.out _ (H6.out.2.2.2.1.trans (hb.mono H6.out.2.2.2.1.size))
      have hgbN : gb n = (N : Int) := by rw [gb_eq, HNN.out]
      rw [hgbN] at t0
      by_cases hjN : j < N
      · have hjN2 : (j : Int) < (N : Int) := by omega
        have hc0 := (World.cell?_of_block (a := ⟨m, 0, none⟩) (hb.block _ H6.out.2.2.2.2.2)).trans H6.out.2.1
        obtain ⟨p0, p2, -, -⟩ := (H6.out.1.keep (hb.block _ H6.out.2.2.2.2.1)).1 j hjN
        have hsz := hb.size
        have HB := Lib.hid hb
        clear hb hgbN t1 t2 t3
        go_wp2_with (at_builtin; refine wpList_append_ownz rfl (.tmp 225) (.tmp 227) 29 rfl w6.heap.size 85 i0 (.slice none 0 0) 1 24 Tryd.underlying29 hi hz0 hz1 hz2 rfl (by decide) _ j (List.replicate j (Value.slice none 0 0)) rfl (hown.alloc _) (some ⟨wr.heap.size, 0, none⟩) 1 1 [Value.slice none 0 0] rfl (fun h => by cases h) rfl (At.one wr _ _) (by simp [Value.oneCell']) (by unfold maxLen; omega) (by omega) (by simp at hsz ⊢; omega) ?_; intro v6 w7 hown6 hb7)
        go_roundw
        case rel =>
          refine ⟨j + 1, by omega, by go_num, HB.out.trans (((Below.refl _ _).alloc (by simpa using hsz) _).trans hb7), ?_⟩
          rw [List.replicate_succ']
          exact hown6
        case measure => simp [intOf]; omega
      · obtain rfl : N = j := by omega
        have hjN2 : ¬ ((N : Int) < (N : Int)) := by omega
        obtain ⟨oa, ol, oc, rfl⟩ := shape_any hown
        have hbW := H6.out.2.2.2.1.trans (hb.mono H6.out.2.2.2.1.size)
        have hF := H6.out.2.2.1.keep hb
        have hF2 : Free W.heap.size [] wr g (S0 n) := by
          obtain ⟨h0, h1, h2, h3, F, ha, hFk, hK⟩ := hF
          exact ⟨HP0.out, Nat.le_trans (Nat.le_of_lt hW0l) h1, h2, h3, F, ha, fun k hk => Nat.le_trans (Nat.le_of_lt hW0l) (hFk k hk), hK⟩
        have HF := Lib.hid (show ArrP W n (.returned (.tuple #[.pointer (some ⟨g, 0, none⟩), .slice oa ol oc])) wr from ⟨g, oa, ol, oc, rfl, hF2, HB0.out.1.trans (hbW.mono HB0.out.1.size)⟩)
        clear hown hb hF hF2 hbW hgbN t1 t2 t3
        go_wp2
        go_ret2
        exact HF.out
set_option maxRecDepth 100000 in
theorem errs_any (n : Nat) (hn : n < 256) (b p s : Int) (B : List Int) (a : Option Addr) (c : Nat) (w : World) (hr : Pn.RdI w a B) (hT : Tab w) :
    Calls Tryd.prog 6 #[Pn.geo b p s a B.length c, .int .u8 n] w (Yes w) :=
  errs_of n hn (fun W ga gc hT hB => arr_post n W ga gc hT hB) b p s B a c w hr hT
end Go.Proofs.YtmhmmemmdekjhaaDoor.Sc
