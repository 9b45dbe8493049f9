/- The walk of the law PlanBad. -/
import Derived.Test.YtopmljbemogcoaaGrows
import Derived.Deep.RegionLaw
import Derived.Deep.AppendLies
import Derived.OneCell
import Derived.Below
namespace Go.Proofs.Ytopmljbemogcoaa
open Go.RowKit
open Drawbar Drawbar.Plan

theorem bad_more {b p s : Int} {B : List Int} {x : Int} (h : form b p s B = true) (hx : x ∈ us B (kk b)) :
    (us (B ++ [x]) (kk b)).length + 1 = (us B (kk b)).length ∧ cap b p s (B ++ [x]) = cap b p s B - p ∧ form b p s (B ++ [x]) = decide (p < cap b p s B) := by
  obtain ⟨h1, h2, h3, h4, h5, h6, h7⟩ := form_true h
  have hl := us_bad hx
  have hc : cap b p s (B ++ [x]) = cap b p s B - p := by
    unfold cap
    rw [show (((us (B ++ [x]) (kk b)).length : Nat) : Int) - s - 1 = ((us B (kk b)).length - s - 1) - 1 by omega, Int.mul_sub]
    omega
  refine ⟨hl, hc, ?_⟩
  unfold form
  rw [hc, List.length_append, List.length_singleton, Bool.eq_iff_iff, decide_eq_true_eq, decide_eq_true_eq]
  constructor
  · rintro ⟨_, _, _, _, _, _, _, h⟩; omega
  · intro h; exact ⟨h1.1, h1.2, h2.1, h2.2, h3.1, h3.2, by omega, by omega⟩

theorem RdI.at {w : World} {a : Option Addr} {l : List Int} (h : RdI w a l) : At w a (l.map iv) := by
  intro b hb j u hj
  have hjl : j < l.length := by have := (List.getElem?_eq_some_iff.1 hj).1; simpa using this
  obtain ⟨b', off, ha, hcell⟩ := h (by omega)
  rw [ha] at hb
  obtain rfl := Option.some.inj hb
  rw [Addr.add_lit, hcell j hjl]
  rw [List.getElem?_map, List.getElem?_eq_getElem hjl] at hj
  rw [← hj, List.getD_eq_getElem?_getD, List.getElem?_eq_getElem hjl]; rfl
theorem RdI.none {w : World} {a : Option Addr} {l : List Int} (h : RdI w a l) (ha : a = none) : l.length = 0 := by
  rcases Nat.eq_zero_or_pos l.length with h0 | h0
  · exact h0
  · obtain ⟨b, off, e, _⟩ := h h0
    rw [ha] at e; cases e
/-- A block of four cells. -/
theorem four_cells {w : World} {g : Nat} {u0 u1 u2 u3 : Value} {t : TypeId} (h : w.heap[g]? = some (.cells #[u0, u1, u2, u3] t (0, 0))) :
    w.cell? ⟨g, 0, none⟩ = some u0 ∧ w.cell? ⟨g, 1, none⟩ = some u1 ∧ w.cell? ⟨g, 2, none⟩ = some u2 ∧ w.cell? ⟨g, 3, none⟩ = some u3 ∧ w.frozen? ⟨g, 3, none⟩ = false := by
  simp [World.cell?, World.frozen?, h]
theorem four_set3 {w : World} {g : Nat} {u0 u1 u2 u3 x : Value} {t : TypeId} (h : w.heap[g]? = some (.cells #[u0, u1, u2, u3] t (0, 0))) : (w.setCell ⟨g, 3, none⟩ x).heap[g]? = some (.cells #[u0, u1, u2, x] t (0, 0)) := by
  have hlt := lt_of_block h
  have h' : w.heap[g] = .cells #[u0, u1, u2, u3] t (0, 0) := by simpa [Array.getElem?_eq_getElem hlt] using h
  show (w.heap.modify g _)[g]? = _
  rw [Array.getElem?_eq_getElem (by simpa using hlt), Array.getElem_modify_self, h']
  rfl
theorem grownBy_trans {w w1 w2 : World} {row : Option Nat} (h : w.grownBy w1 row) (h2 : w1.grownBy w2 row) : w.grownBy w2 row :=
  ⟨h2.os.trans h.os, h2.tape.trans h.tape, h2.output.trans h.output, Nat.le_trans h.size h2.size, fun k hk hr => (h2.block k (Nat.lt_of_lt_of_le hk h.size) hr).trans (h.block k hk hr)⟩
theorem grownBy_below {w w' : World} (h : Below w.heap.size w w') (row : Option Nat) : w.grownBy w' row := ⟨h.os, h.tape, h.output, h.size, fun k hk _ => h.block k hk⟩
theorem below_setCell {w : World} {B g o : Nat} {x : Value} (hg : B ≤ g) : Below B w (w.setCell ⟨g, o, none⟩ x) :=
  ⟨rfl, rfl, rfl, by simp [World.setCell], fun k hk => Below.heap_setCell _ _ _ _ (fun e => by simp at e; omega)⟩

set_option maxHeartbeats 4000000 in
theorem bad_any (b p s : Int) (B : List Int) (a : Option Addr) (c y : Nat) (w : World) (h : RdI w a B) (hnil : a = none → c = 0) (hy : y < 256) :
    Calls Try.prog 6 #[geo b p s a B.length c, .int .u8 y] w (Yes w) := by
  have hw1 : Below w.heap.size w (w.alloc (boxed b p s a B.length c)) := (Below.refl _ _).alloc (Nat.le_refl _) _
  have hsz : (w.alloc (boxed b p s a B.length c)).heap.size = w.heap.size + 1 := by simp
  have hA := fun W => awake_any W
  have hS := fun W => small_any b p s a B.length c W
  have hcells := boxed_cells w b p s a B.length c
  have hR1 := fun W hb => ((h.alloc (boxed b p s a B.length c)).below (w' := W) hb)
  generalize hw1' : w.alloc (boxed b p s a B.length c) = w1 at *
  have hw1w : ∀ W, Below w1.heap.size w1 W → Below w.heap.size w W := fun W hb => hw1.trans (hb.mono hw1.size)
  have hb0 := Below.refl w1.heap.size w1
  obtain ⟨p0, p1, p2, p3⟩ := hcells _ hb0
  by_cases hsm : Sm b p s B.length
  · rw [decide_eq_true hsm] at hS
    obtain ⟨hs, hB, hb64⟩ := hsm.small
    have hF := fun W (hb : Below w1.heap.size w1 W) => form_any b p s B a c W (hR1 W hb) hB hs
    unfold geo at hS hF ⊢
    cases hf : form b p s B with
    | false =>
      rw [hf] at hF
      have HA := Lib.hid hA
      have HS := Lib.hid hS
      have HF := Lib.hid hF
      have HC := Lib.hid hcells
      clear hA hS hF hcells hR1 h hs hsm hf
      go_enter Try.func6, Try.ntmps6
      go_wp2_with (first
        | (go_at_call 8; (with_reducible refine (HA.out _).mono ?_); rintro e wa ⟨rfl, ha⟩; first | (have hb5 := hb4.trans (ha.mono hb4.size)) | (have hb5 := hb3.trans (ha.mono hb3.size)) | (have hb2 := hb0.trans (ha.mono hb0.size); obtain ⟨a0, a1, a2, a3⟩ := HC.out _ hb2))
        | (go_at_call 9; (with_reducible refine (HS.out _).mono ?_); rintro e wb ⟨rfl, hs'⟩; have hb3 := hb2.trans (hs'.mono hb2.size); obtain ⟨b0, b1, b2, b3⟩ := HC.out _ hb3)
        | (go_at_call 12; (with_reducible refine (HF.out _ hb3).mono ?_); rintro e wc ⟨rfl, hf'⟩; have hb4 := hb3.trans (hf'.mono hb3.size); obtain ⟨c0, c1, c2, c3⟩ := HC.out _ hb4; have hlt : w.heap.size < wc.heap.size := World.block_lt_of_cell? _ _ c0))
      go_ret
      exact ⟨rfl, hw1w _ hb5⟩
    | true =>
      rw [hf] at hF
      obtain ⟨⟨f1, f2⟩, ⟨f3, f4⟩, ⟨f5, f6⟩, _, _, f8, _⟩ := form_true hf
      have hU1 : 0 < (us B (kk b)).length := by
        rcases Nat.eq_zero_or_pos (us B (kk b)).length with h0 | h0
        · unfold cap at f8
          rw [h0] at f8
          have := Int.mul_nonneg (show 0 ≤ p by omega) (show 0 ≤ -(((0 : Nat) : Int) - s - 1) by omega)
          rw [Int.mul_neg] at this
          omega
        · exact h0
      have hle := us_le B b
      obtain ⟨n, hn, hn0⟩ : ∃ n : Nat, (y : Int) % ((us B (kk b)).length : Int) = n ∧ n < (us B (kk b)).length := ⟨y % (us B (kk b)).length, by omega, Nat.mod_lt _ hU1⟩
      have hx : (us B (kk b)).getD n 0 ∈ us B (kk b) := by rw [List.getD_eq_getElem?_getD, List.getElem?_eq_getElem hn0]; exact List.getElem_mem hn0
      obtain ⟨m1, m2, m3⟩ := bad_more hf hx
      have hU0 : ∀ W, Below w1.heap.size w1 W → Calls Try.prog 10 #[.agg #[.int .i64 b, .int .i64 p, .int .i64 s, .slice a B.length c]] W (fun e w' => ∃ a c, e = .returned (.slice a (us B (kk b)).length c) ∧ RdI w' a (us B (kk b)) ∧ Below W.heap.size W w') := fun W hb => usable_any b p s B a c W (hR1 W hb) hB
      have HU := Lib.hid hU0
      have HA := Lib.hid hA
      have HS := Lib.hid hS
      have HF := Lib.hid hF
      have HC := Lib.hid hcells
      have HR := Lib.hid hR1
      have HM := Lib.hid (And.intro m1 (And.intro m2 m3))
      have HX := Lib.hid hx
      have HSM := Lib.hid hs
      have HH := Lib.hid h
      obtain ⟨i0, hi, hz0, hz1, hz2⟩ := info_parts info_int
      clear hA hS hF hcells hR1 h hs hsm hf hU0 m1 m2 m3 hx f8
      go_enter Try.func6, Try.ntmps6
      go_wp2_with (first
        | (go_at_call 8; (with_reducible refine (HA.out _).mono ?_); rintro e wa ⟨rfl, ha⟩; first | (have hb5 := hb4.trans (ha.mono hb4.size)) | (have hb5 := hb3.trans (ha.mono hb3.size)) | (have hb2 := hb0.trans (ha.mono hb0.size); obtain ⟨a0, a1, a2, a3⟩ := HC.out _ hb2))
        | (go_at_call 9; (with_reducible refine (HS.out _).mono ?_); rintro e wb ⟨rfl, hs'⟩; have hb3 := hb2.trans (hs'.mono hb2.size); obtain ⟨b0, b1, b2, b3⟩ := HC.out _ hb3)
        | (go_at_call 12; (with_reducible refine (HF.out _ hb3).mono ?_); rintro e wc ⟨rfl, hf'⟩; have hb4 := hb3.trans (hf'.mono hb3.size); obtain ⟨c0, c1, c2, c3⟩ := HC.out _ hb4; have hlt : w.heap.size < wc.heap.size := World.block_lt_of_cell? _ _ c0)
        | (go_at_call 10; (with_reducible refine (HU.out _ (by assumption)).mono ?_); rintro e wd ⟨al, cl, rfl, hRl, hd'⟩; have hb5 := hb4.trans (hd'.mono hb4.size); obtain ⟨d0, d1, d2, d3⟩ := HC.out _ hb5; have hlt5 : w.heap.size < wd.heap.size := World.block_lt_of_cell? _ _ d0)
        | (at_builtin; refine wpList_append_ownz rfl (.tmp 25) (.tmp 27) 22 rfl (wd.heap.size + 1) 3 i0 (.int .i64 0) 1 8 Try.underlying22 hi hz0 hz1 hz2 rfl (by decide) _ 0 [] rfl (World.ownsRow_nil _ _ _ 1) a B.length c (B.map iv) rfl (fun ha => ⟨(HR.out _ hb5).none ha, hnil ha⟩) (by simp) (((HR.out _ hb5).alloc _).at) (iv_one B) (by unfold maxLen; omega) (by omega) (by simp) ?_; intro v6 w6 hown6 hb6; rw [Nat.zero_add, List.nil_append] at hown6; obtain ⟨a6, c6, rfl⟩ := shape_int hown6; have hbk6 : w6.heap[wd.heap.size]? = some (.cells #[.int .i64 b, .int .i64 p, .int .i64 s, .slice none 0 0] 24 (0, 0)) := (hb6.block _ (Nat.lt_succ_self _)).trans (heap_alloc_new wd _); obtain ⟨t0, t1, t2, t3, t4⟩ := four_cells hbk6))
      have hbk7 := four_set3 (x := .slice a6 B.length c6) hbk6
      have hown7 := ownsRow_setCell_below hown6 (a := ⟨wd.heap.size, 3, none⟩) (Nat.lt_succ_self _) (.slice a6 B.length c6)
      have hb7 : Below wd.heap.size wd (w6.setCell ⟨wd.heap.size, 3, none⟩ (.slice a6 B.length c6)) := (((Below.refl _ _).alloc (Nat.le_refl _) _).trans (hb6.mono (Nat.le_succ _))).trans (below_setCell (Nat.le_refl _))
      generalize hw7 : w6.setCell ⟨wd.heap.size, 3, none⟩ (.slice a6 B.length c6) = w7 at *
      have hlt7 : wd.heap.size < w7.heap.size := lt_of_block hbk7
      obtain ⟨bl, ol, hal, hcl⟩ := hRl hU1
      subst hal
      have hlc := hcl n hn0
      generalize (us B (kk b)).getD n 0 = x at *
      have hob : ∀ g, (Value.slice a6 B.length c6).ownBlock = some g → wd.heap.size + 1 ≤ g := fun g hg => (hown7.lt g hg).1
      have hkeep : ∀ W, w7.grownBy W (Value.slice a6 B.length c6).ownBlock → Below wd.heap.size wd W ∧ W.heap[wd.heap.size]? = some (.cells #[.int .i64 b, .int .i64 p, .int .i64 s, .slice a6 B.length c6] 24 (0, 0)) := fun W hg =>
        ⟨hb7.grown hg (Nat.le_of_lt hlt7) (fun q hq => Nat.le_of_lt (hob q hq)), (hg.block _ hlt7 (fun e => by have := hob _ e.symm; omega)).trans hbk7⟩
      have hfact : ∀ W, Below wd.heap.size wd W ∧ W.heap[wd.heap.size]? = some (.cells #[.int .i64 b, .int .i64 p, .int .i64 s, .slice a6 B.length c6] 24 (0, 0)) →
          W.cell? ⟨wd.heap.size, 3, none⟩ = some (.slice a6 B.length c6) ∧ W.frozen? ⟨wd.heap.size, 3, none⟩ = false ∧ W.cell? ⟨bl, ol + n, none⟩ = some (.int .i64 x) := fun W hW => by
        obtain ⟨_, _, _, t3, t4⟩ := four_cells hW.2
        exact ⟨t3, t4, (hW.1.cell (p := ⟨bl, ol + n, none⟩) (World.block_lt_of_cell? wd _ hlc)).trans hlc⟩
      obtain ⟨r0, r1, r2⟩ := hfact _ (hkeep w7.drew (grownBy_below (Below.refl _ w7).drew _))
      obtain ⟨s0, s1, s2⟩ := hfact _ (hkeep w7 (grownBy_below (Below.refl _ w7) _))
      have HFT := Lib.hid (fun o => hfact _ (hkeep (w7.alloc o).drew (grownBy_below ((Below.refl _ w7).alloc (Nat.le_refl _) o).drew _)))
      have HFG := Lib.hid (fun o W (hg : (w7.alloc o).drew.grownBy W (Value.slice a6 B.length c6).ownBlock) => hkeep W (grownBy_trans (grownBy_below ((Below.refl _ w7).alloc (Nat.le_refl _) o).drew _) hg))
      have HO := Lib.hid hown7
      have HLC := Lib.hid hlc
      have hn1 : 0 ≤ (n : Int) := by omega
      generalize hL : (us B (kk b)).length = L at *
      have hd0 : (L = 0) = False := by simp; omega
      have hd4 : IntKind.i64.wrap (y : Int) = (y : Int) := IntWalk.i64_in _ (by omega)
      have hd1 : (y : Int).tmod (L : Int) = (n : Int) := by rw [Int.tmod_eq_emod_of_nonneg (by omega)]; exact hn
      have hd2 : IntKind.i64.wrap (n : Int) = (n : Int) := IntWalk.i64_in _ (by omega)
      clear hbk6 hown6 hb6 hbk7 hown7 hb7 hkeep hfact hcl hRl hob hlc
      go_region_law (first | (refine step_append_lies _ (by rfl) _ _ _ (by rfl) (wd.heap.size + 1) 3 i0 _ 1 8 Try.underlying22 hi hz0 hz1 hz2 rfl (by omega) _ B.length (B.map iv) (by rfl) ((HO.out.alloc _).drew) ⟨w7.heap.size, 0, none⟩ 1 1 [.int .i64 x] (by rfl) (by rfl) (World.news_of_block (cs := #[.int .i64 x]) (t := 3) (fr := (0, 0)) (heap_alloc_new w7 _)) (by simp [Value.oneCell']) (by omega) (by unfold maxLen; omega) (by omega) (by simp; omega) (w7.heap.size + 1) (by simp) ?_; intro gg cap w8 hown8 hgrow hat hlt8; have hk8 := HFG.out _ _ hgrow; obtain ⟨g0, g1, g2, g3, g4⟩ := four_cells hk8.2))
      all_goals
        have hbk9 := four_set3 (x := .slice (some ⟨gg, 0, none⟩) (B.length + 1) cap) hk8.2
        have hb9 : Below wd.heap.size wd (w8.setCell ⟨wd.heap.size, 3, none⟩ (.slice (some ⟨gg, 0, none⟩) (B.length + 1) cap)) := hk8.1.trans (below_setCell (Nat.le_refl _))
        have hown9 := ownsRow_setCell_below hown8 (a := ⟨wd.heap.size, 3, none⟩) (Nat.lt_succ_self _) (.slice (some ⟨gg, 0, none⟩) (B.length + 1) cap)
        generalize w8.setCell ⟨wd.heap.size, 3, none⟩ (.slice (some ⟨gg, 0, none⟩) (B.length + 1) cap) = w9 at *
        rw [show B.map iv ++ [.int .i64 x] = (B ++ [x]).map iv by simp [iv]] at hown9
        have hR9 : RdI w9 (some ⟨gg, 0, none⟩) (B ++ [x]) := rdI_of_own hown9
        have hcc : ∀ W, Below w9.heap.size w9 W → (W.cell? ⟨wd.heap.size, 0, none⟩ = some (.int .i64 b) ∧ W.cell? ⟨wd.heap.size, 1, none⟩ = some (.int .i64 p) ∧ W.cell? ⟨wd.heap.size, 2, none⟩ = some (.int .i64 s) ∧ W.cell? ⟨wd.heap.size, 3, none⟩ = some (.slice (some ⟨gg, 0, none⟩) (B.length + 1) cap)) ∧
            (W.cell? ⟨w.heap.size, 0, none⟩ = some (.int .i64 b) ∧ W.cell? ⟨w.heap.size, 1, none⟩ = some (.int .i64 p) ∧ W.cell? ⟨w.heap.size, 2, none⟩ = some (.int .i64 s) ∧ W.cell? ⟨w.heap.size, 3, none⟩ = some (.slice a B.length c)) := fun W hb => by
          obtain ⟨t0, t1, t2, t3, _⟩ := four_cells ((hb.block _ (lt_of_block hbk9)).trans hbk9)
          exact ⟨⟨t0, t1, t2, t3⟩, HC.out _ (hb5.trans ((hb9.trans (hb.mono hb9.size)).mono hb5.size))⟩
        have hK : ∀ W, Below w9.heap.size w9 W →
            Calls Try.prog 14 #[.agg #[.int .i64 b, .int .i64 p, .int .i64 s, .slice a B.length c]] W (fun e w' => e = .returned (.int .i64 (Drawbar.Plan.cap b p s B)) ∧ Below W.heap.size W w') ∧
            Calls Try.prog 14 #[.agg #[.int .i64 b, .int .i64 p, .int .i64 s, .slice (some ⟨gg, 0, none⟩) (B.length + 1) cap]] W (fun e w' => e = .returned (.int .i64 (Drawbar.Plan.cap b p s B - p)) ∧ Below W.heap.size W w') ∧
            Calls Try.prog 10 #[.agg #[.int .i64 b, .int .i64 p, .int .i64 s, .slice (some ⟨gg, 0, none⟩) (B.length + 1) cap]] W (fun e w' => (∃ a c, e = .returned (.slice a (L - 1) c)) ∧ Below W.heap.size W w') ∧
            Calls Try.prog 12 #[.agg #[.int .i64 b, .int .i64 p, .int .i64 s, .slice (some ⟨gg, 0, none⟩) (B.length + 1) cap]] W (fun e w' => e = .returned (.bool (decide (p < Drawbar.Plan.cap b p s B))) ∧ Below W.heap.size W w') ∧
            Calls Try.prog 15 #[.agg #[.int .i64 b, .int .i64 p, .int .i64 s, .slice (some ⟨gg, 0, none⟩) (B.length + 1) cap]] W (fun e w' => e = .returned (.int .i64 (Drawbar.Plan.cap b p s B - p)) ∧ Below W.heap.size W w') ∧
            Calls Try.prog 16 #[.agg #[.int .i64 b, .int .i64 p, .int .i64 s, .slice (some ⟨gg, 0, none⟩) (B.length + 1) cap]] W (fun e w' => e = .returned (.int .i64 (Drawbar.Plan.cap b p s B - p)) ∧ Below W.heap.size W w') := fun W hb => by
          have hR2 := hR9.below hb
          have hB2 : (B ++ [x]).length ≤ 1000 := by rw [List.length_append, List.length_singleton]; omega
          obtain ⟨m1, m2, m3⟩ := HM.out
          have k1 := cap_any b p s B a c W (HR.out _ (hb5.trans ((hb9.trans (hb.mono hb9.size)).mono hb5.size))) hB HSM.out
          have k2 := cap_any b p s (B ++ [x]) _ cap W hR2 hB2 HSM.out
          have k3 := usable_any b p s (B ++ [x]) _ cap W hR2 hB2
          have k4 := form_any b p s (B ++ [x]) _ cap W hR2 hB2 HSM.out
          have k5 := refcap_any b p s (B ++ [x]) _ cap W hR2 hB2 HSM.out hb64
          have k6 := meta_any b p s (B ++ [x]) _ cap W hR2 hB2 HSM.out
          rw [m2] at k2 k5 k6
          rw [m3] at k4
          rw [List.length_append, List.length_singleton] at k2 k3 k4 k5 k6
          exact ⟨k1, k2, k3.mono fun e w' ⟨a2, c2, h1, _, h3⟩ => ⟨⟨a2, c2, by rw [h1, show (us (B ++ [x]) (kk b)).length = L - 1 by omega]⟩, h3⟩, k4, k5, k6⟩
        have hv := cap_bounds B HSM.out
        have hv0 : -2000002 ≤ Drawbar.Plan.cap b p s B ∧ Drawbar.Plan.cap b p s B ≤ 2000000 := by unfold Drawbar.Plan.cap; omega
        have hfinal : ∀ W, Below w9.heap.size w9 W → Below w.heap.size w W := fun W hb => hw1w _ (hb5.trans ((hb9.trans (hb.mono hb9.size)).mono hb5.size))
        generalize Drawbar.Plan.cap b p s B = v at hK hv0
        have HK := Lib.hid hK
        have HCC := Lib.hid hcc
        have HFIN := Lib.hid hfinal
        have z1 : IntKind.i64.wrap ((L : Int) - 1) = ((L - 1 : Nat) : Int) := by rw [IntWalk.i64_in _ (by omega)]; omega
        have z2 : IntKind.i64.wrap (v - p) = v - p := IntWalk.i64_in _ (by omega)
        have hb6 := drew_below w9
        have hq0 := hcc _ hb6
        clear hK hcc hfinal hv hR9 hown9 hb9 hbk9 hown8 hgrow hk8 g0 g1 g2 g3 g4 HFG HFT HO HLC HM HR HX HU HH r0 r1 r2 s0 s1 s2 hat hlt8
        go_wp2
        go_region_held (fun W => (W.cell? ⟨wd.heap.size, 0, none⟩ = some (.int .i64 b) ∧ W.cell? ⟨wd.heap.size, 1, none⟩ = some (.int .i64 p) ∧ W.cell? ⟨wd.heap.size, 2, none⟩ = some (.int .i64 s) ∧ W.cell? ⟨wd.heap.size, 3, none⟩ = some (.slice (some ⟨gg, 0, none⟩) (B.length + 1) cap)) ∧
            (W.cell? ⟨w.heap.size, 0, none⟩ = some (.int .i64 b) ∧ W.cell? ⟨w.heap.size, 1, none⟩ = some (.int .i64 p) ∧ W.cell? ⟨w.heap.size, 2, none⟩ = some (.int .i64 s) ∧ W.cell? ⟨w.heap.size, 3, none⟩ = some (.slice a B.length c)))
          (first | exact hq0 | exact hq8) (first
          | (go_at_call 14; (with_reducible refine ((HK.out _ (by assumption)).1).mono ?_); rintro e w5 ⟨rfl, hq'⟩; have hb8 := (show Below w9.heap.size w9 _ by assumption).trans (hq'.mono (show Below w9.heap.size w9 _ by assumption).size); have hq8 := HCC.out _ hb8)
          | (go_at_call 14; (with_reducible refine ((HK.out _ (by assumption)).2.1).mono ?_); rintro e w5 ⟨rfl, hq'⟩; have hb8 := (show Below w9.heap.size w9 _ by assumption).trans (hq'.mono (show Below w9.heap.size w9 _ by assumption).size); have hq8 := HCC.out _ hb8)
          | (go_at_call 10; (with_reducible refine ((HK.out _ (by assumption)).2.2.1).mono ?_); rintro e w5 ⟨⟨a5, c5, rfl⟩, hq'⟩; have hb8 := (show Below w9.heap.size w9 _ by assumption).trans (hq'.mono (show Below w9.heap.size w9 _ by assumption).size); have hq8 := HCC.out _ hb8)
          | (go_at_call 12; (with_reducible refine ((HK.out _ (by assumption)).2.2.2.1).mono ?_); rintro e w5 ⟨rfl, hq'⟩; have hb8 := (show Below w9.heap.size w9 _ by assumption).trans (hq'.mono (show Below w9.heap.size w9 _ by assumption).size); have hq8 := HCC.out _ hb8)
          | (go_at_call 15; (with_reducible refine ((HK.out _ (by assumption)).2.2.2.2.1).mono ?_); rintro e w5 ⟨rfl, hq'⟩; have hb8 := (show Below w9.heap.size w9 _ by assumption).trans (hq'.mono (show Below w9.heap.size w9 _ by assumption).size); have hq8 := HCC.out _ hb8)
          | (go_at_call 16; (with_reducible refine ((HK.out _ (by assumption)).2.2.2.2.2).mono ?_); rintro e w5 ⟨rfl, hq'⟩; have hb8 := (show Below w9.heap.size w9 _ by assumption).trans (hq'.mono (show Below w9.heap.size w9 _ by assumption).size); have hq8 := HCC.out _ hb8))
        all_goals
          go_wp2
          go_ret
          exact ⟨rfl, HFIN.out _ (by assumption)⟩
  · rw [decide_eq_false hsm] at hS
    unfold geo at hS ⊢
    have HA := Lib.hid hA
    have HS := Lib.hid hS
    have HC := Lib.hid hcells
    clear hA hS hcells hR1 h hsm
    go_enter Try.func6, Try.ntmps6
    go_wp2_with (first
      | (go_at_call 8; (with_reducible refine (HA.out _).mono ?_); rintro e wa ⟨rfl, ha⟩; first | (have hb5 := hb4.trans (ha.mono hb4.size)) | (have hb5 := hb3.trans (ha.mono hb3.size)) | (have hb2 := hb0.trans (ha.mono hb0.size); obtain ⟨a0, a1, a2, a3⟩ := HC.out _ hb2))
      | (go_at_call 9; (with_reducible refine (HS.out _).mono ?_); rintro e wb ⟨rfl, hs'⟩; have hb3 := hb2.trans (hs'.mono hb2.size); obtain ⟨b0, b1, b2, b3⟩ := HC.out _ hb3))
    go_ret
    exact ⟨rfl, hw1w _ hb5⟩
end Go.Proofs.Ytopmljbemogcoaa
