/- The walk of the law PlanFew; the contract of small. The contract of small: can it be asked? The walk of the law PlanGrows. The walk of the law PlanForms, and the contract of the document's Form. -/
import Derived.Test.YtmhmmemmdekjhaaDoorZPl
import Derived.BigQuiet
namespace Go.Proofs.YtmhmmemmdekjhaaDoor.Pn
open Go.RowKit
open Drawbar Drawbar.Plan

def Yes (w : World) (e : Ending) (w' : World) : Prop := e = .returned (.bool true) ∧ Below w.heap.size w w'

set_option maxRecDepth 100000 in
theorem few_form (b p s : Int) (hs : 0 ≤ s) :
    form b p s [] = decide (4 ≤ b ∧ b ≤ 64 ∧ 2 ≤ p ∧ p ≤ 32 ∧ s ≤ 8 ∧ 3 ≤ p * (b - 3 - s)) := by
  unfold form cap
  rw [us_nil]
  rw [Bool.eq_iff_iff, decide_eq_true_eq, decide_eq_true_eq]
  have hk : 4 ≤ b → b ≤ 64 → ((kk b : Nat) : Int) = b - 2 := fun h1 h2 => by unfold kk; omega
  constructor
  · rintro ⟨h1, h2, h3, h4, h5, h6, h7, h8⟩
    rw [hk h1 h2, show b - 2 - s - 1 = b - 3 - s by omega] at h8
    exact ⟨h1, h2, h3, h4, h6, by omega⟩
  · rintro ⟨h1, h2, h3, h4, h6, h8⟩
    rw [hk h1 h2, show b - 2 - s - 1 = b - 3 - s by omega]
    refine ⟨h1, h2, h3, h4, hs, h6, by simp, by omega⟩

end Go.Proofs.YtmhmmemmdekjhaaDoor.Pn
namespace Go.Proofs.YtmhmmemmdekjhaaDoor.Pn
open Go.RowKit
open Drawbar Drawbar.Plan
def Sm (b p s : Int) (n : Nat) : Prop := b ≤ 64 ∧ -100 ≤ b ∧ p ≤ 1000 ∧ -1000 ≤ p ∧ s ≤ 1000 ∧ -1000 ≤ s ∧ (n : Int) ≤ 100
instance (b p s : Int) (n : Nat) : Decidable (Sm b p s n) := by unfold Sm; exact inferInstance
set_option maxRecDepth 100000 in
theorem Sm.small {b p s : Int} {n : Nat} (h : Sm b p s n) : Small b p s ∧ n ≤ 1000 ∧ b ≤ 64 := by
  obtain ⟨h1, h2, h3, h4, h5, h6, h7⟩ := h
  exact ⟨⟨by omega, by omega, by omega⟩, by omega, h1⟩

end Go.Proofs.YtmhmmemmdekjhaaDoor.Pn
namespace Go.Proofs.YtmhmmemmdekjhaaDoor.Pn
open Go.RowKit
open Drawbar Drawbar.Plan

set_option maxRecDepth 100000 in
theorem form_true {b p s : Int} {B : List Int} (h : form b p s B = true) : (4 ≤ b ∧ b ≤ 64) ∧ (2 ≤ p ∧ p ≤ 32) ∧ (0 ≤ s ∧ s ≤ 8) ∧ Ok B (kk b) ∧ ((us B (kk b)).length : Int) + B.length = b - 2 ∧ 0 < cap b p s B ∧ ((kk b : Nat) : Int) = b - 2 := by
  unfold form at h
  obtain ⟨h1, h2, h3, h4, h5, h6, h7, h8⟩ := of_decide_eq_true h
  have hk : ((kk b : Nat) : Int) = b - 2 := by unfold kk; omega
  exact ⟨⟨h1, h2⟩, ⟨h3, h4⟩, ⟨h5, h6⟩, (us_ok B (kk b)).2.1 (by omega), h7, h8, hk⟩

set_option maxRecDepth 100000 in
theorem grown {b p s : Int} {B : List Int} (h : form b p s B = true) (hb : b ≠ 64) : cap (b + 1) p s B = cap b p s B + p ∧ cap b p (s + 1) B = cap b p s B - p ∧ form (b + 1) p s B = true := by
  obtain ⟨h1, h2, h3, h4, h5, h6, h7⟩ := form_true h
  have hk : kk (b + 1) = kk b + 1 := by unfold kk; omega
  have hl : (us B (kk (b + 1))).length = (us B (kk b)).length + 1 := by rw [hk, us_more h4]; simp
  have hc : cap (b + 1) p s B = cap b p s B + p := by
    unfold cap
    rw [hl, show (((us B (kk b)).length + 1 : Nat) : Int) - s - 1 = ((us B (kk b)).length - s - 1) + 1 by omega, Int.mul_add]
    omega
  refine ⟨hc, ?_, ?_⟩
  · unfold cap
    rw [show ((us B (kk b)).length : Int) - (s + 1) - 1 = ((us B (kk b)).length - s - 1) - 1 by omega, Int.mul_sub]
    omega
  · unfold form
    rw [hc, hl]
    exact decide_eq_true ⟨by omega, by omega, h2.1, h2.2, h3.1, h3.2, by omega, by omega⟩

end Go.Proofs.YtmhmmemmdekjhaaDoor.Pn
namespace Go.Proofs.YtmhmmemmdekjhaaDoor.Pn
open Go.RowKit
open Drawbar Drawbar.Plan

set_option maxRecDepth 100000 in
theorem below_drewN {B : Nat} {a w : World} (h : Below B a w) (n : Nat) : Below B a (w.drewN n) := ⟨h.os, h.tape, h.output, h.size, h.block⟩

set_option maxRecDepth 100000 in
theorem form_ref (b p s : Int) (B : List Int) : form b p s B = decide ((4 ≤ b ∧ b ≤ 64 ∧ 2 ≤ p ∧ p ≤ 32 ∧ 0 ≤ s ∧ s ≤ 8) ∧ (B.Nodup ∧ ∀ x ∈ B, 2 ≤ x ∧ x < b) ∧ 1 ≤ cap b p s B) := by
  unfold form
  rw [Bool.eq_iff_iff, decide_eq_true_eq, decide_eq_true_eq]
  have hu := (us_ok B (kk b)).2
  have hk : 4 ≤ b → b ≤ 64 → ((kk b : Nat) : Int) = b - 2 := fun h1 h2 => by unfold kk; omega
  unfold Ok at hu
  constructor
  · rintro ⟨h1, h2, h3, h4, h5, h6, h7, h8⟩
    obtain ⟨u1, u2⟩ := hu.1 (by have := hk h1 h2; omega)
    exact ⟨⟨h1, h2, h3, h4, h5, h6⟩, ⟨u1, fun x hx => ⟨(u2 x hx).1, by have := (u2 x hx).2; have := hk h1 h2; omega⟩⟩, by omega⟩
  · rintro ⟨⟨h1, h2, h3, h4, h5, h6⟩, ⟨u1, u2⟩, h8⟩
    have := hu.2 ⟨u1, fun x hx => ⟨(u2 x hx).1, by have := (u2 x hx).2; have := hk h1 h2; omega⟩⟩
    exact ⟨h1, h2, h3, h4, h5, h6, by have := hk h1 h2; omega, by omega⟩

/-- The first k blocks are each told once, and may be bad. -/
def good (b : Int) (B : List Int) (k : Nat) : Prop := ∀ i, i < k → (∀ j, j < i → B.getD j 0 ≠ B.getD i 0) ∧ 2 ≤ B.getD i 0 ∧ B.getD i 0 < b
set_option maxRecDepth 100000 in
theorem good_all (b : Int) (B : List Int) : good b B B.length ↔ (B.Nodup ∧ ∀ x ∈ B, 2 ≤ x ∧ x < b) := by
  have hg : ∀ i (h : i < B.length), B.getD i 0 = B[i] := fun i h => by rw [List.getD_eq_getElem?_getD, List.getElem?_eq_getElem h]; rfl
  constructor
  · intro h
    refine ⟨List.pairwise_iff_getElem.2 fun i j hi hj hij => ?_, fun x hx => ?_⟩
    · have := (h j hj).1 i hij
      rwa [hg i hi, hg j hj] at this
    · obtain ⟨i, hi, rfl⟩ := List.mem_iff_getElem.1 hx
      have := (h i hi).2
      rwa [hg i hi] at this
  · rintro ⟨h1, h2⟩ i hi
    refine ⟨fun j hj => ?_, ?_⟩
    · have := List.pairwise_iff_getElem.1 h1 j i (by omega) hi hj
      rwa [hg i hi, hg j (by omega)]
    · rw [hg i hi]
      exact h2 _ (List.getElem_mem hi)

set_option maxRecDepth 100000 in
set_option maxHeartbeats 4000000 in
theorem refform_any (b p s : Int) (B : List Int) (a : Option Addr) (c : Nat) (w : World) (h : RdI w a B) (hB : B.length ≤ 1000) (hs : Small b p s) (hb64 : b ≤ 64) :
    Calls Tryd.prog 25 #[geo b p s a B.length c] w fun e w' => e = .returned (.bool (form b p s B)) ∧ Below w.heap.size w w' := by
  have hw1 : Below w.heap.size w (w.alloc (boxed b p s a B.length c)) := (Below.refl _ _).alloc (Nat.le_refl _) _
  have hC := fun W (hb : Below (w.alloc (boxed b p s a B.length c)).heap.size (w.alloc (boxed b p s a B.length c)) W) => refcap_any b p s B a c W ((h.alloc _).below hb) hB hs hb64
  have hsz : (w.alloc (boxed b p s a B.length c)).heap.size = w.heap.size + 1 := by simp
  have hR1 := h.alloc (boxed b p s a B.length c)
  obtain ⟨q0, q1, q2, q3⟩ := boxed_cells w b p s a B.length c _ (Below.refl _ _)
  have hcells := boxed_cells w b p s a B.length c
  rw [form_ref]
  unfold geo at hC ⊢
  generalize hw1' : w.alloc (boxed b p s a B.length c) = w1 at *
  have hb0 := Below.refl w1.heap.size w1
  have hCC := hC w1.drew hb0.drew
  have hC1 := hC w1 hb0
  have HC := Lib.hid hC
  have HC1 := Lib.hid hC1
  generalize hq : decide ((4 ≤ b ∧ b ≤ 64 ∧ 2 ≤ p ∧ p ≤ 32 ∧ 0 ≤ s ∧ s ≤ 8) ∧ (B.Nodup ∧ ∀ x ∈ B, 2 ≤ x ∧ x < b) ∧ 1 ≤ cap b p s B) = q
  have HCL := Lib.hid hcells
  clear hC hCC hC1 hcells
  by_cases h0 : 4 ≤ b
  rotate_left
  · obtain rfl : q = false := hq.symm.trans (decide_eq_false fun k => h0 k.1.1)
    clear hq HC HC1 h hR1
    go_enter Tryd.func25, Tryd.ntmps25
    go_wp2
    all_goals
      go_ret
      exact ⟨rfl, hw1⟩
  have h1 := hb64
  by_cases h2 : 2 ≤ p
  rotate_left
  · obtain rfl : q = false := hq.symm.trans (decide_eq_false fun k => h2 k.1.2.2.1)
    clear hq HC HC1 h hR1
    go_enter Tryd.func25, Tryd.ntmps25
    go_wp2
    go_ret
    exact ⟨rfl, hw1⟩
  by_cases h3 : p ≤ 32
  rotate_left
  · obtain rfl : q = false := hq.symm.trans (decide_eq_false fun k => h3 k.1.2.2.2.1)
    clear hq HC HC1 h hR1
    go_enter Tryd.func25, Tryd.ntmps25
    go_wp2
    go_ret
    exact ⟨rfl, hw1⟩
  by_cases h4 : 0 ≤ s
  rotate_left
  · obtain rfl : q = false := hq.symm.trans (decide_eq_false fun k => h4 k.1.2.2.2.2.1)
    clear hq HC HC1 h hR1
    go_enter Tryd.func25, Tryd.ntmps25
    go_wp2
    go_ret
    exact ⟨rfl, hw1⟩
  by_cases h5 : s ≤ 8
  rotate_left
  · obtain rfl : q = false := hq.symm.trans (decide_eq_false fun k => h5 k.1.2.2.2.2.2)
    clear hq HC HC1 h hR1
    go_enter Tryd.func25, Tryd.ntmps25
    go_wp2
    go_ret
    exact ⟨rfl, hw1⟩
  · have hf2 : q = true ↔ good b B B.length ∧ 1 ≤ cap b p s B := by
      rw [← hq, decide_eq_true_eq, good_all]
      exact ⟨fun h => h.2, fun h => ⟨⟨h0, h1, h2, h3, h4, h5⟩, h⟩⟩
    have hfin := cap_bounds B hs
    have hcb : -2000002 ≤ cap b p s B ∧ cap b p s B ≤ 2000000 := by unfold cap; omega
    have HQ := Lib.hid hf2
    have HR := Lib.hid hR1
    clear hq hf2 h hR1
    go_enter Tryd.func25, Tryd.ntmps25
    go_wp2
    go_loopw [3, 4] (fun i _ wr => ∃ k : Nat, k ≤ B.length ∧ i = .int .i64 k ∧ good b B k ∧ Below w1.heap.size w1 wr) (fun i _ _ => B.length - (intOf i).toNat)
    case atStart => exact ⟨0, Nat.zero_le _, rfl, fun i hi => absurd hi (Nat.not_lt_zero i), hb0⟩
    case round =>
      obtain ⟨k, hk, rfl, hgood, hbr⟩ := hrel
      clear q0 q1 q2 q3
      obtain ⟨r0, r1, r2, r3⟩ := HCL.out _ hbr
      by_cases hlt : k < B.length
      · have i3 : (k : Int) < (B.length : Int) := by omega
        have HG := Lib.hid hgood
        clear hgood
        go_wp2
        go_loopw [4] (fun i ws => ∃ m : Nat, m ≤ k ∧ i = .int .i64 m ∧ (∀ j, j < m → B.getD j 0 ≠ B.getD k 0) ∧ Below w1.heap.size w1 ws) (fun i _ => k - (intOf i).toNat)
        case atStart => exact ⟨0, Nat.zero_le _, rfl, fun i hi => absurd hi (Nat.not_lt_zero i), hbr⟩
        case round =>
          obtain ⟨m, hm, rfl, hne, hbs⟩ := hrel
          clear r0 r1 r2 r3
          obtain ⟨s0, s1, s2, s3⟩ := HCL.out _ hbs
          obtain ⟨bb, off, rfl, hc⟩ := (HR.out.below hbs) (by omega)
          have hck := hc k hlt
          by_cases hlt2 : m < k
          · have i4 : (m : Int) < (k : Int) := by omega
            have i5 : (m : Int) < (B.length : Int) := by omega
            have hcm := hc m (by omega)
            by_cases he : B.getD m 0 = B.getD k 0
            · have hq0 : q = false := by
                cases q with
                | false => rfl
                | true => exact absurd he (((HQ.out.1 rfl).1 k hlt).1 m hlt2)
              subst hq0
              have hxe : (B.getD m 0 == B.getD k 0) = true := by simp only [beq_iff_eq]; exact he
              generalize B.getD m 0 = x at *
              generalize B.getD k 0 = y at *
              clear hne hc he
              go_wp2_with fail
              go_quiet (fail)
              go_wp2
              go_ret
              exact ⟨rfl, hw1.trans ((below_drewN hbs _).mono hw1.size)⟩
            · have HN := Lib.hid (show ∀ j, j < m + 1 → B.getD j 0 ≠ B.getD k 0 from fun j hj => by
                by_cases e : j = m
                · rw [e]; exact he
                · exact hne j (by omega))
              have hxe : (B.getD m 0 == B.getD k 0) = false := by simp only [beq_eq_false_iff_ne]; exact he
              generalize B.getD m 0 = x at *
              generalize B.getD k 0 = y at *
              clear hne hc he
              go_wp2_with fail
              go_quiet (fail)
              go_wp2
              go_roundw
              case rel => exact ⟨m + 1, by omega, by go_num, HN.out, below_drewN hbs _⟩
              case measure => simp [intOf]; omega
          · obtain rfl : m = k := by omega
            by_cases h9 : 2 ≤ B.getD m 0
            · by_cases h8 : B.getD m 0 < b
              · have HN := Lib.hid (show good b B (m + 1) from fun i hi => by
                  by_cases e : i = m
                  · rw [e]; exact ⟨hne, h9, h8⟩
                  · exact HG.out i (by omega))
                generalize B.getD m 0 = x at *
                clear hne hc
                go_wp2_with fail
                go_quiet (fail)
                go_wp2
                go_roundw
                case rel => exact ⟨m + 1, by omega, by go_num, HN.out, below_drewN hbs _⟩
                case measure => simp [intOf]; omega
              · have hq0 : q = false := by
                  cases q with
                  | false => rfl
                  | true => exact absurd (((HQ.out.1 rfl).1 m hlt).2.2) h8
                subst hq0
                generalize B.getD m 0 = x at *
                clear hne hc
                go_wp2_with fail
                go_quiet (fail)
                go_wp2
                go_ret
                exact ⟨rfl, hw1.trans ((below_drewN hbs _).mono hw1.size)⟩
            · have hq0 : q = false := by
                cases q with
                | false => rfl
                | true => exact absurd (((HQ.out.1 rfl).1 m hlt).2.1) h9
              subst hq0
              generalize B.getD m 0 = x at *
              clear hne hc
              go_wp2_with fail
              go_quiet (fail)
              go_wp2
              go_ret
              exact ⟨rfl, hw1.trans ((below_drewN hbs _).mono hw1.size)⟩
      · obtain rfl : k = B.length := by omega
        have hq1 : q = decide (1 ≤ cap b p s B) := by
          rw [Bool.eq_iff_iff, HQ.out, decide_eq_true_eq]
          exact ⟨fun h => h.2, fun h => ⟨hgood, h⟩⟩
        have HE := Lib.hid hq1
        clear hgood hq1
        go_wp2_with (go_at_call 21; (with_reducible refine (HC.out _ hbr).mono ?_); rintro e w9 ⟨rfl, hb9⟩)
        go_ret
        exact ⟨by rw [HE.out]; rfl, hw1.trans ((hbr.trans (hb9.mono hbr.size)).mono hw1.size)⟩
end Go.Proofs.YtmhmmemmdekjhaaDoor.Pn
