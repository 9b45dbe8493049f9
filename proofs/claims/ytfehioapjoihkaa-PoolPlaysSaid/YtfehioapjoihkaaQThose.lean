/- The contracts of those, Open and Count (package pool). -/
import Derived.Test.YtfehioapjoihkaaQMem
namespace Drawbar.Pl
open Go
/-- What a round over the map has gathered: the blocks that stand so, of those that are no longer to come. -/
def Coll (s : St) (v : Nat) (left : Lit → Bool) (ss : List Int) : Prop := ss.Nodup ∧ ∀ x, x ∈ ss ↔ s.at_ x = some v ∧ left (.int .i64 x) = false
theorem Coll.yes {s : St} {v : Nat} {left : Lit → Bool} {ss : List Int} (h : Coll s v left ss) {x : Int} (hl : left (.int .i64 x) = true) (hx : s.at_ x = some v) : Coll s v (fun z => left z && !z.sameKey (.int .i64 x)) (ss ++ [x]) := by
  have hnew : x ∉ ss := fun hm => by have := ((h.2 x).1 hm).2; rw [hl] at this; cases this
  refine ⟨List.nodup_append.2 ⟨h.1, by simp, fun a ha b hb => by simp at hb; subst hb; exact fun e => hnew (e ▸ ha)⟩, fun y => ?_⟩
  by_cases e : y = x
  · subst e; simp [hx, Lit.sameKey]
  · simp [h.2 y, e, Lit.sameKey]
theorem Coll.no {s : St} {v : Nat} {left : Lit → Bool} {ss : List Int} (h : Coll s v left ss) {x : Int} (hx : s.at_ x ≠ some v) : Coll s v (fun z => left z && !z.sameKey (.int .i64 x)) ss := by
  refine ⟨h.1, fun y => ?_⟩
  rw [h.2 y]
  by_cases e : y = x
  · subst e; simp [hx]
  · simp [e, Lit.sameKey]
end Drawbar.Pl
namespace Go.Proofs.Ytfehioapjoihkaa
open Go.RowKit Go.Sort
open Drawbar Drawbar.Pl

theorem info_int : (Try.prog.info? 3).map (fun i => (i.zero, i.size, i.bytes)) = some (some (.int .i64 0), 1, 8) := by kernel_rfl
/-- The slice at a reads as these numbers. -/
def RdI (w : World) (a : Option Addr) (l : List Int) : Prop :=
  0 < l.length → ∃ b off, a = some ⟨b, off, none⟩ ∧ ∀ i, i < l.length → w.cell? ⟨b, off + i, none⟩ = some (.int .i64 (l.getD i 0))
theorem RdI.below {w w' : World} {a : Option Addr} {l : List Int} (h : RdI w a l) (hb : Below w.heap.size w w') : RdI w' a l := fun h0 => by
  obtain ⟨b, off, rfl, hc⟩ := h h0
  exact ⟨b, off, rfl, fun i hi => by rw [hb.cell (p := ⟨b, off + i, none⟩) (World.block_lt_of_cell? w _ (hc i hi))]; exact hc i hi⟩
theorem RdI.alloc {w : World} {a : Option Addr} {l : List Int} (h : RdI w a l) (o : Obj) : RdI (w.alloc o) a l := h.below ((Below.refl _ _).alloc (Nat.le_refl _) _)
theorem rdI_nil (w : World) (a : Option Addr) : RdI w a [] := fun h => absurd h (by simp)
theorem shape_int {w : World} {base : Nat} {v : Value} {n : Nat} {l : List Int} (h : w.ownsRow base 3 1 v n (l.map (Value.int .i64))) : (v = .slice none 0 0 ∧ l = []) ∨ ∃ g c, v = .slice (some ⟨g, 0, none⟩) l.length c ∧ base ≤ g ∧ g < w.heap.size := by
  have h1 : l.length = n := by simpa using h.1
  rcases h.2 with ⟨rfl, h0⟩ | ⟨g, cap, cur, rfl, hb, _⟩
  · exact .inl ⟨rfl, List.eq_nil_of_length_eq_zero (by omega)⟩
  · exact .inr ⟨g, cap, by rw [h1], hb, (h.lt g rfl).2⟩
theorem icells_of_own {w : World} {base g n cap : Nat} {l : List Int} (h : w.ownsRow base 3 1 (.slice (some ⟨g, 0, none⟩) n cap) n (l.map (Value.int .i64))) (i : Nat) (hi : i < l.length) : w.cell? ⟨g, i, none⟩ = some (.int .i64 (l.getD i 0)) ∧ w.frozen? ⟨g, i, none⟩ = false := by
  refine ⟨?_, h.frozenAt i⟩
  rw [h.cellAt i (by have := h.1; simp at this; omega)]
  simp [hi, List.getD_eq_getElem?_getD]
/-- The sort of numbers. -/
theorem sort_rd (gb c : Nat) (ss : List Int) (w : World) (hc : ∀ i, i < ss.length → w.cell? ⟨gb, i, none⟩ = some (.int .i64 (ss.getD i 0)) ∧ w.frozen? ⟨gb, i, none⟩ = false) (hg : gb < w.heap.size) (hlen : ss.length < 4611686018427387904) :
    Calls Try.prog 40 #[.slice (some ⟨gb, 0, none⟩) ss.length c] w fun e w' => e = .returned (.tuple #[]) ∧ RdI w' (some ⟨gb, 0, none⟩) (ss.mergeSort fun x y => decide (x ≤ y)) ∧ Only (fun k => k = gb) w w' := by
  have hH : Holds (Value.int .i64) w gb 0 ss.toArray := fun i hi => by
    have hi2 : i < ss.length := by simpa using hi
    rw [Nat.zero_add, (hc i hi2).1]
    refine ⟨?_, (hc i hi2).2⟩
    simp [List.getD_eq_getElem?_getD, hi2]
  refine (sort_ints gb 0 c ss w hH hg hlen).mono ?_
  rintro e w' ⟨he, n, os, hw⟩
  have S : SW (Value.int .i64) w gb 0 (ss.mergeSort fun x y => decide (x ≤ y)).toArray w' := ⟨n, os, hw⟩
  have hz : (ss.mergeSort fun x y => decide (x ≤ y)).toArray.size = ss.toArray.size := by simp
  have h2 := S.holds hg hH hz
  refine ⟨he, fun _ => ⟨gb, 0, rfl, fun i hi => ?_⟩, SW.only S⟩
  have hi2 : i < (ss.mergeSort fun x y => decide (x ≤ y)).toArray.size := by simpa using hi
  rw [(h2 i hi2).1, getElem!_pos _ i hi2]
  simp only [List.getElem_toArray]
  rw [List.getD_eq_getElem?_getD, List.getElem?_eq_getElem hi]
  rfl
theorem ranges_keep {w w' : World} {b r n : Nat} {D : DataW Unit} {left : Lit → Bool} {cnt : Nat} (h : w.ranges Try.prog 3 U8P b r n D left cnt) (h1 : w'.heap[b]? = w.heap[b]?) (h2 : w'.heap[r]? = w.heap[r]?) : w'.ranges Try.prog 3 U8P b r n D left cnt := by
  obtain ⟨es, clock, since, seen, c0, hb, F, hs, hD, hr, rest⟩ := h
  exact ⟨es, clock, since, seen, c0, h1.trans hb, F, hs, hD, h2.trans hr, rest⟩
theorem row_keep {w1 wr : World} {b n : Nat} {v : Value} {xs : List Value} (h : wr.ownsRow (b + 1) 3 1 v n xs) (hg : wr.grownBy w1 (some b)) : w1.ownsRow (b + 1) 3 1 v n xs := by
  refine h.kept hg ?_
  cases hob : v.ownBlock with
  | none => exact .inl rfl
  | some k => exact .inr (by have := (h.lt k hob).1; intro e; cases e; omega)
theorem at_onei (w : World) (x : Int) : At (w.alloc (.cells #[.int .i64 x] 3)) (some ⟨w.heap.size, 0, none⟩) [.int .i64 x] := At.one w (.int .i64 x) 3
/-- The blocks that stand so. -/
def Those (s : St) (v : Nat) (w : World) (e : Ending) (w' : World) : Prop :=
  ∃ a c, e = .returned (.slice a (s.those v).length c) ∧ RdI w' a (s.those v) ∧ Below w.heap.size w w'

set_option maxHeartbeats 2000000 in
set_option maxRecDepth 100000 in
theorem those_in (g mb : Nat) (s : St) (w : World) (h : PoolAt w g mb s) (v : Nat) : Calls Try.prog 37 #[.pointer (some ⟨g, 0, none⟩), .int .u8 v] w (Those s v w) := by
  obtain ⟨i0, hi, hz0, hz1, hz2⟩ := info_parts info_int
  have c0 := h.c0
  have hwf := h.wf
  obtain ⟨D, hown, hr⟩ := h.map
  have hml := h.ml
  obtain ⟨w0, hrun, hrg0, hg0, hs0⟩ := hown.range keyed Try.underlying77
  have hst : Coll s v (Maps.has D) [] := ⟨List.nodup_nil, fun x => by
    constructor
    · intro h; cases h
    · rintro ⟨h1, h2⟩
      have := hwf.rng x v h1
      rw [hr.has_ x (wf_in ⟨this.1, this.2.1⟩), h1] at h2
      cases h2⟩
  have hb0 : Below w.heap.size w w0 := (Below.refl _ _).grown hg0 (Nat.le_refl _) (fun k h => by cases h)
  have HST := Lib.hid hst
  clear hst h
  go_enter Try.func37, Try.ntmps37
  go_wp2_with fail
  go_loopw [5] (fun bl wr => ∃ (left : Lit → Bool) (cnt : Nat) (ss : List Int), wr.ranges Try.prog 3 U8P mb w.heap.size 64 D left cnt ∧ Below w.heap.size w wr ∧ w.heap.size + 1 ≤ wr.heap.size ∧ ss.length + cnt ≤ 64 ∧ wr.ownsRow (w.heap.size + 1) 3 1 bl ss.length (ss.map (Value.int .i64)) ∧ Hid (Coll s v left ss)) (fun _ wr => wr.rangeLeft mb w.heap.size)
  case atStart => exact ⟨_, _, [], hrg0, hb0, by omega, by simpa using hown.size_le, World.ownsRow_nil _ _ _ 1, HST⟩
  case round =>
    obtain ⟨left, cnt, ss, hrg, hbw, hsz, hll, hrow, HC⟩ := hrel
    go_wp2_with (at_next; refine wpList_next_ranges_ii _ rfl _ rfl 3 5 .i64 .u8 keyed Try.underlying3 Try.underlying5 mb w.heap.size 64 _ _ _ rfl hrg ?_ ?_)
    · intro _ hl0
      have hm : ∀ x, x ∈ ss ↔ s.at_ x = some v := fun x => by rw [HC.out.2 x, hl0]; simp
      have hsrt := sort_those hwf v HC.out.1 hm
      have hlen := (those_of hwf v HC.out.1 hm).length_eq
      have hle := those_le s v
      rcases shape_int hrow with ⟨rfl, he⟩ | ⟨gb, c, rfl, hg1, hg2⟩
      · have hfin : Those s v w (.returned (.slice none 0 0)) wr := ⟨none, 0, by rw [← hlen, he]; rfl, by rw [List.eq_nil_of_length_eq_zero (l := s.those v) (by rw [← hlen, he]; rfl)]; exact rdI_nil _ _, hbw⟩
        have HF := Lib.hid hfin
        clear hfin hsrt hlen hrow
        go_wp2_with fail
        refine (sort_none none 0 _).mono ?_
        rintro e w' ⟨rfl, rfl⟩
        go_wp2
        go_ret
        exact HF.out
      · have hS := sort_rd gb c ss wr (fun i hi => icells_of_own hrow i hi) hg2 (by omega)
        rw [hsrt, hlen] at hS
        rw [hlen]
        have HS := Lib.hid hS
        have HB := Lib.hid hbw
        clear hS hsrt hrow hm hbw
        go_wp2_with fail
        refine HS.out.mono ?_
        rintro e w' ⟨rfl, hrd, hon⟩
        have hfin : Those s v w (.returned (.slice (some ⟨gb, 0, none⟩) (s.those v).length c)) w' := ⟨_, c, rfl, hrd, HB.out.trans (hon.toBelow (fun k hk => by rw [hk]; omega) (by omega))⟩
        have HF := Lib.hid hfin
        clear hfin hrd hon
        go_wp2
        go_ret
        exact HF.out
    · intro x c w1 cnt1 hwx hwc hlx hat hrg1 hlt hg1 hs1 hen
      have hh := hr.has_ x hwx
      rw [Maps.has_true_of_atKey hat] at hh
      obtain ⟨u, hu⟩ := Option.isSome_iff_exists.1 hh.symm
      have hu2 := (hat (.lit (.int .u8 0))).symm.trans (hr.at_ x u _ hu)
      obtain rfl : c = u := by simpa using hu2
      have hb1 : Below w.heap.size w w1 := hbw.grown hg1 hbw.size (fun k hk => by cases hk; exact Nat.le_refl _)
      have hrow1 := row_keep hrow hg1
      have hsz1 : w.heap.size + 1 ≤ w1.heap.size := by omega
      have hll2 : ss.length + 1 + cnt1 ≤ 64 := by omega
      by_cases huv : u = v
      · obtain rfl : u = v := huv
        have HC2 := Lib.hid (HC.out.yes hlx hu)
        clear hu hh hu2 hrow hg1 hat
        go_wp2_with (at_builtin; refine wpList_append_ownz rfl (.tmp 23) (.tmp 25) 43 rfl (w.heap.size + 1) 3 i0 (.int .i64 0) 1 8 Try.underlying43 hi hz0 hz1 hz2 rfl (by decide) _ ss.length (ss.map (Value.int .i64)) rfl ((hrow1.alloc _)) (some ⟨wr.heap.size, 0, none⟩) 1 1 [.int .i64 x] rfl (fun h => by cases h) rfl (by rw [← hs1]; exact at_onei w1 x) (by simp [Value.oneCell']) (by unfold maxLen; omega) (by omega) (by simp; omega) ?_; intro v6 w6 hown6 hb6)
        go_roundw
        case rel =>
          refine ⟨_, cnt1, ss ++ [x], ranges_keep (hrg1.alloc _) (hb6.block mb (by omega)) (hb6.block _ (by omega)), hb1.trans (((Below.refl _ _).alloc (by omega) _).trans (hb6.mono (by omega))), ?_, by simp; omega, ?_, HC2⟩
          · have := hb6.size; simp at this; omega
          · rw [List.map_append, List.length_append]; exact hown6
        case measure => rw [(ranges_keep (hrg1.alloc _) (hb6.block mb (by omega)) (hb6.block _ (by omega))).left_eq, hrg.left_eq]; exact hlt
      · have HC2 := Lib.hid (HC.out.no (x := x) (by rw [hu]; intro e; cases e; exact huv rfl))
        have hne : ((u : Int) == (v : Int)) = false := by simp; omega
        clear hu hh hu2 hrow hg1 hat huv
        go_wp2_with fail
        go_roundw
        case rel => exact ⟨_, cnt1, ss, hrg1, hb1, hsz1, by omega, hrow1, HC2⟩
        case measure => rw [hrg1.left_eq, hrg.left_eq]; exact hlt
end Go.Proofs.Ytfehioapjoihkaa
