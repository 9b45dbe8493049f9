/- The blocks that may be used, as a list; how many they are. The contracts of slices.Contains (over ints), plan.Usable and the document's Usable. The contracts of plan.Cap, Meta, Reserve, and of the document's Cap. The contracts of plan.Form, and of the laws' small and awake. -/
import Derived.WalkKit
import Derived.Test.YtkapnpcolmhdbaaDoorProg
import Derived.Test.YtkapnpcolmhdbaaDoorLawC
import Derived.Handy
import Derived.Lib.Hide
import Derived.Deep.RegionHeld
namespace Drawbar.Plan

/-- The first k blocks behind the log's two, without those of B. -/
def us (B : List Int) : Nat → List Int
  | 0 => []
  | k + 1 => us B k ++ if ((k : Int) + 2) ∈ B then [] else [(k : Int) + 2]

set_option maxRecDepth 100000 in
theorem us_length (B : List Int) (k : Nat) : (us B k).length ≤ k := by
  induction k with
  | zero => simp [us]
  | succ k ih =>
    unfold us
    rw [List.length_append]
    split
    · simp; omega
    · simp; omega
set_option maxRecDepth 100000 in
theorem us_nil (k : Nat) : (us [] k).length = k := by
  induction k with
  | zero => rfl
  | succ k ih => unfold us; rw [List.length_append, ih]; simp
set_option maxRecDepth 100000 in
theorem mem_us (B : List Int) (k : Nat) (x : Int) : x ∈ us B k ↔ 2 ≤ x ∧ x < (k : Int) + 2 ∧ x ∉ B := by
  induction k with
  | zero => simp [us]; omega
  | succ k ih =>
    unfold us
    rw [List.mem_append, ih]
    by_cases h : ((k : Int) + 2) ∈ B
    · rw [if_pos h]
      simp only [List.not_mem_nil, or_false]
      constructor
      · rintro ⟨h1, h2, h3⟩; exact ⟨h1, by omega, h3⟩
      · rintro ⟨h1, h2, h3⟩
        refine ⟨h1, ?_, h3⟩
        by_cases e : x = (k : Int) + 2
        · rw [e] at h3; exact absurd h h3
        · omega
    · rw [if_neg h]
      simp only [List.mem_singleton]
      constructor
      · rintro (⟨h1, h2, h3⟩ | rfl)
        · exact ⟨h1, by omega, h3⟩
        · exact ⟨by omega, by omega, h⟩
      · rintro ⟨h1, h2, h3⟩
        by_cases e : x = (k : Int) + 2
        · exact .inr e
        · exact .inl ⟨h1, by omega, h3⟩
set_option maxRecDepth 100000 in
theorem us_congr {B C : List Int} (k : Nat) (h : ∀ i, i ∈ B ↔ i ∈ C) : us B k = us C k := by
  induction k with
  | zero => rfl
  | succ k ih => unfold us; rw [ih]; simp only [h]
set_option maxRecDepth 100000 in
/-- One more bad block: one less, if it is one of these. -/
theorem us_cons (b : Int) (B : List Int) (k : Nat) : (us (b :: B) k).length + (if b ∈ us B k then 1 else 0) = (us B k).length := by
  induction k with
  | zero => simp [us]
  | succ k ih =>
    have hm := mem_us B k b
    have hm1 := mem_us B (k + 1) b
    unfold us at hm1 ⊢
    rw [List.length_append, List.length_append]
    by_cases e : ((k : Int) + 2) = b
    · have h0 : b ∉ us B k := fun h => by have := (hm.1 h).2.1; omega
      rw [if_neg h0] at ih
      rw [if_pos (show ((k : Int) + 2) ∈ b :: B by rw [e]; simp)]
      by_cases hB : b ∈ B
      · have e1 : (if ((k : Int) + 2) ∈ B then ([] : List Int) else [(k : Int) + 2]) = [] := if_pos (by rw [e]; exact hB)
        rw [e1] at hm1 ⊢
        rw [if_neg (fun h => (hm1.1 h).2.2 hB)]
        simp; omega
      · have e1 : (if ((k : Int) + 2) ∈ B then ([] : List Int) else [(k : Int) + 2]) = [(k : Int) + 2] := if_neg (by rw [e]; exact hB)
        rw [e1]
        rw [if_pos (by rw [e]; simp)]
        simp; omega
    · have hi : (((k : Int) + 2) ∈ b :: B) ↔ ((k : Int) + 2) ∈ B := by simp [e]
      have hb : (b ∈ us B k ++ if ((k : Int) + 2) ∈ B then [] else [(k : Int) + 2]) ↔ b ∈ us B k := by
        rw [List.mem_append]
        constructor
        · rintro (h | h)
          · exact h
          · split at h
            · simp at h
            · simp at h; omega
        · exact .inl
      simp only [hi, hb]
      omega
def Ok (B : List Int) (k : Nat) : Prop := B.Nodup ∧ ∀ b ∈ B, 2 ≤ b ∧ b < (k : Int) + 2
set_option maxRecDepth 100000 in
/-- Each bad block is one of them, and is told once, just when as many are left. -/
theorem us_ok (B : List Int) (k : Nat) : k ≤ (us B k).length + B.length ∧ ((us B k).length + B.length = k ↔ Ok B k) := by
  induction B with
  | nil => simp [us_nil, Ok]
  | cons b B ih =>
    have hc := us_cons b B k
    have hm := mem_us B k b
    obtain ⟨h1, h2⟩ := ih
    rw [List.length_cons]
    by_cases h : b ∈ us B k
    · rw [if_pos h] at hc
      obtain ⟨ha, hb, hn⟩ := hm.1 h
      refine ⟨by omega, ?_⟩
      rw [show (us (b :: B) k).length + (B.length + 1) = k ↔ (us B k).length + B.length = k by omega, h2]
      unfold Ok
      rw [List.nodup_cons]
      constructor
      · rintro ⟨h3, h4⟩
        exact ⟨⟨hn, h3⟩, fun x hx => by
          rcases List.mem_cons.1 hx with rfl | hx
          · exact ⟨ha, hb⟩
          · exact h4 x hx⟩
      · rintro ⟨⟨_, h3⟩, h4⟩
        exact ⟨h3, fun x hx => h4 x (List.mem_cons_of_mem _ hx)⟩
    · rw [if_neg h] at hc
      refine ⟨by omega, ?_⟩
      constructor
      · intro h3; omega
      · rintro ⟨h3, h4⟩
        have h5 := h4 b (by simp)
        rw [List.nodup_cons] at h3
        exact absurd (hm.2 ⟨h5.1, h5.2, h3.1⟩) h
set_option maxRecDepth 100000 in
theorem us_more {B : List Int} {k : Nat} (h : Ok B k) : us B (k + 1) = us B k ++ [(k : Int) + 2] := by
  show us B k ++ _ = _
  rw [if_neg (fun hk => by have := (h.2 _ hk).2; omega)]
set_option maxRecDepth 100000 in
theorem ok_more {B : List Int} {k : Nat} (h : Ok B k) : Ok B (k + 1) := ⟨h.1, fun b hb => by have := h.2 b hb; omega⟩
set_option maxRecDepth 100000 in
/-- One of them is bad, too. -/
theorem us_bad {B : List Int} {k : Nat} {x : Int} (hx : x ∈ us B k) : (us (B ++ [x]) k).length + 1 = (us B k).length := by
  have := us_cons x B k
  rw [if_pos hx] at this
  rw [us_congr (C := x :: B) k (fun i => by simp [or_comm])]
  exact this

/-- The blocks behind the log's two, of at most 64. -/
def kk (b : Int) : Nat := (min b 64 - 2).toNat
def cap (b p s : Int) (B : List Int) : Int := p * (((us B (kk b)).length : Int) - s - 1) - 2
def form (b p s : Int) (B : List Int) : Bool := decide (4 ≤ b ∧ b ≤ 64 ∧ 2 ≤ p ∧ p ≤ 32 ∧ 0 ≤ s ∧ s ≤ 8 ∧ ((us B (kk b)).length : Int) + B.length = b - 2 ∧ 0 < cap b p s B)
structure Small (b p s : Int) : Prop where
  b : -100 ≤ b ∧ b ≤ 100
  p : -1000 ≤ p ∧ p ≤ 1000
  s : -1001 ≤ s ∧ s ≤ 1001
set_option maxRecDepth 100000 in
theorem kk_le (b : Int) : kk b ≤ 62 := by unfold kk; omega
set_option maxRecDepth 100000 in
theorem us_le (B : List Int) (b : Int) : (us B (kk b)).length ≤ 62 := Nat.le_trans (us_length _ _) (kk_le b)
set_option maxRecDepth 100000 in
theorem cap_bounds {b p s : Int} (B : List Int) (h : Small b p s) : -2000000 ≤ p * (((us B (kk b)).length : Int) - s - 1) ∧ p * (((us B (kk b)).length : Int) - s - 1) ≤ 2000000 := by
  have h1 := us_le B b
  generalize ((us B (kk b)).length) = n at *
  obtain ⟨_, ⟨h2, h3⟩, h4, h5⟩ := h
  have hq1 : -1100 ≤ (n : Int) - s - 1 := by omega
  have hq2 : (n : Int) - s - 1 ≤ 1100 := by omega
  generalize (n : Int) - s - 1 = q at *
  have a1 := Int.mul_nonneg (show 0 ≤ 1000 - p by omega) (show 0 ≤ 1100 - q by omega)
  have a2 := Int.mul_nonneg (show 0 ≤ 1000 + p by omega) (show 0 ≤ 1100 + q by omega)
  have a3 := Int.mul_nonneg (show 0 ≤ 1000 - p by omega) (show 0 ≤ 1100 + q by omega)
  have a4 := Int.mul_nonneg (show 0 ≤ 1000 + p by omega) (show 0 ≤ 1100 - q by omega)
  simp only [Int.sub_mul, Int.mul_sub, Int.add_mul, Int.mul_add] at a1 a2 a3 a4
  omega
end Drawbar.Plan
namespace Go.Proofs.YtkapnpcolmhdbaaDoor.Pn
open Go.RowKit
open Drawbar Drawbar.Plan

def iv (x : Int) : Value := .int .i64 x
/-- The slice at a reads as these numbers. -/
def RdI (w : World) (a : Option Addr) (l : List Int) : Prop :=
  0 < l.length → ∃ b off, a = some ⟨b, off, none⟩ ∧ ∀ i, i < l.length → w.cell? ⟨b, off + i, none⟩ = some (.int .i64 (l.getD i 0))
set_option maxRecDepth 100000 in
theorem RdI.below {w w' : World} {a : Option Addr} {l : List Int} (h : RdI w a l) (hb : Below w.heap.size w w') : RdI w' a l := fun h0 => by
  obtain ⟨b, off, rfl, hc⟩ := h h0
  exact ⟨b, off, rfl, fun i hi => by rw [hb.cell (p := ⟨b, off + i, none⟩) (World.block_lt_of_cell? w _ (hc i hi))]; exact hc i hi⟩
set_option maxRecDepth 100000 in
theorem RdI.alloc {w : World} {a : Option Addr} {l : List Int} (h : RdI w a l) (o : Obj) : RdI (w.alloc o) a l := h.below ((Below.refl _ _).alloc (Nat.le_refl _) _)
set_option maxRecDepth 100000 in
theorem rdI_nil (w : World) (a : Option Addr) : RdI w a [] := fun h => absurd h (by simp)
set_option maxRecDepth 100000 in
theorem rdI_of_own {w : World} {base : Nat} {a : Option Addr} {n cap : Nat} {l : List Int} (h : w.ownsRow base 3 1 (.slice a n cap) n (l.map iv)) : RdI w a l := fun h0 => by
  rcases h.2 with ⟨e, rfl⟩ | ⟨g, cap', cur, e, _⟩
  · have := h.1
    rw [List.length_map] at this
    omega
  · cases e
    refine ⟨g, 0, rfl, fun i hi => ?_⟩
    have := h.cells (g := g) rfl i (.int .i64 (l.getD i 0)) (by
      rw [List.getElem?_map, List.getElem?_eq_getElem hi, List.getD_eq_getElem?_getD, List.getElem?_eq_getElem hi]; rfl)
    rw [Addr.add_lit] at this
    exact this

set_option maxRecDepth 100000 in
theorem index_any (l : List Int) (a : Option Addr) (c : Nat) (x : Int) (w : World) (h : RdI w a l) (hl : l.length ≤ 1000) :
    Calls Tryd.prog 67 #[.slice a l.length c, .int .i64 x] w fun e w' => (∃ j : Int, e = .returned (.int .i64 j) ∧ (0 ≤ j ↔ x ∈ l)) ∧ w = w' := by
  go_enter Tryd.func67, Tryd.ntmps67
  go_wp2
  go_loop [5, 8] (fun _ i => ∃ k : Nat, k ≤ l.length ∧ i = .int .i64 k ∧ ∀ m, m < k → l.getD m 0 ≠ x) (fun _ i => l.length - (intOf i).toNat)
  case atStart => exact ⟨0, Nat.zero_le _, rfl, fun m hm => absurd hm (Nat.not_lt_zero m)⟩
  case round =>
    obtain ⟨k, hk, rfl, hne⟩ := hrel
    by_cases hlt : k < l.length
    · obtain ⟨b, off, rfl, hc⟩ := h (by omega)
      have h1 := hc k hlt
      have i1 : (k : Int) < (l.length : Int) := by omega
      have hmem : l.getD k 0 ∈ l := by rw [List.getD_eq_getElem?_getD, List.getElem?_eq_getElem hlt]; exact List.getElem_mem hlt
      generalize hy : l.getD k 0 = y at h1 hmem
      have HY := Lib.hid hy
      have HN := Lib.hid hne
      clear hc hy hne h
      by_cases e : x = y
      · have hb : (x == y) = true := by simp [e]
        have HE := Lib.hid (show x ∈ l by rw [e]; exact hmem)
        clear e hmem
        go_wp2
        go_ret
        exact ⟨⟨k, rfl, ⟨fun _ => HE.out, fun _ => by omega⟩⟩, rfl⟩
      · have hb : (x == y) = false := by simp [e]
        have HE := Lib.hid (show ∀ m, m < k + 1 → l.getD m 0 ≠ x from fun m hm => by
          by_cases e2 : m = k
          · rw [e2, HY.out]; exact fun e3 => e e3.symm
          · exact HN.out m (by omega))
        clear e hmem
        go_wp2
        go_round
        case rel => exact ⟨k + 1, by omega, by go_num, HE.out⟩
        case measure => simp [intOf]; omega
    · have i1 : ¬ (k : Int) < (l.length : Int) := by omega
      have HE := Lib.hid (show ¬ x ∈ l from fun hx => by
        obtain ⟨m, hm, rfl⟩ := List.mem_iff_getElem.1 hx
        exact hne m (by omega) (by rw [List.getD_eq_getElem?_getD, List.getElem?_eq_getElem hm]; rfl))
      clear h hne
      go_wp2
      go_ret
      exact ⟨⟨-1, rfl, ⟨fun hj => by omega, fun hx => absurd hx HE.out⟩⟩, rfl⟩

set_option maxRecDepth 100000 in
theorem contains_any (l : List Int) (a : Option Addr) (c : Nat) (x : Int) (w : World) (h : RdI w a l) (hl : l.length ≤ 1000) :
    Calls Tryd.prog 30 #[.slice a l.length c, .int .i64 x] w fun e w' => e = .returned (.bool (decide (x ∈ l))) ∧ w = w' := by
  have hI := index_any l a c x w h hl
  have HI := Lib.hid hI
  clear hI
  go_enter Tryd.func30, Tryd.ntmps30
  go_wp2_with (go_at_call 67; refine HI.out.mono ?_; rintro e w1 ⟨⟨j, rfl, hj⟩, rfl⟩; have HJ := Lib.hid hj; clear hj)
  go_ret
  exact ⟨by rw [show decide ((0 : Int) ≤ j) = decide (x ∈ l) by simp only [HJ.out]]; rfl, rfl⟩

set_option maxRecDepth 100000 in
theorem info_int : (Tryd.prog.info? 3).map (fun i => (i.zero, i.size, i.bytes)) = some (some (.int .i64 0), 1, 8) := by kernel_rfl
set_option maxRecDepth 100000 in
theorem iv_one (l : List Int) : ∀ u ∈ l.map iv, u.oneCell' = true := by
  intro u hu; obtain ⟨x, _, rfl⟩ := List.mem_map.1 hu; rfl
set_option maxRecDepth 100000 in
theorem shape_int {w : World} {base : Nat} {v : Value} {n : Nat} {l : List Int} (h : w.ownsRow base 3 1 v n (l.map iv)) : ∃ a c, v = .slice a l.length c := by
  have h1 : l.length = n := by simpa using h.1
  rcases h.2 with ⟨rfl, h0⟩ | ⟨g, cap, cur, rfl, _⟩
  · exact ⟨none, 0, by rw [h1, h0]⟩
  · exact ⟨_, cap, by rw [h1]⟩

/-- New numbers. -/
def NewInts (w : World) (l : List Int) (e : Ending) (w' : World) : Prop := ∃ a c, e = .returned (.slice a l.length c) ∧ RdI w' a l ∧ Below w.heap.size w w'
def geo (b p s : Int) (a : Option Addr) (n c : Nat) : Value := .agg #[.int .i64 b, .int .i64 p, .int .i64 s, .slice a n c]

set_option maxRecDepth 100000 in
theorem kk_lt (b : Int) (k : Nat) : (k : Int) + 2 < min b 64 ↔ k < kk b := by unfold kk; omega

set_option maxRecDepth 100000 in
theorem usable_any (b p s : Int) (B : List Int) (a : Option Addr) (c : Nat) (w : World) (h : RdI w a B) (hB : B.length ≤ 1000) :
    Calls Tryd.prog 31 #[geo b p s a B.length c] w (NewInts w (us B (kk b))) := by
  obtain ⟨i0, hi, hz0, hz1, hz2⟩ := info_parts info_int
  have hK := kk_le b
  have hlt := kk_lt b
  unfold geo
  generalize hq : kk b = q at hK hlt
  go_enter Tryd.func31, Tryd.ntmps31
  go_wp2
  go_loopw [3, 4] (fun v i wr => ∃ k : Nat, k ≤ q ∧ i = .int .i64 ((k : Int) + 2) ∧ Below (w.heap.size + 1) (w.alloc (.cells #[.int .i64 b, .int .i64 p, .int .i64 s, .slice a B.length c] 26)) wr ∧ wr.ownsRow (w.heap.size + 1) 3 1 v (us B k).length ((us B k).map iv)) (fun _ i _ => q + 2 - (intOf i).toNat)
  case atStart => exact ⟨0, Nat.zero_le _, rfl, Below.refl _ _, World.ownsRow_nil _ _ _ 1⟩
  case round =>
    obtain ⟨k, hk, rfl, hb, hown⟩ := hrel
    have hb1 : Below (w.alloc (.cells #[.int .i64 b, .int .i64 p, .int .i64 s, .slice a B.length c] 26)).heap.size (w.alloc (.cells #[.int .i64 b, .int .i64 p, .int .i64 s, .slice a B.length c] 26)) wr := by simpa using hb
    have hR := (h.alloc (.cells #[.int .i64 b, .int .i64 p, .int .i64 s, .slice a B.length c] 26)).below hb1
    have g0 : wr.cell? ⟨w.heap.size, 0, none⟩ = some (.int .i64 b) := by rw [hb1.cell (by simp)]; simp
    have g3 : wr.cell? ⟨w.heap.size, 3, none⟩ = some (.slice a B.length c) := by rw [hb1.cell (by simp)]; simp
    have hC := contains_any B a c ((k : Int) + 2) wr hR hB
    have hl1 : (us B k).length ≤ k := us_length B k
    have HC := Lib.hid hC
    have HH := Lib.hid h
    clear hC hR h
    by_cases hlt2 : k < q
    · have i1 : (k : Int) + 2 < min b 64 := (hlt k).2 hlt2
      have i2 : k < 62 := by omega
      clear hlt
      by_cases hm : ((k : Int) + 2) ∈ B
      · have hu : us B (k + 1) = us B k := by show us B k ++ _ = _; rw [if_pos hm, List.append_nil]
        have hd : decide (((k : Int) + 2) ∈ B) = true := decide_eq_true hm
        have HU := Lib.hid hu
        clear hu hm
        go_wp2_with (first | (go_at_call 30; refine HC.out.mono ?_; rintro e w1 ⟨rfl, rfl⟩))
        go_roundw
        case rel => exact ⟨k + 1, by omega, by go_num, hb, by rw [HU.out]; exact hown⟩
        case measure => simp [intOf]; omega
      · have hu : us B (k + 1) = us B k ++ [(k : Int) + 2] := by show us B k ++ _ = _; rw [if_neg hm]
        have hd : decide (((k : Int) + 2) ∈ B) = false := decide_eq_false hm
        have hsz := hb.size
        have HU := Lib.hid hu
        clear hu hm
        go_wp2_with (first
          | (go_at_call 30; refine HC.out.mono ?_; rintro e w1 ⟨rfl, rfl⟩)
          | (at_builtin; refine wpList_append_ownz rfl (.tmp 17) (.tmp 19) 24 rfl (w.heap.size + 1) 3 i0 (.int .i64 0) 1 8 Tryd.underlying24 hi hz0 hz1 hz2 rfl (by decide) _ (us B k).length ((us B k).map iv) rfl (hown.alloc _) (some ⟨wr.heap.size, 0, none⟩) 1 1 [iv ((k : Int) + 2)] rfl (fun h => by cases h) rfl (At.one wr _ _) (by simp [Value.oneCell', iv]) (by unfold maxLen; omega) (by omega) (by simp at hsz ⊢; omega) ?_; intro v6 w6 hown6 hb6))
        go_roundw
        case rel =>
          refine ⟨k + 1, by omega, by go_num, hb.trans (((Below.refl _ _).alloc (by simpa using hsz) _).trans hb6), ?_⟩
          rw [HU.out, List.map_append, List.length_append]
          exact hown6
        case measure => simp [intOf]; omega
    · have i1 : ¬ (k : Int) + 2 < min b 64 := fun h => hlt2 ((hlt k).1 h)
      obtain rfl : k = q := by omega
      obtain ⟨a2, c2, rfl⟩ := shape_int hown
      clear hlt
      go_wp2
      all_goals
        go_ret
        exact ⟨a2, c2, rfl, rdI_of_own hown, ((Below.refl _ _).alloc (Nat.le_refl _) _).trans (hb.mono (Nat.le_succ _))⟩

set_option maxRecDepth 100000 in
theorem refusable_any (b p s : Int) (B : List Int) (a : Option Addr) (c : Nat) (w : World) (h : RdI w a B) (hB : B.length ≤ 1000) (hb64 : b ≤ 64) :
    Calls Tryd.prog 19 #[geo b p s a B.length c] w (NewInts w (us B (kk b))) := by
  obtain ⟨i0, hi, hz0, hz1, hz2⟩ := info_parts info_int
  have hK := kk_le b
  have hlt := kk_lt b
  rw [show min b 64 = b by omega] at hlt
  unfold geo
  generalize hq : kk b = q at hK hlt
  go_enter Tryd.func19, Tryd.ntmps19
  go_wp2
  go_loopw [3, 4, 5, 6] (fun v i _ _ wr => ∃ k : Nat, k ≤ q ∧ i = .int .i64 ((k : Int) + 2) ∧ Below (w.heap.size + 1) (w.alloc (.cells #[.int .i64 b, .int .i64 p, .int .i64 s, .slice a B.length c] 26)) wr ∧ wr.ownsRow (w.heap.size + 1) 3 1 v (us B k).length ((us B k).map iv)) (fun _ i _ _ _ => q + 2 - (intOf i).toNat)
  case atStart => exact ⟨0, Nat.zero_le _, rfl, Below.refl _ _, World.ownsRow_nil _ _ _ 1⟩
  case round =>
    obtain ⟨k, hk, rfl, hb, hown⟩ := hrel
    have hb1 : Below (w.alloc (.cells #[.int .i64 b, .int .i64 p, .int .i64 s, .slice a B.length c] 26)).heap.size (w.alloc (.cells #[.int .i64 b, .int .i64 p, .int .i64 s, .slice a B.length c] 26)) wr := by simpa using hb
    have hR := (h.alloc (.cells #[.int .i64 b, .int .i64 p, .int .i64 s, .slice a B.length c] 26)).below hb1
    have g0 : wr.cell? ⟨w.heap.size, 0, none⟩ = some (.int .i64 b) := by rw [hb1.cell (by simp)]; simp
    have g3 : wr.cell? ⟨w.heap.size, 3, none⟩ = some (.slice a B.length c) := by rw [hb1.cell (by simp)]; simp
    have hl1 : (us B k).length ≤ k := us_length B k
    clear h
    by_cases hlt2 : k < q
    · have i1 : (k : Int) + 2 < b := (hlt k).2 hlt2
      have i2 : k < 62 := by omega
      clear hlt
      go_wp2
      go_loop [5, 6] (fun v i => ∃ m : Nat, m ≤ B.length ∧ i = .int .i64 m ∧ v = .bool (decide (((k : Int) + 2) ∈ B.take m))) (fun _ i => B.length - (intOf i).toNat)
      case atStart => exact ⟨0, Nat.zero_le _, rfl, by simp⟩
      case round =>
        obtain ⟨m, hm, rfl, rfl⟩ := hrel
        by_cases hlt3 : m < B.length
        · obtain ⟨bb, off, rfl, hc⟩ := hR (by omega)
          have h1 := hc m hlt3
          have ht : B.take (m + 1) = B.take m ++ [B.getD m 0] := by
            rw [List.take_succ_eq_append_getElem hlt3, List.getD_eq_getElem?_getD, List.getElem?_eq_getElem hlt3]; rfl
          have i3 : (m : Int) < (B.length : Int) := by omega
          have hD : (((k : Int) + 2) ∈ B.take (m + 1)) ↔ (((k : Int) + 2) ∈ B.take m) ∨ B.getD m 0 = (k : Int) + 2 := by rw [ht]; simp [eq_comm]
          generalize B.getD m 0 = y at h1 hD
          clear hc hR ht
          by_cases hin : ((k : Int) + 2) ∈ B.take m
          · have hd : decide (((k : Int) + 2) ∈ B.take m) = true := decide_eq_true hin
            have hd2 := Lib.hid (show decide (((k : Int) + 2) ∈ B.take (m + 1)) = true from decide_eq_true (hD.2 (.inl hin)))
            clear hin hD
            go_wp2
            go_round
            case rel => exact ⟨m + 1, by omega, by go_num, by rw [hd2.out]⟩
            case measure => simp [intOf]; omega
          · have hd : decide (((k : Int) + 2) ∈ B.take m) = false := decide_eq_false hin
            have hd2 := Lib.hid (show decide (((k : Int) + 2) ∈ B.take (m + 1)) = (y == (k : Int) + 2) by
              rw [Bool.eq_iff_iff]; simp only [decide_eq_true_eq, beq_iff_eq, hD, hin, false_or])
            clear hin hD
            go_wp2
            all_goals
              go_round
              case rel => exact ⟨m + 1, by omega, by go_num, by rw [hd2.out]⟩
              case measure => simp [intOf]; omega
        · have i3 : ¬ (m : Int) < (B.length : Int) := by omega
          have hBm : B.take m = B := List.take_of_length_le (by omega)
          by_cases hmm : ((k : Int) + 2) ∈ B
          · have hu : us B (k + 1) = us B k := by show us B k ++ _ = _; rw [if_pos hmm, List.append_nil]
            have hd : decide (((k : Int) + 2) ∈ B.take m) = true := decide_eq_true (by rw [hBm]; exact hmm)
            have HU := Lib.hid hu
            clear hu hmm hBm hR
            go_wp2
            go_roundw
            case rel => exact ⟨k + 1, by omega, by go_num, hb, by rw [HU.out]; exact hown⟩
            case measure => simp [intOf]; omega
          · have hu : us B (k + 1) = us B k ++ [(k : Int) + 2] := by show us B k ++ _ = _; rw [if_neg hmm]
            have hd : decide (((k : Int) + 2) ∈ B.take m) = false := decide_eq_false (by rw [hBm]; exact hmm)
            have hsz := hb.size
            have HU := Lib.hid hu
            clear hu hmm hBm hR
            go_wp2_with (at_builtin; refine wpList_append_ownz rfl (.tmp 32) (.tmp 34) 24 rfl (w.heap.size + 1) 3 i0 (.int .i64 0) 1 8 Tryd.underlying24 hi hz0 hz1 hz2 rfl (by decide) _ (us B k).length ((us B k).map iv) rfl (hown.alloc _) (some ⟨wr.heap.size, 0, none⟩) 1 1 [iv ((k : Int) + 2)] rfl (fun h => by cases h) rfl (At.one wr _ _) (by simp [Value.oneCell', iv]) (by unfold maxLen; omega) (by omega) (by simp at hsz ⊢; omega) ?_; intro v6 w6 hown6 hb6)
            go_roundw
            case rel =>
              refine ⟨k + 1, by omega, by go_num, hb.trans (((Below.refl _ _).alloc (by simpa using hsz) _).trans hb6), ?_⟩
              rw [HU.out, List.map_append, List.length_append]
              exact hown6
            case measure => simp [intOf]; omega
    · have i1 : ¬ (k : Int) + 2 < b := fun h => hlt2 ((hlt k).1 h)
      obtain rfl : k = q := by omega
      obtain ⟨a2, c2, rfl⟩ := shape_int hown
      clear hlt
      go_wp2
      go_ret
      exact ⟨a2, c2, rfl, rdI_of_own hown, ((Below.refl _ _).alloc (Nat.le_refl _) _).trans (hb.mono (Nat.le_succ _))⟩
end Go.Proofs.YtkapnpcolmhdbaaDoor.Pn
namespace Go.Proofs.YtkapnpcolmhdbaaDoor.Pn
open Go.RowKit
open Drawbar Drawbar.Plan

set_option maxRecDepth 100000 in
theorem drew_below (w : World) : Below w.heap.size w w.drew := (Below.refl _ _).drew

/-- What Op.box lays. -/
abbrev boxed (b p s : Int) (a : Option Addr) (n c : Nat) : Obj := .cells #[.int .i64 b, .int .i64 p, .int .i64 s, .slice a n c] 26
set_option maxRecDepth 100000 in
theorem boxed_cells (w : World) (b p s : Int) (a : Option Addr) (n c : Nat) (W : World) (hb : Below (w.alloc (boxed b p s a n c)).heap.size (w.alloc (boxed b p s a n c)) W) :
    W.cell? ⟨w.heap.size, 0, none⟩ = some (.int .i64 b) ∧ W.cell? ⟨w.heap.size, 1, none⟩ = some (.int .i64 p) ∧ W.cell? ⟨w.heap.size, 2, none⟩ = some (.int .i64 s) ∧ W.cell? ⟨w.heap.size, 3, none⟩ = some (.slice a n c) := by
  refine ⟨?_, ?_, ?_, ?_⟩ <;> · rw [hb.cell (by simp)]; simp

set_option maxRecDepth 100000 in
theorem cap_any (b p s : Int) (B : List Int) (a : Option Addr) (c : Nat) (w : World) (h : RdI w a B) (hB : B.length ≤ 1000) (hs : Small b p s) :
    Calls Tryd.prog 70 #[geo b p s a B.length c] w fun e w' => e = .returned (.int .i64 (cap b p s B)) ∧ Below w.heap.size w w' := by
  have hU := fun W (hb : Below (w.alloc (boxed b p s a B.length c)).heap.size (w.alloc (boxed b p s a B.length c)) W) => usable_any b p s B a c W ((h.alloc _).below hb) hB
  have hcells := boxed_cells w b p s a B.length c
  have hbd := cap_bounds B hs
  have hle := us_le B b
  have ⟨⟨sb1, sb2⟩, ⟨sp1, sp2⟩, ss1, ss2⟩ := hs
  unfold cap
  unfold NewInts at hU
  unfold geo at hU ⊢
  generalize (us B (kk b)).length = n at *
  have HU := Lib.hid hU
  have HC := Lib.hid hcells
  have hb0 := drew_below (w.alloc (boxed b p s a B.length c))
  have hq0 := hcells _ hb0
  clear hU hcells h hs
  go_enter Tryd.func70, Tryd.ntmps70
  go_wp2_with fail
  go_region_held (fun W => W.cell? ⟨w.heap.size, 0, none⟩ = some (.int .i64 b) ∧ W.cell? ⟨w.heap.size, 1, none⟩ = some (.int .i64 p) ∧ W.cell? ⟨w.heap.size, 2, none⟩ = some (.int .i64 s) ∧ W.cell? ⟨w.heap.size, 3, none⟩ = some (.slice a B.length c)) (first | exact hq0 | exact hq9) (first
    | (go_at_call 31; ((with_reducible refine (HU.out _ (by assumption)).mono ?_); rintro e w9 ⟨a2, c2, rfl, _, hb9⟩; have hb19 := hb0.trans (hb9.mono hb0.size); have hq9 := HC.out _ hb19)))
  all_goals
    go_wp2
    go_ret
    refine ⟨?_, ((Below.refl _ _).alloc (Nat.le_refl _) _).trans (hb19.mono (by simp))⟩
    have e1 : IntKind.i64.wrap ((n : Int) - s) = n - s := IntWalk.i64_in _ (by omega)
    have e2 : IntKind.i64.wrap ((n : Int) - s - 1) = n - s - 1 := IntWalk.i64_in _ (by omega)
    have e3 : IntKind.i64.wrap (p * ((n : Int) - s - 1)) = p * (n - s - 1) := IntWalk.i64_in _ (by omega)
    have e4 : IntKind.i64.wrap (p * ((n : Int) - s - 1) - 2) = p * (n - s - 1) - 2 := IntWalk.i64_in _ (by omega)
    show Ending.returned (.int .i64 (IntKind.i64.wrap (IntKind.i64.wrap (p * IntKind.i64.wrap (IntKind.i64.wrap (n - s) - 1)) - 2))) = _
    rw [e1, e2, e3, e4]

set_option maxRecDepth 100000 in
theorem meta_any (b p s : Int) (B : List Int) (a : Option Addr) (c : Nat) (w : World) (h : RdI w a B) (hB : B.length ≤ 1000) (hs : Small b p s) :
    Calls Tryd.prog 33 #[geo b p s a B.length c] w fun e w' => e = .returned (.int .i64 (cap b p s B)) ∧ Below w.heap.size w w' := by
  have hC := cap_any b p s B a c (w.alloc (boxed b p s a B.length c)) (h.alloc _) hB hs
  obtain ⟨q0, q1, q2, q3⟩ := boxed_cells w b p s a B.length c _ (Below.refl _ _)
  unfold geo at hC ⊢
  generalize cap b p s B = v at hC
  have HC := Lib.hid hC
  clear hC h hs
  go_enter Tryd.func33, Tryd.ntmps33
  go_wp2_with (go_at_call 70; refine HC.out.mono ?_; rintro e w9 ⟨rfl, hb9⟩)
  go_ret
  exact ⟨rfl, ((Below.refl _ _).alloc (Nat.le_refl _) _).trans (hb9.mono (by simp))⟩

set_option maxRecDepth 100000 in
theorem refcap_any (b p s : Int) (B : List Int) (a : Option Addr) (c : Nat) (w : World) (h : RdI w a B) (hB : B.length ≤ 1000) (hs : Small b p s) (hb64 : b ≤ 64) :
    Calls Tryd.prog 20 #[geo b p s a B.length c] w fun e w' => e = .returned (.int .i64 (cap b p s B)) ∧ Below w.heap.size w w' := by
  have hU := fun W (hb : Below (w.alloc (boxed b p s a B.length c)).heap.size (w.alloc (boxed b p s a B.length c)) W) => refusable_any b p s B a c W ((h.alloc _).below hb) hB hb64
  have hcells := boxed_cells w b p s a B.length c
  have hbd := cap_bounds B hs
  have hle := us_le B b
  have ⟨⟨sb1, sb2⟩, ⟨sp1, sp2⟩, ss1, ss2⟩ := hs
  unfold cap
  unfold NewInts at hU
  unfold geo at hU ⊢
  generalize (us B (kk b)).length = n at *
  have HU := Lib.hid hU
  have HC := Lib.hid hcells
  have hb0 := drew_below (w.alloc (boxed b p s a B.length c))
  have hq0 := hcells _ hb0
  have hm1 : -70000 ≤ p * (n : Int) ∧ p * (n : Int) ≤ 70000 := by
    have a1 := Int.mul_nonneg (show 0 ≤ 1000 - p by omega) (show 0 ≤ (n : Int) by omega)
    have a2 := Int.mul_nonneg (show 0 ≤ 1000 + p by omega) (show 0 ≤ (n : Int) by omega)
    simp only [Int.sub_mul, Int.add_mul] at a1 a2
    omega
  have hm2 : p * ((n : Int) - s - 1) = p * n - p * s - p := by simp only [Int.mul_sub]; omega
  rw [hm2] at hbd ⊢
  clear hU hcells h hs
  go_enter Tryd.func20, Tryd.ntmps20
  go_wp2_with fail
  go_region_held (fun W => W.cell? ⟨w.heap.size, 0, none⟩ = some (.int .i64 b) ∧ W.cell? ⟨w.heap.size, 1, none⟩ = some (.int .i64 p) ∧ W.cell? ⟨w.heap.size, 2, none⟩ = some (.int .i64 s) ∧ W.cell? ⟨w.heap.size, 3, none⟩ = some (.slice a B.length c)) (first | exact hq0 | exact hq9) (first
    | (go_at_call 19; ((with_reducible refine (HU.out _ (by assumption)).mono ?_); rintro e w9 ⟨a2, c2, rfl, _, hb9⟩; have hb19 := hb0.trans (hb9.mono hb0.size); have hq9 := HC.out _ hb19)))
  all_goals
    go_wp2
    go_ret
    refine ⟨?_, ((Below.refl _ _).alloc (Nat.le_refl _) _).trans (hb19.mono (by simp))⟩
    have e1 : IntKind.i64.wrap (p * (n : Int)) = p * n := IntWalk.i64_in _ (by omega)
    have e2 : IntKind.i64.wrap (p * s) = p * s := IntWalk.i64_in _ (by omega)
    have e3 : IntKind.i64.wrap (p * (n : Int) - p * s) = p * n - p * s := IntWalk.i64_in _ (by omega)
    have e4 : IntKind.i64.wrap (p * (n : Int) - p * s - p) = p * n - p * s - p := IntWalk.i64_in _ (by omega)
    have e5 : IntKind.i64.wrap (p * (n : Int) - p * s - p - 2) = p * n - p * s - p - 2 := IntWalk.i64_in _ (by omega)
    show Ending.returned (.int .i64 (IntKind.i64.wrap (IntKind.i64.wrap (IntKind.i64.wrap (IntKind.i64.wrap (p * (n : Int)) - IntKind.i64.wrap (p * s)) - p) - 2))) = _
    rw [e1, e2, e3, e4, e5]
end Go.Proofs.YtkapnpcolmhdbaaDoor.Pn
namespace Go.Proofs.YtkapnpcolmhdbaaDoor.Pn
open Go.RowKit
open Drawbar Drawbar.Plan

set_option maxRecDepth 100000 in
theorem within_any (x l m : Int) (w : World) :
    Calls Tryd.prog 79 #[.int .i64 x, .int .i64 l, .int .i64 m] w fun e w' => e = .returned (.bool (decide (l ≤ x ∧ x ≤ m))) ∧ w = w' := by
  by_cases h1 : l ≤ x
  · by_cases h2 : x ≤ m
    · rw [decide_eq_true (show l ≤ x ∧ x ≤ m from ⟨h1, h2⟩)]
      go_enter Tryd.func79, Tryd.ntmps79
      go_wp2
      go_ret
      exact ⟨rfl, rfl⟩
    · rw [decide_eq_false (show ¬ (l ≤ x ∧ x ≤ m) from fun h => h2 h.2)]
      go_enter Tryd.func79, Tryd.ntmps79
      go_wp2
      go_ret
      exact ⟨rfl, rfl⟩
  · rw [decide_eq_false (show ¬ (l ≤ x ∧ x ≤ m) from fun h => h1 h.1)]
    go_enter Tryd.func79, Tryd.ntmps79
    go_wp2
    go_ret
    exact ⟨rfl, rfl⟩

set_option maxRecDepth 100000 in
theorem apart_any (b p s : Int) (B : List Int) (a : Option Addr) (c : Nat) (w : World) (h : RdI w a B) (hB : B.length ≤ 1000) (hs : -100 ≤ b ∧ b ≤ 100) :
    Calls Tryd.prog 80 #[geo b p s a B.length c] w fun e w' => e = .returned (.bool (decide (((us B (kk b)).length : Int) + B.length = b - 2))) ∧ Below w.heap.size w w' := by
  have hU := fun W (hb : Below (w.alloc (boxed b p s a B.length c)).heap.size (w.alloc (boxed b p s a B.length c)) W) => usable_any b p s B a c W ((h.alloc _).below hb) hB
  have hcells := boxed_cells w b p s a B.length c
  have hle := us_le B b
  unfold NewInts at hU
  unfold geo at hU ⊢
  generalize (us B (kk b)).length = n at *
  have HU := Lib.hid hU
  have HC := Lib.hid hcells
  have hb0 := drew_below (w.alloc (boxed b p s a B.length c))
  have hq0 := hcells _ hb0
  clear hU hcells h
  generalize hbl : B.length = bl at *
  go_enter Tryd.func80, Tryd.ntmps80
  go_wp2_with fail
  go_region_held (fun W => W.cell? ⟨w.heap.size, 0, none⟩ = some (.int .i64 b) ∧ W.cell? ⟨w.heap.size, 1, none⟩ = some (.int .i64 p) ∧ W.cell? ⟨w.heap.size, 2, none⟩ = some (.int .i64 s) ∧ W.cell? ⟨w.heap.size, 3, none⟩ = some (.slice a bl c)) (first | exact hq0 | exact hq9) (first
    | (go_at_call 31; ((with_reducible refine (HU.out _ (by assumption)).mono ?_); rintro e w9 ⟨a2, c2, rfl, _, hb9⟩; have hb19 := hb0.trans (hb9.mono hb0.size); have hq9 := HC.out _ hb19)))
  all_goals
    go_wp2
    go_ret
    refine ⟨?_, ((Below.refl _ _).alloc (Nat.le_refl _) _).trans (hb19.mono (by simp))⟩
    have e1 : IntKind.i64.wrap ((n : Int) + bl) = n + bl := IntWalk.i64_in _ (by omega)
    have e2 : IntKind.i64.wrap (b - 2) = b - 2 := IntWalk.i64_in _ (by omega)
    show Ending.returned (.bool (IntKind.i64.wrap ((n : Int) + bl) == IntKind.i64.wrap (b - 2))) = _
    rw [e1, e2]
    rfl

set_option maxRecDepth 100000 in
theorem form_eq (b p s : Int) (B : List Int) : form b p s B = ((((decide (4 ≤ b ∧ b ≤ 64) && decide (2 ≤ p ∧ p ≤ 32)) && decide (0 ≤ s ∧ s ≤ 8)) && decide (((us B (kk b)).length : Int) + B.length = b - 2)) && decide (0 < cap b p s B)) := by
  unfold form
  rw [Bool.eq_iff_iff]
  simp only [Bool.and_eq_true, decide_eq_true_eq]
  constructor
  · rintro ⟨h1, h2, h3, h4, h5, h6, h7, h8⟩; exact ⟨⟨⟨⟨⟨h1, h2⟩, h3, h4⟩, h5, h6⟩, h7⟩, h8⟩
  · rintro ⟨⟨⟨⟨⟨h1, h2⟩, h3, h4⟩, h5, h6⟩, h7⟩, h8⟩; exact ⟨h1, h2, h3, h4, h5, h6, h7, h8⟩

set_option maxRecDepth 100000 in
theorem form_any (b p s : Int) (B : List Int) (a : Option Addr) (c : Nat) (w : World) (h : RdI w a B) (hB : B.length ≤ 1000) (hs : Small b p s) :
    Calls Tryd.prog 64 #[geo b p s a B.length c] w fun e w' => e = .returned (.bool (form b p s B)) ∧ Below w.heap.size w w' := by
  have hA := fun W (hb : Below (w.alloc (boxed b p s a B.length c)).heap.size (w.alloc (boxed b p s a B.length c)) W) => apart_any b p s B a c W ((h.alloc _).below hb) hB hs.b
  have hK := fun W (hb : Below (w.alloc (boxed b p s a B.length c)).heap.size (w.alloc (boxed b p s a B.length c)) W) => cap_any b p s B a c W ((h.alloc _).below hb) hB hs
  have hcells := boxed_cells w b p s a B.length c
  have hw1 := fun W => within_any b 4 64 W
  have hw2 := fun W => within_any p 2 32 W
  have hw3 := fun W => within_any s 0 8 W
  rw [form_eq]
  unfold geo at hA hK ⊢
  generalize decide (4 ≤ b ∧ b ≤ 64) = d1 at *
  generalize decide (2 ≤ p ∧ p ≤ 32) = d2 at *
  generalize decide (0 ≤ s ∧ s ≤ 8) = d3 at *
  generalize decide (((us B (kk b)).length : Int) + B.length = b - 2) = d4 at *
  generalize cap b p s B = v at *
  have hfin : ∀ W, Below (w.alloc (boxed b p s a B.length c)).heap.size (w.alloc (boxed b p s a B.length c)) W → Below w.heap.size w W := fun W hb => ((Below.refl _ _).alloc (Nat.le_refl _) _).trans (hb.mono (by simp))
  have hb0 : Below (w.alloc (boxed b p s a B.length c)).heap.size (w.alloc (boxed b p s a B.length c)) (w.alloc (boxed b p s a B.length c)) := Below.refl _ _
  obtain ⟨q0, q1, q2, q3⟩ := hcells _ hb0
  have HA := Lib.hid hA
  have HK := Lib.hid hK
  have H1 := Lib.hid hw1
  have H2 := Lib.hid hw2
  have H3 := Lib.hid hw3
  have HC := Lib.hid hcells
  have HF := Lib.hid hfin
  clear hA hK hw1 hw2 hw3 hcells hfin h hs
  go_enter Tryd.func64, Tryd.ntmps64
  cases d1
  · go_wp2_with (go_at_call 79; first | ((with_reducible refine (H1.out _).mono ?_); rintro e w1 ⟨rfl, rfl⟩))
    go_ret
    exact ⟨rfl, HF.out _ hb0⟩
  cases d2
  · go_wp2_with (go_at_call 79; first | ((with_reducible refine (H1.out _).mono ?_); rintro e w1 ⟨rfl, rfl⟩) | ((with_reducible refine (H2.out _).mono ?_); rintro e w1 ⟨rfl, rfl⟩))
    go_ret
    exact ⟨rfl, HF.out _ hb0⟩
  cases d3
  · go_wp2_with (go_at_call 79; first | ((with_reducible refine (H1.out _).mono ?_); rintro e w1 ⟨rfl, rfl⟩) | ((with_reducible refine (H2.out _).mono ?_); rintro e w1 ⟨rfl, rfl⟩) | ((with_reducible refine (H3.out _).mono ?_); rintro e w1 ⟨rfl, rfl⟩))
    go_ret
    exact ⟨rfl, HF.out _ hb0⟩
  have hb9 := fun w9 hb => (HC.out w9 hb)
  have H9 := Lib.hid hb9
  clear hb9
  cases d4
  · go_wp2_with (first
      | (go_at_call 79; first | ((with_reducible refine (H1.out _).mono ?_); rintro e w1 ⟨rfl, rfl⟩) | ((with_reducible refine (H2.out _).mono ?_); rintro e w1 ⟨rfl, rfl⟩) | ((with_reducible refine (H3.out _).mono ?_); rintro e w1 ⟨rfl, rfl⟩))
      | (go_at_call 80; ((with_reducible refine (HA.out _ hb0).mono ?_); rintro e w9 ⟨rfl, hb9⟩)))
    go_ret
    exact ⟨rfl, HF.out _ hb9⟩
  · go_wp2_with (first
      | (go_at_call 79; first | ((with_reducible refine (H1.out _).mono ?_); rintro e w1 ⟨rfl, rfl⟩) | ((with_reducible refine (H2.out _).mono ?_); rintro e w1 ⟨rfl, rfl⟩) | ((with_reducible refine (H3.out _).mono ?_); rintro e w1 ⟨rfl, rfl⟩))
      | (go_at_call 80; ((with_reducible refine (HA.out _ hb0).mono ?_); rintro e w9 ⟨rfl, hb9⟩; obtain ⟨r0, r1, r2, r3⟩ := H9.out _ hb9))
      | (go_at_call 70; ((with_reducible refine (HK.out _ hb9).mono ?_); rintro e w8 ⟨rfl, hb8⟩)))
    go_ret
    exact ⟨rfl, HF.out _ (hb9.trans (hb8.mono hb9.size))⟩

end Go.Proofs.YtkapnpcolmhdbaaDoor.Pn
