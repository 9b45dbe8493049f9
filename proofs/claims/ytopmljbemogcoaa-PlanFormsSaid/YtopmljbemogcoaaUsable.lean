/- The contracts of slices.Contains (over ints), plan.Usable and the document's Usable. -/
import Derived.Test.YtopmljbemogcoaaProg
import Derived.Test.YtopmljbemogcoaaUs
import Derived.Test.YtopmljbemogcoaaLawC
import Derived.WalkKit
import Derived.Handy
import Derived.Lib.Hide
namespace Go.Proofs.Ytopmljbemogcoaa
open Go.RowKit
open Drawbar Drawbar.Plan

def iv (x : Int) : Value := .int .i64 x
/-- The slice at a reads as these numbers. -/
def RdI (w : World) (a : Option Addr) (l : List Int) : Prop :=
  0 < l.length → ∃ b off, a = some ⟨b, off, none⟩ ∧ ∀ i, i < l.length → w.cell? ⟨b, off + i, none⟩ = some (.int .i64 (l.getD i 0))
theorem RdI.below {w w' : World} {a : Option Addr} {l : List Int} (h : RdI w a l) (hb : Below w.heap.size w w') : RdI w' a l := fun h0 => by
  obtain ⟨b, off, rfl, hc⟩ := h h0
  exact ⟨b, off, rfl, fun i hi => by rw [hb.cell (p := ⟨b, off + i, none⟩) (World.block_lt_of_cell? w _ (hc i hi))]; exact hc i hi⟩
theorem RdI.alloc {w : World} {a : Option Addr} {l : List Int} (h : RdI w a l) (o : Obj) : RdI (w.alloc o) a l := h.below ((Below.refl _ _).alloc (Nat.le_refl _) _)
theorem rdI_nil (w : World) (a : Option Addr) : RdI w a [] := fun h => absurd h (by simp)
theorem rdI_of_own {w : World} {base : Nat} {a : Option Addr} {n cap : Nat} {l : List Int} (h : w.ownsRow base 3 1 (.slice a n cap) n (l.map iv)) : RdI w a l := fun h0 => by
  rcases h.2 with ⟨e, rfl⟩ | ⟨g, cap', cur, e, _⟩
  · have := h.1
    rw [List.length_map] at this
    omega
  · cases e
    refine ⟨g, 0, rfl, fun i hi => ?_⟩
    have := h.cells (g := g) rfl i (.int .i64 (l.getD i 0)) (by
      rw [List.getElem?_map, List.getElem?_eq_getElem hi, List.getD_eq_getElem?_getD, List.getElem?_eq_getElem hi]; rfl)
    rw [Addr.add_lit] at this
    exact this

theorem index_any (l : List Int) (a : Option Addr) (c : Nat) (x : Int) (w : World) (h : RdI w a l) (hl : l.length ≤ 1000) :
    Calls Try.prog 21 #[.slice a l.length c, .int .i64 x] w fun e w' => (∃ j : Int, e = .returned (.int .i64 j) ∧ (0 ≤ j ↔ x ∈ l)) ∧ w = w' := by
  go_enter Try.func21, Try.ntmps21
  go_wp2
  go_loop [5, 8] (fun _ i => ∃ k : Nat, k ≤ l.length ∧ i = .int .i64 k ∧ ∀ m, m < k → l.getD m 0 ≠ x) (fun _ i => l.length - (intOf i).toNat)
  case atStart => exact ⟨0, Nat.zero_le _, rfl, fun m hm => absurd hm (Nat.not_lt_zero m)⟩
  case round =>
    obtain ⟨k, hk, rfl, hne⟩ := hrel
    by_cases hlt : k < l.length
    · obtain ⟨b, off, rfl, hc⟩ := h (by omega)
      have h1 := hc k hlt
      have i1 : (k : Int) < (l.length : Int) := by omega
      have hmem : l.getD k 0 ∈ l := by rw [List.getD_eq_getElem?_getD, List.getElem?_eq_getElem hlt]; exact List.getElem_mem hlt
      generalize hy : l.getD k 0 = y at h1 hmem
      have HY := Lib.hid hy
      have HN := Lib.hid hne
      clear hc hy hne h
      by_cases e : x = y
      · have hb : (x == y) = true := by simp [e]
        have HE := Lib.hid (show x ∈ l by rw [e]; exact hmem)
        clear e hmem
        go_wp2
        go_ret
        exact ⟨⟨k, rfl, ⟨fun _ => HE.out, fun _ => by omega⟩⟩, rfl⟩
      · have hb : (x == y) = false := by simp [e]
        have HE := Lib.hid (show ∀ m, m < k + 1 → l.getD m 0 ≠ x from fun m hm => by
          by_cases e2 : m = k
          · rw [e2, HY.out]; exact fun e3 => e e3.symm
          · exact HN.out m (by omega))
        clear e hmem
        go_wp2
        go_round
        case rel => exact ⟨k + 1, by omega, by go_num, HE.out⟩
        case measure => simp [intOf]; omega
    · have i1 : ¬ (k : Int) < (l.length : Int) := by omega
      have HE := Lib.hid (show ¬ x ∈ l from fun hx => by
        obtain ⟨m, hm, rfl⟩ := List.mem_iff_getElem.1 hx
        exact hne m (by omega) (by rw [List.getD_eq_getElem?_getD, List.getElem?_eq_getElem hm]; rfl))
      clear h hne
      go_wp2
      go_ret
      exact ⟨⟨-1, rfl, ⟨fun hj => by omega, fun hx => absurd hx HE.out⟩⟩, rfl⟩

theorem contains_any (l : List Int) (a : Option Addr) (c : Nat) (x : Int) (w : World) (h : RdI w a l) (hl : l.length ≤ 1000) :
    Calls Try.prog 18 #[.slice a l.length c, .int .i64 x] w fun e w' => e = .returned (.bool (decide (x ∈ l))) ∧ w = w' := by
  have hI := index_any l a c x w h hl
  have HI := Lib.hid hI
  clear hI
  go_enter Try.func18, Try.ntmps18
  go_wp2_with (go_at_call 21; refine HI.out.mono ?_; rintro e w1 ⟨⟨j, rfl, hj⟩, rfl⟩; have HJ := Lib.hid hj; clear hj)
  go_ret
  exact ⟨by rw [show decide ((0 : Int) ≤ j) = decide (x ∈ l) by simp only [HJ.out]]; rfl, rfl⟩

theorem info_int : (Try.prog.info? 3).map (fun i => (i.zero, i.size, i.bytes)) = some (some (.int .i64 0), 1, 8) := by kernel_rfl
theorem iv_one (l : List Int) : ∀ u ∈ l.map iv, u.oneCell' = true := by
  intro u hu; obtain ⟨x, _, rfl⟩ := List.mem_map.1 hu; rfl
theorem shape_int {w : World} {base : Nat} {v : Value} {n : Nat} {l : List Int} (h : w.ownsRow base 3 1 v n (l.map iv)) : ∃ a c, v = .slice a l.length c := by
  have h1 : l.length = n := by simpa using h.1
  rcases h.2 with ⟨rfl, h0⟩ | ⟨g, cap, cur, rfl, _⟩
  · exact ⟨none, 0, by rw [h1, h0]⟩
  · exact ⟨_, cap, by rw [h1]⟩

/-- New numbers. -/
def NewInts (w : World) (l : List Int) (e : Ending) (w' : World) : Prop := ∃ a c, e = .returned (.slice a l.length c) ∧ RdI w' a l ∧ Below w.heap.size w w'
def geo (b p s : Int) (a : Option Addr) (n c : Nat) : Value := .agg #[.int .i64 b, .int .i64 p, .int .i64 s, .slice a n c]

theorem kk_lt (b : Int) (k : Nat) : (k : Int) + 2 < min b 64 ↔ k < kk b := by unfold kk; omega

theorem usable_any (b p s : Int) (B : List Int) (a : Option Addr) (c : Nat) (w : World) (h : RdI w a B) (hB : B.length ≤ 1000) :
    Calls Try.prog 10 #[geo b p s a B.length c] w (NewInts w (us B (kk b))) := by
  obtain ⟨i0, hi, hz0, hz1, hz2⟩ := info_parts info_int
  have hK := kk_le b
  have hlt := kk_lt b
  unfold geo
  generalize hq : kk b = q at hK hlt
  go_enter Try.func10, Try.ntmps10
  go_wp2
  go_loopw [3, 4] (fun v i wr => ∃ k : Nat, k ≤ q ∧ i = .int .i64 ((k : Int) + 2) ∧ Below (w.heap.size + 1) (w.alloc (.cells #[.int .i64 b, .int .i64 p, .int .i64 s, .slice a B.length c] 24)) wr ∧ wr.ownsRow (w.heap.size + 1) 3 1 v (us B k).length ((us B k).map iv)) (fun _ i _ => q + 2 - (intOf i).toNat)
  case atStart => exact ⟨0, Nat.zero_le _, rfl, Below.refl _ _, World.ownsRow_nil _ _ _ 1⟩
  case round =>
    obtain ⟨k, hk, rfl, hb, hown⟩ := hrel
    have hb1 : Below (w.alloc (.cells #[.int .i64 b, .int .i64 p, .int .i64 s, .slice a B.length c] 24)).heap.size (w.alloc (.cells #[.int .i64 b, .int .i64 p, .int .i64 s, .slice a B.length c] 24)) wr := by simpa using hb
    have hR := (h.alloc (.cells #[.int .i64 b, .int .i64 p, .int .i64 s, .slice a B.length c] 24)).below hb1
    have g0 : wr.cell? ⟨w.heap.size, 0, none⟩ = some (.int .i64 b) := by rw [hb1.cell (by simp)]; simp
    have g3 : wr.cell? ⟨w.heap.size, 3, none⟩ = some (.slice a B.length c) := by rw [hb1.cell (by simp)]; simp
    have hC := contains_any B a c ((k : Int) + 2) wr hR hB
    have hl1 : (us B k).length ≤ k := us_length B k
    have HC := Lib.hid hC
    have HH := Lib.hid h
    clear hC hR h
    by_cases hlt2 : k < q
    · have i1 : (k : Int) + 2 < min b 64 := (hlt k).2 hlt2
      have i2 : k < 62 := by omega
      clear hlt
      by_cases hm : ((k : Int) + 2) ∈ B
      · have hu : us B (k + 1) = us B k := by show us B k ++ _ = _; rw [if_pos hm, List.append_nil]
        have hd : decide (((k : Int) + 2) ∈ B) = true := decide_eq_true hm
        have HU := Lib.hid hu
        clear hu hm
        go_wp2_with (first | (go_at_call 18; refine HC.out.mono ?_; rintro e w1 ⟨rfl, rfl⟩))
        go_roundw
        case rel => exact ⟨k + 1, by omega, by go_num, hb, by rw [HU.out]; exact hown⟩
        case measure => simp [intOf]; omega
      · have hu : us B (k + 1) = us B k ++ [(k : Int) + 2] := by show us B k ++ _ = _; rw [if_neg hm]
        have hd : decide (((k : Int) + 2) ∈ B) = false := decide_eq_false hm
        have hsz := hb.size
        have HU := Lib.hid hu
        clear hu hm
        go_wp2_with (first
          | (go_at_call 18; refine HC.out.mono ?_; rintro e w1 ⟨rfl, rfl⟩)
          | (at_builtin; refine wpList_append_ownz rfl (.tmp 17) (.tmp 19) 22 rfl (w.heap.size + 1) 3 i0 (.int .i64 0) 1 8 Try.underlying22 hi hz0 hz1 hz2 rfl (by decide) _ (us B k).length ((us B k).map iv) rfl (hown.alloc _) (some ⟨wr.heap.size, 0, none⟩) 1 1 [iv ((k : Int) + 2)] rfl (fun h => by cases h) rfl (At.one wr _ _) (by simp [Value.oneCell', iv]) (by unfold maxLen; omega) (by omega) (by simp at hsz ⊢; omega) ?_; intro v6 w6 hown6 hb6))
        go_roundw
        case rel =>
          refine ⟨k + 1, by omega, by go_num, hb.trans (((Below.refl _ _).alloc (by simpa using hsz) _).trans hb6), ?_⟩
          rw [HU.out, List.map_append, List.length_append]
          exact hown6
        case measure => simp [intOf]; omega
    · have i1 : ¬ (k : Int) + 2 < min b 64 := fun h => hlt2 ((hlt k).1 h)
      obtain rfl : k = q := by omega
      obtain ⟨a2, c2, rfl⟩ := shape_int hown
      clear hlt
      go_wp2
      all_goals
        go_ret
        exact ⟨a2, c2, rfl, rdI_of_own hown, ((Below.refl _ _).alloc (Nat.le_refl _) _).trans (hb.mono (Nat.le_succ _))⟩

theorem refusable_any (b p s : Int) (B : List Int) (a : Option Addr) (c : Nat) (w : World) (h : RdI w a B) (hB : B.length ≤ 1000) (hb64 : b ≤ 64) :
    Calls Try.prog 11 #[geo b p s a B.length c] w (NewInts w (us B (kk b))) := by
  obtain ⟨i0, hi, hz0, hz1, hz2⟩ := info_parts info_int
  have hK := kk_le b
  have hlt := kk_lt b
  rw [show min b 64 = b by omega] at hlt
  unfold geo
  generalize hq : kk b = q at hK hlt
  go_enter Try.func11, Try.ntmps11
  go_wp2
  go_loopw [3, 4, 5, 6] (fun v i _ _ wr => ∃ k : Nat, k ≤ q ∧ i = .int .i64 ((k : Int) + 2) ∧ Below (w.heap.size + 1) (w.alloc (.cells #[.int .i64 b, .int .i64 p, .int .i64 s, .slice a B.length c] 24)) wr ∧ wr.ownsRow (w.heap.size + 1) 3 1 v (us B k).length ((us B k).map iv)) (fun _ i _ _ _ => q + 2 - (intOf i).toNat)
  case atStart => exact ⟨0, Nat.zero_le _, rfl, Below.refl _ _, World.ownsRow_nil _ _ _ 1⟩
  case round =>
    obtain ⟨k, hk, rfl, hb, hown⟩ := hrel
    have hb1 : Below (w.alloc (.cells #[.int .i64 b, .int .i64 p, .int .i64 s, .slice a B.length c] 24)).heap.size (w.alloc (.cells #[.int .i64 b, .int .i64 p, .int .i64 s, .slice a B.length c] 24)) wr := by simpa using hb
    have hR := (h.alloc (.cells #[.int .i64 b, .int .i64 p, .int .i64 s, .slice a B.length c] 24)).below hb1
    have g0 : wr.cell? ⟨w.heap.size, 0, none⟩ = some (.int .i64 b) := by rw [hb1.cell (by simp)]; simp
    have g3 : wr.cell? ⟨w.heap.size, 3, none⟩ = some (.slice a B.length c) := by rw [hb1.cell (by simp)]; simp
    have hl1 : (us B k).length ≤ k := us_length B k
    clear h
    by_cases hlt2 : k < q
    · have i1 : (k : Int) + 2 < b := (hlt k).2 hlt2
      have i2 : k < 62 := by omega
      clear hlt
      go_wp2
      go_loop [5, 6] (fun v i => ∃ m : Nat, m ≤ B.length ∧ i = .int .i64 m ∧ v = .bool (decide (((k : Int) + 2) ∈ B.take m))) (fun _ i => B.length - (intOf i).toNat)
      case atStart => exact ⟨0, Nat.zero_le _, rfl, by simp⟩
      case round =>
        obtain ⟨m, hm, rfl, rfl⟩ := hrel
        by_cases hlt3 : m < B.length
        · obtain ⟨bb, off, rfl, hc⟩ := hR (by omega)
          have h1 := hc m hlt3
          have ht : B.take (m + 1) = B.take m ++ [B.getD m 0] := by
            rw [List.take_succ_eq_append_getElem hlt3, List.getD_eq_getElem?_getD, List.getElem?_eq_getElem hlt3]; rfl
          have i3 : (m : Int) < (B.length : Int) := by omega
          have hD : (((k : Int) + 2) ∈ B.take (m + 1)) ↔ (((k : Int) + 2) ∈ B.take m) ∨ B.getD m 0 = (k : Int) + 2 := by rw [ht]; simp [eq_comm]
          generalize B.getD m 0 = y at h1 hD
          clear hc hR ht
          by_cases hin : ((k : Int) + 2) ∈ B.take m
          · have hd : decide (((k : Int) + 2) ∈ B.take m) = true := decide_eq_true hin
            have hd2 := Lib.hid (show decide (((k : Int) + 2) ∈ B.take (m + 1)) = true from decide_eq_true (hD.2 (.inl hin)))
            clear hin hD
            go_wp2
            go_round
            case rel => exact ⟨m + 1, by omega, by go_num, by rw [hd2.out]⟩
            case measure => simp [intOf]; omega
          · have hd : decide (((k : Int) + 2) ∈ B.take m) = false := decide_eq_false hin
            have hd2 := Lib.hid (show decide (((k : Int) + 2) ∈ B.take (m + 1)) = (y == (k : Int) + 2) by
              rw [Bool.eq_iff_iff]; simp only [decide_eq_true_eq, beq_iff_eq, hD, hin, false_or])
            clear hin hD
            go_wp2
            all_goals
              go_round
              case rel => exact ⟨m + 1, by omega, by go_num, by rw [hd2.out]⟩
              case measure => simp [intOf]; omega
        · have i3 : ¬ (m : Int) < (B.length : Int) := by omega
          have hBm : B.take m = B := List.take_of_length_le (by omega)
          by_cases hmm : ((k : Int) + 2) ∈ B
          · have hu : us B (k + 1) = us B k := by show us B k ++ _ = _; rw [if_pos hmm, List.append_nil]
            have hd : decide (((k : Int) + 2) ∈ B.take m) = true := decide_eq_true (by rw [hBm]; exact hmm)
            have HU := Lib.hid hu
            clear hu hmm hBm hR
            go_wp2
            go_roundw
            case rel => exact ⟨k + 1, by omega, by go_num, hb, by rw [HU.out]; exact hown⟩
            case measure => simp [intOf]; omega
          · have hu : us B (k + 1) = us B k ++ [(k : Int) + 2] := by show us B k ++ _ = _; rw [if_neg hmm]
            have hd : decide (((k : Int) + 2) ∈ B.take m) = false := decide_eq_false (by rw [hBm]; exact hmm)
            have hsz := hb.size
            have HU := Lib.hid hu
            clear hu hmm hBm hR
            go_wp2_with (at_builtin; refine wpList_append_ownz rfl (.tmp 32) (.tmp 34) 22 rfl (w.heap.size + 1) 3 i0 (.int .i64 0) 1 8 Try.underlying22 hi hz0 hz1 hz2 rfl (by decide) _ (us B k).length ((us B k).map iv) rfl (hown.alloc _) (some ⟨wr.heap.size, 0, none⟩) 1 1 [iv ((k : Int) + 2)] rfl (fun h => by cases h) rfl (At.one wr _ _) (by simp [Value.oneCell', iv]) (by unfold maxLen; omega) (by omega) (by simp at hsz ⊢; omega) ?_; intro v6 w6 hown6 hb6)
            go_roundw
            case rel =>
              refine ⟨k + 1, by omega, by go_num, hb.trans (((Below.refl _ _).alloc (by simpa using hsz) _).trans hb6), ?_⟩
              rw [HU.out, List.map_append, List.length_append]
              exact hown6
            case measure => simp [intOf]; omega
    · have i1 : ¬ (k : Int) + 2 < b := fun h => hlt2 ((hlt k).1 h)
      obtain rfl : k = q := by omega
      obtain ⟨a2, c2, rfl⟩ := shape_int hown
      clear hlt
      go_wp2
      go_ret
      exact ⟨a2, c2, rfl, rdI_of_own hown, ((Below.refl _ _).alloc (Nat.le_refl _) _).trans (hb.mono (Nat.le_succ _))⟩
end Go.Proofs.Ytopmljbemogcoaa
