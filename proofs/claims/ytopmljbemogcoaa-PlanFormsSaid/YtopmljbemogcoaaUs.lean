/- The blocks that may be used, as a list; how many they are. -/
import Derived.WalkKit
namespace Drawbar.Plan

/-- The first k blocks behind the log's two, without those of B. -/
def us (B : List Int) : Nat → List Int
  | 0 => []
  | k + 1 => us B k ++ if ((k : Int) + 2) ∈ B then [] else [(k : Int) + 2]

theorem us_length (B : List Int) (k : Nat) : (us B k).length ≤ k := by
  induction k with
  | zero => simp [us]
  | succ k ih =>
    unfold us
    rw [List.length_append]
    split
    · simp; omega
    · simp; omega
theorem us_nil (k : Nat) : (us [] k).length = k := by
  induction k with
  | zero => rfl
  | succ k ih => unfold us; rw [List.length_append, ih]; simp
theorem mem_us (B : List Int) (k : Nat) (x : Int) : x ∈ us B k ↔ 2 ≤ x ∧ x < (k : Int) + 2 ∧ x ∉ B := by
  induction k with
  | zero => simp [us]; omega
  | succ k ih =>
    unfold us
    rw [List.mem_append, ih]
    by_cases h : ((k : Int) + 2) ∈ B
    · rw [if_pos h]
      simp only [List.not_mem_nil, or_false]
      constructor
      · rintro ⟨h1, h2, h3⟩; exact ⟨h1, by omega, h3⟩
      · rintro ⟨h1, h2, h3⟩
        refine ⟨h1, ?_, h3⟩
        by_cases e : x = (k : Int) + 2
        · rw [e] at h3; exact absurd h h3
        · omega
    · rw [if_neg h]
      simp only [List.mem_singleton]
      constructor
      · rintro (⟨h1, h2, h3⟩ | rfl)
        · exact ⟨h1, by omega, h3⟩
        · exact ⟨by omega, by omega, h⟩
      · rintro ⟨h1, h2, h3⟩
        by_cases e : x = (k : Int) + 2
        · exact .inr e
        · exact .inl ⟨h1, by omega, h3⟩
theorem us_congr {B C : List Int} (k : Nat) (h : ∀ i, i ∈ B ↔ i ∈ C) : us B k = us C k := by
  induction k with
  | zero => rfl
  | succ k ih => unfold us; rw [ih]; simp only [h]
/-- One more bad block: one less, if it is one of these. -/
theorem us_cons (b : Int) (B : List Int) (k : Nat) : (us (b :: B) k).length + (if b ∈ us B k then 1 else 0) = (us B k).length := by
  induction k with
  | zero => simp [us]
  | succ k ih =>
    have hm := mem_us B k b
    have hm1 := mem_us B (k + 1) b
    unfold us at hm1 ⊢
    rw [List.length_append, List.length_append]
    by_cases e : ((k : Int) + 2) = b
    · have h0 : b ∉ us B k := fun h => by have := (hm.1 h).2.1; omega
      rw [if_neg h0] at ih
      rw [if_pos (show ((k : Int) + 2) ∈ b :: B by rw [e]; simp)]
      by_cases hB : b ∈ B
      · have e1 : (if ((k : Int) + 2) ∈ B then ([] : List Int) else [(k : Int) + 2]) = [] := if_pos (by rw [e]; exact hB)
        rw [e1] at hm1 ⊢
        rw [if_neg (fun h => (hm1.1 h).2.2 hB)]
        simp; omega
      · have e1 : (if ((k : Int) + 2) ∈ B then ([] : List Int) else [(k : Int) + 2]) = [(k : Int) + 2] := if_neg (by rw [e]; exact hB)
        rw [e1]
        rw [if_pos (by rw [e]; simp)]
        simp; omega
    · have hi : (((k : Int) + 2) ∈ b :: B) ↔ ((k : Int) + 2) ∈ B := by simp [e]
      have hb : (b ∈ us B k ++ if ((k : Int) + 2) ∈ B then [] else [(k : Int) + 2]) ↔ b ∈ us B k := by
        rw [List.mem_append]
        constructor
        · rintro (h | h)
          · exact h
          · split at h
            · simp at h
            · simp at h; omega
        · exact .inl
      simp only [hi, hb]
      omega
def Ok (B : List Int) (k : Nat) : Prop := B.Nodup ∧ ∀ b ∈ B, 2 ≤ b ∧ b < (k : Int) + 2
/-- Each bad block is one of them, and is told once, just when as many are left. -/
theorem us_ok (B : List Int) (k : Nat) : k ≤ (us B k).length + B.length ∧ ((us B k).length + B.length = k ↔ Ok B k) := by
  induction B with
  | nil => simp [us_nil, Ok]
  | cons b B ih =>
    have hc := us_cons b B k
    have hm := mem_us B k b
    obtain ⟨h1, h2⟩ := ih
    rw [List.length_cons]
    by_cases h : b ∈ us B k
    · rw [if_pos h] at hc
      obtain ⟨ha, hb, hn⟩ := hm.1 h
      refine ⟨by omega, ?_⟩
      rw [show (us (b :: B) k).length + (B.length + 1) = k ↔ (us B k).length + B.length = k by omega, h2]
      unfold Ok
      rw [List.nodup_cons]
      constructor
      · rintro ⟨h3, h4⟩
        exact ⟨⟨hn, h3⟩, fun x hx => by
          rcases List.mem_cons.1 hx with rfl | hx
          · exact ⟨ha, hb⟩
          · exact h4 x hx⟩
      · rintro ⟨⟨_, h3⟩, h4⟩
        exact ⟨h3, fun x hx => h4 x (List.mem_cons_of_mem _ hx)⟩
    · rw [if_neg h] at hc
      refine ⟨by omega, ?_⟩
      constructor
      · intro h3; omega
      · rintro ⟨h3, h4⟩
        have h5 := h4 b (by simp)
        rw [List.nodup_cons] at h3
        exact absurd (hm.2 ⟨h5.1, h5.2, h3.1⟩) h
theorem us_more {B : List Int} {k : Nat} (h : Ok B k) : us B (k + 1) = us B k ++ [(k : Int) + 2] := by
  show us B k ++ _ = _
  rw [if_neg (fun hk => by have := (h.2 _ hk).2; omega)]
theorem ok_more {B : List Int} {k : Nat} (h : Ok B k) : Ok B (k + 1) := ⟨h.1, fun b hb => by have := h.2 b hb; omega⟩
/-- One of them is bad, too. -/
theorem us_bad {B : List Int} {k : Nat} {x : Int} (hx : x ∈ us B k) : (us (B ++ [x]) k).length + 1 = (us B k).length := by
  have := us_cons x B k
  rw [if_pos hx] at this
  rw [us_congr (C := x :: B) k (fun i => by simp [or_comm])]
  exact this

/-- The blocks behind the log's two, of at most 64. -/
def kk (b : Int) : Nat := (min b 64 - 2).toNat
def cap (b p s : Int) (B : List Int) : Int := p * (((us B (kk b)).length : Int) - s - 1) - 2
def form (b p s : Int) (B : List Int) : Bool := decide (4 ≤ b ∧ b ≤ 64 ∧ 2 ≤ p ∧ p ≤ 32 ∧ 0 ≤ s ∧ s ≤ 8 ∧ ((us B (kk b)).length : Int) + B.length = b - 2 ∧ 0 < cap b p s B)
structure Small (b p s : Int) : Prop where
  b : -100 ≤ b ∧ b ≤ 100
  p : -1000 ≤ p ∧ p ≤ 1000
  s : -1001 ≤ s ∧ s ≤ 1001
theorem kk_le (b : Int) : kk b ≤ 62 := by unfold kk; omega
theorem us_le (B : List Int) (b : Int) : (us B (kk b)).length ≤ 62 := Nat.le_trans (us_length _ _) (kk_le b)
theorem cap_bounds {b p s : Int} (B : List Int) (h : Small b p s) : -2000000 ≤ p * (((us B (kk b)).length : Int) - s - 1) ∧ p * (((us B (kk b)).length : Int) - s - 1) ≤ 2000000 := by
  have h1 := us_le B b
  generalize ((us B (kk b)).length) = n at *
  obtain ⟨_, ⟨h2, h3⟩, h4, h5⟩ := h
  have hq1 : -1100 ≤ (n : Int) - s - 1 := by omega
  have hq2 : (n : Int) - s - 1 ≤ 1100 := by omega
  generalize (n : Int) - s - 1 = q at *
  have a1 := Int.mul_nonneg (show 0 ≤ 1000 - p by omega) (show 0 ≤ 1100 - q by omega)
  have a2 := Int.mul_nonneg (show 0 ≤ 1000 + p by omega) (show 0 ≤ 1100 + q by omega)
  have a3 := Int.mul_nonneg (show 0 ≤ 1000 - p by omega) (show 0 ≤ 1100 + q by omega)
  have a4 := Int.mul_nonneg (show 0 ≤ 1000 + p by omega) (show 0 ≤ 1100 - q by omega)
  simp only [Int.sub_mul, Int.mul_sub, Int.add_mul, Int.mul_add] at a1 a2 a3 a4
  omega
end Drawbar.Plan
