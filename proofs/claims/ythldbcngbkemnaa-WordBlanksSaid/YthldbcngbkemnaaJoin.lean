/- The signs of two texts, one behind the other. -/
import Derived.Test.YthldbcngbkemnaaCount
namespace Drawbar.Sign
open Go

theorem bt_data (s : ByteArray) (p : Nat) : bt s p = (s.data[p]?.getD 0).toNat := by
  obtain ⟨bs⟩ := s
  show (bs[p]!).toNat = _
  rw [getElem!_def]
  cases h : bs[p]? with
  | none => rfl
  | some v => rfl

theorem size_app (a b : ByteArray) : (a ++ b).size = a.size + b.size := by simp
theorem bt_left (a b : ByteArray) (p : Nat) (h : p < a.size) : bt (a ++ b) p = bt a p := by
  rw [bt_data, bt_data, ByteArray.data_append, Array.getElem?_append_left (by exact h)]
theorem bt_right (a b : ByteArray) (p : Nat) : bt (a ++ b) (a.size + p) = bt b p := by
  rw [bt_data, bt_data, ByteArray.data_append, Array.getElem?_append_right (by simp)]
  simp
theorem goes_left (a b : ByteArray) (p : Nat) (h : goes a p) : goes (a ++ b) p := by
  have h1 := h.1
  refine ⟨?_, ?_, ?_⟩
  · rw [size_app]; omega
  · rw [bt_left a b p h1]; exact h.2.1
  · rw [bt_left a b p h1]; exact h.2.2
theorem goes_right (a b : ByteArray) (p : Nat) : goes (a ++ b) (a.size + p) ↔ goes b p := by
  unfold goes
  rw [bt_right, size_app]
  omega

theorem sgn_right (a b : ByteArray) (p : Nat) : sgn (a ++ b) (a.size + p) = sgn b p := by
  rw [sgn_eq, sgn_eq]
  simp only [Nat.add_assoc, bt_right, goes_right]

theorem sgn_left (a b : ByteArray) (p : Nat) (hp : p < a.size) (h : (sgn a p).1 ≠ 0) : sgn (a ++ b) p = sgn a p := by
  rw [sgn_eq a p] at h ⊢
  rw [sgn_eq (a ++ b) p, bt_left a b p hp]
  by_cases h1 : bt a p < 128
  · rw [if_pos h1, if_pos h1]
  rw [if_neg h1] at h ⊢
  rw [if_neg h1]
  by_cases h2 : 192 ≤ bt a p ∧ bt a p < 224
  · rw [if_pos h2] at h ⊢
    rw [if_pos h2]
    by_cases c : goes a (p + 1) ∧ 128 ≤ (bt a p - 192) * 64 + bt a (p + 1) - 128
    · rw [bt_left a b _ c.1.1, if_pos c, if_pos ⟨goes_left a b _ c.1, c.2⟩]
    · rw [if_neg c] at h
      exact absurd rfl h
  rw [if_neg h2] at h ⊢
  rw [if_neg h2]
  by_cases h3 : 224 ≤ bt a p ∧ bt a p < 240
  · rw [if_pos h3] at h ⊢
    rw [if_pos h3]
    split at h
    · rename_i c
      rw [bt_left a b _ c.1.1, bt_left a b _ c.2.1.1, if_pos c, if_pos ⟨goes_left a b _ c.1, goes_left a b _ c.2.1, c.2.2⟩]
    · exact absurd rfl h
  rw [if_neg h3] at h ⊢
  rw [if_neg h3]
  by_cases h4 : 240 ≤ bt a p ∧ bt a p < 248
  · rw [if_pos h4] at h ⊢
    rw [if_pos h4]
    split at h
    · rename_i c
      rw [bt_left a b _ c.1.1, bt_left a b _ c.2.1.1, bt_left a b _ c.2.2.1.1, if_pos c, if_pos ⟨goes_left a b _ c.1, goes_left a b _ c.2.1, goes_left a b _ c.2.2.1, c.2.2.2⟩]
    · exact absurd rfl h
  · rw [if_neg h4] at h
    exact absurd rfl h

end Drawbar.Sign
namespace Go.Proofs.Ythldbcngbkemnaa
open Go.RowKit
open Drawbar Drawbar.Sign

section
variable {σ : Type} (step : σ → Nat → Nat × σ)

theorem eachR_fuel (s : ByteArray) : ∀ (f g p : Nat) (st : σ), s.size ≤ p + f → s.size ≤ p + g → eachR step s f p st = eachR step s g p st
  | 0, 0, _, _, _, _ => rfl
  | 0, g + 1, p, st, h, _ => by rw [eachR_end step s (g + 1) p st (by omega)]; rfl
  | f + 1, 0, p, st, _, h => by rw [eachR_end step s (f + 1) p st (by omega)]; rfl
  | f + 1, g + 1, p, st, h, h2 => by
    simp only [eachR]
    by_cases hp : p < s.size
    · rw [if_pos hp, if_pos hp]
      by_cases hz : (sgn s p).1 = 0
      · rw [if_pos hz, if_pos hz]
      · rw [if_neg hz, if_neg hz, eachR_fuel s f g _ _ (by omega) (by omega)]
    · rw [if_neg hp, if_neg hp]

/-- What is answered of b, behind n bytes more. -/
def shiftR (n : Nat) (R : (Nat × Nat) × σ) : (Nat × Nat) × σ := ((n + R.1.1, R.1.2), R.2)

theorem eachR_right (a b : ByteArray) : ∀ (f p : Nat) (st : σ), eachR step (a ++ b) f (a.size + p) st = shiftR a.size (eachR step b f p st)
  | 0, p, st => by simp [eachR, shiftR]
  | f + 1, p, st => by
    simp only [eachR]
    rw [sgn_right, size_app]
    by_cases hp : p < b.size
    · rw [if_pos (by omega), if_pos hp]
      by_cases hz : (sgn b p).1 = 0
      · rw [if_pos hz, if_pos hz]; rfl
      · rw [if_neg hz, if_neg hz, Nat.add_assoc, eachR_right a b f]
        split <;> rfl
    · rw [if_neg (by omega), if_neg hp]; rfl

/-- Two texts: the first one without a fault. -/
theorem eachR_left (a b : ByteArray) : ∀ (f p : Nat) (st : σ), p ≤ a.size → a.size ≤ p + f → (eachR step a f p st).1.2 = 0 →
    eachR step (a ++ b) (f + b.size) p st = shiftR a.size (eachR step b b.size 0 (eachR step a f p st).2)
  | 0, p, st, h, h2, _ => by
    obtain rfl : p = a.size := by omega
    rw [Nat.zero_add]
    exact eachR_right step a b b.size 0 st
  | f + 1, p, st, h, h2, h3 => by
    by_cases hp : p < a.size
    · have hle := sgn_le a p hp
      rw [show f + 1 + b.size = (f + b.size) + 1 by omega]
      simp only [eachR] at h3 ⊢
      rw [if_pos hp] at h3 ⊢
      rw [if_pos (by rw [size_app]; omega)]
      by_cases hz : (sgn a p).1 = 0
      · rw [if_pos hz] at h3
        exact absurd h3 (by simp)
      · rw [if_neg hz] at h3 ⊢
        rw [sgn_left a b p hp hz, if_neg hz]
        by_cases he : (step st (sgn a p).2).1 = 0
        · rw [if_pos he] at h3 ⊢
          rw [if_pos he]
          exact eachR_left a b f _ _ hle.1 (by omega) h3
        · rw [if_neg he] at h3
          exact absurd h3 he
    · obtain rfl : p = a.size := by omega
      rw [eachR_end step a (f + 1) _ st (by omega)]
      have := eachR_right step a b (f + 1 + b.size) 0 st
      rw [show a.size + 0 = a.size from rfl] at this
      rw [this, eachR_fuel step b (f + 1 + b.size) b.size 0 st (by omega) (by omega)]

theorem eachR_append (a b : ByteArray) (st : σ) (h : (eachR step a a.size 0 st).1.2 = 0) :
    eachR step (a ++ b) (a ++ b).size 0 st = shiftR a.size (eachR step b b.size 0 (eachR step a a.size 0 st).2) := by
  rw [size_app]
  exact eachR_left step a b a.size 0 st (Nat.zero_le _) (by omega) h

/-- The place, of what has no fault, is the end. -/
theorem eachR_ok (s : ByteArray) : ∀ (f p : Nat) (st : σ), (eachR step s f p st).1.2 = 0 → (eachR step s f p st).1.1 = s.size
  | 0, p, st, _ => rfl
  | f + 1, p, st, h => by
    simp only [eachR] at h ⊢
    by_cases hp : p < s.size
    · rw [if_pos hp] at h ⊢
      by_cases hz : (sgn s p).1 = 0
      · rw [if_pos hz] at h; exact absurd h (by simp)
      · rw [if_neg hz] at h ⊢
        by_cases he : (step st (sgn s p).2).1 = 0
        · rw [if_pos he] at h ⊢
          exact eachR_ok s f _ _ h
        · rw [if_neg he] at h
          exact absurd h he
    · rw [if_neg hp]

/-- A text that begins with a sign. -/
theorem eachR_one (s b : ByteArray) (r : Nat) (st : σ) (h0 : 0 < s.size) (h : sgn s 0 = (s.size, r)) :
    eachR step (s ++ b) (s ++ b).size 0 st = if (step st r).1 = 0 then shiftR s.size (eachR step b b.size 0 (step st r).2) else ((0, (step st r).1), (step st r).2) := by
  have hz : (sgn s 0).1 ≠ 0 := by rw [h]; exact Nat.pos_iff_ne_zero.1 h0
  obtain ⟨n, hn⟩ : ∃ n, (s ++ b).size = n + 1 := ⟨(s ++ b).size - 1, by rw [size_app]; omega⟩
  rw [hn]
  simp only [eachR]
  rw [if_pos (by omega), sgn_left s b 0 h0 hz, h, if_neg (Nat.pos_iff_ne_zero.1 h0)]
  dsimp only
  split
  · have := eachR_right step s b n 0 (step st r).2
    rw [Nat.add_zero] at this
    rw [Nat.zero_add, this, eachR_fuel step b n b.size 0 _ (by rw [size_app] at hn; omega) (by omega)]
  · rfl
end

/-- Counting. -/
theorem count_shift (s : ByteArray) : ∀ (f p n : Nat), eachR cstep s f p n = ((eachR cstep s f p 0).1, n + (eachR cstep s f p 0).2)
  | 0, p, n => by simp [eachR]
  | f + 1, p, n => by
    have e : ∀ k r, cstep k r = (0, k + 1) := fun _ _ => rfl
    simp only [eachR, e]
    by_cases hp : p < s.size
    · rw [if_pos hp, if_pos hp]
      by_cases hz : (sgn s p).1 = 0
      · rw [if_pos hz, if_pos hz]; rfl
      · rw [if_neg hz, if_neg hz, if_true, if_true, count_shift s f _ (n + 1), count_shift s f _ (0 + 1)]
        simp only [Prod.mk.injEq, true_and]
        omega
    · rw [if_neg hp, if_neg hp]; rfl

theorem cntR_append (a b : ByteArray) (ha : (cntR a).2 = true) (hb : (cntR b).2 = true) : cntR (a ++ b) = ((cntR a).1 + (cntR b).1, true) := by
  unfold cntR at ha hb ⊢
  split at ha
  · rename_i h1
    split at hb
    · rename_i h2
      rw [eachR_append cstep a b 0 h1, count_shift b b.size 0 _, if_pos h1, if_pos h2]
      simp [shiftR, h2]
    · cases hb
  · cases ha

/-- A text that isn't empty, and is whole, has a sign. -/
theorem cntR_pos (s : ByteArray) (h : (cntR s).2 = true) (hs : 0 < s.size) : 0 < (cntR s).1 := by
  unfold cntR at h ⊢
  split at h
  · rename_i h1
    rw [if_pos h1]
    obtain ⟨n, hn⟩ : ∃ n, s.size = n + 1 := ⟨s.size - 1, by omega⟩
    rw [hn] at h1 ⊢
    simp only [eachR] at h1 ⊢
    rw [if_pos hs] at h1 ⊢
    split at h1
    · exact absurd h1 (by simp)
    · rename_i hz
      have e : ∀ k r, cstep k r = (0, k + 1) := fun _ _ => rfl
      rw [if_neg hz]
      simp only [e, if_true]
      rw [count_shift]
      simp only []
      omega
  · cases h
theorem cntR_empty (s : ByteArray) (h : s.size = 0) : (cntR s).2 = true := by
  unfold cntR
  rw [h]
  rfl
end Go.Proofs.Ythldbcngbkemnaa
