/-
  A sign of a text, as the document reads it (drawbarref02.sign), and as the model reads it (Utf8.decode): they are one, but for what isn't whole.
-/
import Derived.WalkKit
namespace Drawbar.Sign
open Go

/-- the byte at a place, as a number -/
def bt (s : ByteArray) (p : Nat) : Nat := (s.get! p).toNat

theorem bt_lt (s : ByteArray) (p : Nat) : bt s p < 256 := (s.get! p).toNat_lt

theorem bt_at (s : ByteArray) (p : Nat) (h : p < s.size) : (s[p]'h).toNat = bt s p := by
  have := get_at s p h
  rw [← this]; rfl

/-- how many bytes the sign has, and its number; 0, 0: it isn't whole -/
def sgn (s : ByteArray) (p : Nat) : Nat × Nat :=
  if (Utf8.decode s p).1 = 65533 ∧ (Utf8.decode s p).2 = 1 then (0, 0) else ((Utf8.decode s p).2, (Utf8.decode s p).1)

/-- does a byte go on with a sign? -/
def goes (s : ByteArray) (p : Nat) : Prop := p < s.size ∧ 128 ≤ bt s p ∧ bt s p ≤ 191
instance (s p) : Decidable (goes s p) := by unfold goes; infer_instance

theorem cont_eq (s : ByteArray) (p k : Nat) : (decide (p + k < s.size) && (s.get! (p + k)).toNat / 64 == 2) = decide (goes s (p + k)) := by
  show (decide (p + k < s.size) && bt s (p + k) / 64 == 2) = _
  have hb := bt_lt s (p + k)
  rw [Bool.eq_iff_iff, decide_eq_true_iff]
  unfold goes
  simp only [Bool.and_eq_true, decide_eq_true_eq, beq_iff_eq]
  omega

theorem sgn_of {s : ByteArray} {p c n : Nat} (h : Utf8.decode s p = (c, n)) (hc : n ≠ 1 ∨ c < 65533) : sgn s p = (n, c) := by
  unfold sgn
  rw [h, if_neg]
  rintro ⟨h1, h2⟩
  have h1 : c = 65533 := h1
  have h2 : n = 1 := h2
  omega
theorem sgn_bad {s : ByteArray} {p : Nat} (h : Utf8.decode s p = (65533, 1)) : sgn s p = (0, 0) := by
  unfold sgn
  rw [h, if_pos ⟨rfl, rfl⟩]

/-- the model's reading, in the document's words -/
theorem sgn_eq (s : ByteArray) (p : Nat) : sgn s p =
    if bt s p < 128 then (1, bt s p)
    else if 192 ≤ bt s p ∧ bt s p < 224 then
      if goes s (p + 1) ∧ 128 ≤ (bt s p - 192) * 64 + bt s (p + 1) - 128 then (2, (bt s p - 192) * 64 + bt s (p + 1) - 128) else (0, 0)
    else if 224 ≤ bt s p ∧ bt s p < 240 then
      if goes s (p + 1) ∧ goes s (p + 2) ∧ 2048 ≤ ((bt s p - 224) * 64 + bt s (p + 1) - 128) * 64 + bt s (p + 2) - 128 ∧ ¬ (55296 ≤ ((bt s p - 224) * 64 + bt s (p + 1) - 128) * 64 + bt s (p + 2) - 128 ∧ ((bt s p - 224) * 64 + bt s (p + 1) - 128) * 64 + bt s (p + 2) - 128 < 57344)
      then (3, ((bt s p - 224) * 64 + bt s (p + 1) - 128) * 64 + bt s (p + 2) - 128) else (0, 0)
    else if 240 ≤ bt s p ∧ bt s p < 248 then
      if goes s (p + 1) ∧ goes s (p + 2) ∧ goes s (p + 3) ∧ 65536 ≤ (((bt s p - 240) * 64 + bt s (p + 1) - 128) * 64 + bt s (p + 2) - 128) * 64 + bt s (p + 3) - 128 ∧ (((bt s p - 240) * 64 + bt s (p + 1) - 128) * 64 + bt s (p + 2) - 128) * 64 + bt s (p + 3) - 128 ≤ 1114111
      then (4, (((bt s p - 240) * 64 + bt s (p + 1) - 128) * 64 + bt s (p + 2) - 128) * 64 + bt s (p + 3) - 128) else (0, 0)
    else (0, 0) := by
  have hb0 := bt_lt s p
  have e0 : (s.get! (p + 0)).toNat = bt s p := rfl
  have e1 : (s.get! (p + 1)).toNat = bt s (p + 1) := rfl
  have e2 : (s.get! (p + 2)).toNat = bt s (p + 2) := rfl
  have e3 : (s.get! (p + 3)).toNat = bt s (p + 3) := rfl
  have hd : Utf8.decode s p = (
      if bt s p < 128 then (bt s p, 1)
      else if (bt s p / 32 == 6 && decide (goes s (p + 1))) = true then
        if (bt s p % 32) * 64 + bt s (p + 1) % 64 ≥ 128 then ((bt s p % 32) * 64 + bt s (p + 1) % 64, 2) else (65533, 1)
      else if (bt s p / 16 == 14 && decide (goes s (p + 1)) && decide (goes s (p + 2))) = true then
        if (bt s p % 16) * 4096 + (bt s (p + 1) % 64) * 64 + bt s (p + 2) % 64 ≥ 2048 ∧ Utf8.valid (((bt s p % 16) * 4096 + (bt s (p + 1) % 64) * 64 + bt s (p + 2) % 64 : Nat) : Int) = true
        then ((bt s p % 16) * 4096 + (bt s (p + 1) % 64) * 64 + bt s (p + 2) % 64, 3) else (65533, 1)
      else if (bt s p / 8 == 30 && decide (goes s (p + 1)) && decide (goes s (p + 2)) && decide (goes s (p + 3))) = true then
        if (bt s p % 8) * 262144 + (bt s (p + 1) % 64) * 4096 + (bt s (p + 2) % 64) * 64 + bt s (p + 3) % 64 ≥ 65536 ∧ Utf8.valid (((bt s p % 8) * 262144 + (bt s (p + 1) % 64) * 4096 + (bt s (p + 2) % 64) * 64 + bt s (p + 3) % 64 : Nat) : Int) = true
        then ((bt s p % 8) * 262144 + (bt s (p + 1) % 64) * 4096 + (bt s (p + 2) % 64) * 64 + bt s (p + 3) % 64, 4) else (65533, 1)
      else (65533, 1)) := by
    simp only [← cont_eq, ← e0, ← e1, ← e2, ← e3]
    simp only [Utf8.decode, Utf8.runeError, Bool.and_eq_true, decide_eq_true_eq]
  have hv : ∀ n : Nat, (Utf8.valid (n : Int) = true) ↔ (n < 55296 ∨ (57344 ≤ n ∧ n ≤ 1114111)) := by
    intro n
    simp [Utf8.valid]
    omega
  by_cases h1 : bt s p < 128
  · rw [if_pos h1] at hd ⊢
    exact sgn_of hd (Or.inr (by omega))
  rw [if_neg h1] at hd ⊢
  by_cases h2 : 192 ≤ bt s p ∧ bt s p < 224
  · rw [if_pos h2]
    have q : (bt s p / 32 == 6) = true := by simp; omega
    have q2 : (bt s p / 16 == 14) = false := by simp; omega
    have q3 : (bt s p / 8 == 30) = false := by simp; omega
    simp only [q, q2, q3, Bool.true_and, Bool.false_and, decide_eq_true_eq, Bool.false_eq_true, if_false] at hd
    by_cases g : goes s (p + 1)
    · have g' := g.2
      have ev : (bt s p % 32) * 64 + bt s (p + 1) % 64 = (bt s p - 192) * 64 + bt s (p + 1) - 128 := by omega
      rw [if_pos g, ev] at hd
      by_cases l : 128 ≤ (bt s p - 192) * 64 + bt s (p + 1) - 128
      · rw [if_pos l] at hd
        rw [if_pos ⟨g, l⟩]
        exact sgn_of hd (Or.inl (by omega))
      · rw [if_neg l] at hd
        rw [if_neg (fun c => l c.2)]
        exact sgn_bad hd
    · rw [if_neg g] at hd
      rw [if_neg (fun c => g c.1)]
      exact sgn_bad hd
  rw [if_neg h2]
  have q : (bt s p / 32 == 6) = false := by simp; omega
  simp only [q, Bool.false_and, Bool.false_eq_true, if_false] at hd
  by_cases h3 : 224 ≤ bt s p ∧ bt s p < 240
  · rw [if_pos h3]
    have q2 : (bt s p / 16 == 14) = true := by simp; omega
    have q3 : (bt s p / 8 == 30) = false := by simp; omega
    simp only [q2, q3, Bool.true_and, Bool.false_and, Bool.and_eq_true, decide_eq_true_eq, Bool.false_eq_true, if_false] at hd
    by_cases g : goes s (p + 1) ∧ goes s (p + 2)
    · have g1 := g.1.2
      have g2 := g.2.2
      have ev : (bt s p % 16) * 4096 + (bt s (p + 1) % 64) * 64 + bt s (p + 2) % 64 = ((bt s p - 224) * 64 + bt s (p + 1) - 128) * 64 + bt s (p + 2) - 128 := by omega
      rw [if_pos g, ev] at hd
      clear ev
      have hm : ((bt s p - 224) * 64 + bt s (p + 1) - 128) * 64 + bt s (p + 2) - 128 < 65536 := by omega
      generalize hX : ((bt s p - 224) * 64 + bt s (p + 1) - 128) * 64 + bt s (p + 2) - 128 = X at hd hm ⊢
      by_cases l : 2048 ≤ X ∧ ¬ (55296 ≤ X ∧ X < 57344)
      · rw [if_pos (show _ ∧ _ from ⟨l.1, (hv X).2 (by omega)⟩)] at hd
        rw [if_pos ⟨g.1, g.2, l⟩]
        exact sgn_of hd (Or.inl (by omega))
      · rw [if_neg (fun c => by have c1 := c.1; have c2 := (hv X).1 c.2; omega)] at hd
        rw [if_neg (fun c => l c.2.2)]
        exact sgn_bad hd
    · rw [if_neg g] at hd
      rw [if_neg (fun c => g ⟨c.1, c.2.1⟩)]
      exact sgn_bad hd
  rw [if_neg h3]
  have q2 : (bt s p / 16 == 14) = false := by simp; omega
  simp only [q2, Bool.false_and, Bool.false_eq_true, if_false] at hd
  by_cases h4 : 240 ≤ bt s p ∧ bt s p < 248
  · rw [if_pos h4]
    have q3 : (bt s p / 8 == 30) = true := by simp; omega
    simp only [q3, Bool.true_and, Bool.and_eq_true, decide_eq_true_eq] at hd
    by_cases g : (goes s (p + 1) ∧ goes s (p + 2)) ∧ goes s (p + 3)
    · have g1 := g.1.1.2
      have g2 := g.1.2.2
      have g3 := g.2.2
      have ev : (bt s p % 8) * 262144 + (bt s (p + 1) % 64) * 4096 + (bt s (p + 2) % 64) * 64 + bt s (p + 3) % 64 = (((bt s p - 240) * 64 + bt s (p + 1) - 128) * 64 + bt s (p + 2) - 128) * 64 + bt s (p + 3) - 128 := by omega
      rw [if_pos g, ev] at hd
      clear ev
      generalize hX : (((bt s p - 240) * 64 + bt s (p + 1) - 128) * 64 + bt s (p + 2) - 128) * 64 + bt s (p + 3) - 128 = X at hd ⊢
      by_cases l : 65536 ≤ X ∧ X ≤ 1114111
      · rw [if_pos (show _ ∧ _ from ⟨l.1, (hv X).2 (by omega)⟩)] at hd
        rw [if_pos ⟨g.1.1, g.1.2, g.2, l⟩]
        exact sgn_of hd (Or.inl (by omega))
      · rw [if_neg (fun c => by have c1 := c.1; have c2 := (hv X).1 c.2; omega)] at hd
        rw [if_neg (fun c => l c.2.2.2)]
        exact sgn_bad hd
    · rw [if_neg g] at hd
      rw [if_neg (fun c => g ⟨⟨c.1, c.2.1⟩, c.2.2.1⟩)]
      exact sgn_bad hd
  rw [if_neg h4]
  have q3 : (bt s p / 8 == 30) = false := by simp; omega
  simp only [q3, Bool.false_and, Bool.false_eq_true, if_false] at hd
  exact sgn_bad hd

theorem sgn_pos (s : ByteArray) (p : Nat) (h : (sgn s p).1 ≠ 0) : Utf8.decode s p = ((sgn s p).2, (sgn s p).1) := by
  unfold sgn at h ⊢
  split
  · rename_i c; rw [if_pos c] at h; exact absurd rfl h
  · rfl

theorem sgn_le (s : ByteArray) (p : Nat) (hp : p < s.size) : p + (sgn s p).1 ≤ s.size ∧ (sgn s p).2 ≤ 1114111 ∧ ((sgn s p).1 ≠ 0 → Utf8.valid ((sgn s p).2 : Int) = true) := by
  have hb := bt_lt s p
  rw [sgn_eq]
  repeat' split
  all_goals simp only [goes] at *
  all_goals simp [Utf8.valid]
  all_goals omega

/-- what isn't whole is handed out as 65533; the bytes tell it from the sign of that number -/
theorem whole_iff (s : ByteArray) (p : Nat) : ((Utf8.decode s p).1 ≠ 65533 ∨ (p + 2 < s.size ∧ bt s p = 239 ∧ bt s (p + 1) = 191 ∧ bt s (p + 2) = 189)) ↔ (sgn s p).1 ≠ 0 := by
  have h1 := bt_lt s (p + 1)
  have h2 := bt_lt s (p + 2)
  constructor
  · rintro (h | ⟨h0, ha, hb, hc⟩)
    · unfold sgn
      rw [if_neg (fun c => h c.1)]
      intro hz
      have hz : (Utf8.decode s p).2 = 0 := hz
      revert hz
      simp only [Utf8.decode]
      repeat' split
      all_goals simp
    · have g1 : goes s (p + 1) := ⟨by omega, by omega, by omega⟩
      have g2 : goes s (p + 2) := ⟨by omega, by omega, by omega⟩
      rw [sgn_eq, ha, hb, hc, if_neg (by omega), if_neg (by omega), if_pos (by omega), if_pos ⟨g1, g2, by omega, by omega⟩]
      show 3 ≠ 0
      omega
  · intro h
    have hd := sgn_pos s p h
    by_cases hq : (sgn s p).2 = 65533
    · right
      have e := sgn_eq s p
      rw [← Prod.eta (sgn s p), hq] at e
      have hb := bt_lt s p
      split at e
      · simp at e; omega
      split at e
      · split at e
        · rename_i c
          simp only [goes] at c
          simp at e; omega
        · simp at e
      split at e
      · split at e
        · rename_i c
          simp only [goes] at c
          simp at e; omega
        · simp at e
      split at e
      · split at e
        · rename_i c
          simp only [goes] at c
          simp at e; omega
        · simp at e
      · simp at e
    · left
      rw [hd]
      exact hq

end Drawbar.Sign
