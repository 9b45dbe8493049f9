/- Numbers in digits: what is written is read back, and with a nought ahead it is none. No program. -/
import Derived.Lib.ItoaLen
import Derived.Lib.ParseIntB
namespace Drawbar.Num
open Go Go.Lib

theorem dec_small {u : Nat} (h : u < 10) : decDigits u = [UInt8.ofNat (48 + u)] := decDigits_one h
theorem dec_big {u : Nat} (h : ¬ u < 10) : decDigits u = decDigits (u / 10) ++ [UInt8.ofNat (48 + u % 10)] := by rw [decDigits, dif_neg h]
theorem digit_nat {d : Nat} (h : d < 10) : (UInt8.ofNat (48 + d)).toNat = 48 + d := by
  rw [UInt8.toNat_ofNat', Nat.mod_eq_of_lt (by omega)]
theorem dec_ne (u : Nat) : decDigits u ≠ [] := by
  intro h
  have := congrArg List.length h
  rw [decDigits_length] at this
  have := nDigits_pos u
  simp at *
  omega
theorem dec_digits (u : Nat) : ∀ c ∈ decDigits u, 48 ≤ c.toNat ∧ c.toNat ≤ 57 := by
  induction u using Nat.strongRecOn with
  | _ u ih =>
    by_cases h : u < 10
    · rw [dec_small h]
      intro c hc
      rw [List.mem_singleton] at hc
      rw [hc, digit_nat h]
      omega
    · rw [dec_big h]
      intro c hc
      rw [List.mem_append, List.mem_singleton] at hc
      rcases hc with hc | hc
      · exact ih (u / 10) (by omega) c hc
      · rw [hc, digit_nat (by omega)]
        omega
/-- No number but 0 begins with a nought. -/
theorem dec_head (u : Nat) : ∀ (c : UInt8) r, decDigits u = c :: r → c.toNat = 48 → u = 0 := by
  induction u using Nat.strongRecOn with
  | _ u ih =>
    intro c r h hc
    by_cases hu : u < 10
    · rw [dec_small hu] at h
      injection h with h1 _
      rw [← h1, digit_nat hu] at hc
      omega
    · rw [dec_big hu] at h
      cases hd : decDigits (u / 10) with
      | nil => exact absurd hd (dec_ne _)
      | cons c2 r2 =>
        rw [hd] at h
        injection h with h1 _
        have := ih (u / 10) (by omega) c2 r2 hd (by rw [h1]; exact hc)
        omega

theorem parseM_append (M : Nat) : ∀ (l m : List UInt8) (a b : Nat), parseUintM M a l = .ok b → parseUintM M a (l ++ m) = parseUintM M b m
  | [], m, a, b, h => by
    simp only [parseUintM] at h
    injection h with h
    rw [h, List.nil_append]
  | c :: r, m, a, b, h => by
    rw [List.cons_append]
    simp only [parseUintM] at h ⊢
    split at h
    · rename_i h1
      rw [if_pos h1]
      split at h
      · cases h
      · rename_i h2
        rw [if_neg h2]
        split at h
        · cases h
        · rename_i h3
          rw [if_neg h3]
          exact parseM_append M r m _ b h
    · cases h
theorem parseM_one (M a : Nat) (d : Nat) (hd : d < 10) (h1 : a < 1844674407370955162) (h2 : a * 10 + d ≤ M) : parseUintM M a [UInt8.ofNat (48 + d)] = .ok (a * 10 + d) := by
  simp only [parseUintM, digit_nat hd]
  rw [if_pos (by omega), if_neg (by omega), if_neg (by omega)]
  congr 1
  omega
theorem parseM_dec (M : Nat) (hM : M < 18446744073709551616) (u : Nat) (hu : u ≤ M) : parseUintM M 0 (decDigits u) = .ok u := by
  induction u using Nat.strongRecOn with
  | _ u ih =>
    by_cases h : u < 10
    · rw [dec_small h, parseM_one M 0 u h (by omega) (by omega)]
      congr 1
      omega
    · rw [dec_big h, parseM_append M _ _ 0 (u / 10) (ih (u / 10) (by omega) (by omega)), parseM_one M (u / 10) (u % 10) (by omega) (by omega) (by omega)]
      congr 1
      omega
theorem parseB_dec (u : Nat) (hu : u < 18446744073709551616) : parseUintB 64 (decDigits u) = .ok u := by
  unfold parseUintB
  rw [if_neg (dec_ne u)]
  have e : (2 : Nat) ^ 64 = 18446744073709551616 := by decide
  rw [e]
  exact parseM_dec _ (by omega) u (by omega)

/-- What is written is read back. -/
theorem parse_itoa (n : Int) (h0 : -9223372036854775808 ≤ n) (h1 : n ≤ 9223372036854775807) : parseIntB 64 (itoa n) = .ok n := by
  have e63 : (2 : Nat) ^ (64 - 1) = 9223372036854775808 := by decide
  unfold itoa
  by_cases hn : n < 0
  · rw [if_pos hn]
    have h45 : (45 : UInt8).toNat = 45 := by decide
    unfold parseIntB
    simp only [h45]
    rw [if_pos (by simp), parseB_dec _ (by omega)]
    dsimp only
    rw [e63, if_neg (by simp), if_neg (by simp; omega), if_pos (by simp)]
    congr 1
    omega
  · rw [if_neg hn]
    have hp := parseB_dec n.toNat (by omega)
    have hd := dec_digits n.toNat
    cases hc : decDigits n.toNat with
    | nil => exact absurd hc (dec_ne _)
    | cons c r =>
      rw [hc] at hp hd
      have h9 := hd c (by simp)
      unfold parseIntB
      dsimp only
      rw [if_neg (by omega), hp]
      dsimp only
      rw [e63, if_neg (by omega), if_neg (by omega), if_neg (by omega)]
      congr 1
      omega
/-- With a nought ahead it is written by no number. -/
theorem itoa_nought (v n : Int) : itoa v ≠ 48 :: itoa n := by
  intro h
  have hne : itoa n ≠ [] := by
    unfold itoa
    split
    · simp
    · exact dec_ne _
  unfold itoa at h
  by_cases hv : v < 0
  · rw [if_pos hv] at h
    injection h with h1 _
    exact absurd h1 (by decide)
  · rw [if_neg hv] at h
    have h0 := dec_head _ _ _ h (by decide)
    rw [h0, dec_small (by omega)] at h
    injection h with _ h2
    exact hne h2.symm

/-- The number that a text is. -/
def numR (l : List UInt8) : Int × Bool :=
  match parseIntB 64 l with
  | .ok v => if itoa v = l then (v, true) else (0, false)
  | _ => (0, false)
theorem numR_itoa (n : Int) (h0 : -9223372036854775808 ≤ n) (h1 : n ≤ 9223372036854775807) : numR (itoa n) = (n, true) := by
  unfold numR
  rw [parse_itoa n h0 h1]
  simp
theorem numR_true {l : List UInt8} {k : Int} (h : numR l = (k, true)) : itoa k = l := by
  unfold numR at h
  split at h
  · split at h
    · rename_i c
      cases h
      exact c
    · cases h
  · cases h
theorem numR_nought (n : Int) : (numR (48 :: itoa n)).2 = false := by
  cases h : (numR (48 :: itoa n)).2 with
  | false => rfl
  | true =>
    have := numR_true (k := (numR (48 :: itoa n)).1) (by rw [← h])
    exact absurd this (itoa_nought _ _)
end Drawbar.Num
