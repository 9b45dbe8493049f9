/- Plain mathematics of CRC-32: the register as a number, linear, without a kernel; nothing of the program. -/
namespace Drawbar.Crc

def poly : Nat := 3988292384
def full : Nat := 4294967295

def step (c : Nat) : Nat := if c % 2 = 1 then (c / 2) ^^^ poly else c / 2

def stepN : Nat → Nat → Nat
  | 0, c => c
  | n + 1, c => stepN n (step c)

theorem step_lt {c : Nat} (h : c < 2 ^ 32) : step c < 2 ^ 32 := by
  unfold step
  split
  · exact Nat.xor_lt_two_pow (by omega) (by unfold poly; omega)
  · omega

theorem step_xor (a b : Nat) : step (a ^^^ b) = step a ^^^ step b := by
  unfold step
  rw [Nat.xor_div_two]
  have hm := @Nat.xor_mod_two_eq_one a b
  by_cases ha : a % 2 = 1 <;> by_cases hb : b % 2 = 1 <;> simp only [ha, hb, iff_true, not_true, not_false_iff, iff_false, if_true, if_false] at hm ⊢
  · rw [if_neg (by simpa using hm)]
    rw [show (a / 2 ^^^ poly) ^^^ (b / 2 ^^^ poly) = (a / 2 ^^^ b / 2) ^^^ (poly ^^^ poly) by ac_rfl]
    simp
  · rw [if_pos (by simpa [hb] using hm)]; ac_rfl
  · rw [if_pos (by simpa [ha] using hm)]; ac_rfl
  · rw [if_neg (by simpa using hm)]

theorem step_zero : step 0 = 0 := by decide

theorem step_even (c : Nat) : step (2 * c) = c := by
  unfold step
  rw [if_neg (by omega)]; omega

theorem step_ne {c : Nat} (h : c < 2 ^ 32) (h0 : c ≠ 0) : step c ≠ 0 := by
  unfold step
  split
  · intro e
    have := congrArg (fun x => x.testBit 31) e
    simp only [Nat.testBit_xor, Nat.zero_testBit] at this
    rw [Nat.testBit_lt_two_pow (show c / 2 < 2 ^ 31 by omega), show poly.testBit 31 = true by decide] at this
    simp at this
  · omega

theorem stepN_add (m n c : Nat) : stepN (m + n) c = stepN n (stepN m c) := by
  induction m generalizing c with
  | zero => rw [Nat.zero_add]; rfl
  | succ m ih => rw [show m + 1 + n = (m + n) + 1 by omega]; simp only [stepN]; exact ih _

theorem stepN_xor (n a b : Nat) : stepN n (a ^^^ b) = stepN n a ^^^ stepN n b := by
  induction n generalizing a b with
  | zero => rfl
  | succ n ih => simp only [stepN]; rw [step_xor, ih]

theorem stepN_zero (n : Nat) : stepN n 0 = 0 := by
  induction n with
  | zero => rfl
  | succ n ih => simp only [stepN]; rw [step_zero, ih]

theorem stepN_lt (n : Nat) {c : Nat} (h : c < 2 ^ 32) : stepN n c < 2 ^ 32 := by
  induction n generalizing c with
  | zero => exact h
  | succ n ih => exact ih (step_lt h)

theorem stepN_ne (n : Nat) {c : Nat} (h : c < 2 ^ 32) (h0 : c ≠ 0) : stepN n c ≠ 0 := by
  induction n generalizing c with
  | zero => exact h0
  | succ n ih => exact ih (step_lt h) (step_ne h h0)

theorem stepN_inj (n : Nat) {a b : Nat} (ha : a < 2 ^ 32) (hb : b < 2 ^ 32) (h : stepN n a = stepN n b) : a = b := by
  have h1 : stepN n (a ^^^ b) = 0 := by rw [stepN_xor, h, Nat.xor_self]
  have h2 : a ^^^ b = 0 := Classical.byContradiction fun hne => stepN_ne n (Nat.xor_lt_two_pow ha hb) hne h1
  have h3 : a ^^^ (a ^^^ b) = a := by rw [h2]; simp
  rw [← Nat.xor_assoc, Nat.xor_self, Nat.zero_xor] at h3
  exact h3.symm

theorem stepN_shift (k w : Nat) : stepN k (w * 2 ^ k) = w := by
  induction k generalizing w with
  | zero => simp [stepN]
  | succ k ih =>
    simp only [stepN]
    rw [show w * 2 ^ (k + 1) = 2 * (w * 2 ^ k) by rw [Nat.pow_succ, ← Nat.mul_assoc, Nat.mul_comm]]
    rw [step_even, ih]

theorem mul_xor (a b k : Nat) : (a ^^^ b) * 2 ^ k = (a * 2 ^ k) ^^^ (b * 2 ^ k) := by
  apply Nat.eq_of_testBit_eq
  intro i
  simp only [Nat.testBit_xor, Nat.testBit_mul_two_pow]
  by_cases h : k ≤ i <;> simp [h]

theorem add_xor (a b k : Nat) (h : a < 2 ^ k) : a + b * 2 ^ k = a ^^^ (b * 2 ^ k) := by
  apply Nat.eq_of_testBit_eq
  intro i
  rw [Nat.testBit_xor, Nat.testBit_mul_two_pow]
  rw [show a + b * 2 ^ k = 2 ^ k * b + a by rw [Nat.mul_comm, Nat.add_comm], Nat.testBit_two_pow_mul_add b h]
  by_cases hi : i < k
  · have : ¬ k ≤ i := by omega
    simp [hi, this]
  · have hk : k ≤ i := by omega
    have ha : a.testBit i = false := Nat.testBit_lt_two_pow (Nat.lt_of_lt_of_le h (Nat.pow_le_pow_right (by omega) hk))
    simp [hi, hk, ha]

/-- The number of some bytes, the lowest first. -/
def le : List Nat → Nat
  | [] => 0
  | b :: r => b + 256 * le r

def byte (c b : Nat) : Nat := stepN 8 (c ^^^ b)
def crc (c : Nat) (l : List Nat) : Nat := l.foldl byte c
def sum (l : List Nat) : Nat := crc full l ^^^ full

theorem le_cons (b : Nat) (r : List Nat) (h : b < 256) : le (b :: r) = b ^^^ (le r * 2 ^ 8) := by
  rw [← add_xor _ _ _ (by simpa using h)]
  simp only [le]; omega

theorem crc_le (l : List Nat) (hl : ∀ b ∈ l, b < 256) (c : Nat) : crc c l = stepN (8 * l.length) (c ^^^ le l) := by
  induction l generalizing c with
  | nil => simp [crc, le, stepN]
  | cons b r ih =>
    have hb := hl b (by simp)
    show crc (byte c b) r = _
    rw [ih (fun x hx => hl x (by simp [hx]))]
    rw [le_cons b r hb, List.length_cons, show 8 * (r.length + 1) = 8 + 8 * r.length by omega, stepN_add]
    rw [← Nat.xor_assoc, stepN_xor 8, stepN_shift 8]
    rfl

theorem le_lt (l : List Nat) (hl : ∀ b ∈ l, b < 256) : le l < 2 ^ (8 * l.length) := by
  induction l with
  | nil => simp [le]
  | cons b r ih =>
    have h1 := ih (fun x hx => hl x (by simp [hx]))
    have h2 := hl b (by simp)
    rw [List.length_cons, show 8 * (r.length + 1) = 8 * r.length + 8 by omega, Nat.pow_add]
    simp only [le]
    omega

theorem le_append (a b : List Nat) : le (a ++ b) = le a + 2 ^ (8 * a.length) * le b := by
  induction a with
  | nil => simp [le]
  | cons x r ih =>
    simp only [List.cons_append, le, List.length_cons]
    rw [ih, show 8 * (r.length + 1) = 8 + 8 * r.length by omega, Nat.pow_add, Nat.mul_add, Nat.mul_assoc]
    omega

theorem crc_lt (l : List Nat) (hl : ∀ b ∈ l, b < 256) {c : Nat} (hc : c < 2 ^ 32) : crc c l < 2 ^ 32 := by
  induction l generalizing c with
  | nil => exact hc
  | cons b r ih =>
    have hb := hl b (by simp)
    exact ih (fun x hx => hl x (by simp [hx])) (stepN_lt 8 (Nat.xor_lt_two_pow hc (by omega)))

theorem crc_append (a b : List Nat) (c : Nat) : crc c (a ++ b) = crc (crc c a) b := by
  simp [crc, List.foldl_append]

theorem sum_lt (l : List Nat) (hl : ∀ b ∈ l, b < 256) : sum l < 2 ^ 32 :=
  Nat.xor_lt_two_pow (crc_lt l hl (by unfold full; omega)) (by unfold full; omega)

/-- Are the last four bytes the sum of those before them? Told by the whole number. -/
theorem valid_iff (h t : List Nat) (hh : ∀ b ∈ h, b < 256) (ht : ∀ b ∈ t, b < 256) (h4 : t.length = 4) :
    le t = sum h ↔ stepN (8 * (h ++ t).length) (full ^^^ le (h ++ t)) = stepN 32 full := by
  rw [← crc_le _ (by intro b hb; rcases List.mem_append.1 hb with h | h; exact hh b h; exact ht b h)]
  rw [crc_append, crc_le t ht, h4]
  have hlt : le t < 2 ^ 32 := by have := le_lt t ht; rw [h4] at this; exact this
  have hc := crc_lt h hh (c := full) (by unfold full; omega)
  unfold sum
  constructor
  · intro e
    rw [e, ← Nat.xor_assoc, Nat.xor_self, Nat.zero_xor]
  · intro e
    have e2 := stepN_inj 32 (Nat.xor_lt_two_pow hc hlt) (show full < 2 ^ 32 by unfold full; omega) e
    have e3 : crc full h ^^^ (crc full h ^^^ le t) = crc full h ^^^ full := by rw [e2]
    rw [← Nat.xor_assoc, Nat.xor_self, Nat.zero_xor] at e3
    exact e3

theorem burst (n a b w k : Nat) (hw : w < 2 ^ 32) (hk : k ≤ n) (hb : b = a ^^^ (w * 2 ^ k))
    (ha : stepN n (full ^^^ a) = stepN 32 full) (hv : stepN n (full ^^^ b) = stepN 32 full) : w = 0 := by
  have e : stepN n (w * 2 ^ k) = 0 := by
    have : stepN n ((full ^^^ a) ^^^ (full ^^^ b)) = 0 := by rw [stepN_xor, ha, hv, Nat.xor_self]
    rw [hb, show (full ^^^ a) ^^^ (full ^^^ (a ^^^ w * 2 ^ k)) = (full ^^^ full) ^^^ ((a ^^^ a) ^^^ w * 2 ^ k) by ac_rfl] at this
    simpa using this
  rw [show n = k + (n - k) by omega, stepN_add, stepN_shift] at e
  exact Classical.byContradiction fun h0 => stepN_ne _ hw h0 e

theorem le_set (l : List Nat) (hl : ∀ b ∈ l, b < 256) (j r : Nat) (hj : j < l.length) (hr : r < 8) :
    le (l.set j (l[j] ^^^ 2 ^ r)) = le l ^^^ 2 ^ (8 * j + r) := by
  induction l generalizing j with
  | nil => simp at hj
  | cons b q ih =>
    have hb := hl b (by simp)
    have h2 : 2 ^ r < 2 ^ 8 := Nat.pow_lt_pow_right (by omega) hr
    cases j with
    | zero =>
      simp only [List.set_cons_zero, List.getElem_cons_zero]
      rw [le_cons _ _ (Nat.xor_lt_two_pow (n := 8) hb h2), le_cons _ _ hb]
      simp only [Nat.mul_zero, Nat.zero_add]
      ac_rfl
    | succ j =>
      have hj' : j < q.length := by simpa using hj
      simp only [List.set_cons_succ, List.getElem_cons_succ]
      rw [le_cons _ _ hb, le_cons _ _ hb, ih (fun x hx => hl x (by simp [hx])) j hj', mul_xor, ← Nat.pow_add,
        show 8 * j + r + 8 = 8 * (j + 1) + r by omega]
      ac_rfl

/-! The nibbles. -/
def nib : List Nat := [0, 498536548, 997073096, 651767980, 1994146192, 1802195444, 1303535960, 1342533948, 3988292384, 4027552580, 3604390888, 3412177804, 2607071920, 2262029012, 2685067896, 3183342108]

theorem nib_eq : ∀ n < 16, stepN 4 n = nib.getD n 0 := by decide

theorem nib_step (c : Nat) : (c / 16) ^^^ nib.getD (c % 16) 0 = stepN 4 c := by
  have h := add_xor (c % 16) (c / 16) 4 (by omega)
  have hc : c % 16 + c / 16 * 2 ^ 4 = c := by omega
  rw [hc] at h
  rw [← nib_eq _ (by omega)]
  conv => rhs; rw [h, stepN_xor, stepN_shift]
  exact Nat.xor_comm _ _

theorem byte_nib (c b : Nat) : byte c b = (let x := c ^^^ b; let y := (x / 16) ^^^ nib.getD (x % 16) 0; (y / 16) ^^^ nib.getD (y % 16) 0) := by
  simp only [nib_step]
  unfold byte
  rw [show (8 : Nat) = 4 + 4 by rfl, stepN_add]

/-! Bit by bit. -/
def bitStep (c b k : Nat) : Nat := if (c ^^^ b / 2 ^ k) % 2 = 1 then (c / 2) ^^^ poly else c / 2
def bits (c b : Nat) : Nat → Nat
  | 0 => c
  | k + 1 => bitStep (bits c b k) b k

theorem bits_inv (c b k : Nat) : bits c b k ^^^ (b / 2 ^ k) = stepN k (c ^^^ b) := by
  induction k with
  | zero => simp [bits, stepN]
  | succ k ih =>
    rw [stepN_add, ← ih]
    simp only [bits, bitStep, stepN]
    unfold step
    rw [Nat.xor_div_two, Nat.div_div_eq_div_mul, ← Nat.pow_succ]
    split <;> ac_rfl

theorem byte_bits (c b : Nat) (hb : b < 256) : byte c b = bits c b 8 := by
  have h := bits_inv c b 8
  rw [show b / 2 ^ 8 = 0 by omega, Nat.xor_zero] at h
  exact h.symm

end Drawbar.Crc
