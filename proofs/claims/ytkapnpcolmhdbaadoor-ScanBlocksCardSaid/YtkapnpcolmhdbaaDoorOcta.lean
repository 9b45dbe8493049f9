/- Plain mathematics of CRC-32: the register as a number, linear, without a kernel; nothing of the program. The contract of octet.Sum: it returns CRC-32 of the bytes that it is handed, and leaves the world as it is; the table of nibbles is a hypothesis. General laws for the walk, over any program: append onto a slice without spare room or onto a row of the call's own, from a slice that may be nil or empty. The contract of octet.Put: behind the bytes it is handed the lowest size bytes of a number, in new memory. The contract of octet.Get: the number of the first eight bytes, the lowest first. The contract of drawbarlaw01.awake: it answers true, and lays nothing but new memory. The walk of the law OctetGets: the number of a number's bytes is that of the first ones, and that of the others. The walk of the law OctetNil: a nil reader has a fault, and nothing. The contracts of octet.Seal and octet.Open. Sealed bytes of which bits were turned that stand within 32 are none: by the plain mathematics of the sum. The walk of the law OctetOne: a single bit that is turned is told. -/
import Derived.Test.YtkapnpcolmhdbaaDoorProg
import Derived.WalkKit
import Derived.Handy
import Derived.Lib.Hide
import Derived.ArgAppend
import Derived.Laws.OwnMore
import Derived.Lib.SlBytesConst
import Derived.Laws.BytesString
import Derived.WalkSpells
import Derived.Deep.QuietTactic
import Derived.BigQuiet
import Derived.WalkSmall
import Derived.BigRegion
namespace Drawbar.Crc

def poly : Nat := 3988292384
def full : Nat := 4294967295

def step (c : Nat) : Nat := if c % 2 = 1 then (c / 2) ^^^ poly else c / 2

def stepN : Nat → Nat → Nat
  | 0, c => c
  | n + 1, c => stepN n (step c)

set_option maxRecDepth 100000 in
theorem step_lt {c : Nat} (h : c < 2 ^ 32) : step c < 2 ^ 32 := by
  unfold step
  split
  · exact Nat.xor_lt_two_pow (by omega) (by unfold poly; omega)
  · omega

set_option maxRecDepth 100000 in
theorem step_xor (a b : Nat) : step (a ^^^ b) = step a ^^^ step b := by
  unfold step
  rw [Nat.xor_div_two]
  have hm := @Nat.xor_mod_two_eq_one a b
  by_cases ha : a % 2 = 1 <;> by_cases hb : b % 2 = 1 <;> simp only [ha, hb, iff_true, not_true, not_false_iff, iff_false, if_true, if_false] at hm ⊢
  · rw [if_neg (by simpa using hm)]
    rw [show (a / 2 ^^^ poly) ^^^ (b / 2 ^^^ poly) = (a / 2 ^^^ b / 2) ^^^ (poly ^^^ poly) by ac_rfl]
    simp
  · rw [if_pos (by simpa [hb] using hm)]; ac_rfl
  · rw [if_pos (by simpa [ha] using hm)]; ac_rfl
  · rw [if_neg (by simpa using hm)]

set_option maxRecDepth 100000 in
theorem step_zero : step 0 = 0 := by decide

set_option maxRecDepth 100000 in
theorem step_even (c : Nat) : step (2 * c) = c := by
  unfold step
  rw [if_neg (by omega)]; omega

set_option maxRecDepth 100000 in
theorem step_ne {c : Nat} (h : c < 2 ^ 32) (h0 : c ≠ 0) : step c ≠ 0 := by
  unfold step
  split
  · intro e
    have := congrArg (fun x => x.testBit 31) e
    simp only [Nat.testBit_xor, Nat.zero_testBit] at this
    rw [Nat.testBit_lt_two_pow (show c / 2 < 2 ^ 31 by omega), show poly.testBit 31 = true by decide] at this
    simp at this
  · omega

set_option maxRecDepth 100000 in
theorem stepN_add (m n c : Nat) : stepN (m + n) c = stepN n (stepN m c) := by
  induction m generalizing c with
  | zero => rw [Nat.zero_add]; rfl
  | succ m ih => rw [show m + 1 + n = (m + n) + 1 by omega]; simp only [stepN]; exact ih _

set_option maxRecDepth 100000 in
theorem stepN_xor (n a b : Nat) : stepN n (a ^^^ b) = stepN n a ^^^ stepN n b := by
  induction n generalizing a b with
  | zero => rfl
  | succ n ih => simp only [stepN]; rw [step_xor, ih]

set_option maxRecDepth 100000 in
theorem stepN_zero (n : Nat) : stepN n 0 = 0 := by
  induction n with
  | zero => rfl
  | succ n ih => simp only [stepN]; rw [step_zero, ih]

set_option maxRecDepth 100000 in
theorem stepN_lt (n : Nat) {c : Nat} (h : c < 2 ^ 32) : stepN n c < 2 ^ 32 := by
  induction n generalizing c with
  | zero => exact h
  | succ n ih => exact ih (step_lt h)

set_option maxRecDepth 100000 in
theorem stepN_ne (n : Nat) {c : Nat} (h : c < 2 ^ 32) (h0 : c ≠ 0) : stepN n c ≠ 0 := by
  induction n generalizing c with
  | zero => exact h0
  | succ n ih => exact ih (step_lt h) (step_ne h h0)

set_option maxRecDepth 100000 in
theorem stepN_inj (n : Nat) {a b : Nat} (ha : a < 2 ^ 32) (hb : b < 2 ^ 32) (h : stepN n a = stepN n b) : a = b := by
  have h1 : stepN n (a ^^^ b) = 0 := by rw [stepN_xor, h, Nat.xor_self]
  have h2 : a ^^^ b = 0 := Classical.byContradiction fun hne => stepN_ne n (Nat.xor_lt_two_pow ha hb) hne h1
  have h3 : a ^^^ (a ^^^ b) = a := by rw [h2]; simp
  rw [← Nat.xor_assoc, Nat.xor_self, Nat.zero_xor] at h3
  exact h3.symm

set_option maxRecDepth 100000 in
theorem stepN_shift (k w : Nat) : stepN k (w * 2 ^ k) = w := by
  induction k generalizing w with
  | zero => simp [stepN]
  | succ k ih =>
    simp only [stepN]
    rw [show w * 2 ^ (k + 1) = 2 * (w * 2 ^ k) by rw [Nat.pow_succ, ← Nat.mul_assoc, Nat.mul_comm]]
    rw [step_even, ih]

set_option maxRecDepth 100000 in
theorem mul_xor (a b k : Nat) : (a ^^^ b) * 2 ^ k = (a * 2 ^ k) ^^^ (b * 2 ^ k) := by
  apply Nat.eq_of_testBit_eq
  intro i
  simp only [Nat.testBit_xor, Nat.testBit_mul_two_pow]
  by_cases h : k ≤ i <;> simp [h]

set_option maxRecDepth 100000 in
theorem add_xor (a b k : Nat) (h : a < 2 ^ k) : a + b * 2 ^ k = a ^^^ (b * 2 ^ k) := by
  apply Nat.eq_of_testBit_eq
  intro i
  rw [Nat.testBit_xor, Nat.testBit_mul_two_pow]
  rw [show a + b * 2 ^ k = 2 ^ k * b + a by rw [Nat.mul_comm, Nat.add_comm], Nat.testBit_two_pow_mul_add b h]
  by_cases hi : i < k
  · have : ¬ k ≤ i := by omega
    simp [hi, this]
  · have hk : k ≤ i := by omega
    have ha : a.testBit i = false := Nat.testBit_lt_two_pow (Nat.lt_of_lt_of_le h (Nat.pow_le_pow_right (by omega) hk))
    simp [hi, hk, ha]

/-- The number of some bytes, the lowest first. -/
def le : List Nat → Nat
  | [] => 0
  | b :: r => b + 256 * le r

def byte (c b : Nat) : Nat := stepN 8 (c ^^^ b)
def crc (c : Nat) (l : List Nat) : Nat := l.foldl byte c
def sum (l : List Nat) : Nat := crc full l ^^^ full

set_option maxRecDepth 100000 in
theorem le_cons (b : Nat) (r : List Nat) (h : b < 256) : le (b :: r) = b ^^^ (le r * 2 ^ 8) := by
  rw [← add_xor _ _ _ (by simpa using h)]
  simp only [le]; omega

set_option maxRecDepth 100000 in
theorem crc_le (l : List Nat) (hl : ∀ b ∈ l, b < 256) (c : Nat) : crc c l = stepN (8 * l.length) (c ^^^ le l) := by
  induction l generalizing c with
  | nil => simp [crc, le, stepN]
  | cons b r ih =>
    have hb := hl b (by simp)
    show crc (byte c b) r = _
    rw [ih (fun x hx => hl x (by simp [hx]))]
    rw [le_cons b r hb, List.length_cons, show 8 * (r.length + 1) = 8 + 8 * r.length by omega, stepN_add]
    rw [← Nat.xor_assoc, stepN_xor 8, stepN_shift 8]
    rfl

set_option maxRecDepth 100000 in
theorem le_lt (l : List Nat) (hl : ∀ b ∈ l, b < 256) : le l < 2 ^ (8 * l.length) := by
  induction l with
  | nil => simp [le]
  | cons b r ih =>
    have h1 := ih (fun x hx => hl x (by simp [hx]))
    have h2 := hl b (by simp)
    rw [List.length_cons, show 8 * (r.length + 1) = 8 * r.length + 8 by omega, Nat.pow_add]
    simp only [le]
    omega

set_option maxRecDepth 100000 in
theorem le_append (a b : List Nat) : le (a ++ b) = le a + 2 ^ (8 * a.length) * le b := by
  induction a with
  | nil => simp [le]
  | cons x r ih =>
    simp only [List.cons_append, le, List.length_cons]
    rw [ih, show 8 * (r.length + 1) = 8 + 8 * r.length by omega, Nat.pow_add, Nat.mul_add, Nat.mul_assoc]
    omega

set_option maxRecDepth 100000 in
theorem crc_lt (l : List Nat) (hl : ∀ b ∈ l, b < 256) {c : Nat} (hc : c < 2 ^ 32) : crc c l < 2 ^ 32 := by
  induction l generalizing c with
  | nil => exact hc
  | cons b r ih =>
    have hb := hl b (by simp)
    exact ih (fun x hx => hl x (by simp [hx])) (stepN_lt 8 (Nat.xor_lt_two_pow hc (by omega)))

set_option maxRecDepth 100000 in
theorem crc_append (a b : List Nat) (c : Nat) : crc c (a ++ b) = crc (crc c a) b := by
  simp [crc, List.foldl_append]

set_option maxRecDepth 100000 in
theorem sum_lt (l : List Nat) (hl : ∀ b ∈ l, b < 256) : sum l < 2 ^ 32 :=
  Nat.xor_lt_two_pow (crc_lt l hl (by unfold full; omega)) (by unfold full; omega)

set_option maxRecDepth 100000 in
/-- Are the last four bytes the sum of those before them? Told by the whole number. -/
theorem valid_iff (h t : List Nat) (hh : ∀ b ∈ h, b < 256) (ht : ∀ b ∈ t, b < 256) (h4 : t.length = 4) :
    le t = sum h ↔ stepN (8 * (h ++ t).length) (full ^^^ le (h ++ t)) = stepN 32 full := by
  rw [← crc_le _ (by intro b hb; rcases List.mem_append.1 hb with h | h; exact hh b h; exact ht b h)]
  rw [crc_append, crc_le t ht, h4]
  have hlt : le t < 2 ^ 32 := by have := le_lt t ht; rw [h4] at this; exact this
  have hc := crc_lt h hh (c := full) (by unfold full; omega)
  unfold sum
  constructor
  · intro e
    rw [e, ← Nat.xor_assoc, Nat.xor_self, Nat.zero_xor]
  · intro e
    have e2 := stepN_inj 32 (Nat.xor_lt_two_pow hc hlt) (show full < 2 ^ 32 by unfold full; omega) e
    have e3 : crc full h ^^^ (crc full h ^^^ le t) = crc full h ^^^ full := by rw [e2]
    rw [← Nat.xor_assoc, Nat.xor_self, Nat.zero_xor] at e3
    exact e3

set_option maxRecDepth 100000 in
theorem burst (n a b w k : Nat) (hw : w < 2 ^ 32) (hk : k ≤ n) (hb : b = a ^^^ (w * 2 ^ k))
    (ha : stepN n (full ^^^ a) = stepN 32 full) (hv : stepN n (full ^^^ b) = stepN 32 full) : w = 0 := by
  have e : stepN n (w * 2 ^ k) = 0 := by
    have : stepN n ((full ^^^ a) ^^^ (full ^^^ b)) = 0 := by rw [stepN_xor, ha, hv, Nat.xor_self]
    rw [hb, show (full ^^^ a) ^^^ (full ^^^ (a ^^^ w * 2 ^ k)) = (full ^^^ full) ^^^ ((a ^^^ a) ^^^ w * 2 ^ k) by ac_rfl] at this
    simpa using this
  rw [show n = k + (n - k) by omega, stepN_add, stepN_shift] at e
  exact Classical.byContradiction fun h0 => stepN_ne _ hw h0 e

set_option maxRecDepth 100000 in
theorem le_set (l : List Nat) (hl : ∀ b ∈ l, b < 256) (j r : Nat) (hj : j < l.length) (hr : r < 8) :
    le (l.set j (l[j] ^^^ 2 ^ r)) = le l ^^^ 2 ^ (8 * j + r) := by
  induction l generalizing j with
  | nil => simp at hj
  | cons b q ih =>
    have hb := hl b (by simp)
    have h2 : 2 ^ r < 2 ^ 8 := Nat.pow_lt_pow_right (by omega) hr
    cases j with
    | zero =>
      simp only [List.set_cons_zero, List.getElem_cons_zero]
      rw [le_cons _ _ (Nat.xor_lt_two_pow (n := 8) hb h2), le_cons _ _ hb]
      simp only [Nat.mul_zero, Nat.zero_add]
      ac_rfl
    | succ j =>
      have hj' : j < q.length := by simpa using hj
      simp only [List.set_cons_succ, List.getElem_cons_succ]
      rw [le_cons _ _ hb, le_cons _ _ hb, ih (fun x hx => hl x (by simp [hx])) j hj', mul_xor, ← Nat.pow_add,
        show 8 * j + r + 8 = 8 * (j + 1) + r by omega]
      ac_rfl

/-! The nibbles. -/
def nib : List Nat := [0, 498536548, 997073096, 651767980, 1994146192, 1802195444, 1303535960, 1342533948, 3988292384, 4027552580, 3604390888, 3412177804, 2607071920, 2262029012, 2685067896, 3183342108]

set_option maxRecDepth 100000 in
theorem nib_eq : ∀ n < 16, stepN 4 n = nib.getD n 0 := by decide

set_option maxRecDepth 100000 in
theorem nib_step (c : Nat) : (c / 16) ^^^ nib.getD (c % 16) 0 = stepN 4 c := by
  have h := add_xor (c % 16) (c / 16) 4 (by omega)
  have hc : c % 16 + c / 16 * 2 ^ 4 = c := by omega
  rw [hc] at h
  rw [← nib_eq _ (by omega)]
  conv => rhs; rw [h, stepN_xor, stepN_shift]
  exact Nat.xor_comm _ _

set_option maxRecDepth 100000 in
theorem byte_nib (c b : Nat) : byte c b = (let x := c ^^^ b; let y := (x / 16) ^^^ nib.getD (x % 16) 0; (y / 16) ^^^ nib.getD (y % 16) 0) := by
  simp only [nib_step]
  unfold byte
  rw [show (8 : Nat) = 4 + 4 by rfl, stepN_add]

/-! Bit by bit. -/
def bitStep (c b k : Nat) : Nat := if (c ^^^ b / 2 ^ k) % 2 = 1 then (c / 2) ^^^ poly else c / 2
def bits (c b : Nat) : Nat → Nat
  | 0 => c
  | k + 1 => bitStep (bits c b k) b k

set_option maxRecDepth 100000 in
theorem bits_inv (c b k : Nat) : bits c b k ^^^ (b / 2 ^ k) = stepN k (c ^^^ b) := by
  induction k with
  | zero => simp [bits, stepN]
  | succ k ih =>
    rw [stepN_add, ← ih]
    simp only [bits, bitStep, stepN]
    unfold step
    rw [Nat.xor_div_two, Nat.div_div_eq_div_mul, ← Nat.pow_succ]
    split <;> ac_rfl

set_option maxRecDepth 100000 in
theorem byte_bits (c b : Nat) (hb : b < 256) : byte c b = bits c b 8 := by
  have h := bits_inv c b 8
  rw [show b / 2 ^ 8 = 0 by omega, Nat.xor_zero] at h
  exact h.symm

end Drawbar.Crc
namespace Go.Proofs.YtkapnpcolmhdbaaDoor
open Go.RowKit
open Drawbar

/-- The slice value v reads as these bytes in w. -/
def Rd (w : World) (a : Option Addr) (l : List Nat) : Prop :=
  (∀ x ∈ l, x < 256) ∧ l.length ≤ 140737488351232 ∧ (0 < l.length → ∃ b off, a = some ⟨b, off, none⟩ ∧ ∀ i, i < l.length → w.cell? ⟨b, off + i, none⟩ = some (.int .u8 (l.getD i 0 : Nat)))

def Tab (w : World) : Prop := ∀ i, i < 16 → w.cell? ⟨0, i, none⟩ = some (.int .u32 (Crc.nib.getD i 0 : Nat))

set_option maxRecDepth 100000 in
theorem getD_mem (l : List Nat) (k : Nat) (h : k < l.length) : l.getD k 0 ∈ l := by
  rw [List.getD_eq_getElem?_getD, List.getElem?_eq_getElem h]; exact List.getElem_mem h
set_option maxRecDepth 100000 in
theorem take_getD (l : List Nat) (k : Nat) (h : k < l.length) : l.take (k + 1) = l.take k ++ [l.getD k 0] := by
  rw [List.take_succ_eq_append_getElem h, List.getD_eq_getElem?_getD, List.getElem?_eq_getElem h]; rfl
set_option maxRecDepth 100000 in
theorem ret_int {k : IntKind} {a b : Int} (h : a = b) : Ending.returned (.int k a) = .returned (.int k b) := by rw [h]
set_option maxRecDepth 100000 in
theorem u32_not (x : Nat) (h : x < 2 ^ 32) : bits .xor .u32 IntKind.u32.max (x : Int) = ((x ^^^ Crc.full : Nat) : Int) := by
  rw [show (IntKind.u32.max : Int) = ((4294967295 : Nat) : Int) by decide, u32_xor_nat _ _ (by omega) (by omega), Nat.xor_comm]; rfl
set_option maxRecDepth 100000 in
/-- One nibble. -/
theorem nib_go (x : Nat) (h : x < 2 ^ 32) : bits .and .u32 (x : Int) 15 = ((x % 16 : Nat) : Int) ∧ bits .xor .u32 ((x : Int) / 16) ((Crc.nib.getD (x % 16) 0 : Nat) : Int) = ((Crc.stepN 4 x : Nat) : Int) ∧ Crc.stepN 4 x < 2 ^ 32 := by
  refine ⟨?_, ?_, Crc.stepN_lt 4 h⟩
  · rw [u32_and _ _ (by omega) (by omega) (by omega) (by omega)]; simp [nat_mask4]
  · have hn : Crc.nib.getD (x % 16) 0 < 4294967296 := by
      rw [← Crc.nib_eq _ (by omega)]; exact Crc.stepN_lt 4 (by omega)
    rw [show (x : Int) / 16 = ((x / 16 : Nat) : Int) by omega, u32_xor_nat _ _ (by omega) hn, Crc.nib_step]

set_option maxRecDepth 100000 in
theorem sum_any (l : List Nat) (a : Option Addr) (cap : Nat) (w : World) (hr : Rd w a l) (hT : Tab w) :
    Calls Tryd.prog 77 #[.slice a l.length cap] w fun e w' => e = .returned (.int .u32 (Crc.sum l : Nat)) ∧ w = w' := by
  obtain ⟨hl, hlen, hc⟩ := hr
  go_enter Tryd.func77, Tryd.ntmps77
  go_wp2
  go_loop [3, 8] (fun c i => ∃ k : Nat, k ≤ l.length ∧ i = .int .i64 k ∧ c = .int .u32 (Crc.crc Crc.full (l.take k) : Nat)) (fun _ i => l.length - (intOf i).toNat)
  case atStart => exact ⟨0, Nat.zero_le _, rfl, rfl⟩
  case round =>
    obtain ⟨k, hk, rfl, rfl⟩ := hrel
    by_cases hlt : k < l.length
    · obtain ⟨b, off, rfl, hcell⟩ := hc (by omega)
      have h1 := hcell k hlt
      have hb : l.getD k 0 < 256 := hl _ (getD_mem l k hlt)
      have hc0 : Crc.crc Crc.full (l.take k) < 2 ^ 32 := Crc.crc_lt _ (fun x hx => hl x (List.mem_of_mem_take hx)) (by unfold Crc.full; omega)
      have hfin : Crc.crc Crc.full (l.take (k + 1)) = Crc.stepN 4 (Crc.stepN 4 (Crc.crc Crc.full (l.take k) ^^^ l.getD k 0)) := by
        rw [take_getD l k hlt, Crc.crc_append, ← Crc.stepN_add]; rfl
      clear hcell hc
      generalize l.getD k 0 = b0 at h1 hb hfin
      generalize Crc.crc Crc.full (l.take k) = c0 at hc0 hfin
      have hx := u32_xor_nat c0 b0 (by omega) (by omega)
      have hx0 : c0 ^^^ b0 < 2 ^ 32 := Nat.xor_lt_two_pow hc0 (by omega)
      generalize c0 ^^^ b0 = x at hx hx0 hfin
      obtain ⟨ha, hy, hy0⟩ := nib_go x hx0
      generalize Crc.stepN 4 x = y at hy hy0 hfin
      obtain ⟨hb2, hz, hz0⟩ := nib_go y hy0
      generalize Crc.stepN 4 y = z at hz hz0 hfin
      have ht := hT (x % 16) (by omega)
      have ht2 := hT (y % 16) (by omega)
      generalize Crc.nib.getD (x % 16) 0 = n1 at ht hy
      generalize Crc.nib.getD (y % 16) 0 = n2 at ht2 hz
      have HF := Lib.hid hfin
      clear hfin
      go_wp2
      go_round
      case rel => exact ⟨k + 1, by omega, by go_num, by rw [HF.out]⟩
      case measure => simp [intOf]; omega
    · have hkl : k = l.length := by omega
      clear hc hT
      have H := Lib.hid hkl
      clear hkl
      have hc0 : Crc.crc Crc.full (l.take k) < 2 ^ 32 := Crc.crc_lt _ (fun x hx => hl x (List.mem_of_mem_take hx)) (by unfold Crc.full; omega)

      go_wp2
      go_ret
      exact ⟨ret_int (by rw [u32_not _ hc0, H.out, List.take_length]; rfl), rfl⟩
end Go.Proofs.YtkapnpcolmhdbaaDoor
namespace Drawbar
open Go Go.RowKit

/-- The cells behind an address that may be none. -/
def At (w : World) (ao : Option Addr) (xs : List Value) : Prop := ∀ b, ao = some b → ∀ j u, xs[j]? = some u → w.cell? (b.add j) = some u

set_option maxRecDepth 100000 in
theorem ownsRow_base {w : World} {base base' : Nat} {e : TypeId} {size : Nat} {v : Value} {n : Nat} {xs : List Value} (h : w.ownsRow base e size v n xs) (hb : base' ≤ base) : w.ownsRow base' e size v n xs :=
  ⟨h.1, h.2.imp id fun ⟨g, cap, cur, h1, h2, h3⟩ => ⟨g, cap, cur, h1, Nat.le_trans hb h2, h3⟩⟩

/-- A slice onto which is appended: a row of the call's own, or one without spare room. -/
def Tail (w : World) (base : Nat) (e : TypeId) (size : Nat) (v : Value) (n : Nat) (xs : List Value) : Prop :=
  w.ownsRow base e size v n xs ∨ ∃ ao, v = .slice ao n n ∧ (ao = none → n = 0) ∧ xs.length = n * size ∧ At w ao xs

set_option maxRecDepth 100000 in
theorem Tail.len {w : World} {base : Nat} {e : TypeId} {size : Nat} {v : Value} {n : Nat} {xs : List Value} (h : Tail w base e size v n xs) : xs.length = n * size := by
  rcases h with h | ⟨_, _, _, h, _⟩
  · exact h.1
  · exact h

set_option maxRecDepth 100000 in
theorem At.mono {w w' : World} {ao : Option Addr} {xs : List Value} (h : At w ao xs) (hw : ∀ p v, w.cell? p = some v → w'.cell? p = some v) : At w' ao xs :=
  fun b hb j u hj => hw _ _ (h b hb j u hj)

set_option maxRecDepth 100000 in
theorem cell_alloc {w : World} {p : Addr} {v : Value} (o : Obj) (h : w.cell? p = some v) : (w.alloc o).cell? p = some v :=
  (World.cell?_of_block (Below.heap_alloc w o p.block (World.block_lt_of_cell? w p h))).trans h

set_option maxRecDepth 100000 in
theorem At.alloc {w : World} {ao : Option Addr} {xs : List Value} (h : At w ao xs) (o : Obj) : At (w.alloc o) ao xs := h.mono fun _ _ => cell_alloc o

set_option maxRecDepth 100000 in
theorem Tail.alloc {w : World} {base : Nat} {e : TypeId} {size : Nat} {v : Value} {n : Nat} {xs : List Value} (h : Tail w base e size v n xs) (o : Obj) : Tail (w.alloc o) base e size v n xs :=
  h.imp (fun h => h.alloc o) fun ⟨ao, h1, h2, h3, h4⟩ => ⟨ao, h1, h2, h3, h4.alloc o⟩

set_option maxRecDepth 100000 in
theorem At.ofNil (w : World) (xs : List Value) : At w none xs := fun _ h => by cases h

set_option maxRecDepth 100000 in
/-- What a slice of literals lays. -/
theorem At.one (w : World) (x : Value) (t : TypeId) : At (w.alloc (.cells #[x] t)) (some ⟨w.heap.size, 0, none⟩) [x] := by
  intro b hb j u hj
  obtain rfl := Option.some.inj hb
  match j, hj with
  | 0, hj =>
    simp at hj; subst hj
    rw [Addr.add_lit]
    simp

section
variable {P : Program}
set_option maxRecDepth 100000 in
theorem run_append_tail (w : World) (base : Nat) (t ty e : TypeId) (i : TypeInfo) (z : Value) (size bytes : Nat) (ht : P.underlying t = some (.slice e)) (hi : P.info? e = some i) (hz : i.zero = some z)
    (hsize : i.size = size) (hby : i.bytes = bytes) (hzs : z.cells.size = size) (hsz : 0 < size)
    (v : Value) (n : Nat) (xs : List Value) (h : Tail w base e size v n xs)
    (xo : Option Addr) (m c : Nat) (hxo : xo = none → m = 0 ∧ c = 0) (news : List Value) (hl : news.length = m * size) (hnews : At w xo news) (h1 : ∀ u ∈ news, u.oneCell' = true)
    (h63 : n + m ≤ maxLen) (hbytes : (n + m) * bytes ≤ 140737488355328) (hbase : base ≤ w.heap.size) :
    ∃ v' w', (Builtin.append_ #[t, t] ty #[v, .slice xo m c]).run P w = .ok v' w' ∧ Tail w' base e size v' (n + m) (xs ++ news) ∧ (0 < m → w'.ownsRow base e size v' (n + m) (xs ++ news)) ∧ Below base w w' := by
  cases xo with
  | none =>
    obtain ⟨rfl, rfl⟩ := hxo rfl
    obtain rfl : news = [] := List.eq_nil_of_length_eq_zero (by simpa using hl)
    rw [List.append_nil, Nat.add_zero]
    rcases h with h | ⟨ao, rfl, h0, h1, h2⟩
    · exact ⟨v, w, run_append_owned_none w base t ty e i size ht hi v n xs h, .inl h, fun h => absurd h (Nat.lt_irrefl 0), Below.refl _ _⟩
    · refine ⟨.slice ao n n, w, ?_, .inr ⟨ao, rfl, h0, h1, h2⟩, fun h => absurd h (Nat.lt_irrefl 0), Below.refl _ _⟩
      cases ao <;> simp [Builtin.append_, run_underlying ht, Go.sizeOf, typeInfo, hi, Builtin.lenOf, Builtin.firstCells, storeCells]
  | some ad =>
    have hn' := hnews ad rfl
    rcases h with h | ⟨ao, rfl, h0, hx1, hx2⟩
    · obtain ⟨v', w', hr, g1, g2, _⟩ := run_append_own (P := P) w base t ty e i z size bytes ht hi hz hsize hby hzs hsz v n xs h ad m c news hl hn' h1 h63 hbytes hbase
      exact ⟨v', w', hr, .inl g1, fun _ => g1, (Below.refl _ _).grown g2 hbase fun k hk => (h.lt k hk).1⟩
    · by_cases hm : m = 0
      · subst hm
        obtain rfl : news = [] := List.eq_nil_of_length_eq_zero (by simpa using hl)
        rw [List.append_nil, Nat.add_zero]
        refine ⟨.slice ao n n, w, ?_, .inr ⟨ao, rfl, h0, hx1, hx2⟩, fun h => absurd h (Nat.lt_irrefl 0), Below.refl _ _⟩
        have hf := run_firstCells_some (P := P) w size 0 ad 0 c [] (by simp) (by simp)
        cases ao <;> simp [Builtin.append_, run_underlying ht, Go.sizeOf, typeInfo, hi, hsize, Builtin.lenOf, hf, storeCells]
      · cases ao with
        | some b =>
          obtain ⟨v', w', hr, g1, g2⟩ := run_append_arg_grows (P := P) w t ty e i z size bytes ht hi hz hsize hby hzs hsz b n n xs hx1 (hx2 b rfl) ad m c news hl hn' (by omega) h63 hbytes
          have g3 := ownsRow_base g1 hbase
          exact ⟨v', w', hr, .inl g3, fun _ => g3, (Below.refl _ _).grown g2 hbase fun k hk => by cases hk⟩
        | none =>
          obtain rfl := h0 rfl
          obtain rfl : xs = [] := List.eq_nil_of_length_eq_zero (by simpa using hx1)
          obtain ⟨v', w', hr, g1, g2, _⟩ := run_append_own (P := P) w base t ty e i z size bytes ht hi hz hsize hby hzs hsz (.slice none 0 0) 0 [] (World.ownsRow_nil w _ e size) ad m c news hl hn' h1 h63 hbytes hbase
          exact ⟨v', w', hr, .inl g1, fun _ => g1, (Below.refl _ _).grown g2 hbase fun k hk => by cases hk⟩

set_option maxRecDepth 100000 in
theorem wpList_append_tail {w : World} {ops : Array Oper} {rest : List Oper} {o : Oper} {a : Act} {Q : Exit → Act → World → Prop} (hgd : o.guard = none) (s x : Operand) (t : TypeId)
    (ho : o.op = .call { callee := .builtin .append, args := #[s, x], argTypes := #[t, t] })
    (base : Nat) (e : TypeId) (i : TypeInfo) (z : Value) (size bytes : Nat) (ht : P.underlying t = some (.slice e)) (hi : P.info? e = some i) (hz : i.zero = some z)
    (hsize : i.size = size) (hby : i.bytes = bytes) (hzs : z.cells.size = size) (hsz : 0 < size)
    (v : Value) (n : Nat) (xs : List Value) (hs : a.eval s = v) (h : Tail w base e size v n xs)
    (xo : Option Addr) (m c : Nat) (news : List Value) (hx : a.eval x = .slice xo m c) (hxo : xo = none → m = 0 ∧ c = 0) (hl : news.length = m * size) (hnews : At w xo news) (h1 : ∀ u ∈ news, u.oneCell' = true)
    (h63 : n + m ≤ maxLen) (hbytes : (n + m) * bytes ≤ 140737488355328) (hbase : base ≤ w.heap.size)
    (hK : ∀ v' w', Tail w' base e size v' (n + m) (xs ++ news) → (0 < m → w'.ownsRow base e size v' (n + m) (xs ++ news)) → Below base w w' → wpList P ops Q rest (a.put o.dst v') w') :
    wpList P ops Q (o :: rest) a w := by
  refine wpList_plain hgd fun K hK' => ?_
  obtain ⟨v', w', hrun, r1, r2, r3⟩ := run_append_tail (P := P) w base t o.type e i z size bytes ht hi hz hsize hby hzs hsz v n xs h xo m c hxo news hl hnews h1 h63 hbytes hbase
  unfold Oper.wp
  simp [execOp, ho, resolve, invoke, builtin, hs, hx, hrun, Result.andThen]
  exact hK' _ _ (hK v' w' r1 r2 r3)
end
end Drawbar
namespace Go.Proofs.YtkapnpcolmhdbaaDoor
open Go.RowKit
open Drawbar

def bv (x : Nat) : Value := .int .u8 (x : Int)
def put (n size : Nat) : List Nat := (List.range size).map fun i => n / 2 ^ (8 * i) % 256

/-- A new row that holds these bytes; what was there stands. -/
def NewBytes (w : World) (l : List Nat) (e : Ending) (w' : World) : Prop :=
  ∃ v, e = .returned v ∧ w'.ownsRow w.heap.size 5 1 v l.length (l.map bv) ∧ Below w.heap.size w w'

set_option maxRecDepth 100000 in
theorem info_u8 : (Tryd.prog.info? 5).map (fun i => (i.zero, i.size, i.bytes)) = some (some (.int .u8 0), 1, 1) := by kernel_rfl

set_option maxRecDepth 100000 in
theorem apart_any (a : Option Addr) (n cap : Nat) (w : World) (_hn : n ≤ 140737488351232) (_hcap : n ≤ cap) :
    Calls Tryd.prog 76 #[.slice a n cap] w fun e w' => e = .returned (.slice a n n) ∧ w = w' := by
  go_enter Tryd.func76, Tryd.ntmps76
  go_wp2
  go_ret
  exact ⟨rfl, rfl⟩

set_option maxRecDepth 100000 in
theorem put_length (n k : Nat) : (put n k).length = k := by simp [put]
set_option maxRecDepth 100000 in
theorem put_succ (n k : Nat) : put n (k + 1) = put n k ++ [n / 2 ^ (8 * k) % 256] := by simp [put, List.range_succ]
set_option maxRecDepth 100000 in
theorem put_lt (n k : Nat) : ∀ x ∈ put n k, x < 256 := by
  intro x hx; unfold put at hx; obtain ⟨i, _, rfl⟩ := List.mem_map.1 hx; omega
set_option maxRecDepth 100000 in
theorem bv_one (l : List Nat) : ∀ u ∈ l.map bv, u.oneCell' = true := by
  intro u hu; obtain ⟨x, _, rfl⟩ := List.mem_map.1 hu; rfl

set_option maxRecDepth 100000 in
theorem Rd.at {w : World} {a : Option Addr} {l : List Nat} (h : Rd w a l) : At w a (l.map bv) := by
  intro b hb j u hj
  obtain ⟨hl, hlen, hc⟩ := h
  have hjl : j < l.length := by have := (List.getElem?_eq_some_iff.1 hj).1; simpa using this
  obtain ⟨b', off, ha, hcell⟩ := hc (by omega)
  rw [ha] at hb
  obtain rfl := Option.some.inj hb
  rw [Addr.add_lit, hcell j hjl]
  rw [List.getElem?_map, List.getElem?_eq_getElem hjl] at hj
  rw [← hj, List.getD_eq_getElem?_getD, List.getElem?_eq_getElem hjl]; rfl

set_option maxRecDepth 100000 in
theorem Rd.ofNil {w : World} {a : Option Addr} {l : List Nat} (h : Rd w a l) (ha : a = none) : l.length = 0 := by
  obtain ⟨_, _, hc⟩ := h
  rcases Nat.eq_zero_or_pos l.length with h0 | h0
  · exact h0
  · obtain ⟨b, off, e, _⟩ := hc h0
    rw [ha] at e; cases e

set_option maxRecDepth 100000 in
theorem Rd.tail {w : World} {a : Option Addr} {l : List Nat} (h : Rd w a l) (base : Nat) : Tail w base 5 1 (.slice a l.length l.length) l.length (l.map bv) :=
  .inr ⟨a, rfl, h.ofNil, by simp, h.at⟩

set_option maxRecDepth 100000 in
theorem put_any (l : List Nat) (a : Option Addr) (cap n size : Nat) (w : World) (hr : Rd w a l) (hcap : l.length ≤ cap) (hs1 : 1 ≤ size) (hs8 : size ≤ 8) :
    Calls Tryd.prog 51 #[.slice a l.length cap, .int .u64 n, .int .i64 size] w (NewBytes w (l ++ put n size)) := by
  obtain ⟨i0, hi, hz0, hz1, hz2⟩ := info_parts info_u8
  have htail := hr.tail w.heap.size
  have hlen := hr.2.1
  clear hr
  go_enter Tryd.func51, Tryd.ntmps51
  go_wp2_with (go_at_call 76; refine (apart_any _ _ _ _ hlen hcap).mono ?_; rintro e w' ⟨rfl, rfl⟩)
  go_loopw [0, 12] (fun v i wr => ∃ k : Nat, k ≤ size ∧ i = .int .i64 k ∧ Below w.heap.size w wr ∧
      Tail wr w.heap.size 5 1 v (l.length + k) ((l ++ put n k).map bv) ∧ (0 < k → wr.ownsRow w.heap.size 5 1 v (l.length + k) ((l ++ put n k).map bv))) (fun _ i _ => size - (intOf i).toNat)
  case atStart => exact ⟨0, Nat.zero_le _, rfl, Below.refl _ _, by simpa [put] using htail, fun h => absurd h (Nat.lt_irrefl 0)⟩
  case round =>
    obtain ⟨k, hk, rfl, hbel, ht, hown⟩ := hrel
    by_cases hlt : k < size
    · have hsz := hbel.size
      go_wp2_with (at_builtin; refine wpList_append_tail rfl _ _ 42 rfl w.heap.size 5 i0 (.int .u8 0) 1 1 Tryd.underlying42 hi hz0 hz1 hz2 rfl (by decide) _ _ _ rfl (ht.alloc _) _ 1 1 [_] rfl (by simp) rfl (At.one _ _ _) ?c1 ?c2 ?c3 ?c4 ?_)
      case c1 => intro u hu; simp at hu; subst hu; rfl
      case c2 => unfold maxLen; omega
      case c3 => omega
      case c4 => simp; omega
      intro v' w' h1 h2 h3
      go_wp2
      go_roundw
      case rel =>
        have hX : List.map bv l ++ (List.map bv (put n k) ++ [Value.int IntKind.u8 ((n : Int) / 2 ^ (8 * k) % 256)]) = List.map bv (l ++ put n (k + 1)) := by
          rw [put_succ]; simp [bv]
        rw [hX] at h1 h2
        exact ⟨k + 1, by omega, by go_num, hbel.trans (((Below.refl _ _).alloc hsz _).trans h3), h1, fun _ => h2⟩
      case measure => simp [intOf]; omega
    · obtain rfl : k = size := by omega
      have hown' := hown (by omega)
      clear hown ht
      go_wp2
      go_ret
      exact ⟨_, rfl, by simpa [put_length] using hown', hbel⟩
end Go.Proofs.YtkapnpcolmhdbaaDoor
namespace Go.Proofs.YtkapnpcolmhdbaaDoor
open Go.RowKit
open Drawbar

set_option maxRecDepth 100000 in
theorem le_take (l : List Nat) (k : Nat) (hk : k < l.length) : Crc.le (l.take (k + 1)) = Crc.le (l.take k) + l.getD k 0 * 2 ^ (8 * k) := by
  rw [take_getD l k hk, Crc.le_append, List.length_take, Nat.min_eq_left (by omega)]
  simp only [Crc.le]; rw [Nat.mul_comm]; simp
set_option maxRecDepth 100000 in
theorem le_take_lt (l : List Nat) (k : Nat) (hl : ∀ x ∈ l, x < 256) : Crc.le (l.take k) < 2 ^ (8 * k) := by
  refine Nat.lt_of_lt_of_le (Crc.le_lt _ fun x hx => hl x (List.mem_of_mem_take hx)) (Nat.pow_le_pow_right (by omega) ?_)
  rw [List.length_take]; omega

set_option maxRecDepth 100000 in
theorem or_step (c b k : Nat) (hc : c < 2 ^ (8 * k)) (hb : b < 256) (hk : k < 8) : bits .or .u64 (c : Int) (IntKind.u64.wrap ((b : Int) * 2 ^ (8 * k))) = ((c + b * 2 ^ (8 * k) : Nat) : Int) := by
  have h1 : 2 ^ (8 * k) ≤ 2 ^ 56 := Nat.pow_le_pow_right (by omega) (by omega)
  have h2 : b * 2 ^ (8 * k) < 2 ^ 64 := by
    have := Nat.mul_le_mul (show b ≤ 255 by omega) h1; omega
  have e : ((b : Int) * 2 ^ (8 * k)) = ((b * 2 ^ (8 * k) : Nat) : Int) := by simp
  rw [e]
  have hw : IntKind.u64.wrap ((b * 2 ^ (8 * k) : Nat) : Int) = ((b * 2 ^ (8 * k) : Nat) : Int) := by
    rw [IntKind.wrap_u64]; omega
  rw [hw, u64_or_nat _ _ (by omega) (by omega), Nat.or_comm, nat_join (8 * k) _ _ (by simp) hc, Nat.add_comm]

set_option maxRecDepth 100000 in
theorem get_any (l : List Nat) (a : Option Addr) (cap : Nat) (w : World) (hr : Rd w a l) :
    Calls Tryd.prog 90 #[.slice a l.length cap] w fun e w' => e = .returned (.int .u64 (Crc.le (l.take 8) : Nat)) ∧ w = w' := by
  obtain ⟨hl, hlen, hc⟩ := hr
  go_enter Tryd.func90, Tryd.ntmps90
  go_wp2
  all_goals
    go_loop [3, 8] (fun c i => ∃ k : Nat, k ≤ l.length ∧ k ≤ 8 ∧ i = .int .i64 k ∧ c = .int .u64 (Crc.le (l.take k) : Nat)) (fun _ i => 8 - (intOf i).toNat)
    case atStart => exact ⟨0, Nat.zero_le _, Nat.zero_le _, rfl, rfl⟩
    case round =>
      obtain ⟨k, hk, hk8, rfl, rfl⟩ := hrel
      by_cases hlt : k < l.length ∧ k < 8
      · obtain ⟨hlt, hlt8⟩ := hlt
        obtain ⟨b, off, rfl, hcell⟩ := hc (by omega)
        have h1 := hcell k hlt
        have hb : l.getD k 0 < 256 := hl _ (getD_mem l k hlt)
        have HF := Lib.hid (le_take l k hlt)
        have hc0 := le_take_lt l k hl
        clear hcell hc
        generalize l.getD k 0 = b0 at h1 hb HF
        generalize Crc.le (l.take k) = c0 at HF hc0
        have hor := or_step c0 b0 k hc0 hb hlt8
        clear hc0
        have HO := Lib.hid hor
        clear hor
        go_wp2
        go_round
        case rel => exact ⟨k + 1, by omega, by omega, by go_num, by rw [HF.out, HO.out]⟩
        case measure => simp [intOf]; omega
      · have HK : Hid (l.take k = l.take 8) := Lib.hid (by
          rcases Nat.lt_or_ge k 8 with h | h
          · rw [List.take_of_length_le (by omega), List.take_of_length_le (by omega)]
          · rw [show k = 8 by omega])
        clear hc
        go_wp2
        go_ret
        exact ⟨ret_int (by rw [HK.out]), rfl⟩
end Go.Proofs.YtkapnpcolmhdbaaDoor
namespace Go.Proofs.YtkapnpcolmhdbaaDoor
open Go.RowKit
open Drawbar

set_option maxRecDepth 100000 in
/-- What a row of bytes reads as. -/
theorem rd_of_own {w : World} {base : Nat} {v : Value} {n : Nat} {l : List Nat} (h : w.ownsRow base 5 1 v n (l.map bv)) (hl : ∀ x ∈ l, x < 256) (hn : l.length ≤ 140737488351232) :
    ∃ a cap, v = .slice a l.length cap ∧ l.length ≤ cap ∧ Rd w a l ∧ n = l.length ∧ ∀ k, a = some k → base ≤ k.block ∧ k.block < w.heap.size := by
  have hlt := h.lt
  have hlen : l.length = n := by simpa using h.1
  subst hlen
  rcases h.2 with ⟨rfl, h0⟩ | ⟨g, cap, cur, rfl, h1, h2, h3, h4, h5, h6⟩
  · exact ⟨none, 0, by rw [h0], by omega, ⟨hl, hn, fun h => by omega⟩, rfl, fun _ h => by cases h⟩
  · refine ⟨some ⟨g, 0, none⟩, cap, rfl, h3, ⟨hl, hn, fun _ => ⟨g, 0, rfl, fun i hi => ?_⟩⟩, rfl, fun k hk => ?_⟩
    · have := h.cells (g := g) rfl i (bv (l.getD i 0)) (by
        rw [List.getElem?_map, List.getElem?_eq_getElem hi, List.getD_eq_getElem?_getD, List.getElem?_eq_getElem hi]; rfl)
      rw [Addr.add_lit] at this
      exact this
    · cases hk; exact hlt g rfl

set_option maxRecDepth 100000 in
theorem Tab.below {w w' : World} {B : Nat} (h : Tab w) (hb : Below B w w') (hB : 0 < B) : Tab w' := fun i hi => by
  rw [hb.cell hB]; exact h i hi
set_option maxRecDepth 100000 in
theorem Tab.pos {w : World} (h : Tab w) : 0 < w.heap.size := World.block_lt_of_cell? w _ (h 0 (by decide))
set_option maxRecDepth 100000 in
theorem Tab.alloc {w : World} (h : Tab w) (o : Obj) : Tab (w.alloc o) := fun i hi => cell_alloc o (h i hi)

def Yes (w : World) (e : Ending) (w' : World) : Prop := e = .returned (.bool true) ∧ Below w.heap.size w w'

def digits9 : List Nat := [49, 50, 51, 52, 53, 54, 55, 56, 57]
set_option maxRecDepth 100000 in
theorem sum9 : Crc.sum digits9 = 3421780262 := by decide +kernel
set_option maxRecDepth 100000 in
theorem put300 : put 300 2 = [44, 1] := by decide

/-- Bytes as a string. -/
def strOf (l : List Nat) : ByteArray := ⟨(l.map UInt8.ofNat).toArray⟩
set_option maxRecDepth 100000 in
theorem push_fold (l : List Nat) (s : ByteArray) : (l.map Int.ofNat).foldl (fun r n => r.push (UInt8.ofNat n.toNat)) s = ⟨s.data ++ (l.map UInt8.ofNat).toArray⟩ := by
  induction l generalizing s with
  | nil => simp
  | cons x r ih =>
    simp only [List.map_cons, List.foldl_cons]
    rw [ih]
    congr 1
    show s.data.push _ ++ _ = _
    apply Array.ext'
    simp

set_option maxRecDepth 100000 in
theorem conv_str (w : World) (a : Option Addr) (l : List Nat) (cap : Nat) (h : Rd w a l) : (convert 42 9 (.slice a l.length cap)).run Tryd.prog w = .ok (.string (strOf l)) w := by
  rw [run_convert_bytes_string w 42 9 5 a l.length cap Tryd.underlying42 Tryd.underlying5 Tryd.underlying9]
  cases a with
  | none =>
    obtain rfl : l = [] := List.eq_nil_of_length_eq_zero (h.ofNil rfl)
    simp [Conv.bytesToString, strOf]; rfl
  | some ad =>
    have hl : (loadCells ad l.length).run Tryd.prog w = .ok ((l.map Int.ofNat).map (Value.int .u8)).toArray w := by
      have := run_firstCells_some (P := Tryd.prog) w 1 l.length ad l.length cap (l.map bv) (by simp) (h.at ad rfl)
      simp only [Builtin.firstCells, Nat.mul_one] at this
      rw [this]; congr 2; simp [bv]
    rw [run_bytesToString w ad l.length cap (l.map Int.ofNat) hl, push_fold]
    congr 2
    simp [strOf]

set_option maxRecDepth 100000 in
theorem sum9_call (w : World) (hT : Tab w) :
    Calls Tryd.prog 77 #[.slice (some ⟨w.heap.size, 0, none⟩) 9 9] (w.alloc (.cells #[.int .u8 49, .int .u8 50, .int .u8 51, .int .u8 52, .int .u8 53, .int .u8 54, .int .u8 55, .int .u8 56, .int .u8 57] 5 (9, 10)))
      fun e w' => e = .returned (.int .u32 3421780262) ∧ (w.alloc (.cells #[.int .u8 49, .int .u8 50, .int .u8 51, .int .u8 52, .int .u8 53, .int .u8 54, .int .u8 55, .int .u8 56, .int .u8 57] 5 (9, 10))) = w' := by
  have hr : Rd (w.alloc (.cells (digits9.map bv).toArray 5 (9, 10))) (some ⟨w.heap.size, 0, none⟩) digits9 := by
    refine ⟨by decide, by decide, fun _ => ⟨_, _, rfl, fun i hi => ?_⟩⟩
    rw [World.cell?_alloc_mark, Nat.zero_add, List.getElem?_toArray, List.getElem?_map, List.getElem?_eq_getElem hi, List.getD_eq_getElem?_getD, List.getElem?_eq_getElem hi]
    rfl
  have h := sum_any digits9 (some ⟨w.heap.size, 0, none⟩) 9 _ hr (hT.alloc _)
  rw [sum9] at h
  exact h

set_option maxRecDepth 100000 in
theorem rd_nil (w : World) : Rd w none [] := ⟨by simp, by simp, fun h => absurd h (by simp)⟩

end Go.Proofs.YtkapnpcolmhdbaaDoor
namespace Go.Proofs.YtkapnpcolmhdbaaDoor
open Go.RowKit
open Drawbar

set_option maxRecDepth 100000 in
theorem Rd.take {w : World} {a : Option Addr} {l : List Nat} (h : Rd w a l) (c : Nat) : Rd w a (l.take c) := by
  obtain ⟨hl, hlen, hc⟩ := h
  refine ⟨fun x hx => hl x (List.mem_of_mem_take hx), by rw [List.length_take]; omega, fun h0 => ?_⟩
  rw [List.length_take] at h0
  obtain ⟨b, off, rfl, hcell⟩ := hc (by omega)
  refine ⟨b, off, rfl, fun i hi => ?_⟩
  rw [List.length_take] at hi
  rw [hcell i (by omega), List.getD_eq_getElem?_getD, List.getD_eq_getElem?_getD, List.getElem?_take_of_lt (by omega)]

set_option maxRecDepth 100000 in
theorem Rd.drop {w : World} {b off : Nat} {l : List Nat} (h : Rd w (some ⟨b, off, none⟩) l) (c : Nat) : Rd w (some ⟨b, off + c, none⟩) (l.drop c) := by
  obtain ⟨hl, hlen, hc⟩ := h
  refine ⟨fun x hx => hl x (List.mem_of_mem_drop hx), by rw [List.length_drop]; omega, fun h0 => ?_⟩
  rw [List.length_drop] at h0
  obtain ⟨b', off', e, hcell⟩ := hc (by omega)
  cases e
  refine ⟨b, off + c, rfl, fun i hi => ?_⟩
  rw [List.length_drop] at hi
  rw [Nat.add_assoc, hcell (c + i) (by omega), List.getD_eq_getElem?_getD, List.getD_eq_getElem?_getD, List.getElem?_drop]

set_option maxRecDepth 100000 in
theorem rd_empty (w : World) (a : Option Addr) : Rd w a [] := ⟨by simp, by simp, fun h => absurd h (by simp)⟩

set_option maxRecDepth 100000 in
/-- A row that isn't empty, opened. -/
theorem rd_of_own' {w : World} {base : Nat} {v : Value} {n : Nat} {l : List Nat} (h : w.ownsRow base 5 1 v n (l.map bv)) (hl : ∀ x ∈ l, x < 256) (hn : l.length ≤ 140737488351232) (h0 : 0 < l.length) :
    ∃ g cap, v = .slice (some ⟨g, 0, none⟩) l.length cap ∧ l.length ≤ cap ∧ Rd w (some ⟨g, 0, none⟩) l ∧ base ≤ g ∧ g < w.heap.size := by
  obtain ⟨a, cap, rfl, h1, h2, _, h3⟩ := rd_of_own h hl hn
  rcases h.2 with ⟨e, _⟩ | ⟨g, cap', cur, e, _⟩
  · simp at e; omega
  · simp only [Value.slice.injEq] at e
    obtain ⟨rfl, _, rfl⟩ := e
    exact ⟨g, cap, rfl, h1, h2, h3 _ rfl⟩

end Go.Proofs.YtkapnpcolmhdbaaDoor
namespace Go.Proofs.YtkapnpcolmhdbaaDoor
open Go.RowKit
open Drawbar

set_option maxRecDepth 100000 in
theorem bad_nil (w : World) : Calls Tryd.prog 96 #[.pointer none] w fun e w' => e = .returned (.bool true) ∧ w = w' := by
  go_enter Tryd.func96, Tryd.ntmps96
  go_wp2
  go_ret
  exact ⟨rfl, rfl⟩

set_option maxRecDepth 100000 in
theorem next_nil (n m : Int) (w : World) : Calls Tryd.prog 95 #[.pointer none, .int .i64 n, .int .i64 m] w fun e w' => e = .returned (.slice none 0 0) ∧ w = w' := by
  go_enter Tryd.func95, Tryd.ntmps95
  go_wp2_with (go_at_call 96; refine (bad_nil _).mono ?_; rintro e w' ⟨rfl, rfl⟩)
  go_ret
  exact ⟨rfl, rfl⟩

set_option maxRecDepth 100000 in
theorem get_nil (w : World) : Calls Tryd.prog 90 #[.slice none 0 0] w fun e w' => e = .returned (.int .u64 0) ∧ w = w' := get_any [] none 0 w (rd_nil w)

set_option maxRecDepth 100000 in
theorem num_nil (n : Int) (m : Nat) (w : World) : Calls Tryd.prog 92 #[.pointer none, .int .i64 n, .int .u64 m] w fun e w' => e = .returned (.int .u64 0) ∧ w = w' := by
  have hm : ¬ (m : Int) < 0 := by omega
  go_enter Tryd.func92, Tryd.ntmps92
  go_wp2_with fail
  refine (next_nil _ _ _).mono ?_
  rintro e w' ⟨rfl, rfl⟩
  go_wp2_with fail
  refine (get_nil _).mono ?_
  rintro e w' ⟨rfl, rfl⟩
  go_wp2
  go_ret
  exact ⟨rfl, rfl⟩

/-- New memory that reads as these bytes, or none. -/
def BytesAre (w : World) (l : List Nat) (e : Ending) (w' : World) : Prop :=
  ∃ a cap, e = .returned (.slice a l.length cap) ∧ l.length ≤ cap ∧ Rd w' a l ∧ Below w.heap.size w w'

set_option maxRecDepth 100000 in
theorem clone_nil (w : World) : Calls Tryd.prog 46 #[.slice none 0 0] w fun e w' => e = .returned (.slice none 0 0) ∧ w = w' := by
  have he := Lib.run_eql_slice_nil (P := Tryd.prog) w 42 5 none 0 0 0 0 Tryd.underlying42
  go_enter Tryd.func46, Tryd.ntmps46
  go_wp2
  go_ret
  exact ⟨rfl, rfl⟩

set_option maxRecDepth 100000 in
theorem clone_any (l : List Nat) (a : Option Addr) (cap : Nat) (w : World) (hr : Rd w a l) (hnil : a = none → cap = 0) : Calls Tryd.prog 46 #[.slice a l.length cap] w (BytesAre w l) := by
  cases a with
  | none =>
    obtain rfl : l = [] := List.eq_nil_of_length_eq_zero (hr.ofNil rfl)
    rw [hnil rfl]
    exact (clone_nil w).mono fun e w' ⟨he, hw⟩ => ⟨none, 0, he, by simp, hw ▸ rd_nil w, hw ▸ Below.refl _ _⟩
  | some ad =>
    obtain ⟨i0, hi, hz0, hz1, hz2⟩ := info_parts info_u8
    have he := Lib.run_eql_slice_nil (P := Tryd.prog) w 42 5 (some ad) l.length cap 0 0 Tryd.underlying42
    have hat := hr.at
    have hlen := hr.2.1
    have hll := hr.1
    clear hr hnil
    go_enter Tryd.func46, Tryd.ntmps46
    go_wp2_with (at_builtin; refine wpList_append_tail rfl _ _ 42 rfl w.heap.size 5 i0 (.int .u8 0) 1 1 Tryd.underlying42 hi hz0 hz1 hz2 rfl (by decide) _ 0 [] rfl (.inr ⟨_, rfl, by simp, by simp, fun _ _ _ _ h => by simp at h⟩) (some ad) l.length cap (l.map bv) rfl (by simp) (by simp) (hat.alloc _) (bv_one l) ?c2 ?c3 ?c4 ?_)
    case c2 => unfold maxLen; omega
    case c3 => omega
    case c4 => simp
    intro v' w' h1 h2 h3
    have hB : Below w.heap.size w w' := ((Below.refl _ _).alloc (Nat.le_refl _) _).trans h3
    have hv : ∃ a cap, v' = .slice a l.length cap ∧ l.length ≤ cap ∧ Rd w' a l := by
      rcases Nat.eq_zero_or_pos l.length with h0 | h0
      · obtain rfl : l = [] := List.eq_nil_of_length_eq_zero h0
        rcases h1 with h1 | ⟨ao, e, _⟩
        · obtain ⟨a, c, rfl, hc, hrd, _⟩ := rd_of_own (l := []) (by simpa using h1) (by simp) (by simp)
          exact ⟨a, c, rfl, hc, hrd⟩
        · exact ⟨ao, 0, by simpa using e, by simp, rd_empty _ _⟩
      · obtain ⟨a, c, rfl, hc, hrd, _⟩ := rd_of_own (h2 h0) (by simpa using hll) (by simpa using hlen)
        exact ⟨a, c, by simp, by simpa using hc, by simpa using hrd⟩
    obtain ⟨a', c', rfl, hc', hrd'⟩ := hv
    clear h1 h2 h3
    go_wp2
    go_ret
    exact ⟨a', c', rfl, hc', hrd', hB⟩

set_option maxRecDepth 100000 in
theorem bytes_nil (m : Int) (w : World) : Calls Tryd.prog 93 #[.pointer none, .int .i64 m] w fun e w' => e = .returned (.slice none 0 0) ∧ w = w' := by
  go_enter Tryd.func93, Tryd.ntmps93
  go_wp2_with fail
  refine (num_nil 2 65535 _).mono ?_
  rintro e w' ⟨rfl, rfl⟩
  go_wp2_with fail
  refine (next_nil _ _ _).mono ?_
  rintro e w' ⟨rfl, rfl⟩
  go_wp2_with fail
  refine (clone_nil _).mono ?_
  rintro e w' ⟨rfl, rfl⟩
  go_wp2
  go_ret
  exact ⟨rfl, rfl⟩

end Go.Proofs.YtkapnpcolmhdbaaDoor
namespace Go.Proofs.YtkapnpcolmhdbaaDoor
open Go.RowKit
open Drawbar

set_option maxRecDepth 100000 in
theorem quiet_same {P : Program} {f : FuncId} {args : Array Value} {w : World} {n : Nat} {v : Value}
    (h : Calls P f args (w.drewN n) fun e w' => e = .returned v ∧ w.drewN n = w') : Calls P f args (w.drewN n) fun e w'' => e = .returned v ∧ ∃ m, w'' = w.drewN m :=
  h.mono fun _ _ ⟨he, hm⟩ => ⟨he, n, hm.symm⟩
set_option maxRecDepth 100000 in
theorem Rd.drewN {w : World} {a : Option Addr} {l : List Nat} (h : Rd w a l) (n : Nat) : Rd (w.drewN n) a l := h
set_option maxRecDepth 100000 in
theorem Tab.drewN {w : World} (h : Tab w) (n : Nat) : Tab (w.drewN n) := h

set_option maxRecDepth 100000 in
theorem seal_any (l : List Nat) (a : Option Addr) (cap : Nat) (w : World) (hr : Rd w a l) (hcap : l.length ≤ cap) (hT : Tab w) :
    Calls Tryd.prog 53 #[.slice a l.length cap] w (NewBytes w (l ++ put (Crc.sum l) 4)) := by
  have hs := Crc.sum_lt l hr.1
  go_enter Tryd.func53, Tryd.ntmps53
  go_wp2_with fail
  refine (sum_any l a cap w hr hT).mono ?_
  rintro e w' ⟨rfl, rfl⟩
  go_wp2_with fail
  refine (put_any l a cap (Crc.sum l) 4 w hr hcap (by decide) (by decide)).mono ?_
  rintro e w' ⟨v, rfl, hown, hb⟩
  go_wp2
  go_ret
  exact ⟨v, rfl, hown, hb⟩

/-- Sealed bytes: the last four are the sum of the others. -/
def valid (l : List Nat) : Prop := 4 ≤ l.length ∧ Crc.le (l.drop (l.length - 4)) = Crc.sum (l.take (l.length - 4))

/-- What Open answers. -/
def Opens (w : World) (l : List Nat) (e : Ending) (w' : World) : Prop :=
  Below w.heap.size w w' ∧
  ((l.length < 4 ∧ e = .returned (.tuple #[.slice none 0 0, .int .i64 3])) ∨ (4 ≤ l.length ∧ ¬ valid l ∧ e = .returned (.tuple #[.slice none 0 0, .int .i64 4])) ∨
   (valid l ∧ ∃ a cap, e = .returned (.tuple #[.slice a (l.length - 4) cap, .int .i64 0]) ∧ l.length - 4 ≤ cap ∧ Rd w' a (l.take (l.length - 4))))

set_option maxRecDepth 100000 in
theorem open_short (l : List Nat) (a : Option Addr) (cap : Nat) (w : World) (h : l.length < 4) :
    Calls Tryd.prog 85 #[.slice a l.length cap] w (Opens w l) := by
  go_enter Tryd.func85, Tryd.ntmps85
  go_wp2
  go_ret2
  exact ⟨Below.refl _ _, .inl ⟨h, rfl⟩⟩

set_option maxRecDepth 100000 in
theorem open_any (l : List Nat) (a : Option Addr) (cap : Nat) (w : World) (hr : Rd w a l) (hcap : l.length ≤ cap) (hT : Tab w) :
    Calls Tryd.prog 85 #[.slice a l.length cap] w (Opens w l) := by
  rcases Nat.lt_or_ge l.length 4 with h | h
  · exact open_short l a cap w h
  obtain ⟨n, hn⟩ : ∃ n, l.length = n + 4 := ⟨l.length - 4, by omega⟩
  have hlen := hr.2.1
  obtain ⟨b, off, rfl, -⟩ := hr.2.2 (by omega)
  have hsum := fun nq => sum_any (l.take n) (some ⟨b, off, none⟩) cap (w.drewN nq) (hr.take n) hT
  have hget := fun nq => get_any (l.drop n) (some ⟨b, off + n, none⟩) (cap - n) (w.drewN nq) (hr.drop n)
  have hclone := fun nq => clone_any (l.take n) (some ⟨b, off, none⟩) cap (w.drewN nq) (hr.take n) (by simp)
  simp only [List.take_of_length_le (i := 8) (l := l.drop n) (by rw [List.length_drop]; omega), List.length_drop, show l.length - n = 4 by omega] at hget
  simp only [List.length_take, show min n l.length = n by omega] at hsum hclone
  have hle : Crc.le (l.drop n) < 2 ^ 32 := by
    have := Crc.le_lt (l.drop n) (fun x hx => hr.1 x (List.mem_of_mem_drop hx))
    rw [List.length_drop, show 8 * (l.length - n) = 32 by omega] at this; exact this
  have hss : Crc.sum (l.take n) < 2 ^ 32 := Crc.sum_lt _ (fun x hx => hr.1 x (List.mem_of_mem_take hx))
  have hval : valid l ↔ Crc.le (l.drop n) = Crc.sum (l.take n) := by
    unfold valid
    rw [show l.length - 4 = n by omega]
    exact ⟨fun h => h.2, fun h' => ⟨h, h'⟩⟩
  have hfin : ∀ nq e w', BytesAre (w.drewN nq) (l.take n) e w' → ∃ a cap, e = .returned (.slice a n cap) ∧ n ≤ cap ∧ Rd w' a (l.take (l.length - 4)) ∧ Below w.heap.size w w' := by
    intro nq e w' ⟨a, c, he, hc, hrd, hb⟩
    rw [List.length_take, show min n l.length = n by omega] at he hc
    exact ⟨a, c, he, hc, by rw [show l.length - 4 = n by omega]; exact hrd, (below_drewN (Below.refl _ w) nq).trans hb⟩
  generalize Crc.le (l.drop n) = x at hget hle hval
  generalize Crc.sum (l.take n) = y at hsum hss hval
  have HG := Lib.hid hget
  have HS := Lib.hid hsum
  have HC := Lib.hid hclone
  have HF := Lib.hid hfin
  have HV := Lib.hid hval
  have HN := Lib.hid hn
  clear hget hsum hclone hfin hval hr
  rw [hn] at hcap hlen ⊢
  clear hn
  go_enter Tryd.func85, Tryd.ntmps85
  by_cases hxy : x = y
  · have hb : ((x : Int) != (y : Int)) = false := by simp [hxy]
    have HX := Lib.hid hxy
    clear hxy
    go_wp2_with fail
    go_quiet ((first | (go_at_call 90; exact quiet_same (HG.out _)) | (go_at_call 77; exact quiet_same (HS.out _))))
    go_wp2_with fail
    refine (HC.out _).mono ?_
    intro e w' hb
    obtain ⟨a, c, rfl, hc, hrd, hbel⟩ := HF.out _ _ _ hb
    clear hb HG HS HC HF
    go_wp2
    go_ret2
    exact ⟨hbel, .inr (.inr ⟨HV.out.2 HX.out, a, c, by rw [HN.out]; rfl, by rw [HN.out]; exact hc, hrd⟩)⟩
  · have hb : ((x : Int) != (y : Int)) = true := by simp; omega
    have HX := Lib.hid hxy
    clear hxy
    go_wp2_with fail
    go_quiet ((first | (go_at_call 90; exact quiet_same (HG.out _)) | (go_at_call 77; exact quiet_same (HS.out _))))
    clear HG HS HC HF
    go_wp2
    go_ret2
    exact ⟨below_drewN (Below.refl _ w) nq, .inr (.inl ⟨h, fun hv => HX.out (HV.out.1 hv), rfl⟩)⟩
end Go.Proofs.YtkapnpcolmhdbaaDoor
namespace Go.Proofs.YtkapnpcolmhdbaaDoor
open Go.RowKit
open Drawbar

set_option maxRecDepth 100000 in
theorem le_put (n k : Nat) : Crc.le (put n k) = n % 2 ^ (8 * k) := by
  induction k with
  | zero => simp [put, Crc.le, Nat.mod_one]
  | succ k ih =>
    rw [put_succ, Crc.le_append, ih, put_length]
    simp only [Crc.le]
    rw [show 8 * (k + 1) = 8 * k + 8 by omega, Nat.pow_add, Nat.mod_mul]
    simp

set_option maxRecDepth 100000 in
theorem valid_seal (l : List Nat) (hl : ∀ x ∈ l, x < 256) : valid (l ++ put (Crc.sum l) 4) := by
  refine ⟨by rw [List.length_append, put_length]; omega, ?_⟩
  rw [List.length_append, put_length, Nat.add_sub_cancel, List.drop_left, List.take_left, le_put]
  exact Nat.mod_eq_of_lt (Crc.sum_lt l hl)

set_option maxRecDepth 100000 in
theorem valid_step (l : List Nat) (hl : ∀ x ∈ l, x < 256) (h4 : 4 ≤ l.length) :
    valid l ↔ Crc.stepN (8 * l.length) (Crc.full ^^^ Crc.le l) = Crc.stepN 32 Crc.full := by
  have h := Crc.valid_iff (l.take (l.length - 4)) (l.drop (l.length - 4)) (fun x hx => hl x (List.mem_of_mem_take hx)) (fun x hx => hl x (List.mem_of_mem_drop hx)) (by rw [List.length_drop]; omega)
  rw [List.take_append_drop] at h
  rw [← h]
  exact ⟨fun h => h.2, fun h' => ⟨h4, h'⟩⟩

set_option maxRecDepth 100000 in
theorem valid_turn (l l' : List Nat) (hl : ∀ x ∈ l, x < 256) (hl' : ∀ x ∈ l', x < 256) (hlen : l'.length = l.length) (h4 : 4 ≤ l.length) (w k : Nat) (hw : w < 2 ^ 32) (hk : k ≤ 8 * l.length)
    (hle : Crc.le l' = Crc.le l ^^^ (w * 2 ^ k)) (hv : valid l) (hv' : valid l') : w = 0 := by
  rw [valid_step l hl h4] at hv
  rw [valid_step l' hl' (by omega), hlen] at hv'
  exact Crc.burst _ _ _ w k hw hk hle hv hv'

set_option maxRecDepth 100000 in
theorem set_lt (l : List Nat) (hl : ∀ x ∈ l, x < 256) (j x : Nat) (hx : x < 256) : ∀ y ∈ l.set j x, y < 256 := by
  intro y hy
  rcases List.mem_or_eq_of_mem_set hy with h | rfl
  · exact hl y h
  · exact hx

set_option maxRecDepth 100000 in
theorem Rd.set {w : World} {g off : Nat} {l : List Nat} (h : Rd w (some ⟨g, off, none⟩) l) (j x : Nat) (hj : j < l.length) (hx : x < 256) :
    Rd (w.setCell ⟨g, off + j, none⟩ (.int .u8 (x : Int))) (some ⟨g, off, none⟩) (l.set j x) := by
  obtain ⟨hl, hlen, hc⟩ := h
  obtain ⟨b, o, e, hcell⟩ := hc (by omega)
  cases e
  refine ⟨set_lt l hl j x hx, by simpa using hlen, fun _ => ⟨g, off, rfl, fun i hi => ?_⟩⟩
  rw [List.length_set] at hi
  by_cases hij : i = j
  · subst hij
    rw [World.cell?_setCell_same _ _ _ (hcell i hi)]
    simp [hi]
  · rw [World.cell?_setCell_other _ _ _ _ (by intro e; have := congrArg Addr.off e; simp at this; omega), hcell i hi]
    rw [List.getD_eq_getElem?_getD, List.getD_eq_getElem?_getD, List.getElem?_set_ne (by omega)]
end Go.Proofs.YtkapnpcolmhdbaaDoor
namespace Go.Proofs.YtkapnpcolmhdbaaDoor
open Go.RowKit
open Drawbar

set_option maxRecDepth 100000 in
theorem Rd.below {w w' : World} {a : Option Addr} {l : List Nat} (h : Rd w a l) (hb : Below w.heap.size w w') : Rd w' a l := by
  obtain ⟨hl, hlen, hc⟩ := h
  refine ⟨hl, hlen, fun h0 => ?_⟩
  obtain ⟨b, off, rfl, hcell⟩ := hc h0
  exact ⟨b, off, rfl, fun i hi => by rw [hb.cell (p := ⟨b, off + i, none⟩) (World.block_lt_of_cell? w _ (hcell i hi))]; exact hcell i hi⟩

end Go.Proofs.YtkapnpcolmhdbaaDoor
