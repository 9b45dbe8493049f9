/- The walk of the law SheetTorn. -/
import Derived.Test.YtcbgccmoeleanaaDoorBack
import Derived.BigRegion
namespace Drawbar.Sheet
open Go.Proofs.YtcbgccmoeleanaaDoor
/-- Bytes of which those from c on, up to i, are ff. -/
def torn (l : List Nat) (c i : Nat) : List Nat := l.take c ++ List.replicate (i - c) 255 ++ l.drop i
theorem torn_length (l : List Nat) (c i : Nat) (h1 : c ≤ i) (h2 : i ≤ l.length) : (torn l c i).length = l.length := by
  unfold torn
  rw [List.length_append, List.length_append, List.length_take, List.length_replicate, List.length_drop]
  omega
theorem torn_start (l : List Nat) (c : Nat) : torn l c c = l := by
  unfold torn
  rw [Nat.sub_self, List.replicate_zero, List.append_nil, List.take_append_drop]
theorem torn_set (l : List Nat) (c i : Nat) (h1 : c ≤ i) (h2 : i < l.length) : (torn l c i).set i 255 = torn l c (i + 1) := by
  unfold torn
  have hlen : (l.take c ++ List.replicate (i - c) 255).length = i := by rw [List.length_append, List.length_take, List.length_replicate]; omega
  rw [List.set_append_right _ _ (by omega), hlen, Nat.sub_self, List.drop_eq_getElem_cons h2, List.set_cons_zero, show i + 1 - c = (i - c) + 1 by omega, List.replicate_succ', ← List.append_assoc, List.append_assoc _ [255]]
  rfl
theorem torn_last (l : List Nat) (c : Nat) (h1 : c < 96) (h2 : l.length = 96) : (torn l c 96).getD 95 0 = 255 := by
  unfold torn
  have hlen : (l.take c).length = c := by rw [List.length_take]; omega
  rw [List.getD_eq_getElem?_getD, List.getElem?_append_left (by rw [List.length_append, List.length_replicate, hlen]; omega), List.getElem?_append_right (by omega), hlen, List.getElem?_replicate]
  rw [if_pos (by omega)]
  rfl
theorem read_torn (l : List Nat) (c : Nat) (h1 : c < 96) (h2 : l.length = 96) : readS (torn l c 96) = (zeroS, 3) := by
  unfold readS
  rw [if_neg (fun h => by rw [torn_last l c h1 h2] at h; exact absurd h.2 (by decide))]
theorem read_short (l : List Nat) (h : l.length ≠ 96) : readS l = (zeroS, 3) := by
  unfold readS
  rw [if_neg (fun h' => h h'.1)]
/-- One bit of a page turned: none. -/
theorem read_turned {s : Sh} (hf : fm s = true) (hd : ∀ x ∈ s.da, x < 256) (j r : Nat) (hj : j < 96) (hr : r < 8) : (readS ((page s).set j ((page s).getD j 0 ^^^ 2 ^ r))).2 ≠ 0 := by
  have hl := fm_len hf
  have hpl := page_length s hl
  have hpt := page_lt s hd
  unfold readS
  by_cases h95 : j = 95
  · subst h95
    rw [if_neg (fun h => ?_)]
    · decide
    · have h2 := h.2
      rw [page_last hl, List.getD_eq_getElem?_getD, List.getElem?_set_self (by omega)] at h2
      have h3 : (90 ^^^ 2 ^ r) = 90 := h2
      have : ∀ r, r < 8 → (90 ^^^ 2 ^ r) ≠ 90 := by decide
      exact this r hr h3
  · have h4 : ((page s).set j ((page s).getD j 0 ^^^ 2 ^ r)).take 95 = ((page s).take 95).set j (((page s).take 95).getD j 0 ^^^ 2 ^ r) := by
      rw [List.take_set]
      congr 2
      rw [List.getD_eq_getElem?_getD, List.getD_eq_getElem?_getD, List.getElem?_take_of_lt (by omega)]
    have hv := valid_sealed (body s) (body_lt s hd)
    rw [← page_take95 hl] at hv
    have hlen95 : ((page s).take 95).length = 95 := by rw [List.length_take]; omega
    have hlt95 : ∀ x ∈ (page s).take 95, x < 256 := fun x hx => hpt x (List.mem_of_mem_take hx)
    generalize (page s).take 95 = t at h4 hv hlen95 hlt95
    have hx0 : t.getD j 0 < 256 := hlt95 _ (getD_mem t j (by omega))
    have hy : t.getD j 0 ^^^ 2 ^ r < 256 := Nat.xor_lt_two_pow (n := 8) hx0 (Nat.pow_lt_pow_right (a := 2) (m := r) (n := 8) (by omega) (by omega))
    have hle : Crc.le (t.set j (t.getD j 0 ^^^ 2 ^ r)) = Crc.le t ^^^ (1 * 2 ^ (8 * j + r)) := by
      have h := Crc.le_set t hlt95 j r (by omega) hr
      rw [Nat.one_mul, ← h]
      congr 2
      rw [List.getD_eq_getElem?_getD, List.getElem?_eq_getElem (by omega)]; rfl
    have hbad : ¬ valid (t.set j (t.getD j 0 ^^^ 2 ^ r)) := fun hv' =>
      absurd (valid_turn t _ hlt95 (set_lt t hlt95 j _ hy) (by simp) (by omega) 1 (8 * j + r) (by decide) (by omega) hle hv hv') (by decide)
    rw [h4]
    by_cases hc : ((page s).set j ((page s).getD j 0 ^^^ 2 ^ r)).length = 96 ∧ ((page s).set j ((page s).getD j 0 ^^^ 2 ^ r)).getD 95 0 = 90
    · rw [if_pos hc, if_neg hbad]; decide
    · rw [if_neg hc]; decide
end Drawbar.Sheet
namespace Go.Proofs.YtcbgccmoeleanaaDoor
open Go.RowKit
open Drawbar Drawbar.Sheet

end Go.Proofs.YtcbgccmoeleanaaDoor
