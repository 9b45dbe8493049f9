/- Sealed bytes of which bits were turned that stand within 32 are none: by the plain mathematics of the sum. -/
import Derived.Test.YtopmljbemogcoaaDoorOpen
namespace Go.Proofs.YtopmljbemogcoaaDoor
open Go.RowKit
open Drawbar

theorem le_put (n k : Nat) : Crc.le (put n k) = n % 2 ^ (8 * k) := by
  induction k with
  | zero => simp [put, Crc.le, Nat.mod_one]
  | succ k ih =>
    rw [put_succ, Crc.le_append, ih, put_length]
    simp only [Crc.le]
    rw [show 8 * (k + 1) = 8 * k + 8 by omega, Nat.pow_add, Nat.mod_mul]
    simp

theorem valid_seal (l : List Nat) (hl : ∀ x ∈ l, x < 256) : valid (l ++ put (Crc.sum l) 4) := by
  refine ⟨by rw [List.length_append, put_length]; omega, ?_⟩
  rw [List.length_append, put_length, Nat.add_sub_cancel, List.drop_left, List.take_left, le_put]
  exact Nat.mod_eq_of_lt (Crc.sum_lt l hl)

theorem valid_step (l : List Nat) (hl : ∀ x ∈ l, x < 256) (h4 : 4 ≤ l.length) :
    valid l ↔ Crc.stepN (8 * l.length) (Crc.full ^^^ Crc.le l) = Crc.stepN 32 Crc.full := by
  have h := Crc.valid_iff (l.take (l.length - 4)) (l.drop (l.length - 4)) (fun x hx => hl x (List.mem_of_mem_take hx)) (fun x hx => hl x (List.mem_of_mem_drop hx)) (by rw [List.length_drop]; omega)
  rw [List.take_append_drop] at h
  rw [← h]
  exact ⟨fun h => h.2, fun h' => ⟨h4, h'⟩⟩

theorem valid_turn (l l' : List Nat) (hl : ∀ x ∈ l, x < 256) (hl' : ∀ x ∈ l', x < 256) (hlen : l'.length = l.length) (h4 : 4 ≤ l.length) (w k : Nat) (hw : w < 2 ^ 32) (hk : k ≤ 8 * l.length)
    (hle : Crc.le l' = Crc.le l ^^^ (w * 2 ^ k)) (hv : valid l) (hv' : valid l') : w = 0 := by
  rw [valid_step l hl h4] at hv
  rw [valid_step l' hl' (by omega), hlen] at hv'
  exact Crc.burst _ _ _ w k hw hk hle hv hv'

theorem set_lt (l : List Nat) (hl : ∀ x ∈ l, x < 256) (j x : Nat) (hx : x < 256) : ∀ y ∈ l.set j x, y < 256 := by
  intro y hy
  rcases List.mem_or_eq_of_mem_set hy with h | rfl
  · exact hl y h
  · exact hx

theorem Rd.set {w : World} {g off : Nat} {l : List Nat} (h : Rd w (some ⟨g, off, none⟩) l) (j x : Nat) (hj : j < l.length) (hx : x < 256) :
    Rd (w.setCell ⟨g, off + j, none⟩ (.int .u8 (x : Int))) (some ⟨g, off, none⟩) (l.set j x) := by
  obtain ⟨hl, hlen, hc⟩ := h
  obtain ⟨b, o, e, hcell⟩ := hc (by omega)
  cases e
  refine ⟨set_lt l hl j x hx, by simpa using hlen, fun _ => ⟨g, off, rfl, fun i hi => ?_⟩⟩
  rw [List.length_set] at hi
  by_cases hij : i = j
  · subst hij
    rw [World.cell?_setCell_same _ _ _ (hcell i hi)]
    simp [hi]
  · rw [World.cell?_setCell_other _ _ _ _ (by intro e; have := congrArg Addr.off e; simp at this; omega), hcell i hi]
    rw [List.getD_eq_getElem?_getD, List.getD_eq_getElem?_getD, List.getElem?_set_ne (by omega)]
end Go.Proofs.YtopmljbemogcoaaDoor
