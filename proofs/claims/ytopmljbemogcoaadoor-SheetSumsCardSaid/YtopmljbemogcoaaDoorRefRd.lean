/- The contracts of the document's reader (drawbarref01.Reader): it reads what octet's reader reads. -/
import Derived.Test.YtopmljbemogcoaaDoorEnds
import Derived.BigQuiet
import Derived.Test.YtopmljbemogcoaaDoorOpen
namespace Go.Proofs.YtopmljbemogcoaaDoor
open Go.RowKit
open Drawbar

/-- The document's Get: the number of at most eight bytes. -/
theorem refget_any (l : List Nat) (a : Option Addr) (cap : Nat) (w : World) (hr : Rd w a l) (h8 : l.length ≤ 8) :
    Calls Tryd.prog 31 #[.slice a l.length cap] w fun e w' => e = .returned (.int .u64 (Crc.le l : Nat)) ∧ w = w' := by
  obtain ⟨hl, hlen, hc⟩ := hr
  go_enter Tryd.func31, Tryd.ntmps31
  go_wp2
  go_loop [3, 4] (fun c i => ∃ k : Nat, k ≤ l.length ∧ i = .int .i64 ((k : Int) - 1) ∧ c = .int .u64 (Crc.le (l.drop k) : Nat)) (fun _ i => (intOf i + 1).toNat)
  case atStart => exact ⟨l.length, Nat.le_refl _, rfl, by simp [Crc.le]⟩
  case round =>
    obtain ⟨k, hk, rfl, rfl⟩ := hrel
    by_cases hlt : 0 < k
    · obtain ⟨b, off, rfl, hcell⟩ := hc (by omega)
      obtain ⟨j, rfl⟩ : ∃ j, k = j + 1 := ⟨k - 1, by omega⟩
      have h1 := hcell j (by omega)
      have hb : l.getD j 0 < 256 := hl _ (getD_mem l j (by omega))
      have hfin : Crc.le (l.drop j) = l.getD j 0 + 256 * Crc.le (l.drop (j + 1)) := by
        rw [List.drop_eq_getElem_cons (by omega : j < l.length)]
        simp only [Crc.le]
        rw [List.getD_eq_getElem?_getD, List.getElem?_eq_getElem (by omega)]; rfl
      have hlt2 : Crc.le (l.drop j) < 2 ^ 64 := by
        have := Crc.le_lt (l.drop j) (fun x hx => hl x (List.mem_of_mem_drop hx))
        exact Nat.lt_of_lt_of_le this (Nat.pow_le_pow_right (by omega) (by rw [List.length_drop]; omega))
      have HF := Lib.hid hfin
      clear hcell hc
      rw [hfin] at hlt2
      clear hfin
      generalize l.getD j 0 = b0 at h1 hb HF hlt2
      generalize Crc.le (l.drop (j + 1)) = c0 at HF hlt2
      go_wp2
      go_round
      case rel => exact ⟨j, by omega, by simp, by rw [HF.out]; simp; omega⟩
      case measure => simp [intOf]
    · obtain rfl : k = 0 := by omega
      clear hc
      go_wp2
      go_ret
      exact ⟨rfl, rfl⟩

/-- How the two readers stand to one another. -/
def Sync (l rest : List Nat) (bad : Bool) (at' : Int) : Prop :=
  (bad = false ∧ ∃ k : Nat, at' = k ∧ k ≤ l.length ∧ rest = l.drop k) ∨ (bad = true ∧ at' = -1)

theorem nm_bad (l : List Nat) (n : Int) (m : Nat) : nm l true n m = (0, l, true) := by
  have h1 : nx l true n 8 = ([], l, true) := by unfold nx; rw [if_pos (.inl rfl)]
  unfold nm; rw [h1]; dsimp only; rw [if_neg (by simp [Crc.le])]; simp [Crc.le]
theorem nm_few (l : List Nat) (n m : Nat) (h : l.length < n) : nm l false n m = (0, l, true) := by
  have h1 : nx l false n 8 = ([], l, true) := by unfold nx; rw [if_pos (by right; right; right; omega)]
  unfold nm; rw [h1]; dsimp only; rw [if_neg (by simp [Crc.le])]; simp [Crc.le]
theorem nm_ok (l : List Nat) (n m : Nat) (h : n ≤ l.length) (h8 : n ≤ 8) : nm l false n m = if m < Crc.le (l.take n) then (0, l.drop n, true) else (Crc.le (l.take n), l.drop n, false) := by
  have h1 : nx l false n 8 = (l.take n, l.drop n, false) := by
    unfold nx
    rw [if_neg (by simp only [Bool.false_eq_true, false_or]; omega)]; simp
  unfold nm; rw [h1]

theorem quiet_at {P : Program} {f : FuncId} {args : Array Value} {w : World} {q n : Nat} {v : Value}
    (h : Calls P f args (w.drewN (q + n)) fun e w' => e = .returned v ∧ w.drewN (q + n) = w') : Calls P f args (w.drewN (q + n)) fun e w'' => e = .returned v ∧ ∃ m, w'' = w.drewN (q + m) :=
  h.mono fun _ _ ⟨he, hm⟩ => ⟨he, n, hm.symm⟩

/-- Both ways to read a length, and the bytes behind it, come to the same. -/
theorem bts_eq (rest : List Nat) (bad : Bool) (most : Nat) (hl : ∀ x ∈ rest, x < 256) :
    bts rest bad most = if (nm rest bad 2 most).2.2 = true ∨ (nm rest bad 2 most).2.1.length < (nm rest bad 2 most).1 then ([], (nm rest bad 2 most).2.1, true)
      else ((nm rest bad 2 most).2.1.take (nm rest bad 2 most).1, (nm rest bad 2 most).2.1.drop (nm rest bad 2 most).1, false) := by
  cases bad with
  | true =>
    have h := nm_bad rest 2 most
    rw [h, bts_bad]; simp
  | false =>
    rcases Nat.lt_or_ge rest.length 2 with h | h
    · have h1 := nm_few rest 2 most h
      have h2 := nm_few rest 2 65535 h
      rw [show (((2 : Nat) : Int)) = 2 from rfl] at h1 h2
      unfold bts
      rw [h1, h2]
      dsimp only
      unfold nx
      rw [if_pos (.inl rfl), if_pos (.inl rfl)]
    · have h1 := nm_ok rest 2 most h (by decide)
      have h2 := nm_ok rest 2 65535 h (by decide)
      have hx : Crc.le (rest.take 2) < 65536 := by
        have := Crc.le_lt (rest.take 2) (fun x hx => hl x (List.mem_of_mem_take hx))
        exact Nat.lt_of_lt_of_le this (Nat.pow_le_pow_right (n := 2) (by omega) (show 8 * (rest.take 2).length ≤ 16 by rw [List.length_take]; omega))
      rw [show (((2 : Nat) : Int)) = 2 from rfl] at h1 h2
      rw [if_neg (by omega)] at h2
      unfold bts
      rw [h1, h2]
      dsimp only
      by_cases hb : most < Crc.le (rest.take 2)
      · rw [if_pos hb]
        unfold nx
        rw [if_pos (by right; right; left; omega), if_pos (.inl rfl)]
      · rw [if_neg hb]
        dsimp only
        unfold nx
        by_cases hc : (rest.drop 2).length < Crc.le (rest.take 2)
        · rw [if_pos (by right; right; right; omega), if_pos (.inr hc)]
        · rw [if_neg (by simp only [Bool.false_eq_true, false_or]; omega), if_neg (by simp only [Bool.false_eq_true, false_or]; exact hc)]
          simp
end Go.Proofs.YtopmljbemogcoaaDoor
