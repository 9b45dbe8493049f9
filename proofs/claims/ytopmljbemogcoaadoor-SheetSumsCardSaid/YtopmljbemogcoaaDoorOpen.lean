/- The contracts of octet.Seal and octet.Open. -/
import Derived.Test.YtopmljbemogcoaaDoorNil
import Derived.Deep.QuietTactic
import Derived.BigQuiet
import Derived.WalkSmall
namespace Go.Proofs.YtopmljbemogcoaaDoor
open Go.RowKit
open Drawbar

theorem quiet_same {P : Program} {f : FuncId} {args : Array Value} {w : World} {n : Nat} {v : Value}
    (h : Calls P f args (w.drewN n) fun e w' => e = .returned v ∧ w.drewN n = w') : Calls P f args (w.drewN n) fun e w'' => e = .returned v ∧ ∃ m, w'' = w.drewN m :=
  h.mono fun _ _ ⟨he, hm⟩ => ⟨he, n, hm.symm⟩
theorem Rd.drewN {w : World} {a : Option Addr} {l : List Nat} (h : Rd w a l) (n : Nat) : Rd (w.drewN n) a l := h
theorem Tab.drewN {w : World} (h : Tab w) (n : Nat) : Tab (w.drewN n) := h

theorem seal_any (l : List Nat) (a : Option Addr) (cap : Nat) (w : World) (hr : Rd w a l) (hcap : l.length ≤ cap) (hT : Tab w) :
    Calls Tryd.prog 23 #[.slice a l.length cap] w (NewBytes w (l ++ put (Crc.sum l) 4)) := by
  have hs := Crc.sum_lt l hr.1
  go_enter Tryd.func23, Tryd.ntmps23
  go_wp2_with fail
  refine (sum_any l a cap w hr hT).mono ?_
  rintro e w' ⟨rfl, rfl⟩
  go_wp2_with fail
  refine (put_any l a cap (Crc.sum l) 4 w hr hcap (by decide) (by decide)).mono ?_
  rintro e w' ⟨v, rfl, hown, hb⟩
  go_wp2
  go_ret
  exact ⟨v, rfl, hown, hb⟩

/-- Sealed bytes: the last four are the sum of the others. -/
def valid (l : List Nat) : Prop := 4 ≤ l.length ∧ Crc.le (l.drop (l.length - 4)) = Crc.sum (l.take (l.length - 4))

/-- What Open answers. -/
def Opens (w : World) (l : List Nat) (e : Ending) (w' : World) : Prop :=
  Below w.heap.size w w' ∧
  ((l.length < 4 ∧ e = .returned (.tuple #[.slice none 0 0, .int .i64 3])) ∨ (4 ≤ l.length ∧ ¬ valid l ∧ e = .returned (.tuple #[.slice none 0 0, .int .i64 4])) ∨
   (valid l ∧ ∃ a cap, e = .returned (.tuple #[.slice a (l.length - 4) cap, .int .i64 0]) ∧ l.length - 4 ≤ cap ∧ Rd w' a (l.take (l.length - 4))))

theorem open_short (l : List Nat) (a : Option Addr) (cap : Nat) (w : World) (h : l.length < 4) :
    Calls Tryd.prog 24 #[.slice a l.length cap] w (Opens w l) := by
  go_enter Tryd.func24, Tryd.ntmps24
  go_wp2
  go_ret2
  exact ⟨Below.refl _ _, .inl ⟨h, rfl⟩⟩

theorem open_any (l : List Nat) (a : Option Addr) (cap : Nat) (w : World) (hr : Rd w a l) (hcap : l.length ≤ cap) (hT : Tab w) :
    Calls Tryd.prog 24 #[.slice a l.length cap] w (Opens w l) := by
  rcases Nat.lt_or_ge l.length 4 with h | h
  · exact open_short l a cap w h
  obtain ⟨n, hn⟩ : ∃ n, l.length = n + 4 := ⟨l.length - 4, by omega⟩
  have hlen := hr.2.1
  obtain ⟨b, off, rfl, -⟩ := hr.2.2 (by omega)
  have hsum := fun nq => sum_any (l.take n) (some ⟨b, off, none⟩) cap (w.drewN nq) (hr.take n) hT
  have hget := fun nq => get_any (l.drop n) (some ⟨b, off + n, none⟩) (cap - n) (w.drewN nq) (hr.drop n)
  have hclone := fun nq => clone_any (l.take n) (some ⟨b, off, none⟩) cap (w.drewN nq) (hr.take n) (by simp)
  simp only [List.take_of_length_le (i := 8) (l := l.drop n) (by rw [List.length_drop]; omega), List.length_drop, show l.length - n = 4 by omega] at hget
  simp only [List.length_take, show min n l.length = n by omega] at hsum hclone
  have hle : Crc.le (l.drop n) < 2 ^ 32 := by
    have := Crc.le_lt (l.drop n) (fun x hx => hr.1 x (List.mem_of_mem_drop hx))
    rw [List.length_drop, show 8 * (l.length - n) = 32 by omega] at this; exact this
  have hss : Crc.sum (l.take n) < 2 ^ 32 := Crc.sum_lt _ (fun x hx => hr.1 x (List.mem_of_mem_take hx))
  have hval : valid l ↔ Crc.le (l.drop n) = Crc.sum (l.take n) := by
    unfold valid
    rw [show l.length - 4 = n by omega]
    exact ⟨fun h => h.2, fun h' => ⟨h, h'⟩⟩
  have hfin : ∀ nq e w', BytesAre (w.drewN nq) (l.take n) e w' → ∃ a cap, e = .returned (.slice a n cap) ∧ n ≤ cap ∧ Rd w' a (l.take (l.length - 4)) ∧ Below w.heap.size w w' := by
    intro nq e w' ⟨a, c, he, hc, hrd, hb⟩
    rw [List.length_take, show min n l.length = n by omega] at he hc
    exact ⟨a, c, he, hc, by rw [show l.length - 4 = n by omega]; exact hrd, (below_drewN (Below.refl _ w) nq).trans hb⟩
  generalize Crc.le (l.drop n) = x at hget hle hval
  generalize Crc.sum (l.take n) = y at hsum hss hval
  have HG := Lib.hid hget
  have HS := Lib.hid hsum
  have HC := Lib.hid hclone
  have HF := Lib.hid hfin
  have HV := Lib.hid hval
  have HN := Lib.hid hn
  clear hget hsum hclone hfin hval hr
  rw [hn] at hcap hlen ⊢
  clear hn
  go_enter Tryd.func24, Tryd.ntmps24
  by_cases hxy : x = y
  · have hb : ((x : Int) != (y : Int)) = false := by simp [hxy]
    have HX := Lib.hid hxy
    clear hxy
    go_wp2_with fail
    go_quiet ((first | (go_at_call 34; exact quiet_same (HG.out _)) | (go_at_call 33; exact quiet_same (HS.out _))))
    go_wp2_with fail
    refine (HC.out _).mono ?_
    intro e w' hb
    obtain ⟨a, c, rfl, hc, hrd, hbel⟩ := HF.out _ _ _ hb
    clear hb HG HS HC HF
    go_wp2
    go_ret2
    exact ⟨hbel, .inr (.inr ⟨HV.out.2 HX.out, a, c, by rw [HN.out]; rfl, by rw [HN.out]; exact hc, hrd⟩)⟩
  · have hb : ((x : Int) != (y : Int)) = true := by simp; omega
    have HX := Lib.hid hxy
    clear hxy
    go_wp2_with fail
    go_quiet ((first | (go_at_call 34; exact quiet_same (HG.out _)) | (go_at_call 33; exact quiet_same (HS.out _))))
    clear HG HS HC HF
    go_wp2
    go_ret2
    exact ⟨below_drewN (Below.refl _ w) nq, .inr (.inl ⟨h, fun hv => HX.out (HV.out.1 hv), rfl⟩)⟩
end Go.Proofs.YtopmljbemogcoaaDoor
