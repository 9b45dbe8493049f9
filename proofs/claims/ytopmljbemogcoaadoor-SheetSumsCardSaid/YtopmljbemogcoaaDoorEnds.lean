/- The contract of Reader.Bytes, and the walk of the law OctetEnds. -/
import Derived.Test.YtopmljbemogcoaaDoorReader
import Derived.Deep.RegionWith
import Derived.Deep.RegionHeld3
namespace Go.Proofs.YtopmljbemogcoaaDoor
open Go.RowKit
open Drawbar

/-- What Bytes reads. -/
def bts (l : List Nat) (bad : Bool) (most : Int) : List Nat × List Nat × Bool :=
  nx (nm l bad 2 65535).2.1 (nm l bad 2 65535).2.2 (nm l bad 2 65535).1 most

def BtsPost (w : World) (g : Nat) (r : List Nat × List Nat × Bool) (e : Ending) (w' : World) : Prop :=
  ∃ a cap, e = .returned (.slice a r.1.length cap) ∧ r.1.length ≤ cap ∧ Rd w' a r.1 ∧ Rdr w' g r.2.1 r.2.2 ∧ w.grownBy w' (some g)

theorem Rdr.below {w w' : World} {g : Nat} {l : List Nat} {bad : Bool} (h : Rdr w g l bad) (hb : Below w.heap.size w w') : Rdr w' g l bad := by
  obtain ⟨a, cap, h1, h2, h3, h4, h5⟩ := h
  exact ⟨a, cap, (hb.block g (lt_of_block h1)).trans h1, h2, h3.below hb, h4, h5⟩

theorem nm_lt (l : List Nat) (bad : Bool) (n : Int) (most : Nat) (hl : ∀ x ∈ l, x < 256) (hn : n ≤ 2) : (nm l bad n most).1 < 65536 := by
  unfold nm
  dsimp only
  split
  · simp
  · have h := Crc.le_lt _ (nx_lt l bad n 8 hl)
    have h2 : (nx l bad n 8).1.length ≤ 2 := by
      unfold nx
      split
      · simp
      · rw [List.length_take]; omega
    exact Nat.lt_of_lt_of_le h (Nat.le_trans (Nat.pow_le_pow_right (by omega) (Nat.mul_le_mul_left 8 h2)) (by decide))

theorem rbytes_any (g : Nat) (l : List Nat) (bad : Bool) (most : Int) (w : World) (h : Rdr w g l bad) :
    Calls Tryd.prog 38 #[.pointer (some ⟨g, 0, none⟩), .int .i64 most] w (BtsPost w g (bts l bad most)) := by
  have hnum := num_any g l bad 2 65535 w h
  have hll : ∀ x ∈ l, x < 256 := by obtain ⟨_, _, _, _, hrd, _⟩ := h; exact hrd.1
  have hlt := nm_lt l bad 2 65535 hll (by omega)
  unfold bts
  clear hll h
  generalize nm l bad 2 65535 = r at hnum hlt
  obtain ⟨x, l1, b1⟩ := r
  dsimp only at hnum hlt ⊢
  have hnext := fun w1 hrr => next_any g l1 b1 x most w1 hrr
  generalize nx l1 b1 x most = r2 at hnext
  obtain ⟨q, l2, b2⟩ := r2
  have HN := Lib.hid hnum
  have HY := Lib.hid hnext
  clear hnum hnext
  go_enter Tryd.func38, Tryd.ntmps38
  go_wp2_with fail
  refine HN.out.mono ?_
  rintro e w1 ⟨rfl, hrr, hgr⟩
  dsimp only at hrr ⊢
  have HX := Lib.hid (HY.out w1 hrr)
  clear HN HY hrr
  go_wp2_with fail
  refine HX.out.mono ?_
  rintro e w2 ⟨a, cap, rfl, hcap, hnil, hrd, ha, hrr, hgr2⟩
  dsimp only at hcap hrd hrr ⊢
  have hcl := clone_any q a cap w2 hrd hnil
  have HC := Lib.hid hcl
  clear HX hcl hrd ha
  go_wp2_with fail
  refine HC.out.mono ?_
  rintro e w3 ⟨a3, c3, rfl, hc3, hrd3, hb3⟩
  have hfin : BtsPost w g (q, l2, b2) (.returned (.slice a3 q.length c3)) w3 :=
    ⟨a3, c3, rfl, hc3, hrd3, hrr.below hb3, grownBy_trans hgr (grownBy_trans hgr2 (Below.grownBy hb3 _))⟩
  clear HC hrr hgr hgr2 hb3 hrd3
  have HF := Lib.hid hfin
  clear hfin
  go_wp2
  go_ret
  exact HF.out

theorem nm_one (x : Nat) (r : List Nat) (hx : x < 256) : nm (x :: r) false 1 255 = (x, r, false) := by
  have h1 : nx (x :: r) false 1 8 = ([x], r, false) := by
    unfold nx
    rw [if_neg (by simp only [Bool.false_eq_true, false_or, List.length_cons]; omega)]
    rfl
  unfold nm
  rw [h1]
  dsimp only
  rw [if_neg (by simp [Crc.le]; omega)]
  simp [Crc.le]

theorem nm_empty (n : Nat) (m : Nat) (hn : 1 ≤ n) : nm [] false n m = (0, [], true) := by
  have h1 : nx [] false n 8 = ([], [], true) := by
    unfold nx
    rw [if_pos (by simp; omega)]
  unfold nm
  rw [h1]
  dsimp only
  rw [if_neg (by simp [Crc.le])]
  simp [Crc.le]
theorem bts_bad (l : List Nat) (m : Int) : bts l true m = ([], l, true) := by
  have h1 : ∀ (l : List Nat) (n m : Int), nx l true n m = ([], l, true) := fun l n m => by
    unfold nx
    rw [if_pos (.inl rfl)]
  unfold bts nm
  rw [h1]
  dsimp only
  rw [if_neg (by simp [Crc.le])]
  simp [h1]

end Go.Proofs.YtopmljbemogcoaaDoor
