/- The walk of the law OctetOne: a single bit that is turned is told. -/
import Derived.Test.YtmadcbpeiibfaaaDoorBurst
import Derived.BigRegion
namespace Go.Proofs.YtmadcbpeiibfaaaDoor
open Go.RowKit
open Drawbar

theorem one_long (l : List Nat) (a : Option Addr) (cap at' : Nat) (w : World) (hT : Tab w) (h : 1000 < l.length) (hl : l.length ≤ 140737488351232) :
    Calls Tryd.prog 9 #[.slice a l.length cap, .int .u16 at'] w (Yes w) := by
  go_enter Tryd.func9, Tryd.ntmps9
  go_wp2_with fail
  refine (awake_any w hT).mono ?_
  rintro e w1 ⟨rfl, hb1⟩
  have hT1 := hT.below hb1 hT.pos
  go_wp2_with fail
  refine (awake_any w1 hT1).mono ?_
  rintro e w2 ⟨rfl, hb2⟩
  go_wp2
  go_ret
  exact ⟨rfl, hb1.trans (hb2.mono hb1.size)⟩

theorem Rd.below {w w' : World} {a : Option Addr} {l : List Nat} (h : Rd w a l) (hb : Below w.heap.size w w') : Rd w' a l := by
  obtain ⟨hl, hlen, hc⟩ := h
  refine ⟨hl, hlen, fun h0 => ?_⟩
  obtain ⟨b, off, rfl, hcell⟩ := hc h0
  exact ⟨b, off, rfl, fun i hi => by rw [hb.cell (p := ⟨b, off + i, none⟩) (World.block_lt_of_cell? w _ (hcell i hi))]; exact hcell i hi⟩

theorem one_short (l : List Nat) (a : Option Addr) (cap at' : Nat) (w : World) (hr : Rd w a l) (hcap : l.length ≤ cap) (hT : Tab w) (h : l.length ≤ 1000) (hat : at' < 65536) :
    Calls Tryd.prog 9 #[.slice a l.length cap, .int .u16 at'] w (Yes w) := by
  go_enter Tryd.func9, Tryd.ntmps9
  go_wp2_with fail
  refine (awake_any w hT).mono ?_
  rintro e w1 ⟨rfl, hb1⟩
  have hT1 := hT.below hb1 hT.pos
  have hr1 := hr.below hb1
  have hgt : ¬ (1000 < (l.length : Int)) := by omega
  go_wp2_with fail
  refine (seal_any l a cap w1 hr1 hcap hT1).mono ?_
  rintro e w2 ⟨v, rfl, hown, hb2⟩
  have hsl : ∀ x ∈ l ++ put (Crc.sum l) 4, x < 256 := fun x hx => (List.mem_append.1 hx).elim (hr.1 x) (put_lt _ _ x)
  have hsn : (l ++ put (Crc.sum l) 4).length = l.length + 4 := by rw [List.length_append, put_length]
  have hvalid := valid_seal l hr.1
  generalize l ++ put (Crc.sum l) 4 = s at hown hsl hsn hvalid
  obtain ⟨g, c2, rfl, hc2, hrd, hg, hg2⟩ := rd_of_own' (l := s) hown hsl (by omega) (by omega)
  have hfz := hown.frozenAt
  rw [hsn] at hc2 ⊢
  obtain ⟨k, hk, hkl⟩ : ∃ k : Nat, (at' : Int) % (8 * ((l.length : Int) + 4)) = k ∧ k < 8 * (l.length + 4) :=
    ⟨at' % (8 * (l.length + 4)), by simp, Nat.mod_lt _ (by omega)⟩
  obtain ⟨j, r, hj, hrm, hjl, hr8, hkr⟩ : ∃ j r : Nat, (k : Int) / 8 = j ∧ (k : Int) % 8 = r ∧ j < l.length + 4 ∧ r < 8 ∧ k = 8 * j + r := ⟨k / 8, k % 8, by omega, by omega, by omega, by omega, by omega⟩
  have hcell : w2.cell? ⟨g, j, none⟩ = some (.int .u8 (s.getD j 0 : Nat)) := by
    obtain ⟨b', o', e, h⟩ := hrd.2.2 (by omega)
    cases e
    have := h j (by omega)
    rwa [Nat.zero_add] at this
  have hf := hfz j
  have HK := Lib.hid hkr
  clear hkr
  have ht1 : (k : Int).tdiv 8 = (j : Int) := by rw [Int.tdiv_eq_ediv_of_nonneg (by omega)]; exact hj
  have ht2 : (k : Int).tmod 8 = (r : Int) := by rw [Int.tmod_eq_emod_of_nonneg (by omega)]; exact hrm
  have hwj : IntKind.i64.wrap (j : Int) = (j : Int) := IntWalk.i64_in _ (by omega)
  have hwr : IntKind.i64.wrap (r : Int) = (r : Int) := IntWalk.i64_in _ (by omega)
  have hj0 : (0 : Int) ≤ (j : Int) := by omega
  have hj1 : (j : Int) < (l.length : Int) + 4 := by omega
  have hr0 : (0 : Int) ≤ (r : Int) := by omega
  have hx0 : s.getD j 0 < 256 := hsl _ (getD_mem s j (by omega))
  have h2r : 2 ^ r < 256 := Nat.pow_lt_pow_right (a := 2) (m := r) (n := 8) (by omega) (by omega)
  have hxor : bits .xor .u8 ((s.getD j 0 : Nat) : Int) (2 ^ r % 256) = ((s.getD j 0 ^^^ 2 ^ r : Nat) : Int) := by
    rw [show ((2 : Int) ^ r % 256) = ((2 ^ r : Nat) : Int) by
      have h : ((2 ^ r : Nat) : Int) < 256 := by omega
      have h0 : (0 : Int) ≤ ((2 ^ r : Nat) : Int) := Int.natCast_nonneg _
      rw [← Int.emod_eq_of_lt h0 h]; simp]
    exact u8_xor_nat _ _ hx0 h2r
  have hy : s.getD j 0 ^^^ 2 ^ r < 256 := Nat.xor_lt_two_pow (n := 8) hx0 h2r
  have hset := hrd.set j (s.getD j 0 ^^^ 2 ^ r) (by omega) hy
  have hle : Crc.le (s.set j (s.getD j 0 ^^^ 2 ^ r)) = Crc.le s ^^^ (1 * 2 ^ k) := by
    have h := Crc.le_set s hsl j r (by omega) (by omega)
    rw [Nat.one_mul, HK.out, ← h]
    congr 2
    rw [List.getD_eq_getElem?_getD, List.getElem?_eq_getElem (by omega)]; rfl
  have hbad : ¬ valid (s.set j (s.getD j 0 ^^^ 2 ^ r)) := fun hv =>
    absurd (valid_turn s _ hsl (set_lt s hsl j _ hy) (by simp) (by omega) 1 k (by decide) (by omega) hle hvalid hv) (by decide)
  have hslen : (s.set j (s.getD j 0 ^^^ 2 ^ r)).length = l.length + 4 := by simp [hsn]
  rw [Nat.zero_add] at hset
  generalize s.set j (s.getD j 0 ^^^ 2 ^ r) = s' at hset hbad hslen hle
  generalize s.getD j 0 ^^^ 2 ^ r = y at hxor hset hy
  generalize s.getD j 0 = x0 at hcell hxor hx0
  have hT2 := hT1.below hb2 hT1.pos
  have hw3 : Below w1.heap.size w1 (w2.setCell ⟨g, j, none⟩ (.int .u8 (y : Int))) := hb2.setCell hg _
  have hopen := open_any s' (some ⟨g, 0, none⟩) c2 (w2.setCell ⟨g, j, none⟩ (.int .u8 (y : Int))).drew hset (by omega) ((hT1.below hw3 hT1.pos).drewN 1)
  rw [hslen] at hopen
  have hs4 : ¬ s'.length < 4 := by omega
  have HO := Lib.hid hopen
  clear hopen hset hle hslen hvalid hown hrd hfz hsl hx0 h2r
  go_wp2
  simp only [hk]
  clear hk
  go_region
  go_wp2_with fail
  refine HO.out.mono ?_
  rintro e w3 ⟨hb3, hcase⟩
  rcases hcase with ⟨h1, rfl⟩ | ⟨h1, h2, rfl⟩ | ⟨h1, _⟩
  · exact absurd h1 hs4
  · have hB : Below w.heap.size w w3 := (hb1.trans (hw3.mono hb1.size)).trans ((below_drewN (Below.refl _ _) 1).trans (hb3.mono (by have := hb1.size; have := hw3.size; simp at this ⊢; omega)))
    clear HO hb3 hw3 h1 h2
    go_wp2
    go_ret
    exact ⟨rfl, hB⟩
  · exact absurd h1 hbad
theorem one_any (l : List Nat) (a : Option Addr) (cap at' : Nat) (w : World) (hr : Rd w a l) (hcap : l.length ≤ cap) (hT : Tab w) (hat : at' < 65536) :
    Calls Tryd.prog 9 #[.slice a l.length cap, .int .u16 at'] w (Yes w) := by
  rcases Nat.lt_or_ge 1000 l.length with h | h
  · exact one_long l a cap at' w hT h hr.2.1
  · exact one_short l a cap at' w hr hcap hT h hat
end Go.Proofs.YtmadcbpeiibfaaaDoor
