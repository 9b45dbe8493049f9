/- The walk of the law OctetBursts: bits that are turned within 32 are told. -/
import Derived.Test.YtmadcbpeiibfaaaDoorOne
namespace Go.Proofs.YtmadcbpeiibfaaaDoor
open Go.RowKit
open Drawbar

theorem bursts_long (l : List Nat) (a : Option Addr) (cap at' pat : Nat) (w : World) (hT : Tab w) (h : 2000 < l.length) (hl : l.length ≤ 140737488351232) :
    Calls Tryd.prog 5 #[.slice a l.length cap, .int .u16 at', .int .u32 pat] w (Yes w) := by
  go_enter Tryd.func5, Tryd.ntmps5
  go_wp2_with fail
  refine (awake_any w hT).mono ?_
  rintro e w1 ⟨rfl, hb1⟩
  have hT1 := hT.below hb1 hT.pos
  go_wp2_with fail
  refine (awake_any w1 hT1).mono ?_
  rintro e w2 ⟨rfl, hb2⟩
  go_wp2
  go_ret
  exact ⟨rfl, hb1.trans (hb2.mono hb1.size)⟩

/-- What the rounds have made of the sealed bytes. -/
structure Turned (w : World) (g : Nat) (s : List Nat) (pat k i : Nat) (wr : World) (s' : List Nat) : Prop where
  rd : Rd wr (some ⟨g, 0, none⟩) s'
  len : s'.length = s.length
  le : Crc.le s' = Crc.le s ^^^ ((pat % 2 ^ i) * 2 ^ k)
  fz : ∀ j, wr.frozen? ⟨g, j, none⟩ = false
  below : Below w.heap.size w wr

/-- One bit more. -/
theorem turn_on {w wr : World} {g pat k i j r : Nat} {s s' : List Nat} (h : Turned w g s pat k i wr s') (hg : w.heap.size ≤ g) (hj : j < s.length) (hr : r < 8) (hk : k + i = 8 * j + r) (hbit : pat / 2 ^ i % 2 = 1) :
    Turned w g s pat k (i + 1) (wr.setCell ⟨g, j, none⟩ (.int .u8 ((s'.getD j 0 ^^^ 2 ^ r : Nat) : Int))).drew (s'.set j (s'.getD j 0 ^^^ 2 ^ r)) := by
  have hx0 : s'.getD j 0 < 256 := h.rd.1 _ (getD_mem s' j (by rw [h.len]; exact hj))
  have h2r : 2 ^ r < 256 := Nat.pow_lt_pow_right (a := 2) (m := r) (n := 8) (by omega) (by omega)
  have hy : s'.getD j 0 ^^^ 2 ^ r < 256 := Nat.xor_lt_two_pow (n := 8) hx0 h2r
  have hset := h.rd.set j (s'.getD j 0 ^^^ 2 ^ r) (by rw [h.len]; exact hj) hy
  rw [Nat.zero_add] at hset
  refine ⟨hset, by rw [List.length_set, h.len], ?_, fun q => ?_, below_drewN (h.below.setCell hg _) 1⟩
  · have h3 := Crc.le_set s' h.rd.1 j r (by rw [h.len]; exact hj) hr
    rw [show s'[j]'(by rw [h.len]; exact hj) = s'.getD j 0 by rw [List.getD_eq_getElem?_getD, List.getElem?_eq_getElem (by rw [h.len]; exact hj)]; rfl] at h3
    rw [h3, h.le, ← hk, Nat.xor_assoc]
    congr 1
    rw [Nat.mod_pow_succ, hbit, Nat.mul_one]
    have hx := Crc.add_xor (pat % 2 ^ i) 1 i (Nat.mod_lt _ (Nat.two_pow_pos i))
    rw [Nat.one_mul] at hx
    rw [hx, Crc.mul_xor, ← Nat.pow_add, Nat.add_comm i k]
  · show ((wr.setCell _ _).drew).frozen? _ = false
    rw [show ∀ W : World, W.drew.frozen? ⟨g, q, none⟩ = W.frozen? ⟨g, q, none⟩ from fun _ => rfl, World.frozen?_setCell]
    exact h.fz q
theorem turn_off {w wr : World} {g pat k i : Nat} {s s' : List Nat} (h : Turned w g s pat k i wr s') (hbit : pat / 2 ^ i % 2 = 0) : Turned w g s pat k (i + 1) wr s' := by
  refine ⟨h.rd, h.len, ?_, h.fz, h.below⟩
  rw [h.le]
  congr 2
  rw [Nat.mod_pow_succ, hbit, Nat.mul_zero, Nat.add_zero]

theorem and_bit (pat q : Nat) (h : pat < 2 ^ 32) : bits .and .u32 ((pat : Int) / 2 ^ q) 1 = ((pat / 2 ^ q % 2 : Nat) : Int) := by
  have h1 : pat / 2 ^ q ≤ pat := Nat.div_le_self _ _
  rw [show ((pat : Int) / 2 ^ q) = ((pat / 2 ^ q : Nat) : Int) by simp, show (1 : Int) = ((1 : Nat) : Int) by rfl, u32_and_nat _ _ (by omega) (by omega), nat_mask1]

theorem bursts_short (l : List Nat) (a : Option Addr) (cap at' pat : Nat) (w : World) (hr : Rd w a l) (hcap : l.length ≤ cap) (hT : Tab w) (h : l.length ≤ 2000) (hat : at' < 65536) (hpat : pat < 2 ^ 32) :
    Calls Tryd.prog 5 #[.slice a l.length cap, .int .u16 at', .int .u32 pat] w (Yes w) := by
  go_enter Tryd.func5, Tryd.ntmps5
  go_wp2_with fail
  refine (awake_any w hT).mono ?_
  rintro e w1 ⟨rfl, hb1⟩
  have hT1 := hT.below hb1 hT.pos
  have hr1 := hr.below hb1
  have hgt : ¬ (2000 < (l.length : Int)) := by omega
  go_wp2_with fail
  refine (seal_any l a cap w1 hr1 hcap hT1).mono ?_
  rintro e w2 ⟨v, rfl, hown, hb2⟩
  have hsl : ∀ x ∈ l ++ put (Crc.sum l) 4, x < 256 := fun x hx => (List.mem_append.1 hx).elim (hr.1 x) (put_lt _ _ x)
  have hsn : (l ++ put (Crc.sum l) 4).length = l.length + 4 := by rw [List.length_append, put_length]
  have hvalid := valid_seal l hr.1
  generalize l ++ put (Crc.sum l) 4 = s at hown hsl hsn hvalid
  obtain ⟨g, c2, rfl, hc2, hrd, hg, hg2⟩ := rd_of_own' (l := s) hown hsl (by omega) (by omega)
  have hfz := hown.frozenAt
  rw [hsn] at hc2 ⊢
  obtain ⟨k, hk, hkl⟩ : ∃ k : Nat, (at' : Int) % (8 * ((l.length : Int) + 4)) = k ∧ k < 8 * (l.length + 4) :=
    ⟨at' % (8 * (l.length + 4)), by simp, Nat.mod_lt _ (by omega)⟩
  have hstart : Turned w1 g s pat k 0 w2 s := ⟨hrd, rfl, by simp [Nat.mod_one], hfz, hb2⟩
  have HV := Lib.hid hvalid
  have HS := Lib.hid hsn
  have HL := Lib.hid hsl
  clear hrd hown hfz hsn hvalid hsl
  have HK := Lib.hid hk
  clear hk
  go_wp2
  simp only [HK.out]
  go_loopw [9, 10] (fun b i wr => ∃ q : Nat, q ≤ 32 ∧ i = .int .i64 q ∧ k + q ≤ 8 * (l.length + 4) ∧ (∃ t : Bool, b = .bool t ∧ (t = true ↔ pat % 2 ^ q ≠ 0)) ∧ ∃ s', Turned w1 g s pat k q wr s') (fun _ i _ => 32 - (intOf i).toNat)
  case atStart => exact ⟨0, by omega, rfl, by omega, ⟨false, rfl, by simp [Nat.mod_one]⟩, s, hstart⟩
  case round =>
    obtain ⟨q, hq, rfl, hkq, ⟨t, rfl, ht⟩, s', htu⟩ := hrel
    clear hstart
    have hlen' : s'.length = l.length + 4 := by rw [htu.len, HS.out]
    by_cases hlt : q < 32 ∧ k + q < 8 * (l.length + 4)
    · obtain ⟨hq32, hkq2⟩ := hlt
      obtain ⟨j, r, hj, hrm, hjl, hr8, hkr⟩ : ∃ j r : Nat, ((k : Int) + (q : Int)) / 8 = j ∧ ((k : Int) + (q : Int)) % 8 = r ∧ j < l.length + 4 ∧ r < 8 ∧ k + q = 8 * j + r := ⟨(k + q) / 8, (k + q) % 8, by omega, by omega, by omega, by omega, by omega⟩
      have HT := Lib.hid ht
      have HTU := Lib.hid htu
      have HKR := Lib.hid hkr
      have HLE := Lib.hid hlen'
      have hcell : wr.cell? ⟨g, j, none⟩ = some (.int .u8 (s'.getD j 0 : Nat)) := by
        obtain ⟨b', o', e, h⟩ := htu.rd.2.2 (by omega)
        cases e
        have := h j (by omega)
        rwa [Nat.zero_add] at this
      have hf := htu.fz j
      have hx0 : s'.getD j 0 < 256 := htu.rd.1 _ (getD_mem s' j (by omega))
      have h2r : 2 ^ r < 256 := Nat.pow_lt_pow_right (a := 2) (m := r) (n := 8) (by omega) (by omega)
      have hxor : bits .xor .u8 ((s'.getD j 0 : Nat) : Int) (2 ^ r % 256) = ((s'.getD j 0 ^^^ 2 ^ r : Nat) : Int) := by
        rw [show ((2 : Int) ^ r % 256) = ((2 ^ r : Nat) : Int) by
          have h : ((2 ^ r : Nat) : Int) < 256 := by omega
          have h0 : (0 : Int) ≤ ((2 ^ r : Nat) : Int) := Int.natCast_nonneg _
          rw [← Int.emod_eq_of_lt h0 h]; simp]
        exact u8_xor_nat _ _ hx0 h2r
      have ht1 : ((k : Int) + (q : Int)).tdiv 8 = (j : Int) := by rw [Int.tdiv_eq_ediv_of_nonneg (by omega)]; exact hj
      have ht2 : ((k : Int) + (q : Int)).tmod 8 = (r : Int) := by rw [Int.tmod_eq_emod_of_nonneg (by omega)]; exact hrm
      have hwj : IntKind.i64.wrap (j : Int) = (j : Int) := IntWalk.i64_in _ (by omega)
      have hwr : IntKind.i64.wrap (r : Int) = (r : Int) := IntWalk.i64_in _ (by omega)
      have hj0 : (0 : Int) ≤ (j : Int) := by omega
      have hj1 : (j : Int) < (l.length : Int) + 4 := by omega
      have hr0 : (0 : Int) ≤ (r : Int) := by omega
      have hg1 : w1.heap.size ≤ g := hg
      have hon := fun hbit => turn_on htu hg1 (j := j) (r := r) (by rw [HS.out]; exact hjl) hr8 hkr hbit
      have hoff := fun hbit => turn_off htu hbit
      have HON := Lib.hid hon
      have HOFF := Lib.hid hoff
      clear ht htu hkr hlen' hon hoff
      generalize s'.getD j 0 ^^^ 2 ^ r = y at hxor HON
      generalize s'.getD j 0 = x0 at hcell hxor hx0
      have hb := and_bit pat q hpat
      rcases Nat.mod_two_eq_zero_or_one (pat / 2 ^ q) with hbit | hbit
      · have HB := Lib.hid hbit
        rw [hbit] at hb
        clear hbit
        go_wp2
        go_roundw
        case rel =>
          refine ⟨q + 1, by omega, by go_num, by omega, ⟨t, rfl, ?_⟩, s', HOFF.out HB.out⟩
          rw [HT.out, Nat.mod_pow_succ, HB.out, Nat.mul_zero, Nat.add_zero]
        case measure => simp [intOf]; omega
      · have HB := Lib.hid hbit
        rw [hbit] at hb
        clear hbit
        go_wp2
        go_region
        go_wp2
        go_roundw
        case rel =>
          refine ⟨q + 1, by omega, by go_num, by omega, ⟨true, rfl, ?_⟩, _, HON.out HB.out⟩
          rw [Nat.mod_pow_succ, HB.out, Nat.mul_one]
          have := Nat.two_pow_pos q
          simp
        case measure => simp [intOf]; omega
    · have hend : ∃ z, z = pat % 2 ^ q ∧ z < 2 ^ 32 := ⟨_, rfl, by have := Nat.mod_le pat (2 ^ q); omega⟩
      obtain ⟨z, hz, hz32⟩ := hend
      have hslb := htu.rd.1
      have hkey : (z = 0 → valid s') ∧ (z ≠ 0 → ¬ valid s') := by
        refine ⟨fun h0 => ?_, fun h0 hv => h0 ?_⟩
        · have hle := htu.le
          rw [← hz, h0, Nat.zero_mul, Nat.xor_zero] at hle
          rw [valid_step s' hslb (by omega), hle, htu.len]
          exact (valid_step s HL.out (by rw [HS.out]; omega)).1 HV.out
        · exact valid_turn s s' HL.out hslb htu.len (by rw [HS.out]; omega) z k hz32 (by rw [HS.out]; omega) (by rw [hz]; exact htu.le) HV.out hv
      rw [← hz] at ht
      have hopen := open_any s' (some ⟨g, 0, none⟩) c2 wr htu.rd (by omega) (hT1.below htu.below hT1.pos)
      rw [hlen'] at hopen
      have hB1 := htu.below
      have HO := Lib.hid hopen
      have H4 := Lib.hid hlen'
      have HZ := Lib.hid hkey
      have HT := Lib.hid ht
      clear hopen hlen' hkey ht hz htu
      go_wp2_with fail
      all_goals
        refine HO.out.mono ?_
        rintro e w3 ⟨hb3, hcase⟩
        have hB : Below w.heap.size w w3 := (hb1.trans (hB1.mono hb1.size)).trans (hb3.mono (by have := hb1.size; have := hB1.size; omega))
        rcases hcase with ⟨h1, rfl⟩ | ⟨h1, h2, rfl⟩ | ⟨h1, a3, c3, rfl, h3, h4⟩
        · exact absurd h1 (by have := H4.out; omega)
        · obtain rfl : t = true := HT.out.2 (fun h0 => h2 (HZ.out.1 h0))
          clear HO HT HZ H4 hb3 hB1 h1 h2
          go_wp2
          go_ret
          exact ⟨rfl, hB⟩
        · obtain rfl : t = false := by
            cases t
            · rfl
            · exact absurd h1 (HZ.out.2 (HT.out.1 rfl))
          clear HO HT HZ H4 hb3 hB1 h1 h3 h4
          go_wp2
          go_ret
          exact ⟨rfl, hB⟩

theorem bursts_any (l : List Nat) (a : Option Addr) (cap at' pat : Nat) (w : World) (hr : Rd w a l) (hcap : l.length ≤ cap) (hT : Tab w) (hat : at' < 65536) (hpat : pat < 2 ^ 32) :
    Calls Tryd.prog 5 #[.slice a l.length cap, .int .u16 at', .int .u32 pat] w (Yes w) := by
  rcases Nat.lt_or_ge 2000 l.length with h | h
  · exact bursts_long l a cap at' pat w hT h hr.2.1
  · exact bursts_short l a cap at' pat w hr hcap hT h hat hpat
end Go.Proofs.YtmadcbpeiibfaaaDoor
