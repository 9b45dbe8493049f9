/- The contract of Reader.Bytes, and the walk of the law OctetEnds. -/
import Derived.Test.YtmadcbpeiibfaaaDoorReader
import Derived.Deep.RegionWith
import Derived.Deep.RegionHeld3
namespace Go.Proofs.YtmadcbpeiibfaaaDoor
open Go.RowKit
open Drawbar

/-- What Bytes reads. -/
def bts (l : List Nat) (bad : Bool) (most : Int) : List Nat × List Nat × Bool :=
  nx (nm l bad 2 65535).2.1 (nm l bad 2 65535).2.2 (nm l bad 2 65535).1 most

def BtsPost (w : World) (g : Nat) (r : List Nat × List Nat × Bool) (e : Ending) (w' : World) : Prop :=
  ∃ a cap, e = .returned (.slice a r.1.length cap) ∧ r.1.length ≤ cap ∧ Rd w' a r.1 ∧ Rdr w' g r.2.1 r.2.2 ∧ w.grownBy w' (some g)

theorem Rdr.below {w w' : World} {g : Nat} {l : List Nat} {bad : Bool} (h : Rdr w g l bad) (hb : Below w.heap.size w w') : Rdr w' g l bad := by
  obtain ⟨a, cap, h1, h2, h3, h4, h5⟩ := h
  exact ⟨a, cap, (hb.block g (lt_of_block h1)).trans h1, h2, h3.below hb, h4, h5⟩

theorem nm_lt (l : List Nat) (bad : Bool) (n : Int) (most : Nat) (hl : ∀ x ∈ l, x < 256) (hn : n ≤ 2) : (nm l bad n most).1 < 65536 := by
  unfold nm
  dsimp only
  split
  · simp
  · have h := Crc.le_lt _ (nx_lt l bad n 8 hl)
    have h2 : (nx l bad n 8).1.length ≤ 2 := by
      unfold nx
      split
      · simp
      · rw [List.length_take]; omega
    exact Nat.lt_of_lt_of_le h (Nat.le_trans (Nat.pow_le_pow_right (by omega) (Nat.mul_le_mul_left 8 h2)) (by decide))

theorem rbytes_any (g : Nat) (l : List Nat) (bad : Bool) (most : Int) (w : World) (h : Rdr w g l bad) :
    Calls Tryd.prog 23 #[.pointer (some ⟨g, 0, none⟩), .int .i64 most] w (BtsPost w g (bts l bad most)) := by
  have hnum := num_any g l bad 2 65535 w h
  have hll : ∀ x ∈ l, x < 256 := by obtain ⟨_, _, _, _, hrd, _⟩ := h; exact hrd.1
  have hlt := nm_lt l bad 2 65535 hll (by omega)
  unfold bts
  clear hll h
  generalize nm l bad 2 65535 = r at hnum hlt
  obtain ⟨x, l1, b1⟩ := r
  dsimp only at hnum hlt ⊢
  have hnext := fun w1 hrr => next_any g l1 b1 x most w1 hrr
  generalize nx l1 b1 x most = r2 at hnext
  obtain ⟨q, l2, b2⟩ := r2
  have HN := Lib.hid hnum
  have HY := Lib.hid hnext
  clear hnum hnext
  go_enter Tryd.func23, Tryd.ntmps23
  go_wp2_with fail
  refine HN.out.mono ?_
  rintro e w1 ⟨rfl, hrr, hgr⟩
  dsimp only at hrr ⊢
  have HX := Lib.hid (HY.out w1 hrr)
  clear HN HY hrr
  go_wp2_with fail
  refine HX.out.mono ?_
  rintro e w2 ⟨a, cap, rfl, hcap, hnil, hrd, ha, hrr, hgr2⟩
  dsimp only at hcap hrd hrr ⊢
  have hcl := clone_any q a cap w2 hrd hnil
  have HC := Lib.hid hcl
  clear HX hcl hrd ha
  go_wp2_with fail
  refine HC.out.mono ?_
  rintro e w3 ⟨a3, c3, rfl, hc3, hrd3, hb3⟩
  have hfin : BtsPost w g (q, l2, b2) (.returned (.slice a3 q.length c3)) w3 :=
    ⟨a3, c3, rfl, hc3, hrd3, hrr.below hb3, grownBy_trans hgr (grownBy_trans hgr2 (Below.grownBy hb3 _))⟩
  clear HC hrr hgr hgr2 hb3 hrd3
  have HF := Lib.hid hfin
  clear hfin
  go_wp2
  go_ret
  exact HF.out

theorem ends_long (l : List Nat) (a : Option Addr) (cap s : Nat) (w : World) (hT : Tab w) (h : 200 < l.length) (hl : l.length ≤ 140737488351232) :
    Calls Tryd.prog 11 #[.slice a l.length cap, .int .u8 s] w (Yes w) := by
  go_enter Tryd.func11, Tryd.ntmps11
  go_wp2_with fail
  refine (awake_any w hT).mono ?_
  rintro e w1 ⟨rfl, hb1⟩
  have hT1 := hT.below hb1 hT.pos
  go_wp2_with fail
  refine (awake_any w1 hT1).mono ?_
  rintro e w2 ⟨rfl, hb2⟩
  go_wp2
  go_ret
  exact ⟨rfl, hb1.trans (hb2.mono hb1.size)⟩

theorem nm_one (x : Nat) (r : List Nat) (hx : x < 256) : nm (x :: r) false 1 255 = (x, r, false) := by
  have h1 : nx (x :: r) false 1 8 = ([x], r, false) := by
    unfold nx
    rw [if_neg (by simp only [Bool.false_eq_true, false_or, List.length_cons]; omega)]
    rfl
  unfold nm
  rw [h1]
  dsimp only
  rw [if_neg (by simp [Crc.le]; omega)]
  simp [Crc.le]

theorem nm_empty (n : Nat) (m : Nat) (hn : 1 ≤ n) : nm [] false n m = (0, [], true) := by
  have h1 : nx [] false n 8 = ([], [], true) := by
    unfold nx
    rw [if_pos (by simp; omega)]
  unfold nm
  rw [h1]
  dsimp only
  rw [if_neg (by simp [Crc.le])]
  simp [Crc.le]
theorem bts_bad (l : List Nat) (m : Int) : bts l true m = ([], l, true) := by
  have h1 : ∀ (l : List Nat) (n m : Int), nx l true n m = ([], l, true) := fun l n m => by
    unfold nx
    rw [if_pos (.inl rfl)]
  unfold bts nm
  rw [h1]
  dsimp only
  rw [if_neg (by simp [Crc.le])]
  simp [h1]

theorem ends_short (l : List Nat) (a : Option Addr) (cap s : Nat) (w : World) (hr : Rd w a l) (hcap : l.length ≤ cap) (hnil : a = none → cap = 0) (hT : Tab w) (h : l.length ≤ 200) (hs : s < 256) :
    Calls Tryd.prog 11 #[.slice a l.length cap, .int .u8 s] w (Yes w) := by
  go_enter Tryd.func11, Tryd.ntmps11
  go_wp2_with fail
  refine (awake_any w hT).mono ?_
  rintro e w1 ⟨rfl, hb1⟩
  have hr1 := hr.below hb1
  have hgt : ¬ (200 < (l.length : Int)) := by omega
  go_wp2_with fail
  refine (read_any l a cap w1 hr1 hcap hnil).mono ?_
  rintro e w2 ⟨rfl, hrr, hb2⟩
  obtain ⟨g, hg⟩ : ∃ g, g = w1.heap.size := ⟨_, rfl⟩
  rw [← hg] at hrr ⊢
  have hr2 := hr1.below hb2
  have hB : Below w.heap.size w w2 := hb1.trans (hb2.mono hb1.size)
  have hgw : w.heap.size ≤ g := by rw [hg]; exact hb1.size
  have hag : 0 < l.length → ∀ k, a = some k → k.block ≠ g := fun h0 k hk => by
    obtain ⟨b, off, rfl, hc⟩ := hr1.2.2 h0
    cases hk
    have h3 : b < w1.heap.size := World.block_lt_of_cell? w1 _ (hc 0 h0)
    exact fun e => by simp at e; omega
  clear hb1 hb2 hr1 hg
  go_wp2
  go_loopw [6] (fun i wr => ∃ k : Nat, k ≤ l.length ∧ i = .int .i64 k ∧ Below w.heap.size w wr ∧ Rd wr a l ∧ Rdr wr g (l.drop k) false) (fun i _ => l.length - (intOf i).toNat)
  case atStart => exact ⟨0, Nat.zero_le _, rfl, hB, hr2, hrr⟩
  case round =>
    obtain ⟨k, hk, rfl, hbr, hrd, hrk⟩ := hrel
    clear hrr hr2 hB
    by_cases hlt : k < l.length
    · have hx : l.getD k 0 < 256 := hrd.1 _ (getD_mem l k hlt)
      have hnum := num_any g (l.drop k) false 1 255 wr.drew hrk
      rw [show l.drop k = l.getD k 0 :: l.drop (k + 1) by
        rw [List.drop_eq_getElem_cons hlt, List.getD_eq_getElem?_getD, List.getElem?_eq_getElem hlt]; rfl] at hnum
      rw [nm_one _ _ hx] at hnum
      have hrd0 := hrd
      obtain ⟨b, off, rfl, hc⟩ := hrd.2.2 (by omega)
      have hcell := hc k hlt
      generalize l.getD k 0 = x at hcell hnum hx
      have hbg : b ≠ g := hag (by omega) ⟨b, off, none⟩ rfl
      have hcell2 : ∀ w', wr.drew.grownBy w' (some g) → w'.cell? ⟨b, off + k, none⟩ = some (.int .u8 (x : Nat)) := fun w' hg => hg.cell (w := wr.drew) hcell (by simpa using hbg)
      have hgrow : ∀ w', wr.drew.grownBy w' (some g) → Below w.heap.size w w' ∧ Rd w' (some ⟨b, off, none⟩) l := fun w' hg =>
        ⟨(below_drewN hbr 1).grown hg hbr.size (fun q hq => by cases hq; exact hgw), hrd0.grown (w := wr.drew) hg hag⟩
      have hwx : IntKind.u64.wrap (x : Int) = (x : Int) := by rw [IntKind.wrap_u64]; omega
      have HNum := Lib.hid hnum
      have HC2 := Lib.hid hcell2
      have HG := Lib.hid hgrow
      clear hnum hcell2 hgrow hc hrd hrk hrd0 hbr hag
      go_wp2_with fail
      go_region_with (go_at_call 25; refine HNum.out.mono ?_; rintro e w' ⟨rfl, hrr', hgr'⟩; have hc2 := HC2.out _ hgr')
      all_goals
        go_wp2
        go_roundw
        case rel => exact ⟨k + 1, by omega, by go_num, (HG.out _ hgr').1, (HG.out _ hgr').2, hrr'⟩
        case measure => simp [intOf]; omega
    · have hk2 : k = l.length := by omega
      rw [hk2, List.drop_length] at hrk
      obtain ⟨n, hn, hn1⟩ : ∃ n : Nat, 1 + (s : Int) % 8 = n ∧ 1 ≤ n := ⟨1 + s % 8, by omega, by omega⟩
      have hnum := num_any g [] false n 18446744073709551615 wr hrk
      rw [nm_empty n _ hn1, show (((18446744073709551615 : Nat)) : Int) = 18446744073709551615 from rfl] at hnum
      have hend := end_any g [] false wr hrk
      have HNum := Lib.hid hnum
      have HEnd := Lib.hid hend
      clear hnum hend hrd hag hrk hk2
      go_wp2_with fail
      refine HEnd.out.mono ?_
      rintro e w3 ⟨rfl, rfl⟩
      go_wp2_with fail
      refine HNum.out.mono ?_
      rintro e w3 ⟨rfl, hrr, hgr⟩
      dsimp only at hrr
      have hB3 : Below w.heap.size w w3 := hbr.grown hgr hbr.size (fun q hq => by cases hq; exact hgw)
      have hend2 := end_any g [] true w3 hrr
      have hbad := bad_any g [] true w3 hrr
      have hbts := rbytes_any g [] true 9 w3 hrr
      rw [bts_bad] at hbts
      have HE2 := Lib.hid hend2
      have HBad := Lib.hid hbad
      have HBts := Lib.hid hbts
      clear HNum HEnd hgr hbr hend2 hbad hbts hrr
      go_wp2_with fail
      refine HBad.out.mono ?_
      rintro e w4 ⟨rfl, rfl⟩
      go_wp2_with fail
      refine HE2.out.mono ?_
      rintro e w4 ⟨rfl, rfl⟩
      go_wp2_with fail
      refine HBts.out.mono ?_
      rintro e w4 ⟨a4, c4, rfl, _, _, _, hgr⟩
      have hB4 : Below w.heap.size w w4 := hB3.grown hgr hB3.size (fun q hq => by cases hq; exact hgw)
      clear HE2 HBad HBts hgr hB3
      dsimp only
      go_wp2
      go_ret
      exact ⟨rfl, hB4⟩

theorem ends_any (l : List Nat) (a : Option Addr) (cap s : Nat) (w : World) (hr : Rd w a l) (hcap : l.length ≤ cap) (hnil : a = none → cap = 0) (hT : Tab w) (hs : s < 256) :
    Calls Tryd.prog 11 #[.slice a l.length cap, .int .u8 s] w (Yes w) := by
  rcases Nat.lt_or_ge 200 l.length with h | h
  · exact ends_long l a cap s w hT h hr.2.1
  · exact ends_short l a cap s w hr hcap hnil hT h hs
end Go.Proofs.YtmadcbpeiibfaaaDoor
