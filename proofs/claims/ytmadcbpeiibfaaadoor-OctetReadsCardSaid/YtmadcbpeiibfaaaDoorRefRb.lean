/- The contract of the document's reader's Bytes (drawbarref01.Reader): it reads what octet's reader reads. -/
import Derived.Test.YtmadcbpeiibfaaaDoorRefRd
namespace Go.Proofs.YtmadcbpeiibfaaaDoor
open Go.RowKit
open Drawbar

theorem refbytes_any (h B : Nat) (l rest : List Nat) (bad : Bool) (at' : Int) (most : Nat) (w : World) (hr : RRdr w h B l at') (hl : l.length ≤ 1000) (hs : Sync l rest bad at') (hm : most < 65536) (hrl : ∀ x ∈ rest, x < 256) :
    Calls Tryd.prog 24 #[.pointer (some ⟨h, 0, none⟩), .int .i64 most] w (RBts w h B l (bts rest bad most)) := by
  have hnum : Calls Tryd.prog 26 #[.pointer (some ⟨h, 0, none⟩), .int .i64 2, .int .u64 most] w (RNum w h B l (nm rest bad 2 most)) := refnum_any h B l rest bad at' 2 most w hr hl (by decide) hs
  rw [bts_eq rest bad most hrl]
  have hx : (nm rest bad 2 most).1 < 65536 := nm_lt rest bad 2 most hrl (by decide)
  generalize nm rest bad 2 most = r at hnum hx
  obtain ⟨x, r2, b2⟩ := r
  dsimp only at hnum hx ⊢
  obtain ⟨res, hres, hy, hno⟩ : ∃ res, (if b2 = true ∨ r2.length < x then ([], r2, true) else (r2.take x, r2.drop x, false)) = res ∧ (b2 = true ∨ r2.length < x → res = ([], r2, true)) ∧ (¬ (b2 = true ∨ r2.length < x) → res = (r2.take x, r2.drop x, false)) :=
    ⟨_, rfl, fun h => if_pos h, fun h => if_neg h⟩
  rw [hres]
  clear hres hs hr
  have HN := Lib.hid hnum
  have HY := Lib.hid hy
  have HO := Lib.hid hno
  clear hnum hy hno
  go_enter Tryd.func24, Tryd.ntmps24
  go_wp2_with fail
  refine HN.out.mono ?_
  rintro e w1 ⟨rfl, at2, hr1, hs1, hg1⟩
  dsimp only at hs1 ⊢
  have hset := fun q v => RRdr.set (w := w1.drewN q) v hr1
  have hgq : ∀ q, w1.grownBy (w1.drewN q) (some h) := fun q => ⟨rfl, rfl, rfl, Nat.le_refl _, fun _ _ _ => rfl⟩
  have hp1 : ∀ q, b2 = true ∨ r2.length < x → RBts w h B l res (.returned (.slice none 0 0)) ((w1.drewN q).setCell ⟨h, 1, none⟩ (.int .i64 (-1))) := fun q hh => by
    rw [HY.out hh]
    exact ⟨none, 0, rfl, rd_nil _, fun _ _ h => (by cases h), -1, (hset q (-1)).1, .inr ⟨rfl, rfl⟩, grownBy_trans hg1 (grownBy_trans (hgq q) (hset q (-1)).2)⟩
  obtain ⟨a, cap, hb, hc, hrd, ha, hB⟩ := hr1
  obtain ⟨c0, c1, f0, f1⟩ := two_cells hb
  rcases hs1 with ⟨rfl, k, rfl, hk, rfl⟩ | ⟨rfl, rfl⟩
  · rcases Nat.lt_or_ge (l.drop k).length x with hfew | hge
    · have HP := Lib.hid (fun q => hp1 q (.inr hfew))
      have hd : decide ((k : Int) < 0) = false := by simp
      have hd2 : decide ((l.length : Int) - (k : Int) < (x : Int)) = true := by rw [List.length_drop] at hfew; simp; omega
      have hlk : IntKind.i64.wrap ((l.length : Int) - (k : Int)) = (l.length : Int) - (k : Int) := IntWalk.i64_in _ (by omega)
      clear hp1 hset hb hrd ha hg1 hgq HN hfew
      go_wp2_with fail
      go_quiet (fail)
      go_wp2
      go_ret
      exact HP.out _
    · rw [List.length_drop] at hge
      have hres : res = ((l.drop k).take x, (l.drop k).drop x, false) := HO.out (by rw [List.length_drop]; simp; omega)
      have hp2 : ∀ q ad cp, (k < cap → ad = a.map fun y => y.add k) → RBts w h B l res (.returned (.slice ad x cp)) ((w1.drewN q).setCell ⟨h, 1, none⟩ (.int .i64 ((k : Int) + (x : Int)))) := by
        intro q ad cp had
        rw [hres]
        have htk : ((l.drop k).take x).length = x := by rw [List.length_take, List.length_drop]; omega
        have hs2 := hset q ((k : Int) + (x : Int))
        refine ⟨ad, cp, by rw [htk], ?_, fun h0 k' hk' => ?_, (k : Int) + (x : Int), hs2.1, .inl ⟨rfl, k + x, by omega, by omega, by rw [List.drop_drop]⟩, grownBy_trans hg1 (grownBy_trans (hgq q) hs2.2)⟩
        · dsimp only
          rcases Nat.eq_zero_or_pos x with h0 | h0
          · subst h0; rw [List.take_zero]; exact rd_empty _ _
          obtain ⟨b, off, rfl, _⟩ := hrd.2.2 (by omega)
          rw [had (by omega), Option.map_some, Addr.add_lit]
          exact ((hrd.drop k).take x).grown (w := w1.drewN q) hs2.2 (fun _ k' hk' => by cases hk'; exact Nat.ne_of_lt (Nat.lt_of_lt_of_le (ha (by omega) ⟨b, off, none⟩ rfl) hB))
        · dsimp only at h0
          rw [htk] at h0
          obtain ⟨b, off, rfl, _⟩ := hrd.2.2 (by omega)
          rw [had (by omega), Option.map_some, Addr.add_lit] at hk'
          cases hk'; exact ha (by omega) ⟨b, off, none⟩ rfl
      have HP := Lib.hid hp2
      have hd : decide ((k : Int) < 0) = false := by simp
      have hd2 : decide ((l.length : Int) - (k : Int) < (x : Int)) = false := by simp; omega
      have hlk : IntKind.i64.wrap ((l.length : Int) - (k : Int)) = (l.length : Int) - (k : Int) := IntWalk.i64_in _ (by omega)
      have hkn : IntKind.i64.wrap ((k : Int) + (x : Int)) = (k : Int) + (x : Int) := IntWalk.i64_in _ (by omega)
      have hk0 : (0 : Int) ≤ (k : Int) := by omega
      have hkn0 : (k : Int) ≤ (k : Int) + (x : Int) := by omega
      have hkn1 : (k : Int) + (x : Int) ≤ (cap : Int) := by omega
      clear hp1 hset hb hrd ha hg1 hgq HN hres hp2
      have hcc : (k < cap ∧ (cap = k) = False) ∨ cap = k := by
        rcases Nat.lt_or_ge k cap with h | h
        · exact .inl ⟨h, by simp; omega⟩
        · exact .inr (by omega)
      rcases hcc with ⟨h3, h4⟩ | h3
      · have h6 : ∀ q cp, RBts w h B l res (.returned (.slice (a.map fun y => y.add k) (k + x - k) cp)) ((w1.drewN q).setCell ⟨h, 1, none⟩ (.int .i64 ((k : Int) + (x : Int)))) := fun q cp => by
          rw [Nat.add_sub_cancel_left]; exact HP.out _ _ _ (fun _ => rfl)
        have HP6 := Lib.hid h6
        clear h6
        go_wp2_with fail
        go_quiet (fail)
        go_wp2_with fail
        go_quiet (fail)
        simp only [World.drewN_drewN]
        go_wp2
        go_ret
        exact HP6.out _ _
      · obtain rfl : x = 0 := by omega
        obtain rfl : cap = k := h3
        have hz : ((cap : Int) + ((0 : Nat) : Int)).toNat = cap := by omega
        go_wp2_with fail
        go_quiet (fail)
        go_wp2_with fail
        go_quiet (fail)
        simp only [World.drewN_drewN]
        go_wp2
        go_ret
        exact HP.out _ _ _ (fun h => absurd h (Nat.lt_irrefl _))
  · have HP := Lib.hid (fun q => hp1 q (.inl rfl))
    have hd : decide ((-1 : Int) < 0) = true := by decide
    clear hp1 hset hb hrd ha hg1 hgq HN
    go_wp2_with fail
    go_quiet (fail)
    go_wp2
    go_ret
    exact HP.out _
end Go.Proofs.YtmadcbpeiibfaaaDoor
