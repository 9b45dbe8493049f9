/- The walk of the law OctetReads: any readings of any bytes. -/
import Derived.Test.YtmadcbpeiibfaaaDoorRefRb
import Derived.Test.YtmadcbpeiibfaaaDoorFresh
import Derived.Deep.RegionHeld
namespace Go.Proofs.YtmadcbpeiibfaaaDoor
open Go.RowKit
open Drawbar

theorem reads_long (l q : List Nat) (a b : Option Addr) (cap cap2 : Nat) (w : World) (hT : Tab w) (h : 1000 < l.length) (hl : l.length ≤ 140737488351232) :
    Calls Tryd.prog 6 #[.slice a l.length cap, .slice b q.length cap2] w (Yes w) := by
  go_enter Tryd.func6, Tryd.ntmps6
  go_wp2_with fail
  refine (awake_any w hT).mono ?_
  rintro e w1 ⟨rfl, hb1⟩
  have hT1 := hT.below hb1 hT.pos
  go_wp2_with fail
  refine (awake_any w1 hT1).mono ?_
  rintro e w2 ⟨rfl, hb2⟩
  go_wp2
  go_ret
  exact ⟨rfl, hb1.trans (hb2.mono hb1.size)⟩

theorem Rdr.grown {w w' : World} {g k : Nat} {l : List Nat} {bad : Bool} (h : Rdr w g l bad) (hg : w.grownBy w' (some k)) (hne : g < k) : Rdr w' g l bad := by
  obtain ⟨a, cap, h1, h2, h3, h4, h5⟩ := h
  exact ⟨a, cap, (hg.block g (lt_of_block h1) (by simp; omega)).trans h1, h2, h3.grown hg (fun h0 p hp => by have := h5 h0 p hp; omega), h4, h5⟩
theorem RRdr.grown {w w' : World} {h k B : Nat} {l : List Nat} {at' : Int} (hr : RRdr w h B l at') (hg : w.grownBy w' (some k)) (hne : h ≠ k) (hB : B ≤ k) : RRdr w' h B l at' := by
  obtain ⟨a, cap, h1, h2, h3, h4, h5⟩ := hr
  exact ⟨a, cap, (hg.block h (lt_of_block h1) (by simpa using hne)).trans h1, h2, h3.grown hg (fun h0 p hp => Nat.ne_of_lt (Nat.lt_of_lt_of_le (h4 h0 p hp) hB)), h4, h5⟩

set_option maxRecDepth 100000 in
set_option maxHeartbeats 4000000 in
theorem reads_short (l q : List Nat) (a b : Option Addr) (cap cap2 : Nat) (w : World) (hr : Rd w a l) (hq : Rd w b q) (hcap : l.length ≤ cap) (hnil : a = none → cap = 0) (hT : Tab w) (h : l.length ≤ 1000) :
    Calls Tryd.prog 6 #[.slice a l.length cap, .slice b q.length cap2] w (Yes w) := by
  go_enter Tryd.func6, Tryd.ntmps6
  go_wp2_with fail
  refine (awake_any w hT).mono ?_
  rintro e w1 ⟨rfl, hb1⟩
  have hr1 := hr.below hb1
  have hq1 := hq.below hb1
  have hgt : ¬ (1000 < (l.length : Int)) := by omega
  clear hr hq
  go_wp2_with fail
  refine (read_any l a cap w1 hr1 hcap hnil).mono ?_
  rintro e w2 ⟨rfl, hrr, hb2⟩
  have hq2 := hq1.below hb2
  have hr2 := hr1.below hb2
  obtain ⟨g, hg⟩ : ∃ g, g = w1.heap.size := ⟨_, rfl⟩
  obtain ⟨h', hh⟩ : ∃ h', h' = w2.heap.size := ⟨_, rfl⟩
  have hgh : g < h' := by
    obtain ⟨_, _, hb, _⟩ := hrr
    rw [hg, hh]; exact lt_of_block hb
  have hB2 : Below w1.heap.size w1 (w2.alloc (.cells #[.slice a l.length cap, .int .i64 0] 44)) := hb2.alloc hb2.size _
  have hstart : RRdr (w2.alloc (.cells #[.slice a l.length cap, .int .i64 0] 44)) h' g l 0 := by
    rw [hh]
    refine ⟨a, cap, heap_alloc_new w2 _, hcap, hr2.below ((Below.refl _ _).alloc (Nat.le_refl _) _), fun h0 k hk => ?_, by omega⟩
    obtain ⟨b', off, rfl, hc⟩ := hr1.2.2 h0
    cases hk
    rw [hg]; exact World.block_lt_of_cell? w1 _ (hc 0 h0)
  have hrr2 := hrr.below ((Below.refl _ w2).alloc (Nat.le_refl _) (.cells #[.slice a l.length cap, .int .i64 0] 44))
  have hql := hq1.1
  have HQ1 := Lib.hid hq1
  have HQL := Lib.hid hql
  clear hq1 hq2 hr1 hr2 hrr hnil hql
  rw [← hg] at hrr2 ⊢
  have HST := Lib.hid hstart
  have HRR := Lib.hid hrr2
  have HB2 := Lib.hid hB2
  have HBB := Lib.hid hb1
  have hgw : w1.heap.size ≤ g := by omega
  have hhw : w1.heap.size ≤ h' := by omega
  clear hstart hrr2 hb2 hB2 hb1 hT
  have HH := Lib.hid hh
  clear hh hg
  go_wp2
  simp only [← HH.out]
  go_loopw [7] (fun i wr => ∃ i' : Nat, i' ≤ q.length ∧ i' ≤ 40 ∧ i = .int .i64 i' ∧ Below w1.heap.size w1 wr ∧ ∃ rest bad at', Rdr wr g rest bad ∧ RRdr wr h' g l at' ∧ Sync l rest bad at') (fun i _ => 40 - (intOf i).toNat)
  case atStart => exact ⟨0, by omega, by omega, rfl, HB2.out, l, false, 0, HRR.out, HST.out, .inl ⟨rfl, 0, rfl, by omega, by simp⟩⟩
  case round =>
    obtain ⟨i, hi, hi40, rfl, hbr, rest, bad, at', hrd, hrf, hsy⟩ := hrel
    clear HST HRR HB2
    by_cases hlt : i < q.length ∧ i < 40
    · obtain ⟨hlt, hlt40⟩ := hlt
      have hask : ∀ W, Below w1.heap.size w1 W → ∃ b' off, b = some ⟨b', off, none⟩ ∧ W.cell? ⟨b', off + i, none⟩ = some (.int .u8 (q.getD i 0 : Nat)) := fun W hb => by
        obtain ⟨b', off, e, hc⟩ := (HQ1.out.below hb).2.2 (by omega)
        exact ⟨b', off, e, hc i hlt⟩
      have hx : q.getD i 0 < 256 := HQL.out _ (getD_mem q i hlt)
      obtain ⟨b', off, rfl, _⟩ := HQ1.out.2.2 (by omega)
      have hask2 : ∀ W, Below w1.heap.size w1 W → W.cell? ⟨b', off + i, none⟩ = some (.int .u8 (q.getD i 0 : Nat)) := fun W hb => by
        obtain ⟨b2, off2, e, hc⟩ := hask W hb
        cases e; exact hc
      have hrl : ∀ x ∈ rest, x < 256 := by obtain ⟨_, _, _, _, h5, _⟩ := hrd; exact h5.1
      generalize q.getD i 0 = x at hask2 hx
      have ha0 := hask2 wr hbr
      have HA := Lib.hid hask2
      clear hask hask2
      rcases Nat.eq_zero_or_pos (x % 3) with h3 | h3
      · have ht3 : ((x : Int) % 3 == 0) = true := by simp; omega
        obtain ⟨r1, r2, b2, hR⟩ : ∃ r1 r2 b2, bts rest bad (x : Int) = (r1, r2, b2) := ⟨_, _, _, rfl⟩
        have hbt : ∀ W, wr.drew.grownBy W (some h') → Calls Tryd.prog 23 #[.pointer (some ⟨g, 0, none⟩), .int .i64 x] W (BtsNew W g (r1, r2, b2)) := fun W hW => by
          rw [← hR]; exact rbytes_new g rest bad x W (Rdr.grown (w := wr.drew) hrd hW hgh)
        have hrb : ∀ W, wr.drew.grownBy W (some g) → Calls Tryd.prog 24 #[.pointer (some ⟨h', 0, none⟩), .int .i64 x] W (RBts W h' g l (r1, r2, b2)) := fun W hW => by
          rw [← hR]; exact refbytes_any h' g l rest bad at' x W (RRdr.grown (w := wr.drew) hrf hW (by omega) (Nat.le_refl _)) h hsy (by omega) hrl
        have hsz : h' < wr.heap.size := by obtain ⟨_, _, hb, _⟩ := hrf; exact lt_of_block hb
        have hpb : ∀ W e w', wr.drew.grownBy W (some h') → BtsNew W g (r1, r2, b2) e w' → ∃ a4 c4, e = .returned (.slice a4 r1.length c4) ∧ Rdr w' g r2 b2 ∧ W.grownBy w' (some g) ∧
            ∀ W2, w'.grownBy W2 (some h') → (convert 22 9 (.slice a4 r1.length c4)).run Tryd.prog W2 = .ok (.string (strOf r1)) W2 := by
          intro W e w' hW ⟨a4, c4, he, _, hrd4, hrr4, hg4, hf4⟩
          refine ⟨a4, c4, he, hrr4, hg4, fun W2 hW2 => conv_str W2 a4 r1 c4 (hrd4.grown hW2 fun h0 k hk => ?_)⟩
          have h1 := hf4 h0 k hk
          have h2 : wr.heap.size ≤ W.heap.size := hW.size
          omega
        have hpr : ∀ W e w', RBts W h' g l (r1, r2, b2) e w' → ∃ a5 c5, e = .returned (.slice a5 r1.length c5) ∧ (∃ at2, RRdr w' h' g l at2 ∧ Sync l r2 b2 at2) ∧ W.grownBy w' (some h') ∧
            ∀ W2, w'.grownBy W2 (some g) → (convert 22 9 (.slice a5 r1.length c5)).run Tryd.prog W2 = .ok (.string (strOf r1)) W2 := by
          intro W e w' ⟨a5, c5, he, hrd5, hf5, at2, hrr5, hs5, hg5⟩
          exact ⟨a5, c5, he, ⟨at2, hrr5, hs5⟩, hg5, fun W2 hW2 => conv_str W2 a5 r1 c5 (hrd5.grown hW2 fun h0 k hk => Nat.ne_of_lt (hf5 h0 k hk))⟩
        have hbel : ∀ W k, wr.drew.grownBy W (some k) → w1.heap.size ≤ k → Below w1.heap.size w1 W := fun W k hW hk => (below_drewN hbr 1).grown hW hbr.size (fun q hq => by cases hq; exact hk)
        have hbel2 : ∀ W W2 k, Below w1.heap.size w1 W → W.grownBy W2 (some k) → w1.heap.size ≤ k → Below w1.heap.size w1 W2 := fun W W2 k hW hg hk => hW.grown hg hW.size (fun q hq => by cases hq; exact hk)
        have HBT := Lib.hid hbt
        have HRB := Lib.hid hrb
        have HPB := Lib.hid hpb
        have HPR := Lib.hid hpr
        have HBL := Lib.hid hbel
        have HBL2 := Lib.hid hbel2
        have ha1 := HA.out wr.drew (below_drewN hbr 1)
        have HI := Lib.hid hlt
        clear hbt hrb hpb hpr hbel hbel2 hR hrd hrf hsy hrl hsz h3
        generalize strOf r1 = S1 at HPB HPR
        have he1 : (S1.toList == S1.toList) = true := by simp
        have hwx : IntKind.i64.wrap (x : Int) = (x : Int) := IntWalk.i64_in _ (by omega)
        go_wp2_with fail
        go_region_held (fun W => W.cell? ⟨b', off + i, none⟩ = some (.int .u8 (x : Nat))) (first | exact ha1 | exact ha5 | exact ha4) (first
          | (go_at_call 23; ((with_reducible refine (HBT.out _ (grownBy_refl _ _)).mono ?_); intro e w4 hnb; obtain ⟨a4, c4, rfl, hrd4, hg4, hcv4⟩ := HPB.out _ _ _ (grownBy_refl _ _) hnb; have hb4 := HBL.out _ _ hg4 hgw; have ha4 := HA.out _ hb4; have hc4 := hcv4 _ (grownBy_refl _ _); have HC4 := Lib.hid hcv4; clear hnb hcv4))
          | (go_at_call 24; ((with_reducible refine (HRB.out _ (grownBy_refl _ _)).mono ?_); intro e w4 hnb; obtain ⟨a5, c5, rfl, hrf4, hg5, hcv5⟩ := HPR.out _ _ _ hnb; have hb4 := HBL.out _ _ hg5 hhw; have ha4 := HA.out _ hb4; have hc5 := hcv5 _ (grownBy_refl _ _); have HC5 := Lib.hid hcv5; clear hnb hcv5))
          | (go_at_call 23; ((with_reducible refine (HBT.out _ hg5).mono ?_); intro e w5 hnb; obtain ⟨a4, c4, rfl, hrd4, hg4, hcv4⟩ := HPB.out _ _ _ hg5 hnb; have hb5 := HBL2.out _ _ _ hb4 hg4 hgw; have ha5 := HA.out _ hb5; have hc4 := hcv4 _ (grownBy_refl _ _); have hc6 := HC5.out _ hg4; clear hnb hcv4))
          | (go_at_call 24; ((with_reducible refine (HRB.out _ hg4).mono ?_); intro e w5 hnb; obtain ⟨a5, c5, rfl, hrf4, hg5, hcv5⟩ := HPR.out _ _ _ hnb; have hb5 := HBL2.out _ _ _ hb4 hg5 hhw; have ha5 := HA.out _ hb5; have hc5 := hcv5 _ (grownBy_refl _ _); have hc6 := HC4.out _ hg5; clear hnb hcv5)))
        all_goals
          have hD : Rdr w5 g r2 b2 := by first | exact hrd4 | exact Rdr.grown hrd4 hg5 hgh
          have hF : ∃ at2, RRdr w5 h' g l at2 ∧ Sync l r2 b2 at2 := by
            first
              | exact hrf4
              | (obtain ⟨at2, h1, h2⟩ := hrf4; exact ⟨at2, RRdr.grown h1 hg4 (by omega) (Nat.le_refl _), h2⟩)
          obtain ⟨at2, hF1, hF2⟩ := hF
          have hbad := fun n => bad_any g r2 b2 (w5.drewN n) hD
          have hend := fun n => end_any g r2 b2 (w5.drewN n) hD
          have hcell : w5.cell? ⟨h', 1, none⟩ = some (.int .i64 at2) := by
            obtain ⟨_, _, hb, _⟩ := hF1; exact (two_cells hb).2.1
          have HD := Lib.hid hD
          have HF1 := Lib.hid hF1
          have HF2 := Lib.hid hF2
          clear hrd4 hrf4 hg4 hg5 hD hF1 HBT HRB HPB HPR HBL HBL2 HA
          rcases hF2 with ⟨rfl, k, rfl, hk, hr2⟩ | ⟨rfl, rfl⟩
          · by_cases hkl : k = l.length
            · rw [show (!false && decide (r2.length = 0)) = true by rw [hr2, List.length_drop]; simp; omega] at hend
              have hd : decide ((k : Int) < 0) = false := by simp
              have hd2 : ((k : Int) == (l.length : Int)) = true := by simp; omega
              have HBad := Lib.hid hbad
              have HEnd := Lib.hid hend
              clear hbad hend hr2 hkl
              go_wp2_with fail
              go_quiet ((first | (go_at_call 27; exact quiet_same (HBad.out _)) | (go_at_call 28; exact quiet_same (HEnd.out _))))
              go_wp2
              go_roundw
              case rel => exact ⟨i + 1, by have := HI.out; omega, by omega, by go_num, below_drewN hb5 _, r2, false, k, HD.out, HF1.out, HF2.out⟩
              case measure => simp [intOf]; omega
            · rw [show (!false && decide (r2.length = 0)) = false by rw [hr2, List.length_drop]; simp; omega] at hend
              have hd : decide ((k : Int) < 0) = false := by simp
              have hd2 : ((k : Int) == (l.length : Int)) = false := by simp; omega
              have HBad := Lib.hid hbad
              have HEnd := Lib.hid hend
              clear hbad hend hr2 hkl
              go_wp2_with fail
              go_quiet ((first | (go_at_call 27; exact quiet_same (HBad.out _)) | (go_at_call 28; exact quiet_same (HEnd.out _))))
              go_wp2
              go_roundw
              case rel => exact ⟨i + 1, by have := HI.out; omega, by omega, by go_num, below_drewN hb5 _, r2, false, k, HD.out, HF1.out, HF2.out⟩
              case measure => simp [intOf]; omega
          · have hd : decide ((-1 : Int) < 0) = true := by decide
            have hd2 : ((-1 : Int) == (l.length : Int)) = false := by rw [beq_eq_false_iff_ne]; omega
            have HBad := Lib.hid hbad
            have HEnd := Lib.hid hend
            clear hbad hend
            go_wp2_with fail
            go_quiet ((first | (go_at_call 27; exact quiet_same (HBad.out _)) | (go_at_call 28; exact quiet_same (HEnd.out _))))
            go_wp2
            go_roundw
            case rel => exact ⟨i + 1, by have := HI.out; omega, by omega, by go_num, below_drewN hb5 _, r2, true, -1, HD.out, HF1.out, HF2.out⟩
            case measure => simp [intOf]; omega
      · have ht3 : ((x : Int) % 3 == 0) = false := by simp; omega
        obtain ⟨n9, hn9, hn8⟩ : ∃ n9 : Nat, (x : Int).tmod 9 = n9 ∧ n9 ≤ 8 := ⟨x % 9, by rw [Int.tmod_eq_emod_of_nonneg (by omega)]; simp, by omega⟩
        have hwx : IntKind.i64.wrap (x : Int) = (x : Int) := IntWalk.i64_in _ (by omega)
        have hwn : IntKind.i64.wrap (n9 : Int) = (n9 : Int) := IntWalk.i64_in _ (by omega)
        rcases Nat.mod_two_eq_zero_or_one x with h2 | h2
        · have ht2 : ((x : Int) % 2 == 0) = true := by simp; omega
          clear h2
          have hbt : ∀ W, wr.drew.grownBy W (some h') → Calls Tryd.prog 25 #[.pointer (some ⟨g, 0, none⟩), .int .i64 n9, .int .u64 x] W (NumPost W g (nm rest bad n9 x)) := fun W hW => num_any g rest bad n9 x W (Rdr.grown (w := wr.drew) hrd hW hgh)
          have hrb : ∀ W, wr.drew.grownBy W (some g) → Calls Tryd.prog 26 #[.pointer (some ⟨h', 0, none⟩), .int .i64 n9, .int .u64 x] W (RNum W h' g l (nm rest bad n9 x)) := fun W hW => refnum_any h' g l rest bad at' n9 x W (RRdr.grown (w := wr.drew) hrf hW (by omega) (Nat.le_refl _)) h (by omega) hsy
          obtain ⟨v1, r2, b2, hR⟩ : ∃ v1 r2 b2, nm rest bad n9 x = (v1, r2, b2) := ⟨_, _, _, rfl⟩
          rw [hR] at hbt hrb
          have hbel : ∀ W k, wr.drew.grownBy W (some k) → w1.heap.size ≤ k → Below w1.heap.size w1 W := fun W k hW hk => (below_drewN hbr 1).grown hW hbr.size (fun q hq => by cases hq; exact hk)
          have hbel2 : ∀ W W2 k, Below w1.heap.size w1 W → W.grownBy W2 (some k) → w1.heap.size ≤ k → Below w1.heap.size w1 W2 := fun W W2 k hW hg hk => hW.grown hg hW.size (fun q hq => by cases hq; exact hk)
          have HBT := Lib.hid hbt
          have HRB := Lib.hid hrb
          have HBL := Lib.hid hbel
          have HBL2 := Lib.hid hbel2
          have ha1 := HA.out wr.drew (below_drewN hbr 1)
          have HI := Lib.hid hlt
          have he1 : ((v1 : Int) == (v1 : Int)) = true := by simp
          clear hbt hrb hbel hbel2 hR hrd hrf hsy hrl h3
          go_wp2_with fail
          go_region_held (fun W => W.cell? ⟨b', off + i, none⟩ = some (.int .u8 (x : Nat))) (first | exact ha1 | exact ha5 | exact ha4) (first
            | (go_at_call 25; ((with_reducible refine (HBT.out _ (grownBy_refl _ _)).mono ?_); rintro e w4 ⟨rfl, hrd4, hg4⟩; have hb4 := HBL.out _ _ hg4 hgw; have ha4 := HA.out _ hb4))
            | (go_at_call 26; ((with_reducible refine (HRB.out _ (grownBy_refl _ _)).mono ?_); rintro e w4 ⟨rfl, at2, hrf4, hs4, hg5⟩; have hb4 := HBL.out _ _ hg5 hhw; have ha4 := HA.out _ hb4))
            | (go_at_call 25; ((with_reducible refine (HBT.out _ hg5).mono ?_); rintro e w5 ⟨rfl, hrd4, hg4⟩; have hb5 := HBL2.out _ _ _ hb4 hg4 hgw; have ha5 := HA.out _ hb5))
            | (go_at_call 26; ((with_reducible refine (HRB.out _ hg4).mono ?_); rintro e w5 ⟨rfl, at2, hrf4, hs4, hg5⟩; have hb5 := HBL2.out _ _ _ hb4 hg5 hhw; have ha5 := HA.out _ hb5)))
          all_goals
            have hD : Rdr w5 g r2 b2 := by first | exact hrd4 | exact Rdr.grown hrd4 hg5 hgh
            have hF : ∃ at2, RRdr w5 h' g l at2 ∧ Sync l r2 b2 at2 := by
              first
                | exact ⟨at2, hrf4, hs4⟩
                | exact ⟨at2, RRdr.grown hrf4 hg4 (by omega) (Nat.le_refl _), hs4⟩
            obtain ⟨at2, hF1, hF2⟩ := hF
            have hbad := fun n => bad_any g r2 b2 (w5.drewN n) hD
            have hend := fun n => end_any g r2 b2 (w5.drewN n) hD
            have hcell : w5.cell? ⟨h', 1, none⟩ = some (.int .i64 at2) := by
              obtain ⟨_, _, hb, _⟩ := hF1; exact (two_cells hb).2.1
            have HD := Lib.hid hD
            have HF1 := Lib.hid hF1
            have HF2 := Lib.hid hF2
            clear hrd4 hrf4 hs4 hg4 hg5 hD hF1 HBT HRB HBL HBL2 HA
            rcases hF2 with ⟨rfl, k, rfl, hk, hr2⟩ | ⟨rfl, rfl⟩
            · by_cases hkl : k = l.length
              · rw [show (!false && decide (r2.length = 0)) = true by rw [hr2, List.length_drop]; simp; omega] at hend
                have hd : decide ((k : Int) < 0) = false := by simp
                have hd2 : ((k : Int) == (l.length : Int)) = true := by simp; omega
                have HBad := Lib.hid hbad
                have HEnd := Lib.hid hend
                clear hbad hend hr2 hkl
                go_wp2_with fail
                go_quiet ((first | (go_at_call 27; exact quiet_same (HBad.out _)) | (go_at_call 28; exact quiet_same (HEnd.out _))))
                go_wp2
                go_roundw
                case rel => exact ⟨i + 1, by have := HI.out; omega, by omega, by go_num, below_drewN hb5 _, r2, false, k, HD.out, HF1.out, HF2.out⟩
                case measure => simp [intOf]; omega
              · rw [show (!false && decide (r2.length = 0)) = false by rw [hr2, List.length_drop]; simp; omega] at hend
                have hd : decide ((k : Int) < 0) = false := by simp
                have hd2 : ((k : Int) == (l.length : Int)) = false := by simp; omega
                have HBad := Lib.hid hbad
                have HEnd := Lib.hid hend
                clear hbad hend hr2 hkl
                go_wp2_with fail
                go_quiet ((first | (go_at_call 27; exact quiet_same (HBad.out _)) | (go_at_call 28; exact quiet_same (HEnd.out _))))
                go_wp2
                go_roundw
                case rel => exact ⟨i + 1, by have := HI.out; omega, by omega, by go_num, below_drewN hb5 _, r2, false, k, HD.out, HF1.out, HF2.out⟩
                case measure => simp [intOf]; omega
            · have hd : decide ((-1 : Int) < 0) = true := by decide
              have hd2 : ((-1 : Int) == (l.length : Int)) = false := by rw [beq_eq_false_iff_ne]; omega
              have HBad := Lib.hid hbad
              have HEnd := Lib.hid hend
              clear hbad hend
              go_wp2_with fail
              go_quiet ((first | (go_at_call 27; exact quiet_same (HBad.out _)) | (go_at_call 28; exact quiet_same (HEnd.out _))))
              go_wp2
              go_roundw
              case rel => exact ⟨i + 1, by have := HI.out; omega, by omega, by go_num, below_drewN hb5 _, r2, true, -1, HD.out, HF1.out, HF2.out⟩
              case measure => simp [intOf]; omega
        · have ht2 : ((x : Int) % 2 == 0) = false := by simp; omega
          clear h2
          have hbt : ∀ W, wr.drew.grownBy W (some h') → Calls Tryd.prog 25 #[.pointer (some ⟨g, 0, none⟩), .int .i64 n9, .int .u64 18446744073709551615] W (NumPost W g (nm rest bad n9 18446744073709551615)) := fun W hW => num_any g rest bad n9 18446744073709551615 W (Rdr.grown (w := wr.drew) hrd hW hgh)
          have hrb : ∀ W, wr.drew.grownBy W (some g) → Calls Tryd.prog 26 #[.pointer (some ⟨h', 0, none⟩), .int .i64 n9, .int .u64 18446744073709551615] W (RNum W h' g l (nm rest bad n9 18446744073709551615)) := fun W hW => refnum_any h' g l rest bad at' n9 18446744073709551615 W (RRdr.grown (w := wr.drew) hrf hW (by omega) (Nat.le_refl _)) h (by omega) hsy
          obtain ⟨v1, r2, b2, hR⟩ : ∃ v1 r2 b2, nm rest bad n9 18446744073709551615 = (v1, r2, b2) := ⟨_, _, _, rfl⟩
          rw [hR] at hbt hrb
          have hbel : ∀ W k, wr.drew.grownBy W (some k) → w1.heap.size ≤ k → Below w1.heap.size w1 W := fun W k hW hk => (below_drewN hbr 1).grown hW hbr.size (fun q hq => by cases hq; exact hk)
          have hbel2 : ∀ W W2 k, Below w1.heap.size w1 W → W.grownBy W2 (some k) → w1.heap.size ≤ k → Below w1.heap.size w1 W2 := fun W W2 k hW hg hk => hW.grown hg hW.size (fun q hq => by cases hq; exact hk)
          have HBT := Lib.hid hbt
          have HRB := Lib.hid hrb
          have HBL := Lib.hid hbel
          have HBL2 := Lib.hid hbel2
          have ha1 := HA.out wr.drew (below_drewN hbr 1)
          have HI := Lib.hid hlt
          have he1 : ((v1 : Int) == (v1 : Int)) = true := by simp
          clear hbt hrb hbel hbel2 hR hrd hrf hsy hrl h3
          go_wp2_with fail
          go_region_held (fun W => W.cell? ⟨b', off + i, none⟩ = some (.int .u8 (x : Nat))) (first | exact ha1 | exact ha5 | exact ha4) (first
            | (go_at_call 25; ((with_reducible refine (HBT.out _ (grownBy_refl _ _)).mono ?_); rintro e w4 ⟨rfl, hrd4, hg4⟩; have hb4 := HBL.out _ _ hg4 hgw; have ha4 := HA.out _ hb4))
            | (go_at_call 26; ((with_reducible refine (HRB.out _ (grownBy_refl _ _)).mono ?_); rintro e w4 ⟨rfl, at2, hrf4, hs4, hg5⟩; have hb4 := HBL.out _ _ hg5 hhw; have ha4 := HA.out _ hb4))
            | (go_at_call 25; ((with_reducible refine (HBT.out _ hg5).mono ?_); rintro e w5 ⟨rfl, hrd4, hg4⟩; have hb5 := HBL2.out _ _ _ hb4 hg4 hgw; have ha5 := HA.out _ hb5))
            | (go_at_call 26; ((with_reducible refine (HRB.out _ hg4).mono ?_); rintro e w5 ⟨rfl, at2, hrf4, hs4, hg5⟩; have hb5 := HBL2.out _ _ _ hb4 hg5 hhw; have ha5 := HA.out _ hb5)))
          all_goals
            have hD : Rdr w5 g r2 b2 := by first | exact hrd4 | exact Rdr.grown hrd4 hg5 hgh
            have hF : ∃ at2, RRdr w5 h' g l at2 ∧ Sync l r2 b2 at2 := by
              first
                | exact ⟨at2, hrf4, hs4⟩
                | exact ⟨at2, RRdr.grown hrf4 hg4 (by omega) (Nat.le_refl _), hs4⟩
            obtain ⟨at2, hF1, hF2⟩ := hF
            have hbad := fun n => bad_any g r2 b2 (w5.drewN n) hD
            have hend := fun n => end_any g r2 b2 (w5.drewN n) hD
            have hcell : w5.cell? ⟨h', 1, none⟩ = some (.int .i64 at2) := by
              obtain ⟨_, _, hb, _⟩ := hF1; exact (two_cells hb).2.1
            have HD := Lib.hid hD
            have HF1 := Lib.hid hF1
            have HF2 := Lib.hid hF2
            clear hrd4 hrf4 hs4 hg4 hg5 hD hF1 HBT HRB HBL HBL2 HA
            rcases hF2 with ⟨rfl, k, rfl, hk, hr2⟩ | ⟨rfl, rfl⟩
            · by_cases hkl : k = l.length
              · rw [show (!false && decide (r2.length = 0)) = true by rw [hr2, List.length_drop]; simp; omega] at hend
                have hd : decide ((k : Int) < 0) = false := by simp
                have hd2 : ((k : Int) == (l.length : Int)) = true := by simp; omega
                have HBad := Lib.hid hbad
                have HEnd := Lib.hid hend
                clear hbad hend hr2 hkl
                go_wp2_with fail
                go_quiet ((first | (go_at_call 27; exact quiet_same (HBad.out _)) | (go_at_call 28; exact quiet_same (HEnd.out _))))
                go_wp2
                go_roundw
                case rel => exact ⟨i + 1, by have := HI.out; omega, by omega, by go_num, below_drewN hb5 _, r2, false, k, HD.out, HF1.out, HF2.out⟩
                case measure => simp [intOf]; omega
              · rw [show (!false && decide (r2.length = 0)) = false by rw [hr2, List.length_drop]; simp; omega] at hend
                have hd : decide ((k : Int) < 0) = false := by simp
                have hd2 : ((k : Int) == (l.length : Int)) = false := by simp; omega
                have HBad := Lib.hid hbad
                have HEnd := Lib.hid hend
                clear hbad hend hr2 hkl
                go_wp2_with fail
                go_quiet ((first | (go_at_call 27; exact quiet_same (HBad.out _)) | (go_at_call 28; exact quiet_same (HEnd.out _))))
                go_wp2
                go_roundw
                case rel => exact ⟨i + 1, by have := HI.out; omega, by omega, by go_num, below_drewN hb5 _, r2, false, k, HD.out, HF1.out, HF2.out⟩
                case measure => simp [intOf]; omega
            · have hd : decide ((-1 : Int) < 0) = true := by decide
              have hd2 : ((-1 : Int) == (l.length : Int)) = false := by rw [beq_eq_false_iff_ne]; omega
              have HBad := Lib.hid hbad
              have HEnd := Lib.hid hend
              clear hbad hend
              go_wp2_with fail
              go_quiet ((first | (go_at_call 27; exact quiet_same (HBad.out _)) | (go_at_call 28; exact quiet_same (HEnd.out _))))
              go_wp2
              go_roundw
              case rel => exact ⟨i + 1, by have := HI.out; omega, by omega, by go_num, below_drewN hb5 _, r2, true, -1, HD.out, HF1.out, HF2.out⟩
              case measure => simp [intOf]; omega
    · clear hrd hrf hsy HQ1 HQL
      have hex : (q.length : Int) ≤ (i : Int) ∨ (40 : Int) ≤ (i : Int) := by omega
      rcases hex with hex | hex
      · go_wp2
        go_ret
        exact ⟨rfl, HBB.out.trans (hbr.mono HBB.out.size)⟩
      · go_wp2
        all_goals go_ret
        all_goals exact ⟨rfl, HBB.out.trans (hbr.mono HBB.out.size)⟩

theorem reads_any (l q : List Nat) (a b : Option Addr) (cap cap2 : Nat) (w : World) (hr : Rd w a l) (hq : Rd w b q) (hcap : l.length ≤ cap) (hnil : a = none → cap = 0) (hT : Tab w) :
    Calls Tryd.prog 6 #[.slice a l.length cap, .slice b q.length cap2] w (Yes w) := by
  rcases Nat.lt_or_ge 1000 l.length with h | h
  · exact reads_long l q a b cap cap2 w hT h hr.2.1
  · exact reads_short l q a b cap cap2 w hr hq hcap hnil hT h
end Go.Proofs.YtmadcbpeiibfaaaDoor
