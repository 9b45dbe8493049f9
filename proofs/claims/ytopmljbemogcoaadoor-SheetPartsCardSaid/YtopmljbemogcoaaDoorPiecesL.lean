/- The walk of the law SheetParts. -/
import Derived.Test.YtopmljbemogcoaaDoorPieces
import Derived.Test.YtopmljbemogcoaaDoorTornL
import Derived.BigQuiet
namespace Go.Proofs.YtopmljbemogcoaaDoor
open Go.RowKit
open Drawbar Drawbar.Sheet

theorem below_dr {B : Nat} {a w : World} (h : Below B a w) (n : Nat) : Below B a (w.drewN n) := ⟨h.os, h.tape, h.output, h.size, h.block⟩

set_option maxRecDepth 100000 in
set_option maxHeartbeats 4000000 in
theorem pieces_ep (s : Sh) (a : Option Addr) (c y z : Nat) (w : World) (hs : Sh.In s) (hr : s.da.length ≤ 64 → Rd w a s.da) (hc : s.da.length ≤ c) (hnil : a = none → c = 0) (hT : Tab w) (hy : y < 256) (hz : (z : Int) % 4 = 0) :
    Calls Tryd.prog 8 #[sv s a c, .int .u8 y, .int .u8 z] w (Yes w) := by
  have hcells := boxs_cells w 25 s a c
  have hB := boxs_below w 25 s a c
  have hT1 := hT.alloc (boxs 25 s a c)
  have hnf := near_form s hs.ep hs.sq
  generalize hw1 : w.alloc (boxs 25 s a c) = w1 at *
  change w.alloc (.cells #[.int .u8 s.k, .int .u64 s.ep, .int .u64 s.sq, .int .i64 s.ad, .int .i64 s.fr, .slice a s.da.length c] 25) = w1 at hw1
  have hA := fun W (hb : Below w1.heap.size w1 W) => awake_any W (hT1.below hb hT1.pos)
  have hN := fun W (hb : Below w1.heap.size w1 W) => near_at s a c W hs (fun h => ((hr h).below hB).below hb) hc hnil
  have hO := fun s a c W => of_any s a c W
  generalize nearS s = x at *
  obtain ⟨f1, f2, f3, f4, f5, f6, f7, f8, _⟩ := of_decide_eq_true hnf
  have hl := fm_len hnf
  have HY : Hid (Near1 x (⟨x.k, x.ep ^^^ (1 + y), x.sq, x.ad, x.fr, x.da⟩ : Sh) 1 7) := Lib.hid (near_ep hnf (1 + y) (by omega))
  have hxor : bits .xor .u64 (x.ep : Int) (1 + (y : Int)) = ((x.ep ^^^ (1 + y) : Nat) : Int) := by
    have h := u64_xor_nat x.ep (1 + y) (by omega) (by omega)
    rwa [show ((1 + y : Nat) : Int) = 1 + (y : Int) by omega] at h
  have HA := Lib.hid hA
  have HN := Lib.hid hN
  have HO := Lib.hid hO
  have HX := Lib.hid hnf
  have HC := Lib.hid hcells
  have HT := Lib.hid hT1
  have hb0 := Below.refl w1.heap.size w1
  obtain ⟨p0, p1, p2, p3, p4, p5⟩ := hcells _ hb0
  clear hA hN hO hcells hr hs hnf hT hT1
  go_enter Tryd.func8, Tryd.ntmps8
  go_wp2_with (first
    | (go_at_call 10; (with_reducible refine (HA.out _ hb0).mono ?_); rintro e w2 ⟨rfl, hb2'⟩; have hb2 := hb0.trans hb2'; obtain ⟨q0, q1, q2, q3, q4, q5⟩ := HC.out _ hb2)
    | (go_at_call 14; (with_reducible refine (HN.out _ hb2).mono ?_); rintro e w3 ⟨a3, c3, rfl, hb3', hr3, hc3, hn3⟩; have hb3 := hb2.trans (hb3'.mono hb2.size); have hbp : Below w3.heap.size w3 ((w3.alloc (boxs 25 x a3 c3)).alloc (boxs 25 (⟨x.k, x.ep ^^^ (1 + y), x.sq, x.ad, x.fr, x.da⟩ : Sh) a3 c3)) := (boxs_below w3 _ _ _ _).trans ((boxs_below _ _ _ _ _).mono (by simp)); have hbq := hb3.trans (hbp.mono hb3.size); have hr3x := hr3.below hbp)
    | (go_at_call 15; (with_reducible refine (lay_row x a3 c3 _ HX.out hr3x hc3 hn3 (HT.out.below hbq HT.out.pos)).mono ?_); rintro e w4 ⟨gp, k4, rfl, hk4, hr4, hgp, hgp2, -, hb4'⟩; have hb4 := hbq.trans (hb4'.mono hbq.size); have hr4x := hr3x.below hb4'; have hcy := boxs_cells (w3.alloc (boxs 25 x a3 c3)) 25 (⟨x.k, x.ep ^^^ (1 + y), x.sq, x.ad, x.fr, x.da⟩ : Sh) a3 c3 w4 hb4'; rw [show (w3.alloc (boxs 25 x a3 c3)).heap.size = w3.heap.size + 1 by simp] at hcy; obtain ⟨y0, y1, y2, y3, y4, y5⟩ := hcy)
    | (go_at_call 15; (with_reducible refine (lay_row (⟨x.k, x.ep ^^^ (1 + y), x.sq, x.ad, x.fr, x.da⟩ : Sh) a3 c3 _ HY.out.fy hr4x hc3 hn3 (HT.out.below hb4 HT.out.pos)).mono ?_); rintro e w5 ⟨gq, k5, rfl, hk5, hr5, hgq, hgq2, -, hb5'⟩; have hb5 := hb4.trans (hb5'.mono hb4.size); have hr5x := hr4x.below hb5'; have hr4p := hr4.below hb5'))
  have hd : ∀ u ∈ x.da, u < 256 := hr3.1
  have HPX := Lib.hid (page_length x hl)
  have HPY := Lib.hid (page_length (⟨x.k, x.ep ^^^ (1 + y), x.sq, x.ad, x.fr, x.da⟩ : Sh) (fm_len HY.out.fy))
  have hb0 := Below.refl w5.heap.size w5
  clear y0 y1 y2 y3 y4 y5 q0 q1 q2 q3 q4 q5 p0 p1 p2 p3 p4 p5 hr3 hr3x hr4 hr4x
  go_loopw [13] (fun i wr => ∃ j : Nat, j ≤ 96 ∧ i = .int .i64 j ∧ Below w5.heap.size w5 wr) (fun i _ => 96 - (intOf i).toNat)
  case atStart => exact ⟨0, Nat.zero_le _, rfl, hb0⟩
  case round =>
    obtain ⟨j, hj, rfl, hbr⟩ := hrel
    by_cases hlt : j < 96
    · obtain ⟨_, _, e1, hcp⟩ := (hr4p.below hbr).2.2 (by rw [HPX.out]; omega)
      cases e1
      obtain ⟨_, _, e2, hcq⟩ := (hr5.below hbr).2.2 (by rw [HPY.out]; omega)
      cases e2
      have m1 := hcp j (by rw [HPX.out]; omega)
      have m2 := hcq j (by rw [HPY.out]; omega)
      rw [Nat.zero_add] at m1 m2
      have hout := HY.out.out j hlt
      generalize (page x).getD j 0 = u at m1 hout
      generalize (page (⟨x.k, x.ep ^^^ (1 + y), x.sq, x.ad, x.fr, x.da⟩ : Sh)).getD j 0 = v at m2 hout
      have i1 : (j : Int) < 96 := by omega
      clear hcp hcq
      by_cases huv : u = v
      · have n1 : ((u : Int) != (v : Int)) = false := by simp; omega
        clear hout huv
        go_wp2_with fail
        go_quiet (fail)
        go_wp2
        go_roundw
        case rel => exact ⟨j + 1, by omega, by go_num, below_dr hbr _⟩
        case measure => simp [intOf]; omega
      · have n1 : ((u : Int) != (v : Int)) = true := by simp; omega
        by_cases hin : 1 ≤ j ∧ j < 7
        · obtain ⟨g1, g2⟩ := hin
          have d1 : decide ((j : Int) < 1) = false := decide_eq_false (by omega)
          have d2 : decide ((7 : Int) ≤ (j : Int)) = false := decide_eq_false (by omega)
          clear hout huv
          go_wp2_with fail
          go_quiet (fail)
          go_wp2
          go_roundw
          case rel => exact ⟨j + 1, by omega, by go_num, below_dr hbr _⟩
          case measure => simp [intOf]; omega
        · have hin2 : 91 ≤ j ∧ j < 95 := by
            rcases hout huv with h | h
            · exact absurd h hin
            · exact h
          obtain ⟨g1, g2⟩ := hin2
          have g3 : 7 ≤ j := by omega
          have d1 : decide ((j : Int) < 1) = false := decide_eq_false (by omega)
          have d2 : decide ((7 : Int) ≤ (j : Int)) = true := decide_eq_true (by omega)
          have d3 : decide ((j : Int) < 91) = false := decide_eq_false (by omega)
          have d4 : decide ((95 : Int) ≤ (j : Int)) = false := decide_eq_false (by omega)
          clear hout huv hin
          go_wp2_with fail
          go_quiet (fail)
          go_wp2
          go_roundw
          case rel => exact ⟨j + 1, by omega, by go_num, below_dr hbr _⟩
          case measure => simp [intOf]; omega
    · have i1 : ¬ (j : Int) < 96 := by omega
      have hbw := hb5.trans (hbr.mono hb5.size)
      have HRD := Lib.hid (show Calls Tryd.prog 16 #[.slice (some ⟨gq, 0, none⟩) 96 k5] wr (ReadPost wr ((⟨x.k, x.ep ^^^ (1 + y), x.sq, x.ad, x.fr, x.da⟩ : Sh), 0)) by
        have h := sread_any (page (⟨x.k, x.ep ^^^ (1 + y), x.sq, x.ad, x.fr, x.da⟩ : Sh)) (some ⟨gq, 0, none⟩) k5 wr 96 HPY.out (hr5.below hbr) (by rw [HPY.out]; exact hk5) (fun h => by cases h) (HT.out.below hbw HT.out.pos)
        rwa [read_page HY.out.fy hd] at h)
      go_wp2_with (go_at_call 16; (with_reducible refine HRD.out.mono ?_); rintro e w6 ⟨a6, c6, rfl, hr6, hc6, hn6, hb6'⟩; dsimp only at hr6 hc6)
      have hwx6 : Below w6.heap.size w6 (w6.alloc (boxs 25 (⟨x.k, x.ep ^^^ (1 + y), x.sq, x.ad, x.fr, x.da⟩ : Sh) a6 c6)) := boxs_below w6 _ _ _ _
      have hbx : Below w1.heap.size w1 (w6.alloc (boxs 25 (⟨x.k, x.ep ^^^ (1 + y), x.sq, x.ad, x.fr, x.da⟩ : Sh) a6 c6)) := hbw.trans ((hb6'.trans (hwx6.mono hb6'.size)).mono hbw.size)
      have hb36 : Below ((w3.alloc (boxs 25 x a3 c3)).alloc (boxs 25 (⟨x.k, x.ep ^^^ (1 + y), x.sq, x.ad, x.fr, x.da⟩ : Sh) a3 c3)).heap.size ((w3.alloc (boxs 25 x a3 c3)).alloc (boxs 25 (⟨x.k, x.ep ^^^ (1 + y), x.sq, x.ad, x.fr, x.da⟩ : Sh) a3 c3)) (w6.alloc (boxs 25 (⟨x.k, x.ep ^^^ (1 + y), x.sq, x.ad, x.fr, x.da⟩ : Sh) a6 c6)) :=
        hb4'.trans ((hb5'.trans ((hbr.trans ((hb6'.trans (hwx6.mono hb6'.size)).mono hbr.size)).mono hb5'.size)).mono hb4'.size)
      have hcx : ∀ W, Below (w6.alloc (boxs 25 (⟨x.k, x.ep ^^^ (1 + y), x.sq, x.ad, x.fr, x.da⟩ : Sh) a6 c6)).heap.size (w6.alloc (boxs 25 (⟨x.k, x.ep ^^^ (1 + y), x.sq, x.ad, x.fr, x.da⟩ : Sh) a6 c6)) W → ShAt W (w3.heap.size + 1) (⟨x.k, x.ep ^^^ (1 + y), x.sq, x.ad, x.fr, x.da⟩ : Sh) a3 c3 ∧ ShAt W w6.heap.size (⟨x.k, x.ep ^^^ (1 + y), x.sq, x.ad, x.fr, x.da⟩ : Sh) a6 c6 := fun W hb => by
        have h := boxs_cells (w3.alloc (boxs 25 x a3 c3)) 25 (⟨x.k, x.ep ^^^ (1 + y), x.sq, x.ad, x.fr, x.da⟩ : Sh) a3 c3 W (hb36.trans (hb.mono hb36.size))
        rw [show (w3.alloc (boxs 25 x a3 c3)).heap.size = w3.heap.size + 1 by simp] at h
        exact ⟨h, boxs_cells w6 _ _ a6 c6 W hb⟩
      have hrx := ((hr5x.below hbr).below hb6').below hwx6
      have hry := hr6.below hwx6
      generalize hwx : w6.alloc (boxs 25 (⟨x.k, x.ep ^^^ (1 + y), x.sq, x.ad, x.fr, x.da⟩ : Sh) a6 c6) = wx at *
      have HCX := Lib.hid hcx
      have HSM := Lib.hid (fun W (hb : Below wx.heap.size wx W) => (show Calls Tryd.prog 18 #[sv (⟨x.k, x.ep ^^^ (1 + y), x.sq, x.ad, x.fr, x.da⟩ : Sh) a6 c6, sv (⟨x.k, x.ep ^^^ (1 + y), x.sq, x.ad, x.fr, x.da⟩ : Sh) a3 c3] W fun e w' => e = .returned (.bool true) ∧ Below W.heap.size W w' by have h := ssame_any (⟨x.k, x.ep ^^^ (1 + y), x.sq, x.ad, x.fr, x.da⟩ : Sh) (⟨x.k, x.ep ^^^ (1 + y), x.sq, x.ad, x.fr, x.da⟩ : Sh) a6 a3 c6 c3 W (hry.below hb) (hrx.below hb); rw [same_true.2 rfl] at h; exact h))
      have HFM := Lib.hid (fun W => (show Calls Tryd.prog 11 #[sv (⟨x.k, x.ep ^^^ (1 + y), x.sq, x.ad, x.fr, x.da⟩ : Sh) a3 c3] W fun e w' => e = .returned (.bool true) ∧ Below W.heap.size W w' by have h := sform_any (⟨x.k, x.ep ^^^ (1 + y), x.sq, x.ad, x.fr, x.da⟩ : Sh) a3 c3 W; rw [HY.out.fy] at h; exact h))
      have hfinal : ∀ W, Below wx.heap.size wx W → Below w.heap.size w W := fun W hb => hB.trans ((hbx.trans (hb.mono hbx.size)).mono hB.size)
      have HFIN := Lib.hid hfinal
      have hbd := drew_below wx
      obtain ⟨⟨m0, m1, m2, m3, m4, m5⟩, ⟨n0, n1, n2, n3, n4, n5⟩⟩ := hcx _ hbd
      have hq0 := And.intro (And.intro m0 (And.intro m1 (And.intro m2 (And.intro m3 (And.intro m4 m5))))) (And.intro n0 (And.intro n1 (And.intro n2 (And.intro n3 (And.intro n4 n5)))))
      clear m0 m1 m2 m3 m4 m5 n0 n1 n2 n3 n4 n5 hcx hrx hry hfinal HA HN HC HT hr5 hr5x hr4p hr6 hb36 hbx hwx6 hb6' hbr hb5' hb4' hbw hb5 hb4 hbp hbq HRD
      go_region_held (fun W => (W.cell? ⟨w3.heap.size + 1, 0, none⟩ = some (.int .u8 x.k) ∧ W.cell? ⟨w3.heap.size + 1, 1, none⟩ = some (.int .u64 ((x.ep ^^^ (1 + y) : Nat) : Int)) ∧ W.cell? ⟨w3.heap.size + 1, 2, none⟩ = some (.int .u64 x.sq) ∧ W.cell? ⟨w3.heap.size + 1, 3, none⟩ = some (.int .i64 x.ad) ∧ W.cell? ⟨w3.heap.size + 1, 4, none⟩ = some (.int .i64 x.fr) ∧ W.cell? ⟨w3.heap.size + 1, 5, none⟩ = some (.slice a3 x.da.length c3)) ∧ (W.cell? ⟨w6.heap.size, 0, none⟩ = some (.int .u8 x.k) ∧ W.cell? ⟨w6.heap.size, 1, none⟩ = some (.int .u64 ((x.ep ^^^ (1 + y) : Nat) : Int)) ∧ W.cell? ⟨w6.heap.size, 2, none⟩ = some (.int .u64 x.sq) ∧ W.cell? ⟨w6.heap.size, 3, none⟩ = some (.int .i64 x.ad) ∧ W.cell? ⟨w6.heap.size, 4, none⟩ = some (.int .i64 x.fr) ∧ W.cell? ⟨w6.heap.size, 5, none⟩ = some (.slice a6 x.da.length c6))) (first | exact hq0 | exact HCX.out _ (by assumption)) (first
        | (go_at_call 13; (with_reducible refine (HO.out (⟨x.k, x.ep ^^^ (1 + y), x.sq, x.ad, x.fr, x.da⟩ : Sh) a6 c6 _).mono ?_); rintro e w7 ⟨rfl, hb'⟩; have hb7 := (show Below wx.heap.size wx _ by assumption).trans (hb'.mono (show Below wx.heap.size wx _ by assumption).size); clear hb')
        | (go_at_call 13; (with_reducible refine (HO.out (⟨x.k, x.ep ^^^ (1 + y), x.sq, x.ad, x.fr, x.da⟩ : Sh) a3 c3 _).mono ?_); rintro e w7 ⟨rfl, hb'⟩; have hb7 := (show Below wx.heap.size wx _ by assumption).trans (hb'.mono (show Below wx.heap.size wx _ by assumption).size); clear hb')
        | (go_at_call 18; (with_reducible refine (HSM.out _ (by assumption)).mono ?_); rintro e w8 ⟨rfl, hb'⟩; have hb8 := (show Below wx.heap.size wx _ by assumption).trans (hb'.mono (show Below wx.heap.size wx _ by assumption).size); clear hb')
        | (go_at_call 11; (with_reducible refine (HFM.out _).mono ?_); rintro e w9 ⟨rfl, hb'⟩; have hb9 := (show Below wx.heap.size wx _ by assumption).trans (hb'.mono (show Below wx.heap.size wx _ by assumption).size); clear hb'))
      all_goals
        go_wp2
        go_ret
        exact ⟨rfl, HFIN.out _ hb9⟩

set_option maxRecDepth 100000 in
set_option maxHeartbeats 4000000 in
theorem pieces_sq (s : Sh) (a : Option Addr) (c y z : Nat) (w : World) (hs : Sh.In s) (hr : s.da.length ≤ 64 → Rd w a s.da) (hc : s.da.length ≤ c) (hnil : a = none → c = 0) (hT : Tab w) (hy : y < 256) (hz : (z : Int) % 4 = 1) :
    Calls Tryd.prog 8 #[sv s a c, .int .u8 y, .int .u8 z] w (Yes w) := by
  have hcells := boxs_cells w 25 s a c
  have hB := boxs_below w 25 s a c
  have hT1 := hT.alloc (boxs 25 s a c)
  have hnf := near_form s hs.ep hs.sq
  generalize hw1 : w.alloc (boxs 25 s a c) = w1 at *
  change w.alloc (.cells #[.int .u8 s.k, .int .u64 s.ep, .int .u64 s.sq, .int .i64 s.ad, .int .i64 s.fr, .slice a s.da.length c] 25) = w1 at hw1
  have hA := fun W (hb : Below w1.heap.size w1 W) => awake_any W (hT1.below hb hT1.pos)
  have hN := fun W (hb : Below w1.heap.size w1 W) => near_at s a c W hs (fun h => ((hr h).below hB).below hb) hc hnil
  have hO := fun s a c W => of_any s a c W
  generalize nearS s = x at *
  obtain ⟨f1, f2, f3, f4, f5, f6, f7, f8, _⟩ := of_decide_eq_true hnf
  have hl := fm_len hnf
  have HY : Hid (Near1 x (⟨x.k, x.ep, x.sq ^^^ (1 + y), x.ad, x.fr, x.da⟩ : Sh) 7 13) := Lib.hid (near_sq hnf (1 + y) (by omega))
  have hxor : bits .xor .u64 (x.sq : Int) (1 + (y : Int)) = ((x.sq ^^^ (1 + y) : Nat) : Int) := by
    have h := u64_xor_nat x.sq (1 + y) (by omega) (by omega)
    rwa [show ((1 + y : Nat) : Int) = 1 + (y : Int) by omega] at h
  have HA := Lib.hid hA
  have HN := Lib.hid hN
  have HO := Lib.hid hO
  have HX := Lib.hid hnf
  have HC := Lib.hid hcells
  have HT := Lib.hid hT1
  have hb0 := Below.refl w1.heap.size w1
  obtain ⟨p0, p1, p2, p3, p4, p5⟩ := hcells _ hb0
  clear hA hN hO hcells hr hs hnf hT hT1
  go_enter Tryd.func8, Tryd.ntmps8
  go_wp2_with (first
    | (go_at_call 10; (with_reducible refine (HA.out _ hb0).mono ?_); rintro e w2 ⟨rfl, hb2'⟩; have hb2 := hb0.trans hb2'; obtain ⟨q0, q1, q2, q3, q4, q5⟩ := HC.out _ hb2)
    | (go_at_call 14; (with_reducible refine (HN.out _ hb2).mono ?_); rintro e w3 ⟨a3, c3, rfl, hb3', hr3, hc3, hn3⟩; have hb3 := hb2.trans (hb3'.mono hb2.size); have hbp : Below w3.heap.size w3 ((w3.alloc (boxs 25 x a3 c3)).alloc (boxs 25 (⟨x.k, x.ep, x.sq ^^^ (1 + y), x.ad, x.fr, x.da⟩ : Sh) a3 c3)) := (boxs_below w3 _ _ _ _).trans ((boxs_below _ _ _ _ _).mono (by simp)); have hbq := hb3.trans (hbp.mono hb3.size); have hr3x := hr3.below hbp)
    | (go_at_call 15; (with_reducible refine (lay_row x a3 c3 _ HX.out hr3x hc3 hn3 (HT.out.below hbq HT.out.pos)).mono ?_); rintro e w4 ⟨gp, k4, rfl, hk4, hr4, hgp, hgp2, -, hb4'⟩; have hb4 := hbq.trans (hb4'.mono hbq.size); have hr4x := hr3x.below hb4'; have hcy := boxs_cells (w3.alloc (boxs 25 x a3 c3)) 25 (⟨x.k, x.ep, x.sq ^^^ (1 + y), x.ad, x.fr, x.da⟩ : Sh) a3 c3 w4 hb4'; rw [show (w3.alloc (boxs 25 x a3 c3)).heap.size = w3.heap.size + 1 by simp] at hcy; obtain ⟨y0, y1, y2, y3, y4, y5⟩ := hcy)
    | (go_at_call 15; (with_reducible refine (lay_row (⟨x.k, x.ep, x.sq ^^^ (1 + y), x.ad, x.fr, x.da⟩ : Sh) a3 c3 _ HY.out.fy hr4x hc3 hn3 (HT.out.below hb4 HT.out.pos)).mono ?_); rintro e w5 ⟨gq, k5, rfl, hk5, hr5, hgq, hgq2, -, hb5'⟩; have hb5 := hb4.trans (hb5'.mono hb4.size); have hr5x := hr4x.below hb5'; have hr4p := hr4.below hb5'))
  have hd : ∀ u ∈ x.da, u < 256 := hr3.1
  have HPX := Lib.hid (page_length x hl)
  have HPY := Lib.hid (page_length (⟨x.k, x.ep, x.sq ^^^ (1 + y), x.ad, x.fr, x.da⟩ : Sh) (fm_len HY.out.fy))
  have hb0 := Below.refl w5.heap.size w5
  clear y0 y1 y2 y3 y4 y5 q0 q1 q2 q3 q4 q5 p0 p1 p2 p3 p4 p5 hr3 hr3x hr4 hr4x
  go_loopw [13] (fun i wr => ∃ j : Nat, j ≤ 96 ∧ i = .int .i64 j ∧ Below w5.heap.size w5 wr) (fun i _ => 96 - (intOf i).toNat)
  case atStart => exact ⟨0, Nat.zero_le _, rfl, hb0⟩
  case round =>
    obtain ⟨j, hj, rfl, hbr⟩ := hrel
    by_cases hlt : j < 96
    · obtain ⟨_, _, e1, hcp⟩ := (hr4p.below hbr).2.2 (by rw [HPX.out]; omega)
      cases e1
      obtain ⟨_, _, e2, hcq⟩ := (hr5.below hbr).2.2 (by rw [HPY.out]; omega)
      cases e2
      have m1 := hcp j (by rw [HPX.out]; omega)
      have m2 := hcq j (by rw [HPY.out]; omega)
      rw [Nat.zero_add] at m1 m2
      have hout := HY.out.out j hlt
      generalize (page x).getD j 0 = u at m1 hout
      generalize (page (⟨x.k, x.ep, x.sq ^^^ (1 + y), x.ad, x.fr, x.da⟩ : Sh)).getD j 0 = v at m2 hout
      have i1 : (j : Int) < 96 := by omega
      clear hcp hcq
      by_cases huv : u = v
      · have n1 : ((u : Int) != (v : Int)) = false := by simp; omega
        clear hout huv
        go_wp2_with fail
        go_quiet (fail)
        go_wp2
        go_roundw
        case rel => exact ⟨j + 1, by omega, by go_num, below_dr hbr _⟩
        case measure => simp [intOf]; omega
      · have n1 : ((u : Int) != (v : Int)) = true := by simp; omega
        by_cases hin : 7 ≤ j ∧ j < 13
        · obtain ⟨g1, g2⟩ := hin
          have d1 : decide ((j : Int) < 7) = false := decide_eq_false (by omega)
          have d2 : decide ((13 : Int) ≤ (j : Int)) = false := decide_eq_false (by omega)
          clear hout huv
          go_wp2_with fail
          go_quiet (fail)
          go_wp2
          go_roundw
          case rel => exact ⟨j + 1, by omega, by go_num, below_dr hbr _⟩
          case measure => simp [intOf]; omega
        · have hin2 : 91 ≤ j ∧ j < 95 := by
            rcases hout huv with h | h
            · exact absurd h hin
            · exact h
          obtain ⟨g1, g2⟩ := hin2
          have g3 : 13 ≤ j := by omega
          have d1 : decide ((j : Int) < 7) = false := decide_eq_false (by omega)
          have d2 : decide ((13 : Int) ≤ (j : Int)) = true := decide_eq_true (by omega)
          have d3 : decide ((j : Int) < 91) = false := decide_eq_false (by omega)
          have d4 : decide ((95 : Int) ≤ (j : Int)) = false := decide_eq_false (by omega)
          clear hout huv hin
          go_wp2_with fail
          go_quiet (fail)
          go_wp2
          go_roundw
          case rel => exact ⟨j + 1, by omega, by go_num, below_dr hbr _⟩
          case measure => simp [intOf]; omega
    · have i1 : ¬ (j : Int) < 96 := by omega
      have hbw := hb5.trans (hbr.mono hb5.size)
      have HRD := Lib.hid (show Calls Tryd.prog 16 #[.slice (some ⟨gq, 0, none⟩) 96 k5] wr (ReadPost wr ((⟨x.k, x.ep, x.sq ^^^ (1 + y), x.ad, x.fr, x.da⟩ : Sh), 0)) by
        have h := sread_any (page (⟨x.k, x.ep, x.sq ^^^ (1 + y), x.ad, x.fr, x.da⟩ : Sh)) (some ⟨gq, 0, none⟩) k5 wr 96 HPY.out (hr5.below hbr) (by rw [HPY.out]; exact hk5) (fun h => by cases h) (HT.out.below hbw HT.out.pos)
        rwa [read_page HY.out.fy hd] at h)
      go_wp2_with (go_at_call 16; (with_reducible refine HRD.out.mono ?_); rintro e w6 ⟨a6, c6, rfl, hr6, hc6, hn6, hb6'⟩; dsimp only at hr6 hc6)
      have hwx6 : Below w6.heap.size w6 (w6.alloc (boxs 25 (⟨x.k, x.ep, x.sq ^^^ (1 + y), x.ad, x.fr, x.da⟩ : Sh) a6 c6)) := boxs_below w6 _ _ _ _
      have hbx : Below w1.heap.size w1 (w6.alloc (boxs 25 (⟨x.k, x.ep, x.sq ^^^ (1 + y), x.ad, x.fr, x.da⟩ : Sh) a6 c6)) := hbw.trans ((hb6'.trans (hwx6.mono hb6'.size)).mono hbw.size)
      have hb36 : Below ((w3.alloc (boxs 25 x a3 c3)).alloc (boxs 25 (⟨x.k, x.ep, x.sq ^^^ (1 + y), x.ad, x.fr, x.da⟩ : Sh) a3 c3)).heap.size ((w3.alloc (boxs 25 x a3 c3)).alloc (boxs 25 (⟨x.k, x.ep, x.sq ^^^ (1 + y), x.ad, x.fr, x.da⟩ : Sh) a3 c3)) (w6.alloc (boxs 25 (⟨x.k, x.ep, x.sq ^^^ (1 + y), x.ad, x.fr, x.da⟩ : Sh) a6 c6)) :=
        hb4'.trans ((hb5'.trans ((hbr.trans ((hb6'.trans (hwx6.mono hb6'.size)).mono hbr.size)).mono hb5'.size)).mono hb4'.size)
      have hcx : ∀ W, Below (w6.alloc (boxs 25 (⟨x.k, x.ep, x.sq ^^^ (1 + y), x.ad, x.fr, x.da⟩ : Sh) a6 c6)).heap.size (w6.alloc (boxs 25 (⟨x.k, x.ep, x.sq ^^^ (1 + y), x.ad, x.fr, x.da⟩ : Sh) a6 c6)) W → ShAt W (w3.heap.size + 1) (⟨x.k, x.ep, x.sq ^^^ (1 + y), x.ad, x.fr, x.da⟩ : Sh) a3 c3 ∧ ShAt W w6.heap.size (⟨x.k, x.ep, x.sq ^^^ (1 + y), x.ad, x.fr, x.da⟩ : Sh) a6 c6 := fun W hb => by
        have h := boxs_cells (w3.alloc (boxs 25 x a3 c3)) 25 (⟨x.k, x.ep, x.sq ^^^ (1 + y), x.ad, x.fr, x.da⟩ : Sh) a3 c3 W (hb36.trans (hb.mono hb36.size))
        rw [show (w3.alloc (boxs 25 x a3 c3)).heap.size = w3.heap.size + 1 by simp] at h
        exact ⟨h, boxs_cells w6 _ _ a6 c6 W hb⟩
      have hrx := ((hr5x.below hbr).below hb6').below hwx6
      have hry := hr6.below hwx6
      generalize hwx : w6.alloc (boxs 25 (⟨x.k, x.ep, x.sq ^^^ (1 + y), x.ad, x.fr, x.da⟩ : Sh) a6 c6) = wx at *
      have HCX := Lib.hid hcx
      have HSM := Lib.hid (fun W (hb : Below wx.heap.size wx W) => (show Calls Tryd.prog 18 #[sv (⟨x.k, x.ep, x.sq ^^^ (1 + y), x.ad, x.fr, x.da⟩ : Sh) a6 c6, sv (⟨x.k, x.ep, x.sq ^^^ (1 + y), x.ad, x.fr, x.da⟩ : Sh) a3 c3] W fun e w' => e = .returned (.bool true) ∧ Below W.heap.size W w' by have h := ssame_any (⟨x.k, x.ep, x.sq ^^^ (1 + y), x.ad, x.fr, x.da⟩ : Sh) (⟨x.k, x.ep, x.sq ^^^ (1 + y), x.ad, x.fr, x.da⟩ : Sh) a6 a3 c6 c3 W (hry.below hb) (hrx.below hb); rw [same_true.2 rfl] at h; exact h))
      have HFM := Lib.hid (fun W => (show Calls Tryd.prog 11 #[sv (⟨x.k, x.ep, x.sq ^^^ (1 + y), x.ad, x.fr, x.da⟩ : Sh) a3 c3] W fun e w' => e = .returned (.bool true) ∧ Below W.heap.size W w' by have h := sform_any (⟨x.k, x.ep, x.sq ^^^ (1 + y), x.ad, x.fr, x.da⟩ : Sh) a3 c3 W; rw [HY.out.fy] at h; exact h))
      have hfinal : ∀ W, Below wx.heap.size wx W → Below w.heap.size w W := fun W hb => hB.trans ((hbx.trans (hb.mono hbx.size)).mono hB.size)
      have HFIN := Lib.hid hfinal
      have hbd := drew_below wx
      obtain ⟨⟨m0, m1, m2, m3, m4, m5⟩, ⟨n0, n1, n2, n3, n4, n5⟩⟩ := hcx _ hbd
      have hq0 := And.intro (And.intro m0 (And.intro m1 (And.intro m2 (And.intro m3 (And.intro m4 m5))))) (And.intro n0 (And.intro n1 (And.intro n2 (And.intro n3 (And.intro n4 n5)))))
      clear m0 m1 m2 m3 m4 m5 n0 n1 n2 n3 n4 n5 hcx hrx hry hfinal HA HN HC HT hr5 hr5x hr4p hr6 hb36 hbx hwx6 hb6' hbr hb5' hb4' hbw hb5 hb4 hbp hbq HRD
      go_region_held (fun W => (W.cell? ⟨w3.heap.size + 1, 0, none⟩ = some (.int .u8 x.k) ∧ W.cell? ⟨w3.heap.size + 1, 1, none⟩ = some (.int .u64 x.ep) ∧ W.cell? ⟨w3.heap.size + 1, 2, none⟩ = some (.int .u64 ((x.sq ^^^ (1 + y) : Nat) : Int)) ∧ W.cell? ⟨w3.heap.size + 1, 3, none⟩ = some (.int .i64 x.ad) ∧ W.cell? ⟨w3.heap.size + 1, 4, none⟩ = some (.int .i64 x.fr) ∧ W.cell? ⟨w3.heap.size + 1, 5, none⟩ = some (.slice a3 x.da.length c3)) ∧ (W.cell? ⟨w6.heap.size, 0, none⟩ = some (.int .u8 x.k) ∧ W.cell? ⟨w6.heap.size, 1, none⟩ = some (.int .u64 x.ep) ∧ W.cell? ⟨w6.heap.size, 2, none⟩ = some (.int .u64 ((x.sq ^^^ (1 + y) : Nat) : Int)) ∧ W.cell? ⟨w6.heap.size, 3, none⟩ = some (.int .i64 x.ad) ∧ W.cell? ⟨w6.heap.size, 4, none⟩ = some (.int .i64 x.fr) ∧ W.cell? ⟨w6.heap.size, 5, none⟩ = some (.slice a6 x.da.length c6))) (first | exact hq0 | exact HCX.out _ (by assumption)) (first
        | (go_at_call 13; (with_reducible refine (HO.out (⟨x.k, x.ep, x.sq ^^^ (1 + y), x.ad, x.fr, x.da⟩ : Sh) a6 c6 _).mono ?_); rintro e w7 ⟨rfl, hb'⟩; have hb7 := (show Below wx.heap.size wx _ by assumption).trans (hb'.mono (show Below wx.heap.size wx _ by assumption).size); clear hb')
        | (go_at_call 13; (with_reducible refine (HO.out (⟨x.k, x.ep, x.sq ^^^ (1 + y), x.ad, x.fr, x.da⟩ : Sh) a3 c3 _).mono ?_); rintro e w7 ⟨rfl, hb'⟩; have hb7 := (show Below wx.heap.size wx _ by assumption).trans (hb'.mono (show Below wx.heap.size wx _ by assumption).size); clear hb')
        | (go_at_call 18; (with_reducible refine (HSM.out _ (by assumption)).mono ?_); rintro e w8 ⟨rfl, hb'⟩; have hb8 := (show Below wx.heap.size wx _ by assumption).trans (hb'.mono (show Below wx.heap.size wx _ by assumption).size); clear hb')
        | (go_at_call 11; (with_reducible refine (HFM.out _).mono ?_); rintro e w9 ⟨rfl, hb'⟩; have hb9 := (show Below wx.heap.size wx _ by assumption).trans (hb'.mono (show Below wx.heap.size wx _ by assumption).size); clear hb'))
      all_goals
        go_wp2
        go_ret
        exact ⟨rfl, HFIN.out _ hb9⟩

set_option maxRecDepth 100000 in
set_option maxHeartbeats 4000000 in
theorem pieces_ad (s : Sh) (a : Option Addr) (c y z : Nat) (w : World) (hs : Sh.In s) (hr : s.da.length ≤ 64 → Rd w a s.da) (hc : s.da.length ≤ c) (hnil : a = none → c = 0) (hT : Tab w) (hy : y < 256) (hz : (z : Int) % 4 = 2) :
    Calls Tryd.prog 8 #[sv s a c, .int .u8 y, .int .u8 z] w (Yes w) := by
  have hcells := boxs_cells w 25 s a c
  have hB := boxs_below w 25 s a c
  have hT1 := hT.alloc (boxs 25 s a c)
  have hnf := near_form s hs.ep hs.sq
  generalize hw1 : w.alloc (boxs 25 s a c) = w1 at *
  change w.alloc (.cells #[.int .u8 s.k, .int .u64 s.ep, .int .u64 s.sq, .int .i64 s.ad, .int .i64 s.fr, .slice a s.da.length c] 25) = w1 at hw1
  have hA := fun W (hb : Below w1.heap.size w1 W) => awake_any W (hT1.below hb hT1.pos)
  have hN := fun W (hb : Below w1.heap.size w1 W) => near_at s a c W hs (fun h => ((hr h).below hB).below hb) hc hnil
  have hO := fun s a c W => of_any s a c W
  generalize nearS s = x at *
  obtain ⟨f1, f2, f3, f4, f5, f6, f7, f8, _⟩ := of_decide_eq_true hnf
  have hl := fm_len hnf
  have HY : Hid (Near1 x (⟨x.k, x.ep, x.sq, ((x.ad.toNat ^^^ (1 + y) : Nat) : Int), x.fr, x.da⟩ : Sh) 13 15) := Lib.hid (near_ad hnf (1 + y) (by omega))
  have hxor : bits .xor .i64 x.ad (1 + (y : Int)) = ((x.ad.toNat ^^^ (1 + y) : Nat) : Int) := by
    have h := i64_xor_nat x.ad.toNat (1 + y) (by omega) (by omega)
    rwa [show ((1 + y : Nat) : Int) = 1 + (y : Int) by omega, show ((x.ad.toNat : Nat) : Int) = x.ad by omega] at h
  have HA := Lib.hid hA
  have HN := Lib.hid hN
  have HO := Lib.hid hO
  have HX := Lib.hid hnf
  have HC := Lib.hid hcells
  have HT := Lib.hid hT1
  have hb0 := Below.refl w1.heap.size w1
  obtain ⟨p0, p1, p2, p3, p4, p5⟩ := hcells _ hb0
  clear hA hN hO hcells hr hs hnf hT hT1
  go_enter Tryd.func8, Tryd.ntmps8
  go_wp2_with (first
    | (go_at_call 10; (with_reducible refine (HA.out _ hb0).mono ?_); rintro e w2 ⟨rfl, hb2'⟩; have hb2 := hb0.trans hb2'; obtain ⟨q0, q1, q2, q3, q4, q5⟩ := HC.out _ hb2)
    | (go_at_call 14; (with_reducible refine (HN.out _ hb2).mono ?_); rintro e w3 ⟨a3, c3, rfl, hb3', hr3, hc3, hn3⟩; have hb3 := hb2.trans (hb3'.mono hb2.size); have hbp : Below w3.heap.size w3 ((w3.alloc (boxs 25 x a3 c3)).alloc (boxs 25 (⟨x.k, x.ep, x.sq, ((x.ad.toNat ^^^ (1 + y) : Nat) : Int), x.fr, x.da⟩ : Sh) a3 c3)) := (boxs_below w3 _ _ _ _).trans ((boxs_below _ _ _ _ _).mono (by simp)); have hbq := hb3.trans (hbp.mono hb3.size); have hr3x := hr3.below hbp)
    | (go_at_call 15; (with_reducible refine (lay_row x a3 c3 _ HX.out hr3x hc3 hn3 (HT.out.below hbq HT.out.pos)).mono ?_); rintro e w4 ⟨gp, k4, rfl, hk4, hr4, hgp, hgp2, -, hb4'⟩; have hb4 := hbq.trans (hb4'.mono hbq.size); have hr4x := hr3x.below hb4'; have hcy := boxs_cells (w3.alloc (boxs 25 x a3 c3)) 25 (⟨x.k, x.ep, x.sq, ((x.ad.toNat ^^^ (1 + y) : Nat) : Int), x.fr, x.da⟩ : Sh) a3 c3 w4 hb4'; rw [show (w3.alloc (boxs 25 x a3 c3)).heap.size = w3.heap.size + 1 by simp] at hcy; obtain ⟨y0, y1, y2, y3, y4, y5⟩ := hcy)
    | (go_at_call 15; (with_reducible refine (lay_row (⟨x.k, x.ep, x.sq, ((x.ad.toNat ^^^ (1 + y) : Nat) : Int), x.fr, x.da⟩ : Sh) a3 c3 _ HY.out.fy hr4x hc3 hn3 (HT.out.below hb4 HT.out.pos)).mono ?_); rintro e w5 ⟨gq, k5, rfl, hk5, hr5, hgq, hgq2, -, hb5'⟩; have hb5 := hb4.trans (hb5'.mono hb4.size); have hr5x := hr4x.below hb5'; have hr4p := hr4.below hb5'))
  have hd : ∀ u ∈ x.da, u < 256 := hr3.1
  have HPX := Lib.hid (page_length x hl)
  have HPY := Lib.hid (page_length (⟨x.k, x.ep, x.sq, ((x.ad.toNat ^^^ (1 + y) : Nat) : Int), x.fr, x.da⟩ : Sh) (fm_len HY.out.fy))
  have hb0 := Below.refl w5.heap.size w5
  clear y0 y1 y2 y3 y4 y5 q0 q1 q2 q3 q4 q5 p0 p1 p2 p3 p4 p5 hr3 hr3x hr4 hr4x
  go_loopw [13] (fun i wr => ∃ j : Nat, j ≤ 96 ∧ i = .int .i64 j ∧ Below w5.heap.size w5 wr) (fun i _ => 96 - (intOf i).toNat)
  case atStart => exact ⟨0, Nat.zero_le _, rfl, hb0⟩
  case round =>
    obtain ⟨j, hj, rfl, hbr⟩ := hrel
    by_cases hlt : j < 96
    · obtain ⟨_, _, e1, hcp⟩ := (hr4p.below hbr).2.2 (by rw [HPX.out]; omega)
      cases e1
      obtain ⟨_, _, e2, hcq⟩ := (hr5.below hbr).2.2 (by rw [HPY.out]; omega)
      cases e2
      have m1 := hcp j (by rw [HPX.out]; omega)
      have m2 := hcq j (by rw [HPY.out]; omega)
      rw [Nat.zero_add] at m1 m2
      have hout := HY.out.out j hlt
      generalize (page x).getD j 0 = u at m1 hout
      generalize (page (⟨x.k, x.ep, x.sq, ((x.ad.toNat ^^^ (1 + y) : Nat) : Int), x.fr, x.da⟩ : Sh)).getD j 0 = v at m2 hout
      have i1 : (j : Int) < 96 := by omega
      clear hcp hcq
      by_cases huv : u = v
      · have n1 : ((u : Int) != (v : Int)) = false := by simp; omega
        clear hout huv
        go_wp2_with fail
        go_quiet (fail)
        go_wp2
        go_roundw
        case rel => exact ⟨j + 1, by omega, by go_num, below_dr hbr _⟩
        case measure => simp [intOf]; omega
      · have n1 : ((u : Int) != (v : Int)) = true := by simp; omega
        by_cases hin : 13 ≤ j ∧ j < 15
        · obtain ⟨g1, g2⟩ := hin
          have d1 : decide ((j : Int) < 13) = false := decide_eq_false (by omega)
          have d2 : decide ((15 : Int) ≤ (j : Int)) = false := decide_eq_false (by omega)
          clear hout huv
          go_wp2_with fail
          go_quiet (fail)
          go_wp2
          go_roundw
          case rel => exact ⟨j + 1, by omega, by go_num, below_dr hbr _⟩
          case measure => simp [intOf]; omega
        · have hin2 : 91 ≤ j ∧ j < 95 := by
            rcases hout huv with h | h
            · exact absurd h hin
            · exact h
          obtain ⟨g1, g2⟩ := hin2
          have g3 : 15 ≤ j := by omega
          have d1 : decide ((j : Int) < 13) = false := decide_eq_false (by omega)
          have d2 : decide ((15 : Int) ≤ (j : Int)) = true := decide_eq_true (by omega)
          have d3 : decide ((j : Int) < 91) = false := decide_eq_false (by omega)
          have d4 : decide ((95 : Int) ≤ (j : Int)) = false := decide_eq_false (by omega)
          clear hout huv hin
          go_wp2_with fail
          go_quiet (fail)
          go_wp2
          go_roundw
          case rel => exact ⟨j + 1, by omega, by go_num, below_dr hbr _⟩
          case measure => simp [intOf]; omega
    · have i1 : ¬ (j : Int) < 96 := by omega
      have hbw := hb5.trans (hbr.mono hb5.size)
      have HRD := Lib.hid (show Calls Tryd.prog 16 #[.slice (some ⟨gq, 0, none⟩) 96 k5] wr (ReadPost wr ((⟨x.k, x.ep, x.sq, ((x.ad.toNat ^^^ (1 + y) : Nat) : Int), x.fr, x.da⟩ : Sh), 0)) by
        have h := sread_any (page (⟨x.k, x.ep, x.sq, ((x.ad.toNat ^^^ (1 + y) : Nat) : Int), x.fr, x.da⟩ : Sh)) (some ⟨gq, 0, none⟩) k5 wr 96 HPY.out (hr5.below hbr) (by rw [HPY.out]; exact hk5) (fun h => by cases h) (HT.out.below hbw HT.out.pos)
        rwa [read_page HY.out.fy hd] at h)
      go_wp2_with (go_at_call 16; (with_reducible refine HRD.out.mono ?_); rintro e w6 ⟨a6, c6, rfl, hr6, hc6, hn6, hb6'⟩; dsimp only at hr6 hc6)
      have hwx6 : Below w6.heap.size w6 (w6.alloc (boxs 25 (⟨x.k, x.ep, x.sq, ((x.ad.toNat ^^^ (1 + y) : Nat) : Int), x.fr, x.da⟩ : Sh) a6 c6)) := boxs_below w6 _ _ _ _
      have hbx : Below w1.heap.size w1 (w6.alloc (boxs 25 (⟨x.k, x.ep, x.sq, ((x.ad.toNat ^^^ (1 + y) : Nat) : Int), x.fr, x.da⟩ : Sh) a6 c6)) := hbw.trans ((hb6'.trans (hwx6.mono hb6'.size)).mono hbw.size)
      have hb36 : Below ((w3.alloc (boxs 25 x a3 c3)).alloc (boxs 25 (⟨x.k, x.ep, x.sq, ((x.ad.toNat ^^^ (1 + y) : Nat) : Int), x.fr, x.da⟩ : Sh) a3 c3)).heap.size ((w3.alloc (boxs 25 x a3 c3)).alloc (boxs 25 (⟨x.k, x.ep, x.sq, ((x.ad.toNat ^^^ (1 + y) : Nat) : Int), x.fr, x.da⟩ : Sh) a3 c3)) (w6.alloc (boxs 25 (⟨x.k, x.ep, x.sq, ((x.ad.toNat ^^^ (1 + y) : Nat) : Int), x.fr, x.da⟩ : Sh) a6 c6)) :=
        hb4'.trans ((hb5'.trans ((hbr.trans ((hb6'.trans (hwx6.mono hb6'.size)).mono hbr.size)).mono hb5'.size)).mono hb4'.size)
      have hcx : ∀ W, Below (w6.alloc (boxs 25 (⟨x.k, x.ep, x.sq, ((x.ad.toNat ^^^ (1 + y) : Nat) : Int), x.fr, x.da⟩ : Sh) a6 c6)).heap.size (w6.alloc (boxs 25 (⟨x.k, x.ep, x.sq, ((x.ad.toNat ^^^ (1 + y) : Nat) : Int), x.fr, x.da⟩ : Sh) a6 c6)) W → ShAt W (w3.heap.size + 1) (⟨x.k, x.ep, x.sq, ((x.ad.toNat ^^^ (1 + y) : Nat) : Int), x.fr, x.da⟩ : Sh) a3 c3 ∧ ShAt W w6.heap.size (⟨x.k, x.ep, x.sq, ((x.ad.toNat ^^^ (1 + y) : Nat) : Int), x.fr, x.da⟩ : Sh) a6 c6 := fun W hb => by
        have h := boxs_cells (w3.alloc (boxs 25 x a3 c3)) 25 (⟨x.k, x.ep, x.sq, ((x.ad.toNat ^^^ (1 + y) : Nat) : Int), x.fr, x.da⟩ : Sh) a3 c3 W (hb36.trans (hb.mono hb36.size))
        rw [show (w3.alloc (boxs 25 x a3 c3)).heap.size = w3.heap.size + 1 by simp] at h
        exact ⟨h, boxs_cells w6 _ _ a6 c6 W hb⟩
      have hrx := ((hr5x.below hbr).below hb6').below hwx6
      have hry := hr6.below hwx6
      generalize hwx : w6.alloc (boxs 25 (⟨x.k, x.ep, x.sq, ((x.ad.toNat ^^^ (1 + y) : Nat) : Int), x.fr, x.da⟩ : Sh) a6 c6) = wx at *
      have HCX := Lib.hid hcx
      have HSM := Lib.hid (fun W (hb : Below wx.heap.size wx W) => (show Calls Tryd.prog 18 #[sv (⟨x.k, x.ep, x.sq, ((x.ad.toNat ^^^ (1 + y) : Nat) : Int), x.fr, x.da⟩ : Sh) a6 c6, sv (⟨x.k, x.ep, x.sq, ((x.ad.toNat ^^^ (1 + y) : Nat) : Int), x.fr, x.da⟩ : Sh) a3 c3] W fun e w' => e = .returned (.bool true) ∧ Below W.heap.size W w' by have h := ssame_any (⟨x.k, x.ep, x.sq, ((x.ad.toNat ^^^ (1 + y) : Nat) : Int), x.fr, x.da⟩ : Sh) (⟨x.k, x.ep, x.sq, ((x.ad.toNat ^^^ (1 + y) : Nat) : Int), x.fr, x.da⟩ : Sh) a6 a3 c6 c3 W (hry.below hb) (hrx.below hb); rw [same_true.2 rfl] at h; exact h))
      have HFM := Lib.hid (fun W => (show Calls Tryd.prog 11 #[sv (⟨x.k, x.ep, x.sq, ((x.ad.toNat ^^^ (1 + y) : Nat) : Int), x.fr, x.da⟩ : Sh) a3 c3] W fun e w' => e = .returned (.bool true) ∧ Below W.heap.size W w' by have h := sform_any (⟨x.k, x.ep, x.sq, ((x.ad.toNat ^^^ (1 + y) : Nat) : Int), x.fr, x.da⟩ : Sh) a3 c3 W; rw [HY.out.fy] at h; exact h))
      have hfinal : ∀ W, Below wx.heap.size wx W → Below w.heap.size w W := fun W hb => hB.trans ((hbx.trans (hb.mono hbx.size)).mono hB.size)
      have HFIN := Lib.hid hfinal
      have hbd := drew_below wx
      obtain ⟨⟨m0, m1, m2, m3, m4, m5⟩, ⟨n0, n1, n2, n3, n4, n5⟩⟩ := hcx _ hbd
      have hq0 := And.intro (And.intro m0 (And.intro m1 (And.intro m2 (And.intro m3 (And.intro m4 m5))))) (And.intro n0 (And.intro n1 (And.intro n2 (And.intro n3 (And.intro n4 n5)))))
      clear m0 m1 m2 m3 m4 m5 n0 n1 n2 n3 n4 n5 hcx hrx hry hfinal HA HN HC HT hr5 hr5x hr4p hr6 hb36 hbx hwx6 hb6' hbr hb5' hb4' hbw hb5 hb4 hbp hbq HRD
      go_region_held (fun W => (W.cell? ⟨w3.heap.size + 1, 0, none⟩ = some (.int .u8 x.k) ∧ W.cell? ⟨w3.heap.size + 1, 1, none⟩ = some (.int .u64 x.ep) ∧ W.cell? ⟨w3.heap.size + 1, 2, none⟩ = some (.int .u64 x.sq) ∧ W.cell? ⟨w3.heap.size + 1, 3, none⟩ = some (.int .i64 ((x.ad.toNat ^^^ (1 + y) : Nat) : Int)) ∧ W.cell? ⟨w3.heap.size + 1, 4, none⟩ = some (.int .i64 x.fr) ∧ W.cell? ⟨w3.heap.size + 1, 5, none⟩ = some (.slice a3 x.da.length c3)) ∧ (W.cell? ⟨w6.heap.size, 0, none⟩ = some (.int .u8 x.k) ∧ W.cell? ⟨w6.heap.size, 1, none⟩ = some (.int .u64 x.ep) ∧ W.cell? ⟨w6.heap.size, 2, none⟩ = some (.int .u64 x.sq) ∧ W.cell? ⟨w6.heap.size, 3, none⟩ = some (.int .i64 ((x.ad.toNat ^^^ (1 + y) : Nat) : Int)) ∧ W.cell? ⟨w6.heap.size, 4, none⟩ = some (.int .i64 x.fr) ∧ W.cell? ⟨w6.heap.size, 5, none⟩ = some (.slice a6 x.da.length c6))) (first | exact hq0 | exact HCX.out _ (by assumption)) (first
        | (go_at_call 13; (with_reducible refine (HO.out (⟨x.k, x.ep, x.sq, ((x.ad.toNat ^^^ (1 + y) : Nat) : Int), x.fr, x.da⟩ : Sh) a6 c6 _).mono ?_); rintro e w7 ⟨rfl, hb'⟩; have hb7 := (show Below wx.heap.size wx _ by assumption).trans (hb'.mono (show Below wx.heap.size wx _ by assumption).size); clear hb')
        | (go_at_call 13; (with_reducible refine (HO.out (⟨x.k, x.ep, x.sq, ((x.ad.toNat ^^^ (1 + y) : Nat) : Int), x.fr, x.da⟩ : Sh) a3 c3 _).mono ?_); rintro e w7 ⟨rfl, hb'⟩; have hb7 := (show Below wx.heap.size wx _ by assumption).trans (hb'.mono (show Below wx.heap.size wx _ by assumption).size); clear hb')
        | (go_at_call 18; (with_reducible refine (HSM.out _ (by assumption)).mono ?_); rintro e w8 ⟨rfl, hb'⟩; have hb8 := (show Below wx.heap.size wx _ by assumption).trans (hb'.mono (show Below wx.heap.size wx _ by assumption).size); clear hb')
        | (go_at_call 11; (with_reducible refine (HFM.out _).mono ?_); rintro e w9 ⟨rfl, hb'⟩; have hb9 := (show Below wx.heap.size wx _ by assumption).trans (hb'.mono (show Below wx.heap.size wx _ by assumption).size); clear hb'))
      all_goals
        go_wp2
        go_ret
        exact ⟨rfl, HFIN.out _ hb9⟩

set_option maxRecDepth 100000 in
set_option maxHeartbeats 4000000 in
theorem pieces_fr (s : Sh) (a : Option Addr) (c y z : Nat) (w : World) (hs : Sh.In s) (hr : s.da.length ≤ 64 → Rd w a s.da) (hc : s.da.length ≤ c) (hnil : a = none → c = 0) (hT : Tab w) (hy : y < 256) (hz : (z : Int) % 4 = 3) :
    Calls Tryd.prog 8 #[sv s a c, .int .u8 y, .int .u8 z] w (Yes w) := by
  have hcells := boxs_cells w 25 s a c
  have hB := boxs_below w 25 s a c
  have hT1 := hT.alloc (boxs 25 s a c)
  have hnf := near_form s hs.ep hs.sq
  generalize hw1 : w.alloc (boxs 25 s a c) = w1 at *
  change w.alloc (.cells #[.int .u8 s.k, .int .u64 s.ep, .int .u64 s.sq, .int .i64 s.ad, .int .i64 s.fr, .slice a s.da.length c] 25) = w1 at hw1
  have hA := fun W (hb : Below w1.heap.size w1 W) => awake_any W (hT1.below hb hT1.pos)
  have hN := fun W (hb : Below w1.heap.size w1 W) => near_at s a c W hs (fun h => ((hr h).below hB).below hb) hc hnil
  have hO := fun s a c W => of_any s a c W
  generalize nearS s = x at *
  obtain ⟨f1, f2, f3, f4, f5, f6, f7, f8, _⟩ := of_decide_eq_true hnf
  have hl := fm_len hnf
  have HY : Hid (Near1 x (⟨x.k, x.ep, x.sq, x.ad, (x.fr + 2 + (y : Int) % 63) % 65 - 1, x.da⟩ : Sh) 15 16) := Lib.hid (near_fr hnf ((x.fr + 2 + (y : Int) % 63) % 65 - 1) (by omega))
  have HA := Lib.hid hA
  have HN := Lib.hid hN
  have HO := Lib.hid hO
  have HX := Lib.hid hnf
  have HC := Lib.hid hcells
  have HT := Lib.hid hT1
  have hb0 := Below.refl w1.heap.size w1
  obtain ⟨p0, p1, p2, p3, p4, p5⟩ := hcells _ hb0
  clear hA hN hO hcells hr hs hnf hT hT1
  go_enter Tryd.func8, Tryd.ntmps8
  go_wp2_with (first
    | (go_at_call 10; (with_reducible refine (HA.out _ hb0).mono ?_); rintro e w2 ⟨rfl, hb2'⟩; have hb2 := hb0.trans hb2'; obtain ⟨q0, q1, q2, q3, q4, q5⟩ := HC.out _ hb2)
    | (go_at_call 14; (with_reducible refine (HN.out _ hb2).mono ?_); rintro e w3 ⟨a3, c3, rfl, hb3', hr3, hc3, hn3⟩; have hb3 := hb2.trans (hb3'.mono hb2.size); have hbp : Below w3.heap.size w3 ((w3.alloc (boxs 25 x a3 c3)).alloc (boxs 25 (⟨x.k, x.ep, x.sq, x.ad, (x.fr + 2 + (y : Int) % 63) % 65 - 1, x.da⟩ : Sh) a3 c3)) := (boxs_below w3 _ _ _ _).trans ((boxs_below _ _ _ _ _).mono (by simp)); have hbq := hb3.trans (hbp.mono hb3.size); have hr3x := hr3.below hbp)
    | (go_at_call 15; (with_reducible refine (lay_row x a3 c3 _ HX.out hr3x hc3 hn3 (HT.out.below hbq HT.out.pos)).mono ?_); rintro e w4 ⟨gp, k4, rfl, hk4, hr4, hgp, hgp2, -, hb4'⟩; have hb4 := hbq.trans (hb4'.mono hbq.size); have hr4x := hr3x.below hb4'; have hcy := boxs_cells (w3.alloc (boxs 25 x a3 c3)) 25 (⟨x.k, x.ep, x.sq, x.ad, (x.fr + 2 + (y : Int) % 63) % 65 - 1, x.da⟩ : Sh) a3 c3 w4 hb4'; rw [show (w3.alloc (boxs 25 x a3 c3)).heap.size = w3.heap.size + 1 by simp] at hcy; obtain ⟨y0, y1, y2, y3, y4, y5⟩ := hcy)
    | (go_at_call 15; (with_reducible refine (lay_row (⟨x.k, x.ep, x.sq, x.ad, (x.fr + 2 + (y : Int) % 63) % 65 - 1, x.da⟩ : Sh) a3 c3 _ HY.out.fy hr4x hc3 hn3 (HT.out.below hb4 HT.out.pos)).mono ?_); rintro e w5 ⟨gq, k5, rfl, hk5, hr5, hgq, hgq2, -, hb5'⟩; have hb5 := hb4.trans (hb5'.mono hb4.size); have hr5x := hr4x.below hb5'; have hr4p := hr4.below hb5'))
  have hd : ∀ u ∈ x.da, u < 256 := hr3.1
  have HPX := Lib.hid (page_length x hl)
  have HPY := Lib.hid (page_length (⟨x.k, x.ep, x.sq, x.ad, (x.fr + 2 + (y : Int) % 63) % 65 - 1, x.da⟩ : Sh) (fm_len HY.out.fy))
  have hb0 := Below.refl w5.heap.size w5
  clear y0 y1 y2 y3 y4 y5 q0 q1 q2 q3 q4 q5 p0 p1 p2 p3 p4 p5 hr3 hr3x hr4 hr4x
  go_loopw [13] (fun i wr => ∃ j : Nat, j ≤ 96 ∧ i = .int .i64 j ∧ Below w5.heap.size w5 wr) (fun i _ => 96 - (intOf i).toNat)
  case atStart => exact ⟨0, Nat.zero_le _, rfl, hb0⟩
  case round =>
    obtain ⟨j, hj, rfl, hbr⟩ := hrel
    by_cases hlt : j < 96
    · obtain ⟨_, _, e1, hcp⟩ := (hr4p.below hbr).2.2 (by rw [HPX.out]; omega)
      cases e1
      obtain ⟨_, _, e2, hcq⟩ := (hr5.below hbr).2.2 (by rw [HPY.out]; omega)
      cases e2
      have m1 := hcp j (by rw [HPX.out]; omega)
      have m2 := hcq j (by rw [HPY.out]; omega)
      rw [Nat.zero_add] at m1 m2
      have hout := HY.out.out j hlt
      generalize (page x).getD j 0 = u at m1 hout
      generalize (page (⟨x.k, x.ep, x.sq, x.ad, (x.fr + 2 + (y : Int) % 63) % 65 - 1, x.da⟩ : Sh)).getD j 0 = v at m2 hout
      have i1 : (j : Int) < 96 := by omega
      clear hcp hcq
      by_cases huv : u = v
      · have n1 : ((u : Int) != (v : Int)) = false := by simp; omega
        clear hout huv
        go_wp2_with fail
        go_quiet (fail)
        go_wp2
        go_roundw
        case rel => exact ⟨j + 1, by omega, by go_num, below_dr hbr _⟩
        case measure => simp [intOf]; omega
      · have n1 : ((u : Int) != (v : Int)) = true := by simp; omega
        by_cases hin : 15 ≤ j ∧ j < 16
        · obtain ⟨g1, g2⟩ := hin
          have d1 : decide ((j : Int) < 15) = false := decide_eq_false (by omega)
          have d2 : decide ((16 : Int) ≤ (j : Int)) = false := decide_eq_false (by omega)
          clear hout huv
          go_wp2_with fail
          go_quiet (fail)
          go_wp2
          go_roundw
          case rel => exact ⟨j + 1, by omega, by go_num, below_dr hbr _⟩
          case measure => simp [intOf]; omega
        · have hin2 : 91 ≤ j ∧ j < 95 := by
            rcases hout huv with h | h
            · exact absurd h hin
            · exact h
          obtain ⟨g1, g2⟩ := hin2
          have g3 : 16 ≤ j := by omega
          have d1 : decide ((j : Int) < 15) = false := decide_eq_false (by omega)
          have d2 : decide ((16 : Int) ≤ (j : Int)) = true := decide_eq_true (by omega)
          have d3 : decide ((j : Int) < 91) = false := decide_eq_false (by omega)
          have d4 : decide ((95 : Int) ≤ (j : Int)) = false := decide_eq_false (by omega)
          clear hout huv hin
          go_wp2_with fail
          go_quiet (fail)
          go_wp2
          go_roundw
          case rel => exact ⟨j + 1, by omega, by go_num, below_dr hbr _⟩
          case measure => simp [intOf]; omega
    · have i1 : ¬ (j : Int) < 96 := by omega
      have hbw := hb5.trans (hbr.mono hb5.size)
      have HRD := Lib.hid (show Calls Tryd.prog 16 #[.slice (some ⟨gq, 0, none⟩) 96 k5] wr (ReadPost wr ((⟨x.k, x.ep, x.sq, x.ad, (x.fr + 2 + (y : Int) % 63) % 65 - 1, x.da⟩ : Sh), 0)) by
        have h := sread_any (page (⟨x.k, x.ep, x.sq, x.ad, (x.fr + 2 + (y : Int) % 63) % 65 - 1, x.da⟩ : Sh)) (some ⟨gq, 0, none⟩) k5 wr 96 HPY.out (hr5.below hbr) (by rw [HPY.out]; exact hk5) (fun h => by cases h) (HT.out.below hbw HT.out.pos)
        rwa [read_page HY.out.fy hd] at h)
      go_wp2_with (go_at_call 16; (with_reducible refine HRD.out.mono ?_); rintro e w6 ⟨a6, c6, rfl, hr6, hc6, hn6, hb6'⟩; dsimp only at hr6 hc6)
      have hwx6 : Below w6.heap.size w6 (w6.alloc (boxs 25 (⟨x.k, x.ep, x.sq, x.ad, (x.fr + 2 + (y : Int) % 63) % 65 - 1, x.da⟩ : Sh) a6 c6)) := boxs_below w6 _ _ _ _
      have hbx : Below w1.heap.size w1 (w6.alloc (boxs 25 (⟨x.k, x.ep, x.sq, x.ad, (x.fr + 2 + (y : Int) % 63) % 65 - 1, x.da⟩ : Sh) a6 c6)) := hbw.trans ((hb6'.trans (hwx6.mono hb6'.size)).mono hbw.size)
      have hb36 : Below ((w3.alloc (boxs 25 x a3 c3)).alloc (boxs 25 (⟨x.k, x.ep, x.sq, x.ad, (x.fr + 2 + (y : Int) % 63) % 65 - 1, x.da⟩ : Sh) a3 c3)).heap.size ((w3.alloc (boxs 25 x a3 c3)).alloc (boxs 25 (⟨x.k, x.ep, x.sq, x.ad, (x.fr + 2 + (y : Int) % 63) % 65 - 1, x.da⟩ : Sh) a3 c3)) (w6.alloc (boxs 25 (⟨x.k, x.ep, x.sq, x.ad, (x.fr + 2 + (y : Int) % 63) % 65 - 1, x.da⟩ : Sh) a6 c6)) :=
        hb4'.trans ((hb5'.trans ((hbr.trans ((hb6'.trans (hwx6.mono hb6'.size)).mono hbr.size)).mono hb5'.size)).mono hb4'.size)
      have hcx : ∀ W, Below (w6.alloc (boxs 25 (⟨x.k, x.ep, x.sq, x.ad, (x.fr + 2 + (y : Int) % 63) % 65 - 1, x.da⟩ : Sh) a6 c6)).heap.size (w6.alloc (boxs 25 (⟨x.k, x.ep, x.sq, x.ad, (x.fr + 2 + (y : Int) % 63) % 65 - 1, x.da⟩ : Sh) a6 c6)) W → ShAt W (w3.heap.size + 1) (⟨x.k, x.ep, x.sq, x.ad, (x.fr + 2 + (y : Int) % 63) % 65 - 1, x.da⟩ : Sh) a3 c3 ∧ ShAt W w6.heap.size (⟨x.k, x.ep, x.sq, x.ad, (x.fr + 2 + (y : Int) % 63) % 65 - 1, x.da⟩ : Sh) a6 c6 := fun W hb => by
        have h := boxs_cells (w3.alloc (boxs 25 x a3 c3)) 25 (⟨x.k, x.ep, x.sq, x.ad, (x.fr + 2 + (y : Int) % 63) % 65 - 1, x.da⟩ : Sh) a3 c3 W (hb36.trans (hb.mono hb36.size))
        rw [show (w3.alloc (boxs 25 x a3 c3)).heap.size = w3.heap.size + 1 by simp] at h
        exact ⟨h, boxs_cells w6 _ _ a6 c6 W hb⟩
      have hrx := ((hr5x.below hbr).below hb6').below hwx6
      have hry := hr6.below hwx6
      generalize hwx : w6.alloc (boxs 25 (⟨x.k, x.ep, x.sq, x.ad, (x.fr + 2 + (y : Int) % 63) % 65 - 1, x.da⟩ : Sh) a6 c6) = wx at *
      have HCX := Lib.hid hcx
      have HSM := Lib.hid (fun W (hb : Below wx.heap.size wx W) => (show Calls Tryd.prog 18 #[sv (⟨x.k, x.ep, x.sq, x.ad, (x.fr + 2 + (y : Int) % 63) % 65 - 1, x.da⟩ : Sh) a6 c6, sv (⟨x.k, x.ep, x.sq, x.ad, (x.fr + 2 + (y : Int) % 63) % 65 - 1, x.da⟩ : Sh) a3 c3] W fun e w' => e = .returned (.bool true) ∧ Below W.heap.size W w' by have h := ssame_any (⟨x.k, x.ep, x.sq, x.ad, (x.fr + 2 + (y : Int) % 63) % 65 - 1, x.da⟩ : Sh) (⟨x.k, x.ep, x.sq, x.ad, (x.fr + 2 + (y : Int) % 63) % 65 - 1, x.da⟩ : Sh) a6 a3 c6 c3 W (hry.below hb) (hrx.below hb); rw [same_true.2 rfl] at h; exact h))
      have HFM := Lib.hid (fun W => (show Calls Tryd.prog 11 #[sv (⟨x.k, x.ep, x.sq, x.ad, (x.fr + 2 + (y : Int) % 63) % 65 - 1, x.da⟩ : Sh) a3 c3] W fun e w' => e = .returned (.bool true) ∧ Below W.heap.size W w' by have h := sform_any (⟨x.k, x.ep, x.sq, x.ad, (x.fr + 2 + (y : Int) % 63) % 65 - 1, x.da⟩ : Sh) a3 c3 W; rw [HY.out.fy] at h; exact h))
      have hfinal : ∀ W, Below wx.heap.size wx W → Below w.heap.size w W := fun W hb => hB.trans ((hbx.trans (hb.mono hbx.size)).mono hB.size)
      have HFIN := Lib.hid hfinal
      have hbd := drew_below wx
      obtain ⟨⟨m0, m1, m2, m3, m4, m5⟩, ⟨n0, n1, n2, n3, n4, n5⟩⟩ := hcx _ hbd
      have hq0 := And.intro (And.intro m0 (And.intro m1 (And.intro m2 (And.intro m3 (And.intro m4 m5))))) (And.intro n0 (And.intro n1 (And.intro n2 (And.intro n3 (And.intro n4 n5)))))
      clear m0 m1 m2 m3 m4 m5 n0 n1 n2 n3 n4 n5 hcx hrx hry hfinal HA HN HC HT hr5 hr5x hr4p hr6 hb36 hbx hwx6 hb6' hbr hb5' hb4' hbw hb5 hb4 hbp hbq HRD
      go_region_held (fun W => (W.cell? ⟨w3.heap.size + 1, 0, none⟩ = some (.int .u8 x.k) ∧ W.cell? ⟨w3.heap.size + 1, 1, none⟩ = some (.int .u64 x.ep) ∧ W.cell? ⟨w3.heap.size + 1, 2, none⟩ = some (.int .u64 x.sq) ∧ W.cell? ⟨w3.heap.size + 1, 3, none⟩ = some (.int .i64 x.ad) ∧ W.cell? ⟨w3.heap.size + 1, 4, none⟩ = some (.int .i64 ((x.fr + 2 + (y : Int) % 63) % 65 - 1)) ∧ W.cell? ⟨w3.heap.size + 1, 5, none⟩ = some (.slice a3 x.da.length c3)) ∧ (W.cell? ⟨w6.heap.size, 0, none⟩ = some (.int .u8 x.k) ∧ W.cell? ⟨w6.heap.size, 1, none⟩ = some (.int .u64 x.ep) ∧ W.cell? ⟨w6.heap.size, 2, none⟩ = some (.int .u64 x.sq) ∧ W.cell? ⟨w6.heap.size, 3, none⟩ = some (.int .i64 x.ad) ∧ W.cell? ⟨w6.heap.size, 4, none⟩ = some (.int .i64 ((x.fr + 2 + (y : Int) % 63) % 65 - 1)) ∧ W.cell? ⟨w6.heap.size, 5, none⟩ = some (.slice a6 x.da.length c6))) (first | exact hq0 | exact HCX.out _ (by assumption)) (first
        | (go_at_call 13; (with_reducible refine (HO.out (⟨x.k, x.ep, x.sq, x.ad, (x.fr + 2 + (y : Int) % 63) % 65 - 1, x.da⟩ : Sh) a6 c6 _).mono ?_); rintro e w7 ⟨rfl, hb'⟩; have hb7 := (show Below wx.heap.size wx _ by assumption).trans (hb'.mono (show Below wx.heap.size wx _ by assumption).size); clear hb')
        | (go_at_call 13; (with_reducible refine (HO.out (⟨x.k, x.ep, x.sq, x.ad, (x.fr + 2 + (y : Int) % 63) % 65 - 1, x.da⟩ : Sh) a3 c3 _).mono ?_); rintro e w7 ⟨rfl, hb'⟩; have hb7 := (show Below wx.heap.size wx _ by assumption).trans (hb'.mono (show Below wx.heap.size wx _ by assumption).size); clear hb')
        | (go_at_call 18; (with_reducible refine (HSM.out _ (by assumption)).mono ?_); rintro e w8 ⟨rfl, hb'⟩; have hb8 := (show Below wx.heap.size wx _ by assumption).trans (hb'.mono (show Below wx.heap.size wx _ by assumption).size); clear hb')
        | (go_at_call 11; (with_reducible refine (HFM.out _).mono ?_); rintro e w9 ⟨rfl, hb'⟩; have hb9 := (show Below wx.heap.size wx _ by assumption).trans (hb'.mono (show Below wx.heap.size wx _ by assumption).size); clear hb'))
      all_goals
        go_wp2
        go_ret
        exact ⟨rfl, HFIN.out _ hb9⟩

theorem pieces_any (s : Sh) (a : Option Addr) (c y z : Nat) (w : World) (hs : Sh.In s) (hr : s.da.length ≤ 64 → Rd w a s.da) (hc : s.da.length ≤ c) (hnil : a = none → c = 0) (hT : Tab w) (hy : y < 256) :
    Calls Tryd.prog 8 #[sv s a c, .int .u8 y, .int .u8 z] w (Yes w) := by
  have h : (z : Int) % 4 = 0 ∨ (z : Int) % 4 = 1 ∨ (z : Int) % 4 = 2 ∨ (z : Int) % 4 = 3 := by omega
  rcases h with h | h | h | h
  · exact pieces_ep s a c y z w hs hr hc hnil hT hy h
  · exact pieces_sq s a c y z w hs hr hc hnil hT hy h
  · exact pieces_ad s a c y z w hs hr hc hnil hT hy h
  · exact pieces_fr s a c y z w hs hr hc hnil hT hy h
end Go.Proofs.YtopmljbemogcoaaDoor
