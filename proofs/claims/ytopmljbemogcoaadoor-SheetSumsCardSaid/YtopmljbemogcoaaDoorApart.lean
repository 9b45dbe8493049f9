/- The walk of the law SheetApart. -/
import Derived.Test.YtopmljbemogcoaaDoorSame
import Derived.Test.YtopmljbemogcoaaDoorFormsL
import Derived.Deep.RegionHeld
namespace Go.Proofs.YtopmljbemogcoaaDoor
open Go.RowKit
open Drawbar Drawbar.Sheet

/-- Lay, of a sheet with the form. -/
theorem lay_gives (s : Sh) (a : Option Addr) (c : Nat) (w : World) (hf : fm s = true) (hr : Rd w a s.da) (hc : s.da.length ≤ c) (hnil : a = none → c = 0) (hT : Tab w) :
    Calls Tryd.prog 15 #[sv s a c] w (Gives w (page s) 96) :=
  (lay_any s a c w hf hr hc hnil hT).mono fun e w' h => gives_of h (page_lt s hr.1) (page_length s (fm_len hf)) (by omega)

theorem pages_eq {x y : Sh} (hx : fm x = true) (hy : fm y = true) (dx : ∀ u ∈ x.da, u < 256) (dy : ∀ u ∈ y.da, u < 256) : ((strOf (page x)).toList == (strOf (page y)).toList) = sameS x y := by
  rw [str_eq (page_lt x dx) (page_lt y dy), Bool.eq_iff_iff, decide_eq_true_eq, same_true]
  exact ⟨page_inj hx hy, fun h => by rw [h]⟩

set_option maxHeartbeats 4000000 in
theorem sapart_any (s t : Sh) (a b : Option Addr) (c d : Nat) (w : World) (hs : Sh.In s) (ht : Sh.In t) (hr : s.da.length ≤ 64 → Rd w a s.da) (hr' : t.da.length ≤ 64 → Rd w b t.da) (hc : s.da.length ≤ c) (hd : t.da.length ≤ d) (hnil : a = none → c = 0) (hnil' : b = none → d = 0) (hT : Tab w) :
    Calls Tryd.prog 7 #[sv s a c, sv t b d] w (Yes w) := by
  have hcells1 := fun W (hb : Below ((w.alloc (boxs 25 s a c)).alloc (boxs 25 t b d)).heap.size ((w.alloc (boxs 25 s a c)).alloc (boxs 25 t b d)) W) =>
    boxs_cells w 25 s a c W ((boxs_below _ _ _ _ _).trans (hb.mono (by simp)))
  have hcells2 := boxs_cells (w.alloc (boxs 25 s a c)) 25 t b d
  rw [show (w.alloc (boxs 25 s a c)).heap.size = w.heap.size + 1 by simp] at hcells2
  have hB : Below w.heap.size w ((w.alloc (boxs 25 s a c)).alloc (boxs 25 t b d)) := (boxs_below w _ _ _ _).trans ((boxs_below _ _ _ _ _).mono (by simp))
  have hT1 := (hT.alloc (boxs 25 s a c)).alloc (boxs 25 t b d)
  have hnf := near_form s hs.ep hs.sq
  have hnf' := near_form t ht.ep ht.sq
  generalize hw1 : (w.alloc (boxs 25 s a c)).alloc (boxs 25 t b d) = w1 at *
  change (w.alloc (.cells #[.int .u8 s.k, .int .u64 s.ep, .int .u64 s.sq, .int .i64 s.ad, .int .i64 s.fr, .slice a s.da.length c] 25)).alloc (.cells #[.int .u8 t.k, .int .u64 t.ep, .int .u64 t.sq, .int .i64 t.ad, .int .i64 t.fr, .slice b t.da.length d] 25) = w1 at hw1
  have hA := fun W (hb : Below w1.heap.size w1 W) => awake_any W (hT1.below hb hT1.pos)
  have hN := fun W (hb : Below w1.heap.size w1 W) => near_at s a c W hs (fun h => ((hr h).below hB).below hb) hc hnil
  have hN' := fun W (hb : Below w1.heap.size w1 W) => near_at t b d W ht (fun h => ((hr' h).below hB).below hb) hd hnil'
  have hO := fun s a c W => of_any s a c W
  generalize nearS s = x at *
  generalize nearS t = y at *
  have HA := Lib.hid hA
  have HN := Lib.hid hN
  have HN' := Lib.hid hN'
  have HO := Lib.hid hO
  have HX := Lib.hid hnf
  have HY := Lib.hid hnf'
  have HC1 := Lib.hid hcells1
  have HC2 := Lib.hid hcells2
  have HT := Lib.hid hT1
  have hb0 := Below.refl w1.heap.size w1
  obtain ⟨p0, p1, p2, p3, p4, p5⟩ := hcells1 _ hb0
  obtain ⟨q0, q1, q2, q3, q4, q5⟩ := hcells2 _ hb0
  clear hA hN hN' hO hcells1 hcells2 hr hr' hs ht hnf hnf' hT hT1
  go_enter Tryd.func7, Tryd.ntmps7
  go_wp2_with (first
    | (go_at_call 14; (with_reducible refine (HN.out _ hb0).mono ?_); rintro e w2 ⟨a2, c2, rfl, hb2, hr2, hc2, hn2⟩; have hbw2 : Below w1.heap.size w1 (w2.alloc (boxs 25 x a2 c2)) := hb2.alloc hb2.size _; obtain ⟨r0, r1, r2, r3, r4, r5⟩ := HC2.out _ hbw2)
    | (go_at_call 14; (with_reducible refine (HN'.out _ hbw2).mono ?_); rintro e w3 ⟨a3, c3, rfl, hb3, hr3, hc3, hn3⟩))
  have hbx : Below w1.heap.size w1 (w3.alloc (boxs 25 y a3 c3)) := (hbw2.trans (hb3.mono hbw2.size)).alloc (Nat.le_trans hbw2.size hb3.size) _
  have hcx : ∀ W, Below (w3.alloc (boxs 25 y a3 c3)).heap.size (w3.alloc (boxs 25 y a3 c3)) W → ShAt W w2.heap.size x a2 c2 ∧ ShAt W w3.heap.size y a3 c3 := fun W hb =>
    ⟨boxs_cells w2 _ x a2 c2 W (hb3.trans (((boxs_below w3 _ _ _ _).trans (hb.mono (by simp))).mono hb3.size)), boxs_cells w3 _ y a3 c3 W hb⟩
  have hrx : Rd (w3.alloc (boxs 25 y a3 c3)) a2 x.da := ((hr2.below (boxs_below w2 _ _ _ _)).below hb3).below (boxs_below w3 _ _ _ _)
  have hry : Rd (w3.alloc (boxs 25 y a3 c3)) a3 y.da := hr3.below (boxs_below w3 _ _ _ _)
  generalize hwx : w3.alloc (boxs 25 y a3 c3) = wx at *
  change w3.alloc (.cells #[.int .u8 y.k, .int .u64 y.ep, .int .u64 y.sq, .int .i64 y.ad, .int .i64 y.fr, .slice a3 y.da.length c3] 25) = wx at hwx
  try rw [hwx]
  have HCX := Lib.hid hcx
  have hTx := HT.out.below hbx HT.out.pos
  have HAX := Lib.hid (fun W (hb : Below wx.heap.size wx W) => HA.out W (hbx.trans (hb.mono hbx.size)))
  have HL1 := Lib.hid (fun W (hb : Below wx.heap.size wx W) => lay_gives x a2 c2 W HX.out (hrx.below hb) hc2 hn2 (hTx.below hb hTx.pos))
  have HL2 := Lib.hid (fun W (hb : Below wx.heap.size wx W) => lay_gives y a3 c3 W HY.out (hry.below hb) hc3 hn3 (hTx.below hb hTx.pos))
  have HSM := Lib.hid (fun W (hb : Below wx.heap.size wx W) => ssame_any x y a2 a3 c2 c3 W (hrx.below hb) (hry.below hb))
  have hpe := pages_eq HX.out HY.out hrx.1 hry.1
  have HP1 := Lib.hid (page_length x (fm_len HX.out))
  have HP2 := Lib.hid (page_length y (fm_len HY.out))
  have hfinal : ∀ W, Below wx.heap.size wx W → Below w.heap.size w W := fun W hb => hB.trans ((hbx.trans (hb.mono hbx.size)).mono hB.size)
  have HFIN := Lib.hid hfinal
  have hb4 := drew_below wx
  obtain ⟨⟨m0, m1, m2, m3, m4, m5⟩, ⟨n0, n1, n2, n3, n4, n5⟩⟩ := hcx _ hb4
  have hq0 := And.intro (And.intro m0 (And.intro m1 (And.intro m2 (And.intro m3 (And.intro m4 m5))))) (And.intro n0 (And.intro n1 (And.intro n2 (And.intro n3 (And.intro n4 n5)))))
  generalize hS1 : strOf (page x) = S1 at hpe
  generalize hS2 : strOf (page y) = S2 at hpe
  generalize sameS x y = D at *
  have HS1 := Lib.hid hS1
  have HS2 := Lib.hid hS2
  have hDD : (D == D) = true := by simp
  clear p0 p1 p2 p3 p4 p5 q0 q1 q2 q3 q4 q5 r0 r1 r2 r3 r4 r5 m0 m1 m2 m3 m4 m5 n0 n1 n2 n3 n4 n5 hcx hrx hry hTx hfinal hS1 hS2 HA HN HN' HC1 HC2 HT hr2 hr3
  go_region_held (fun W => (W.cell? ⟨w2.heap.size, 0, none⟩ = some (.int .u8 x.k) ∧ W.cell? ⟨w2.heap.size, 1, none⟩ = some (.int .u64 x.ep) ∧ W.cell? ⟨w2.heap.size, 2, none⟩ = some (.int .u64 x.sq) ∧ W.cell? ⟨w2.heap.size, 3, none⟩ = some (.int .i64 x.ad) ∧ W.cell? ⟨w2.heap.size, 4, none⟩ = some (.int .i64 x.fr) ∧ W.cell? ⟨w2.heap.size, 5, none⟩ = some (.slice a2 x.da.length c2)) ∧
      (W.cell? ⟨w3.heap.size, 0, none⟩ = some (.int .u8 y.k) ∧ W.cell? ⟨w3.heap.size, 1, none⟩ = some (.int .u64 y.ep) ∧ W.cell? ⟨w3.heap.size, 2, none⟩ = some (.int .u64 y.sq) ∧ W.cell? ⟨w3.heap.size, 3, none⟩ = some (.int .i64 y.ad) ∧ W.cell? ⟨w3.heap.size, 4, none⟩ = some (.int .i64 y.fr) ∧ W.cell? ⟨w3.heap.size, 5, none⟩ = some (.slice a3 y.da.length c3))) (first | exact hq0 | exact HCX.out _ (by assumption)) (first
    | (go_at_call 10; (with_reducible refine (HAX.out _ hb4).mono ?_); rintro e w5 ⟨rfl, hb'⟩; have hb5 := hb4.trans (hb'.mono hb4.size); clear hb')
    | (go_at_call 15; (with_reducible refine (HL1.out _ hb5).mono ?_); rintro e w6 ⟨a6, k6, rfl, hk6, hr6, hb', -⟩; have hb6 := hb5.trans (hb'.mono hb5.size); have HV6 := Lib.hid (fun W (hb : Below w6.heap.size w6 W) => (show (convert 23 9 (.slice a6 96 k6)).run Tryd.prog W = .ok (.string S1) W by have h := conv_str W a6 (page x) k6 (hr6.below hb); rw [HP1.out, HS1.out] at h; exact h)); have hv6 := HV6.out _ (Below.refl _ _); clear hb' hr6)
    | (go_at_call 15; (with_reducible refine (HL2.out _ hb6).mono ?_); rintro e w7 ⟨a7, k7, rfl, hk7, hr7, hb', -⟩; have hb7 := hb6.trans (hb'.mono hb6.size); have hv67 := HV6.out _ hb'; have HV7 := Lib.hid (fun W (hb : Below w7.heap.size w7 W) => (show (convert 23 9 (.slice a7 96 k7)).run Tryd.prog W = .ok (.string S2) W by have h := conv_str W a7 (page y) k7 (hr7.below hb); rw [HP2.out, HS2.out] at h; exact h)); have HV67 := Lib.hid (fun W (hb : Below w7.heap.size w7 W) => HV6.out W (hb'.trans (hb.mono hb'.size))); have hv7 := HV7.out _ (Below.refl _ _); clear hb' hr7)
    | (go_at_call 13; (with_reducible refine (HO.out x a2 c2 _).mono ?_); rintro e w8 ⟨rfl, hb8'⟩; have hb8 := hb7.trans (hb8'.mono hb7.size); have hv68 := HV67.out _ hb8'; have hv78 := HV7.out _ hb8')
    | (go_at_call 13; (with_reducible refine (HO.out y a3 c3 _).mono ?_); rintro e w9 ⟨rfl, hb9'⟩; have hb9 := hb8.trans (hb9'.mono hb8.size); have hbb9 := hb8'.trans (hb9'.mono hb8'.size); have hv69 := HV67.out _ hbb9; have hv79 := HV7.out _ hbb9)
    | (go_at_call 18; (with_reducible refine (HSM.out _ hb9).mono ?_); rintro e w10 ⟨rfl, hb10'⟩; have hb10 := hb9.trans (hb10'.mono hb9.size); have hbb10 := hbb9.trans (hb10'.mono hbb9.size); have hv610 := HV67.out _ hbb10; have hv710 := HV7.out _ hbb10))
  all_goals
    go_wp2
    go_ret
    exact ⟨rfl, HFIN.out _ hb10⟩
end Go.Proofs.YtopmljbemogcoaaDoor
