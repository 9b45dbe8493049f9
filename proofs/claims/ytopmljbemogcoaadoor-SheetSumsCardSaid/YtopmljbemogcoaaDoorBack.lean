/- The walk of the law SheetBack. -/
import Derived.Test.YtopmljbemogcoaaDoorRefLay
namespace Drawbar.Sheet
open Go.Proofs.YtopmljbemogcoaaDoor
theorem page_take95 {s : Sh} (hl : s.da.length ≤ 64) : (page s).take 95 = body s ++ put (Crc.sum (body s)) 4 := by
  unfold page
  have h : (body s ++ put (Crc.sum (body s)) 4).length = 95 := by rw [List.length_append, body_length s hl, put_length]
  rw [← h, List.take_left]
theorem page_take91 {s : Sh} (hl : s.da.length ≤ 64) : (page s).take 91 = body s := by
  unfold page
  rw [List.append_assoc, ← body_length s hl, List.take_left]
theorem page_last {s : Sh} (hl : s.da.length ≤ 64) : (page s).getD 95 0 = 90 := by
  unfold page
  have h : (body s ++ put (Crc.sum (body s)) 4).length = 95 := by rw [List.length_append, body_length s hl, put_length]
  rw [List.getD_eq_getElem?_getD, List.getElem?_append_right (by omega), h]
  rfl
theorem valid_sealed (b : List Nat) (hb : ∀ x ∈ b, x < 256) : valid (b ++ put (Crc.sum b) 4) := by
  have h : (b ++ put (Crc.sum b) 4).length - 4 = b.length := by rw [List.length_append, put_length]; omega
  refine ⟨by rw [List.length_append, put_length]; omega, ?_⟩
  rw [h, List.drop_left, List.take_left, le_put, Nat.mod_eq_of_lt (by have := Crc.sum_lt b hb; omega)]
/-- What was laid is read. -/
theorem read_page {s : Sh} (hf : fm s = true) (hd : ∀ x ∈ s.da, x < 256) : readS (page s) = (s, 0) := by
  have hl := fm_len hf
  unfold readS
  rw [if_pos ⟨page_length s hl, page_last hl⟩, page_take95 hl, page_take91 hl, if_pos (valid_sealed _ (body_lt s hd)), parts_back hf, if_pos ⟨hf, rfl⟩]
end Drawbar.Sheet
namespace Go.Proofs.YtopmljbemogcoaaDoor
open Go.RowKit
open Drawbar Drawbar.Sheet

set_option maxHeartbeats 8000000 in
theorem sback_any (s : Sh) (a : Option Addr) (c : Nat) (w : World) (hs : Sh.In s) (hr : s.da.length ≤ 64 → Rd w a s.da) (hc : s.da.length ≤ c) (hnil : a = none → c = 0) (hT : Tab w) :
    Calls Tryd.prog 4 #[sv s a c] w (Yes w) := by
  have hcells := boxs_cells w 25 s a c
  have hB := boxs_below w 25 s a c
  have hT1 := hT.alloc (boxs 25 s a c)
  have hnf := near_form s hs.ep hs.sq
  generalize hw1 : w.alloc (boxs 25 s a c) = w1 at *
  change w.alloc (.cells #[.int .u8 s.k, .int .u64 s.ep, .int .u64 s.sq, .int .i64 s.ad, .int .i64 s.fr, .slice a s.da.length c] 25) = w1 at hw1
  have hA := fun W (hb : Below w1.heap.size w1 W) => awake_any W (hT1.below hb hT1.pos)
  have hN := fun W (hb : Below w1.heap.size w1 W) => near_at s a c W hs (fun h => ((hr h).below hB).below hb) hc hnil
  have hO := fun s a c W => of_any s a c W
  generalize nearS s = x at *
  have HA := Lib.hid hA
  have HN := Lib.hid hN
  have HO := Lib.hid hO
  have HX := Lib.hid hnf
  have HC := Lib.hid hcells
  have HT := Lib.hid hT1
  have hb0 := Below.refl w1.heap.size w1
  obtain ⟨p0, p1, p2, p3, p4, p5⟩ := hcells _ hb0
  have hl := fm_len hnf
  clear hA hN hO hcells hr hs hnf hT hT1
  go_enter Tryd.func4, Tryd.ntmps4
  go_wp2_with (first
    | (go_at_call 10; (with_reducible refine (HA.out _ hb0).mono ?_); rintro e w2 ⟨rfl, hb2'⟩; have hb2 := hb0.trans hb2'; obtain ⟨q0, q1, q2, q3, q4, q5⟩ := HC.out _ hb2)
    | (go_at_call 14; (with_reducible refine (HN.out _ hb2).mono ?_); rintro e w3 ⟨a3, c3, rfl, hb3', hr3, hc3, hn3⟩; have hb3 := hb2.trans (hb3'.mono hb2.size); have hr3x := hr3.below (boxs_below w3 25 x a3 c3); have hb3x := hb3.trans ((boxs_below w3 25 x a3 c3).mono hb3.size))
    | (go_at_call 15; (with_reducible refine (lay_gives x a3 c3 _ HX.out hr3x hc3 hn3 (HT.out.below hb3x HT.out.pos)).mono ?_); rintro e w4 ⟨a4, k4, rfl, hk4, hr4, hb4', -⟩; have hb4 := hb3x.trans (hb4'.mono hb3x.size); have hr3y := hr3x.below hb4')
    | (go_at_call 16; (with_reducible refine (sread_any (page x) a4 k4 _ 96 (page_length x hl) hr4 (by rw [page_length x hl]; exact hk4) (fun h => ((rd_some (m := 0) (c := k4) hr4 (by rw [page_length x hl]; omega)) h).2) (HT.out.below hb4 HT.out.pos)).mono ?_); intro e w5 hrp; rw [read_page HX.out hr3.1] at hrp; obtain ⟨a5, c5, rfl, hr5, hc5, hn5, hb5'⟩ := hrp; have hb5 := hb4.trans (hb5'.mono hb4.size); have hr3z := hr3y.below hb5'; have hr4z := hr4.below hb5'; dsimp only at hr5 hc5))
  have hwx5 : Below w5.heap.size w5 (w5.alloc (boxs 25 x a5 c5)) := boxs_below w5 _ _ _ _
  have hbx : Below w1.heap.size w1 (w5.alloc (boxs 25 x a5 c5)) := hb5.trans (hwx5.mono hb5.size)
  have hcx : ∀ W, Below (w5.alloc (boxs 25 x a5 c5)).heap.size (w5.alloc (boxs 25 x a5 c5)) W → (ShAt W w3.heap.size x a3 c3 ∧ ShAt W w5.heap.size x a5 c5) ∧ (convert 23 9 (.slice a4 96 k4)).run Tryd.prog W = .ok (.string (strOf (page x))) W := fun W hb => by
    have h5W : Below w5.heap.size w5 W := hwx5.trans (hb.mono hwx5.size)
    have h4W : Below w4.heap.size w4 W := hb5'.trans (h5W.mono hb5'.size)
    have h3W := hb4'.trans (h4W.mono hb4'.size)
    have hcv := conv_str W a4 (page x) k4 (hr4z.below h5W)
    rw [page_length x hl] at hcv
    exact ⟨⟨boxs_cells w3 _ x a3 c3 W h3W, boxs_cells w5 _ x a5 c5 W hb⟩, hcv⟩
  have hrx := hr3z.below hwx5
  have hry := hr5.below hwx5
  have hd3 := hr3.1
  generalize hwx : w5.alloc (boxs 25 x a5 c5) = wx at *
  change w5.alloc (.cells #[.int .u8 x.k, .int .u64 x.ep, .int .u64 x.sq, .int .i64 x.ad, .int .i64 x.fr, .slice a5 x.da.length c5] 25) = wx at hwx
  try rw [hwx]
  have HCX := Lib.hid hcx
  have HL2 := Lib.hid (fun W (hb : Below wx.heap.size wx W) => reflay_gives x a3 c3 W HX.out (hrx.below hb) hn3)
  have HSM := Lib.hid (fun W (hb : Below wx.heap.size wx W) => (show Calls Tryd.prog 18 #[sv x a3 c3, sv x a5 c5] W fun e w' => e = .returned (.bool true) ∧ Below W.heap.size W w' by have h := ssame_any x x a3 a5 c3 c5 W (hrx.below hb) (hry.below hb); rw [same_true.2 rfl] at h; exact h))
  have HP1 := Lib.hid (page_length x hl)
  have hfinal : ∀ W, Below wx.heap.size wx W → Below w.heap.size w W := fun W hb => hB.trans ((hbx.trans (hb.mono hbx.size)).mono hB.size)
  have HFIN := Lib.hid hfinal
  have hb4 := drew_below wx
  obtain ⟨⟨⟨m0, m1, m2, m3, m4, m5⟩, ⟨n0, n1, n2, n3, n4, n5⟩⟩, hcv0⟩ := hcx _ hb4
  have hq0 := And.intro (And.intro (And.intro m0 (And.intro m1 (And.intro m2 (And.intro m3 (And.intro m4 m5))))) (And.intro n0 (And.intro n1 (And.intro n2 (And.intro n3 (And.intro n4 n5)))))) hcv0
  generalize hS1 : strOf (page x) = S1 at *
  have HS1 := Lib.hid hS1
  have hss : (S1.toList == S1.toList) = true := by simp
  clear m0 m1 m2 m3 m4 m5 n0 n1 n2 n3 n4 n5 hcv0 hcx hrx hry hfinal hS1 HA HN HC HT hr3 hr3x hr3y hr3z hr4 hr4z hr5 p0 p1 p2 p3 p4 p5 q0 q1 q2 q3 q4 q5
  go_region_held (fun W => ((W.cell? ⟨w3.heap.size, 0, none⟩ = some (.int .u8 x.k) ∧ W.cell? ⟨w3.heap.size, 1, none⟩ = some (.int .u64 x.ep) ∧ W.cell? ⟨w3.heap.size, 2, none⟩ = some (.int .u64 x.sq) ∧ W.cell? ⟨w3.heap.size, 3, none⟩ = some (.int .i64 x.ad) ∧ W.cell? ⟨w3.heap.size, 4, none⟩ = some (.int .i64 x.fr) ∧ W.cell? ⟨w3.heap.size, 5, none⟩ = some (.slice a3 x.da.length c3)) ∧ (W.cell? ⟨w5.heap.size, 0, none⟩ = some (.int .u8 x.k) ∧ W.cell? ⟨w5.heap.size, 1, none⟩ = some (.int .u64 x.ep) ∧ W.cell? ⟨w5.heap.size, 2, none⟩ = some (.int .u64 x.sq) ∧ W.cell? ⟨w5.heap.size, 3, none⟩ = some (.int .i64 x.ad) ∧ W.cell? ⟨w5.heap.size, 4, none⟩ = some (.int .i64 x.fr) ∧ W.cell? ⟨w5.heap.size, 5, none⟩ = some (.slice a5 x.da.length c5))) ∧ (convert 23 9 (.slice a4 96 k4)).run Tryd.prog W = .ok (.string S1) W) (first | exact hq0 | exact HCX.out _ (by assumption)) (first
    | (go_at_call 13; (with_reducible refine (HO.out x a3 c3 _).mono ?_); rintro e w6 ⟨rfl, hb'⟩; have hb6 := (show Below wx.heap.size wx _ by assumption).trans (hb'.mono (show Below wx.heap.size wx _ by assumption).size); clear hb')
    | (go_at_call 13; (with_reducible refine (HO.out x a5 c5 _).mono ?_); rintro e w6 ⟨rfl, hb'⟩; have hb6 := (show Below wx.heap.size wx _ by assumption).trans (hb'.mono (show Below wx.heap.size wx _ by assumption).size); clear hb')
    | (go_at_call 17; (with_reducible refine (HL2.out _ (by assumption)).mono ?_); rintro e w7 ⟨a7, k7, rfl, hk7, hr7, hb', -⟩; have hb7 := (show Below wx.heap.size wx _ by assumption).trans (hb'.mono (show Below wx.heap.size wx _ by assumption).size); have hv7 : (convert 23 9 (.slice a7 96 k7)).run Tryd.prog w7 = .ok (.string S1) w7 := (by have h := conv_str w7 a7 (page x) k7 hr7; rw [HP1.out, HS1.out] at h; exact h); clear hb' hr7)
    | (go_at_call 18; (with_reducible refine (HSM.out _ (by assumption)).mono ?_); rintro e w8 ⟨rfl, hb'⟩; have hb8 := (show Below wx.heap.size wx _ by assumption).trans (hb'.mono (show Below wx.heap.size wx _ by assumption).size); clear hb'))
  all_goals
    go_wp2
    go_ret
    exact ⟨rfl, HFIN.out _ hb8⟩
end Go.Proofs.YtopmljbemogcoaaDoor
