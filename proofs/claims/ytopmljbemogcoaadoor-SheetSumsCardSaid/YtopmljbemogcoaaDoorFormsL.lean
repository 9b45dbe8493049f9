/- The walk of the law SheetForms. -/
import Derived.Test.YtopmljbemogcoaaDoorLay
import Derived.Deep.RegionHeld
namespace Go.Proofs.YtopmljbemogcoaaDoor
open Go.RowKit
open Drawbar Drawbar.Sheet
theorem drew_below (w : World) : Below w.heap.size w w.drew := (Below.refl _ _).drew

set_option maxHeartbeats 4000000 in
theorem forms_any (s : Sh) (a : Option Addr) (c : Nat) (w : World) (hs : Sh.In s) (hr : s.da.length ≤ 64 → Rd w a s.da) (hc : s.da.length ≤ c) (hnil : a = none → c = 0) (hT : Tab w) :
    Calls Tryd.prog 3 #[sv s a c] w (Yes w) := by
  have hcells := boxs_cells w 25 s a c
  have hB := boxs_below w 25 s a c
  have hT1 := hT.alloc (boxs 25 s a c)
  have hnf := near_form s hs.ep hs.sq
  generalize hw1 : w.alloc (boxs 25 s a c) = w1 at *
  change w.alloc (.cells #[.int .u8 s.k, .int .u64 s.ep, .int .u64 s.sq, .int .i64 s.ad, .int .i64 s.fr, .slice a s.da.length c] 25) = w1 at hw1
  have hA := fun W (hb : Below w1.heap.size w1 W) => awake_any W (hT1.below hb hT1.pos)
  have hF := fun W => sform_any s a c W
  have hG := fun W => srefform_any s a c W
  have hO := fun W => of_any s a c W
  have hN := fun W (hb : Below w1.heap.size w1 W) => near_at s a c W hs (fun h => ((hr h).below hB).below hb) hc hnil
  have hX := fun W a' c' => sform_any (nearS s) a' c' W
  rw [hnf] at hX
  generalize nearS s = x at *
  have HA := Lib.hid hA
  have HF := Lib.hid hF
  have HG := Lib.hid hG
  have HO := Lib.hid hO
  have HN := Lib.hid hN
  have HX := Lib.hid hX
  have HC := Lib.hid hcells
  have hb0 := drew_below w1
  have hq0 := hcells _ hb0
  clear hA hF hG hO hN hX hcells hr hs hnf hT hT1
  generalize fm s = f at *
  unfold ShAt at hq0
  have hff : (f == f) = true := by simp
  go_enter Tryd.func3, Tryd.ntmps3
  go_wp2_with fail
  go_region_held (fun W => W.cell? ⟨w.heap.size, 0, none⟩ = some (.int .u8 s.k) ∧ W.cell? ⟨w.heap.size, 1, none⟩ = some (.int .u64 s.ep) ∧ W.cell? ⟨w.heap.size, 2, none⟩ = some (.int .u64 s.sq) ∧ W.cell? ⟨w.heap.size, 3, none⟩ = some (.int .i64 s.ad) ∧ W.cell? ⟨w.heap.size, 4, none⟩ = some (.int .i64 s.fr) ∧ W.cell? ⟨w.heap.size, 5, none⟩ = some (.slice a s.da.length c)) (first | exact hq0 | exact hq9) (first
    | (go_at_call 10; (with_reducible refine (HA.out _ (by assumption)).mono ?_); rintro e w9 ⟨rfl, hb'⟩; have hb9 := (show Below w1.heap.size w1 _ by assumption).trans (hb'.mono (show Below w1.heap.size w1 _ by assumption).size); have hq9 := HC.out _ hb9)
    | (go_at_call 11; (with_reducible refine (HF.out _).mono ?_); rintro e w9 ⟨rfl, hb'⟩; have hb9 := (show Below w1.heap.size w1 _ by assumption).trans (hb'.mono (show Below w1.heap.size w1 _ by assumption).size); have hq9 := HC.out _ hb9)
    | (go_at_call 11; (with_reducible refine (HX.out _ _ _).mono ?_); rintro e w9 ⟨rfl, hb'⟩; have hb9 := (show Below w1.heap.size w1 _ by assumption).trans (hb'.mono (show Below w1.heap.size w1 _ by assumption).size); have hq9 := HC.out _ hb9)
    | (go_at_call 12; (with_reducible refine (HG.out _).mono ?_); rintro e w9 ⟨rfl, hb'⟩; have hb9 := (show Below w1.heap.size w1 _ by assumption).trans (hb'.mono (show Below w1.heap.size w1 _ by assumption).size); have hq9 := HC.out _ hb9)
    | (go_at_call 13; (with_reducible refine (HO.out _).mono ?_); rintro e w9 ⟨rfl, hb'⟩; have hb9 := (show Below w1.heap.size w1 _ by assumption).trans (hb'.mono (show Below w1.heap.size w1 _ by assumption).size); have hq9 := HC.out _ hb9)
    | (go_at_call 14; (with_reducible refine (HN.out _ (by assumption)).mono ?_); rintro e w9 ⟨a', c', rfl, hb', -, -, -⟩; have hb9 := (show Below w1.heap.size w1 _ by assumption).trans (hb'.mono (show Below w1.heap.size w1 _ by assumption).size); have hq9 := HC.out _ hb9))
  all_goals
    go_wp2
    go_ret
    exact ⟨rfl, hB.trans ((show Below w1.heap.size w1 _ by assumption).mono hB.size)⟩
end Go.Proofs.YtopmljbemogcoaaDoor
