/- The walk of the law LogbookErrs. -/
import Derived.Test.YtcbgccmoeleanaaDoorUse
namespace Drawbar.Log
open Go.RowKit
open Go.Proofs.YtcbgccmoeleanaaDoor Drawbar Drawbar.Sheet Drawbar.Nand

theorem last_empty {s : Arr} (h0 : (s.b 0).pages.length = 0) (h1 : (s.b 1).pages.length = 0) : lastS s = (En.z, 0) := by
  have e0 : heldS s 0 = (Hd.z, 0) := if_pos h0
  have e1 : heldS s 1 = (Hd.z, 0) := if_pos h1
  have e2 : openS s = ((Hd.z, Hd.z), 0) := by
    unfold openS
    rw [e0, e1, if_neg (fun h => h rfl), if_neg (fun h => h rfl)]
  unfold lastS
  rw [e2]
  rfl
/-- An array the erasing of the block 0 of which is cut. -/
def cutE : Arr := (({ Arr.new 2 3 (fun _ => fresh) with armed := 1 } : Arr).erase 0 0).2
theorem cut_erase : (({ Arr.new 2 3 (fun _ => fresh) with armed := 1 } : Arr).erase 0 0) = (9, cutE) := rfl
theorem cut_n : cutE.n = 2 := rfl
theorem cut_b (i : Nat) : (cutE.b i).pages.length = 0 := by
  show ((upd (fun _ => fresh) 0 fresh.tick) i).pages.length = 0
  unfold upd
  by_cases h : i = 0
  · rw [if_pos h]; rfl
  · rw [if_neg h]; rfl
end Drawbar.Log
namespace Go.Proofs.YtcbgccmoeleanaaDoor.Lg
open Go.RowKit
open Drawbar Drawbar.Sheet Drawbar.Nand Drawbar.Log Go.Proofs.YtcbgccmoeleanaaDoor.Nd

abbrev zent (w : World) : World := w.alloc (.cells #[.int .u64 0, .int .i64 0] 30)
theorem zent_below (w : World) : Below w.heap.size w (zent w) := (Below.refl _ _).alloc (Nat.le_refl _) _

set_option maxHeartbeats 2000000 in
theorem errs_any (x : En) (w : World) (hT : Tab w) : Calls Tryd.prog 7 #[.agg #[.int .u64 x.e, .int .i64 x.w]] w (Yes w) := by
  have hb0 : Below w.heap.size w (w.alloc (ebox x)) := (Below.refl _ _).alloc (Nat.le_refl _) _
  have hblk := heap_alloc_new w (ebox x)
  generalize hw0 : w.alloc (ebox x) = w0 at *
  have hT0 := hT.below hb0 hT.pos
  have HA := Lib.hid (awake_any w0 hT0)
  have c0 := cell_blk hblk 0 _ rfl
  have c1 := cell_blk hblk 1 _ rfl
  have hlt := lt_of_block hblk
  have HX := Lib.hid (fun W (hb : Below w0.heap.size w0 W) => And.intro ((hb.cell (p := ⟨w.heap.size, 0, none⟩) hlt).trans c0) ((hb.cell (p := ⟨w.heap.size, 1, none⟩) hlt).trans c1))
  have HL0 := Lib.hid (fun W => last_none (.pointer none) W (fun W' _ => has_nil W'))
  have HC0 := Lib.hid (fun W => claim_none (.pointer none) x W (fun W' _ => has_nil W'))
  have HT := Lib.hid hT0
  have HB0 := Lib.hid hb0
  clear hb0 hblk hT hT0 c0 c1
  go_enter Tryd.func7, Tryd.ntmps7
  go_wp2_with fail
  refine HA.out.mono ?_
  rintro e w1 ⟨rfl, hB1⟩
  clear HA hw0
  go_wp2_with fail
  refine (HL0.out _).mono ?_
  rintro e w2 ⟨rfl, hb2⟩
  have hB2 := hB1.trans (hb2.mono hB1.size)
  have hB3 := hB2.trans ((zent_below w2).mono hB2.size)
  have HN1 := Lib.hid (show Calls Tryd.prog 11 #[.int .i64 1, .int .i64 3, .slice none 0 0] (zent w2) (Made (zent w2) (Arr.new 1 3 (fun _ => fresh))) from new_at 1 3 (zent w2) (by omega) (by omega) (by omega) (by omega))
  clear hb2 HL0 hB1 hB2
  go_wp2_with fail
  refine HN1.out.mono ?_
  intro e w4 hm
  obtain ⟨g1, rfl, h4, hb4⟩ := hm.mine
  have hB4 := hB3.trans (hb4.mono hB3.size)
  have hB4s := hB4.size
  have HS := Lib.hid (fun W (hb : Below w4.heap.size w4 W) => (show Calls Tryd.prog 24 #[.pointer (some ⟨g1, 0, none⟩)] W fun e w' => e = .returned (.bool false) ∧ W = w' from by
    obtain ⟨F, ha, _⟩ := h4.arr
    exact has_one (ha.keep hb) rfl))
  have HL1 := Lib.hid (last_none (.pointer (some ⟨g1, 0, none⟩)) w4 (fun W hb => HS.out W hb))
  clear hm HN1 h4 hb4 hB3
  go_wp2_with fail
  refine HL1.out.mono ?_
  rintro e w5 ⟨rfl, hb5⟩
  have hb46 : Below w4.heap.size w4 (zent w5) := hb5.trans ((zent_below w5).mono hb5.size)
  have hB6 := hB4.trans (hb46.mono hB4.size)
  have HN2 := Lib.hid (show Calls Tryd.prog 11 #[.int .i64 2, .int .i64 3, .slice none 0 0] (zent w5) (Made (zent w5) (Arr.new 2 3 (fun _ => fresh))) from new_at 2 3 (zent w5) (by omega) (by omega) (by omega) (by omega))
  obtain ⟨w6, hw6⟩ : ∃ w6, w6 = zent w5 := ⟨_, rfl⟩
  rw [← hw6] at HN2 hb46 hB6
  have HW6 := Lib.hid hw6
  clear hb5 HL1 hw6
  go_wp2_with fail
  rw [show w5.alloc (.cells #[.int .u64 0, .int .i64 0] 30) = w6 from HW6.out.symm]
  refine HN2.out.mono ?_
  intro e w7 hm
  obtain ⟨g2, rfl, h7, hb7⟩ := hm.mine
  have hb47 := hb46.trans (hb7.mono hb46.size)
  have hs7 := hb7.size
  have HAR := Lib.hid (show Calls Tryd.prog 15 #[.pointer (some ⟨g2, 0, none⟩), .int .i64 1] w7 (Does w6.heap.size w7 g2 (0, { Arr.new 2 3 (fun _ => fresh) with armed := 1 })) from arm_m h7 hs7 1 (by omega))
  have h46 := hb46.size
  clear hm HN2 h7 hb46 HW6 hb7
  go_wp2_with fail
  refine HAR.out.mono ?_
  rintro e w8 ⟨rfl, h8, hb8⟩
  have hb48 := hb47.trans (hb8.mono h46)
  have hs8 := Nat.le_trans hs7 hb8.size
  have HER := Lib.hid (show Calls Tryd.prog 20 #[.pointer (some ⟨g2, 0, none⟩), .int .i64 0, .int .u64 0] w8 (Does w6.heap.size w8 g2 (9, cutE)) from cut_erase ▸ erase_m h8 hs8 0 0)
  clear HAR h8 hb8 hb47 hs7
  go_wp2_with fail
  refine HER.out.mono ?_
  rintro e w9 ⟨rfl, h9, hb9⟩
  dsimp only at h9
  have hb49 := hb48.trans (hb9.mono h46)
  have hs9 := Nat.le_trans hs8 hb9.size
  have hB9 := hB4.trans (hb49.mono hB4.size)
  have HL2 := Lib.hid (show Calls Tryd.prog 13 #[.pointer (some ⟨g2, 0, none⟩)] w9 (fun e w' => e = .returned (.tuple #[.agg #[.int .u64 0, .int .i64 0], .int .i64 0]) ∧ Below w9.heap.size w9 w') from by
    obtain ⟨F, ha, _⟩ := h9.arr
    have hl := last_any ha (by rw [cut_n]; omega) (HT.out.below hB9 HT.out.pos)
    rw [last_empty (cut_b 0) (cut_b 1)] at hl
    exact hl)
  clear HER hb9 hb48 hs8 hB4 hB6
  go_wp2_with fail
  refine HL2.out.mono ?_
  rintro e w10 ⟨rfl, hb10⟩
  have hb9a : Below w9.heap.size w9 (zent w10) := hb10.trans ((zent_below w10).mono hb10.size)
  have hq10 := HX.out _ (hB9.trans (hb9a.mono hB9.size))
  have d0 := hq10.1
  have d1 := hq10.2
  clear HL2 hb10 hq10
  go_wp2_with fail
  refine (HC0.out _).mono ?_
  rintro e w12 ⟨rfl, hb12⟩
  have hb9c := hb9a.trans (hb12.mono hb9a.size)
  have hb4c := hb49.trans (hb9c.mono hb49.size)
  have hq12 := HX.out _ (hB9.trans (hb9c.mono hB9.size))
  have d0 := hq12.1
  have d1 := hq12.2
  have HC1 := Lib.hid (claim_none (.pointer (some ⟨g1, 0, none⟩)) x w12 (fun W hb => HS.out W (hb4c.trans (hb.mono hb4c.size))))
  clear hb12 hb9a HC0 hq12
  go_wp2_with fail
  refine HC1.out.mono ?_
  rintro e w13 ⟨rfl, hb13⟩
  have hb9d := hb9c.trans (hb13.mono hb9c.size)
  have hB13 := hB9.trans (hb9d.mono hB9.size)
  have HRS := Lib.hid (restart_m (h9.keep hb9d) (Nat.le_trans hs9 hb9d.size) 0)
  have h0w : w0.heap.size ≤ w6.heap.size := Nat.le_trans hB4s h46
  clear HC1 hb13 hb9c hb4c hb9d hB9 hb49 h9 hs9 HS HX
  go_wp2_with fail
  refine HRS.out.mono ?_
  rintro e w14 ⟨rfl, -, hb14⟩
  have hB14 := HB0.out.trans ((hB13.trans (hb14.mono h0w)).mono HB0.out.size)
  clear HRS hb14 hB13
  go_wp2
  go_ret
  exact ⟨rfl, hB14⟩
end Go.Proofs.YtcbgccmoeleanaaDoor.Lg
