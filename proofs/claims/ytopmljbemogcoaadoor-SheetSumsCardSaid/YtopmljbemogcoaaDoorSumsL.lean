/- The walk of the law SheetSums. -/
import Derived.Test.YtopmljbemogcoaaDoorRefRead
import Derived.Test.YtopmljbemogcoaaDoorFormsL
import Derived.Test.YtopmljbemogcoaaDoorSealed
import Derived.OwnWalk
import Derived.Deep.RegionHeld
namespace Drawbar.Sheet
open Go.Proofs.YtopmljbemogcoaaDoor
theorem read_sealed (l : List Nat) (hl : ∀ x ∈ l, x < 256) (h : l.length = 91) : (readS ((l ++ put (Crc.sum l) 4) ++ [90])).2 = 0 ∨ (readS ((l ++ put (Crc.sum l) 4) ++ [90])).2 = 3 := by
  have h1 : (l ++ put (Crc.sum l) 4).length = 95 := by rw [List.length_append, put_length, h]
  have h2 : ((l ++ put (Crc.sum l) 4) ++ [90]).length = 96 := by rw [List.length_append, h1]; rfl
  have h3 : ((l ++ put (Crc.sum l) 4) ++ [90]).getD 95 0 = 90 := at_seg h1
  have h4 : ((l ++ put (Crc.sum l) 4) ++ [90]).take 95 = l ++ put (Crc.sum l) 4 := List.take_left' h1
  unfold readS
  rw [if_pos ⟨h2, h3⟩, h4, if_pos (valid_seal l hl)]
  split
  · exact .inl rfl
  · exact .inr rfl
end Drawbar.Sheet
namespace Go.Proofs.YtopmljbemogcoaaDoor
open Go.RowKit
open Drawbar Drawbar.Sheet

/-- The post of the two Reads, its number given. -/
def ReadZ (w : World) (r : Sh × Nat) (z : Int) (e : Ending) (w' : World) : Prop :=
  ∃ a c, e = .returned (.tuple #[sv r.1 a c, .int .i64 z]) ∧ Rd w' a r.1.da ∧ r.1.da.length ≤ c ∧ (a = none → c = 0) ∧ Below w.heap.size w w'
theorem ReadPost.z {w : World} {r : Sh × Nat} {z : Int} (hz : z = (r.2 : Nat)) {e : Ending} {w' : World} (h : ReadPost w r e w') : ReadZ w r z e w' := by
  subst hz
  exact h

structure FillAt (w1 wr : World) (g : Nat) (L : List Nat) : Prop where
  b : Below w1.heap.size w1 wr
  n : L.length = 91
  q : Rd wr (some ⟨g, 0, none⟩) L
  f : ∀ j, wr.frozen? ⟨g, j, none⟩ = false
theorem FillAt.step {w1 wr : World} {g : Nat} {L : List Nat} (h : FillAt w1 wr g L) (hg : w1.heap.size ≤ g) (j x : Nat) (hj : j < 91) (hx : x < 256) :
    FillAt w1 (wr.setCell ⟨g, j, none⟩ (.int .u8 x)) g (L.set j x) := by
  have hs := h.q.set j x (by rw [h.n]; exact hj) hx
  rw [Nat.zero_add] at hs
  exact ⟨h.b.setCell hg _, by rw [List.length_set]; exact h.n, hs, fun k => by rw [World.frozen?_setCell]; exact h.f k⟩
theorem FillAt.cell {w1 wr : World} {g : Nat} {L : List Nat} (h : FillAt w1 wr g L) (j : Nat) (hj : j < 91) : wr.cell? ⟨g, j, none⟩ = some (.int .u8 (L.getD j 0 : Nat)) := by
  obtain ⟨_, _, e, hcl⟩ := h.q.2.2 (by rw [h.n]; omega)
  cases e
  have := hcl j (by rw [h.n]; exact hj)
  rwa [Nat.zero_add] at this

set_option maxRecDepth 100000 in
set_option maxHeartbeats 8000000 in
theorem ssums_any (x y z : Nat) (w : World) (hx : x < 256) (hy : y < 65536) (hz : z < 256) (hT : Tab w) :
    Calls Tryd.prog 9 #[.int .u8 x, .int .u16 y, .int .u8 z] w (Yes w) := by
  obtain ⟨i0, hi, hz0, hz1, hz2⟩ := info_parts info_u8
  have HT := Lib.hid hT
  have HO := Lib.hid (fun s a c W => of_any s a c W)
  obtain ⟨n16, hn16, h16⟩ : ∃ n : Nat, (y : Int) % 256 = n ∧ n < 256 := ⟨y % 256, by omega, by omega⟩
  obtain ⟨n17, hn17, h17⟩ : ∃ n : Nat, (y : Int) / 256 = n ∧ n < 256 := ⟨y / 256, by omega, by omega⟩
  go_enter Tryd.func9, Tryd.ntmps9
  go_wp2_with (first
    | (go_at_call 10; (with_reducible refine (awake_any w HT.out).mono ?_); rintro e w1 ⟨rfl, hb1⟩)
    | (at_make; refine wpList_make_full _ rfl _ _ 23 rfl w1.heap.size 5 i0 (.int .u8 0) 1 Tryd.underlying23 hi hz0 hz1 .i64 .i64 91 91 91 rfl rfl rfl rfl (by rw [hz2]; decide) (by decide) (Nat.le_refl _) ?_; intro w2 hown hgr))
  have hB : Below w1.heap.size w1 w2 := (Below.refl _ _).grown hgr (Nat.le_refl _) (fun k hk => by cases hk)
  have hmade : (madeCells #[Value.int .u8 0] 91).toList = (List.replicate 91 0).map bv := by
    rw [toList_madeCells_one]
    simp [bv]
  replace hown : w2.ownsRow w1.heap.size 5 1 (.slice (some ⟨w1.heap.size, 0, none⟩) 91 91) 91 ((List.replicate 91 0).map bv) := by
    rw [← hmade]
    exact hown
  have hfz := fun j => World.ownsRow.frozenAt hown j
  obtain ⟨g0, k0, he0, hk0, hr0, -, -⟩ := rd_of_own' hown (by intro u hu; rw [List.eq_of_mem_replicate hu]; omega) (by simp) (by simp)
  obtain ⟨g, hg⟩ : ∃ g, g = w1.heap.size := ⟨_, rfl⟩
  rw [← hg] at he0 hfz ⊢
  injection he0 with h01 h02 h03
  injection h01 with h01
  injection h01 with h01
  subst h01
  have hg1 : w1.heap.size ≤ g := Nat.le_of_eq hg.symm
  have hinv : FillAt w1 w2 g (List.replicate 91 0) := ⟨hB, List.length_replicate, hr0, hfz⟩
  clear hmade hown hfz hr0 hgr hk0 h02 h03 hg
  go_loopw [8] (fun i wr => ∃ (j : Nat) (L : List Nat), j ≤ 91 ∧ i = .int .i64 j ∧ FillAt w1 wr g L) (fun i _ => 91 - (intOf i).toNat)
  case atStart => exact ⟨0, _, by omega, rfl, hinv⟩
  case round =>
    obtain ⟨j, L, hj, rfl, hI⟩ := hrel
    clear hinv
    by_cases hlt : j < 91
    · have hstep := Lib.hid (hI.step hg1 j z hlt hz)
      have hcj := hI.cell j hlt
      have hfj := hI.f j
      clear hI
      go_wp2
      go_roundw
      case rel => exact ⟨j + 1, _, by omega, by go_num, hstep.out⟩
      case measure => simp [intOf]; omega
    · obtain rfl : j = 91 := by omega
      have hI1 := hI.step hg1 0 x (by omega) hx
      have hI2 := hI1.step hg1 16 n16 (by omega) h16
      have hI3 := hI2.step hg1 17 n17 (by omega) h17
      have c0 := hI.cell 0 (by omega)
      have c1 := hI1.cell 16 (by omega)
      have c2 := hI2.cell 17 (by omega)
      have f0 := hI.f 0
      have f1 := hI1.f 16
      have f2 := hI2.f 17
      have H3 := Lib.hid hI3
      clear hI hI1 hI2 hI3
      generalize ((L.set 0 x).set 16 n16).set 17 n17 = M at H3
      have hML := H3.out.q.1
      have hM91 := H3.out.n
      have hSE := sealed_any M (some ⟨g, 0, none⟩) 91 _ H3.out.q (fun h => by cases h)
      rw [hM91] at hSE
      have h03 := read_sealed M hML hM91
      have hq96 : ((M ++ put (Crc.sum M) 4) ++ [90]).length = 96 := by rw [List.length_append, List.length_append, put_length, hM91]; rfl
      have hqlt : ∀ u ∈ (M ++ put (Crc.sum M) 4) ++ [90], u < 256 := app_lt (app_lt hML (put_lt _ _)) (fun u hu => by rw [List.mem_singleton.1 hu]; omega)
      generalize ((M ++ put (Crc.sum M) 4) ++ [90]) = q at *
      have HSE := Lib.hid (hSE.mono fun e w' h => gives_of h hqlt hq96 (by omega))
      obtain ⟨zz, hzz, hz03⟩ : ∃ zz : Int, zz = ((readS q).2 : Nat) ∧ (zz = 0 ∨ zz = 3) := ⟨_, rfl, by omega⟩
      have H1 := Lib.hid (fun a c W (hr : Rd W a q ∧ 96 ≤ c ∧ (a = none → c = 0) ∧ Tab W) => (sread_any q a c W 96 hq96 hr.1 (by rw [hq96]; exact hr.2.1) hr.2.2.1 hr.2.2.2).mono fun e w' h => h.z hzz)
      have H2 := Lib.hid (fun a c W (hr : Rd W a q ∧ 96 ≤ c ∧ (a = none → c = 0)) => (rread_any q a c W 96 hq96 hr.1 (by rw [hq96]; exact hr.2.1) hr.2.2).mono fun e w' h => h.z hzz)
      generalize readS q = r at H1 H2 hzz
      clear h03 hML hM91 hSE hq96 hqlt hzz
      have HB1 := Lib.hid (show Below w.heap.size w _ from hb1.trans (H3.out.b.mono hb1.size))
      rcases hz03 with rfl | rfl
      · go_wp2_with (first
          | (go_at_call 20; (with_reducible refine HSE.out.mono ?_); rintro e w4 ⟨a4, c4, rfl, hc4, hr4, hb4', hown4⟩; have hb4 := HB1.out.trans (hb4'.mono HB1.out.size); have hn4 := own_nil hown4)
          | (go_at_call 16; (with_reducible refine (H1.out a4 c4 _ ⟨hr4, hc4, (fun h => hn4 h), HT.out.below hb4 HT.out.pos⟩).mono ?_); rintro e w5 ⟨a5, c5, rfl, hr5, hc5, hn5, hb5'⟩; have hb5 := hb5'.trans ((boxs_below w5 25 r.1 a5 c5).mono hb5'.size))
          | (go_at_call 19; (with_reducible refine (H2.out a4 c4 _ ⟨hr4.below hb5, hc4, (fun h => hn4 h)⟩).mono ?_); rintro e w6 ⟨a6, c6, rfl, hr6, hc6, hn6, hb6'⟩))
        have h6x := boxs_below w6 29 r.1 a6 c6
        have hcx : ∀ W, Below (w6.alloc (boxs 29 r.1 a6 c6)).heap.size (w6.alloc (boxs 29 r.1 a6 c6)) W → ShAt W w5.heap.size r.1 a5 c5 ∧ ShAt W w6.heap.size r.1 a6 c6 := fun W hb =>
          ⟨boxs_cells w5 _ r.1 a5 c5 W (hb6'.trans ((h6x.trans (hb.mono h6x.size)).mono hb6'.size)), boxs_cells w6 _ r.1 a6 c6 W hb⟩
        have hrx := ((hr5.below (boxs_below w5 25 r.1 a5 c5)).below hb6').below h6x
        have hry := hr6.below h6x
        have hbx : Below w.heap.size w (w6.alloc (boxs 29 r.1 a6 c6)) := hb4.trans ((hb5.trans ((hb6'.trans (h6x.mono hb6'.size)).mono hb5.size)).mono hb4.size)
        generalize hwx : w6.alloc (boxs 29 r.1 a6 c6) = wx at *
        have HCX := Lib.hid hcx
        have HSM := Lib.hid (fun W (hb : Below wx.heap.size wx W) => (show Calls Tryd.prog 18 #[sv r.1 a5 c5, sv r.1 a6 c6] W fun e w' => e = .returned (.bool true) ∧ Below W.heap.size W w' by have h := ssame_any r.1 r.1 a5 a6 c5 c6 W (hrx.below hb) (hry.below hb); rw [same_true.2 rfl] at h; exact h))
        have HFIN := Lib.hid (fun W (hb : Below wx.heap.size wx W) => hbx.trans (hb.mono hbx.size))
        have hbd := drew_below wx
        obtain ⟨⟨m0, m1, m2, m3, m4, m5⟩, ⟨n0, n1, n2, n3, n4, n5⟩⟩ := hcx _ hbd
        have hq0 := And.intro (And.intro m0 (And.intro m1 (And.intro m2 (And.intro m3 (And.intro m4 m5))))) (And.intro n0 (And.intro n1 (And.intro n2 (And.intro n3 (And.intro n4 n5)))))
        clear m0 m1 m2 m3 m4 m5 n0 n1 n2 n3 n4 n5 hcx hrx hry hbx h6x hb6' hr5 hr6 hb5 hb5' H1 H2 HT HSE H3 HB1
        first
          | (go_region_held (fun W => (W.cell? ⟨w5.heap.size, 0, none⟩ = some (.int .u8 r.1.k) ∧ W.cell? ⟨w5.heap.size, 1, none⟩ = some (.int .u64 r.1.ep) ∧ W.cell? ⟨w5.heap.size, 2, none⟩ = some (.int .u64 r.1.sq) ∧ W.cell? ⟨w5.heap.size, 3, none⟩ = some (.int .i64 r.1.ad) ∧ W.cell? ⟨w5.heap.size, 4, none⟩ = some (.int .i64 r.1.fr) ∧ W.cell? ⟨w5.heap.size, 5, none⟩ = some (.slice a5 r.1.da.length c5)) ∧ (W.cell? ⟨w6.heap.size, 0, none⟩ = some (.int .u8 r.1.k) ∧ W.cell? ⟨w6.heap.size, 1, none⟩ = some (.int .u64 r.1.ep) ∧ W.cell? ⟨w6.heap.size, 2, none⟩ = some (.int .u64 r.1.sq) ∧ W.cell? ⟨w6.heap.size, 3, none⟩ = some (.int .i64 r.1.ad) ∧ W.cell? ⟨w6.heap.size, 4, none⟩ = some (.int .i64 r.1.fr) ∧ W.cell? ⟨w6.heap.size, 5, none⟩ = some (.slice a6 r.1.da.length c6))) (first | exact hq0 | exact HCX.out _ (by assumption)) (first
                    | (go_at_call 13; (with_reducible refine (HO.out r.1 a5 c5 _).mono ?_); rintro e w7 ⟨rfl, hb'⟩; have hb7 := (show Below wx.heap.size wx _ by assumption).trans (hb'.mono (show Below wx.heap.size wx _ by assumption).size); clear hb')
                    | (go_at_call 18; (with_reducible refine (HSM.out _ (by assumption)).mono ?_); rintro e w8 ⟨rfl, hb'⟩; have hb8 := (show Below wx.heap.size wx _ by assumption).trans (hb'.mono (show Below wx.heap.size wx _ by assumption).size); clear hb')))
          | fail
        all_goals
          go_wp2
          go_ret
          exact ⟨rfl, HFIN.out _ hb8⟩
      · go_wp2_with (first
          | (go_at_call 20; (with_reducible refine HSE.out.mono ?_); rintro e w4 ⟨a4, c4, rfl, hc4, hr4, hb4', hown4⟩; have hb4 := HB1.out.trans (hb4'.mono HB1.out.size); have hn4 := own_nil hown4)
          | (go_at_call 16; (with_reducible refine (H1.out a4 c4 _ ⟨hr4, hc4, (fun h => hn4 h), HT.out.below hb4 HT.out.pos⟩).mono ?_); rintro e w5 ⟨a5, c5, rfl, hr5, hc5, hn5, hb5'⟩; have hb5 := hb5'.trans ((boxs_below w5 25 r.1 a5 c5).mono hb5'.size))
          | (go_at_call 19; (with_reducible refine (H2.out a4 c4 _ ⟨hr4.below hb5, hc4, (fun h => hn4 h)⟩).mono ?_); rintro e w6 ⟨a6, c6, rfl, hr6, hc6, hn6, hb6'⟩))
        have h6x := boxs_below w6 29 r.1 a6 c6
        have hcx : ∀ W, Below (w6.alloc (boxs 29 r.1 a6 c6)).heap.size (w6.alloc (boxs 29 r.1 a6 c6)) W → ShAt W w5.heap.size r.1 a5 c5 ∧ ShAt W w6.heap.size r.1 a6 c6 := fun W hb =>
          ⟨boxs_cells w5 _ r.1 a5 c5 W (hb6'.trans ((h6x.trans (hb.mono h6x.size)).mono hb6'.size)), boxs_cells w6 _ r.1 a6 c6 W hb⟩
        have hrx := ((hr5.below (boxs_below w5 25 r.1 a5 c5)).below hb6').below h6x
        have hry := hr6.below h6x
        have hbx : Below w.heap.size w (w6.alloc (boxs 29 r.1 a6 c6)) := hb4.trans ((hb5.trans ((hb6'.trans (h6x.mono hb6'.size)).mono hb5.size)).mono hb4.size)
        generalize hwx : w6.alloc (boxs 29 r.1 a6 c6) = wx at *
        have HCX := Lib.hid hcx
        have HSM := Lib.hid (fun W (hb : Below wx.heap.size wx W) => (show Calls Tryd.prog 18 #[sv r.1 a5 c5, sv r.1 a6 c6] W fun e w' => e = .returned (.bool true) ∧ Below W.heap.size W w' by have h := ssame_any r.1 r.1 a5 a6 c5 c6 W (hrx.below hb) (hry.below hb); rw [same_true.2 rfl] at h; exact h))
        have HFIN := Lib.hid (fun W (hb : Below wx.heap.size wx W) => hbx.trans (hb.mono hbx.size))
        have hbd := drew_below wx
        obtain ⟨⟨m0, m1, m2, m3, m4, m5⟩, ⟨n0, n1, n2, n3, n4, n5⟩⟩ := hcx _ hbd
        have hq0 := And.intro (And.intro m0 (And.intro m1 (And.intro m2 (And.intro m3 (And.intro m4 m5))))) (And.intro n0 (And.intro n1 (And.intro n2 (And.intro n3 (And.intro n4 n5)))))
        clear m0 m1 m2 m3 m4 m5 n0 n1 n2 n3 n4 n5 hcx hrx hry hbx h6x hb6' hr5 hr6 hb5 hb5' H1 H2 HT HSE H3 HB1
        first
          | (go_region_held (fun W => (W.cell? ⟨w5.heap.size, 0, none⟩ = some (.int .u8 r.1.k) ∧ W.cell? ⟨w5.heap.size, 1, none⟩ = some (.int .u64 r.1.ep) ∧ W.cell? ⟨w5.heap.size, 2, none⟩ = some (.int .u64 r.1.sq) ∧ W.cell? ⟨w5.heap.size, 3, none⟩ = some (.int .i64 r.1.ad) ∧ W.cell? ⟨w5.heap.size, 4, none⟩ = some (.int .i64 r.1.fr) ∧ W.cell? ⟨w5.heap.size, 5, none⟩ = some (.slice a5 r.1.da.length c5)) ∧ (W.cell? ⟨w6.heap.size, 0, none⟩ = some (.int .u8 r.1.k) ∧ W.cell? ⟨w6.heap.size, 1, none⟩ = some (.int .u64 r.1.ep) ∧ W.cell? ⟨w6.heap.size, 2, none⟩ = some (.int .u64 r.1.sq) ∧ W.cell? ⟨w6.heap.size, 3, none⟩ = some (.int .i64 r.1.ad) ∧ W.cell? ⟨w6.heap.size, 4, none⟩ = some (.int .i64 r.1.fr) ∧ W.cell? ⟨w6.heap.size, 5, none⟩ = some (.slice a6 r.1.da.length c6))) (first | exact hq0 | exact HCX.out _ (by assumption)) (first
                    | (go_at_call 13; (with_reducible refine (HO.out r.1 a5 c5 _).mono ?_); rintro e w7 ⟨rfl, hb'⟩; have hb7 := (show Below wx.heap.size wx _ by assumption).trans (hb'.mono (show Below wx.heap.size wx _ by assumption).size); clear hb')
                    | (go_at_call 18; (with_reducible refine (HSM.out _ (by assumption)).mono ?_); rintro e w8 ⟨rfl, hb'⟩; have hb8 := (show Below wx.heap.size wx _ by assumption).trans (hb'.mono (show Below wx.heap.size wx _ by assumption).size); clear hb')))
          | fail
        all_goals
          go_wp2
          go_ret
          exact ⟨rfl, HFIN.out _ hb8⟩

end Go.Proofs.YtopmljbemogcoaaDoor
