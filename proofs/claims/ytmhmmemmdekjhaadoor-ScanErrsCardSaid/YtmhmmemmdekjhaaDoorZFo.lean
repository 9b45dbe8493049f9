/- The walk of the law ScanForeign. The walk of the law ScanForeign. -/
import Derived.Test.YtmhmmemmdekjhaaDoorZSe
import Derived.Deep.RegionHeld
namespace Drawbar.Scan
open Go.RowKit
open Drawbar Drawbar.Sheet Drawbar.Nand Go.Proofs.YtmhmmemmdekjhaaDoor.Nd Go.Proofs.YtmhmmemmdekjhaaDoor.Sc
def x5 (k : Nat) : Sh := ⟨1, 0, 5, k, -1, []⟩
def x9 : Sh := ⟨3, 9, 9, 0, -1, []⟩
set_option maxRecDepth 100000 in
theorem x5_fm (k : Nat) (h : k ≤ 65535) : fm (x5 k) = true := by
  unfold fm x5
  simp
  omega
set_option maxRecDepth 100000 in
theorem x9_fm : fm x9 = true := by decide
set_option maxRecDepth 100000 in
/-- The first two usable blocks. -/
theorem gus_two (n : Nat) (hn : n < 256) : ∃ (a b : Nat) (r : List Int), gus n = (a : Int) :: (b : Int) :: r ∧ a ≠ b ∧ (∀ i ∈ r, i.toNat ≠ a ∧ i.toNat ≠ b) ∧ a < gN n ∧ b < gN n ∧ a < 64 ∧ b < 64 := by
  have hl := (gus_len n hn).1
  have hr := gus_rng n
  have hnd := gus_nodup n
  have h9 := gN_le n
  generalize gus n = u at *
  match u, hl, hr, hnd with
  | a :: b :: r, _, hr, hnd =>
    have ha := hr a (by simp)
    have hb := hr b (by simp)
    obtain ⟨h1, h2⟩ := List.nodup_cons.1 hnd
    obtain ⟨h3, _⟩ := List.nodup_cons.1 h2
    refine ⟨a.toNat, b.toNat, r, by rw [Int.toNat_of_nonneg (by omega), Int.toNat_of_nonneg (by omega)], fun e => h1 (by rw [show a = b by omega]; simp), fun i hi => ?_, by omega, by omega, by omega, by omega⟩
    have := hr i (by simp [hi])
    exact ⟨fun e => h1 (by rw [show a = i by omega]; simp [hi]), fun e => h3 (by rw [show b = i by omega]; exact hi)⟩
set_option maxRecDepth 100000 in
theorem most_one (x : Fnd) : most [x] = x.s.sq := by simp [most]
end Drawbar.Scan
namespace Go.Proofs.YtmhmmemmdekjhaaDoor.Sc
open Go.RowKit
open Drawbar Drawbar.Sheet Drawbar.Nand Drawbar.Scan Drawbar.Gm Go.Proofs.YtmhmmemmdekjhaaDoor.Nd

section
variable {n a b : Nat} {r : List Int} {q : List Nat} {k : Nat}
def s1 (n a : Nat) (q : List Nat) : Arr := putA (S0 n) a q
def s2 (n a : Nat) (q : List Nat) (k : Nat) : Arr := putA (s1 n a q) a (page (x5 k))
def s3 (n a b : Nat) (q : List Nat) (k : Nat) : Arr := putA (s2 n a q k) b (page x9)
set_option maxRecDepth 100000 in
theorem f_one (hu : gus n = (a : Int) :: (b : Int) :: r) (hq : q.length = 96) : (S0 n).program a 0 q 0 = (0, s1 n a q) :=
  (good_S0 n).program (i := a) (by rw [hu]; simp) hq 0 (by rw [(S0_b n a).1, (S0_n n).2]; have := gP_le n; simp; omega) (S0_b n a).2 0 (by rw [(S0_b n a).1]; rfl)
set_option maxRecDepth 100000 in
theorem f_two (hu : gus n = (a : Int) :: (b : Int) :: r) : (s1 n a q).program a 1 (page (x5 k)) 0 = (0, s2 n a q k) :=
  ((good_S0 n).put a q).program (i := a) (by rw [hu]; simp) (page_length _ (by simp [x5])) 0 (by rw [(put_i _ _ _).1, (S0_b n a).1]; have := gP_le n; show 1 < gP n; omega) (by rw [(put_i _ _ _).2]; exact (S0_b n a).2) 1 (by rw [(put_i _ _ _).1, (S0_b n a).1]; rfl)
set_option maxRecDepth 100000 in
theorem f_three (hu : gus n = (a : Int) :: (b : Int) :: r) (hab : a ≠ b) : (s2 n a q k).program b 0 (page x9) 0 = (0, s3 n a b q k) := by
  have e1 : (s2 n a q k).b b = (S0 n).b b := (put_b _ _ _ _ hab.symm).trans (put_b _ _ _ _ hab.symm)
  exact (((good_S0 n).put a q).put a _).program (i := b) (by rw [hu]; simp) (page_length _ (by simp [x9])) 0 (by
    show ((s2 n a q k).b b).pages.length < gP n
    rw [e1, (S0_b n b).1]; have := gP_le n; simp; omega) (by
    show ((s2 n a q k).b b).torn = false
    rw [e1]; exact (S0_b n b).2) 0 (by
    show (0 : Int) = ((s2 n a q k).b b).pages.length
    rw [e1, (S0_b n b).1]; rfl)
set_option maxRecDepth 100000 in
theorem f_held (hu : gus n = (a : Int) :: (b : Int) :: r) (hab : a ≠ b) (hr : ∀ i ∈ r, i.toNat ≠ a ∧ i.toNat ≠ b) (hq : q.getD 95 0 ≠ 90) (hk : k ≤ 65535) (C : Nat) :
    heldI C (s3 n a b q k) (gus n) = if k ≤ C then [⟨a, 1, x5 k⟩] else [] := by
  have e1 : ∀ i, i ≠ b → (s3 n a b q k).b i = (s2 n a q k).b i := fun i hi => put_b _ _ _ _ hi
  have e2 : ∀ i, i ≠ a → (s2 n a q k).b i = (S0 n).b i := fun i hi => (put_b _ _ _ _ hi).trans (put_b _ _ _ _ hi)
  rw [held_two hu fun i hi => (blockF_other ((e1 _ (hr i hi).2).trans (e2 _ (hr i hi).1))).trans (blockF_fresh (S0_b n _).1)]
  rw [Int.toNat_natCast, Int.toNat_natCast]
  have hb : blockF C (s3 n a b q k) b = [] := by
    have h := blockF_put C (s2 n a q k) b (page x9) (by rw [e2 b hab.symm]; exact (S0_b n b).2)
    rw [blockF_other (e2 b hab.symm), blockF_fresh (S0_b n b).1, one_none C b _ x9 x9_fm (by simp [x9]) (.inl rfl), List.append_nil] at h
    exact h
  have ha : blockF C (s3 n a b q k) a = one C a 1 (page (x5 k)) := by
    have t1 : ((s1 n a q).b a).torn = false := (put_i (S0 n) a q).2.trans (S0_b n a).2
    have p1 : ((s1 n a q).b a).pages = [q] := (put_i (S0 n) a q).1.trans (by rw [(S0_b n a).1]; rfl)
    have h1 := blockF_put C (S0 n) a q (S0_b n a).2
    rw [blockF_fresh (S0_b n a).1, one_raw C a _ q hq] at h1
    rw [List.append_nil] at h1
    change blockF C (s1 n a q) a = [] at h1
    have h2 := blockF_put C (s1 n a q) a (page (x5 k)) t1
    rw [h1, p1, List.nil_append, List.length_singleton] at h2
    exact (blockF_other (e1 a hab)).trans h2
  rw [ha, hb, List.append_nil]
  split
  · exact one_page _ _ _ _ (x5_fm k hk) (by simp [x5]) (by simp [x5]) (by simp [x5]; omega)
  · exact one_none _ _ _ _ (x5_fm k hk) (by simp [x5]) (.inr (by simp [x5]; omega))
end
end Go.Proofs.YtmhmmemmdekjhaaDoor.Sc
namespace Go.Proofs.YtmhmmemmdekjhaaDoor.Sc
open Go.RowKit
open Drawbar Drawbar.Sheet Drawbar.Nand Drawbar.Scan Drawbar.Gm Go.Proofs.YtmhmmemmdekjhaaDoor.Nd

set_option maxRecDepth 100000 in
set_option maxHeartbeats 4000000 in
theorem foreign_any (n : Nat) (hn : n < 256) (l : List Nat) (a1 : Option Addr) (c1 : Nat) (k : Nat) (hk : k ≤ 65535) (w : World) (hr : Rd w a1 l) (hT : Tab w) :
    Calls Tryd.prog 8 #[.int .u8 n, .slice a1 l.length c1, .int .u16 k] w (Yes w) := by
  have hk0 : (0 : Int) ≤ k := by omega
  have hk1 : (k : Int) ≤ 65535 := by omega
  by_cases hlen : l.length ≤ 96
  · have hng : decide ((96 : Int) < (l.length : Int)) = false := decide_eq_false (by omega)
    have HAW := Lib.hid (awake_any w hT)
    have HT := Lib.hid hT
    have HRD := Lib.hid hr
    have HG := Lib.hid (fun W => (geometry_any n hn W : Calls Tryd.prog 10 #[.int .u8 n] W (Geos W n)))
    obtain ⟨i0, hi0, hz0, hz1, hz2⟩ := info_parts info_u8
    clear hT hr
    go_enter Tryd.func8, Tryd.ntmps8
    go_wp2_with fail
    (with_reducible refine HAW.out.mono ?_)
    rintro e w1 ⟨rfl, hb1⟩
    go_wp2_with fail
    (with_reducible refine (HG.out _).mono ?_)
    rintro e w2 ⟨ga, gc, rfl, hBd, hb2⟩
    obtain ⟨w3, hw3⟩ : ∃ w3, w3 = w2.alloc (Pn.boxed (gb n) (gp n) (gs n) ga (gB n).length gc) := ⟨_, rfl⟩
    have hb23 : Below w2.heap.size w2 w3 := by rw [hw3]; exact (Below.refl _ _).alloc (Nat.le_refl _) _
    have hb13 := (hb1.trans (hb2.mono hb1.size)).trans (hb23.mono (Nat.le_trans hb1.size hb2.size))
    have HN := Lib.hid (new_geo n w3 (HT.out.below hb13 HT.out.pos) ga gc (hBd.below hb23))
    have hgeo : w3.heap[w2.heap.size]? = some (Pn.boxed (gb n) (gp n) (gs n) ga (gB n).length gc) := by rw [hw3]; exact heap_alloc_new _ _
    have H3 := Lib.hid (And.intro (hBd.below hb23) (And.intro hb13 (And.intro hgeo (Array.getElem?_eq_some_iff.1 hgeo).1)))
    have HW3 := Lib.hid hw3
    rw [hw3] at HN
    unfold Pn.geo
    clear hb1 hb2 hb23 hb13 hBd hgeo hw3
    go_wp2_with fail
    (with_reducible refine HN.out.mono ?_)
    rintro e w4 ⟨g, rfl, hF4, hb4⟩
    rw [← HW3.out] at hF4 hb4
    obtain ⟨hBd3, hB3, hgeo3, hgl3⟩ := H3.out
    obtain ⟨⟨t0, t1, t2, t3⟩, -⟩ := four_cells ((hb4.block _ hgl3).trans hgeo3)
    have hU : Calls Tryd.prog 20 #[Pn.geo (gb n) (gp n) (gs n) ga (gB n).length gc] w4 (Pn.NewIntsF w4 (gus n)) := Pn.refusable_fr (gb n) (gp n) (gs n) (gB n) ga gc w4 ((hBd3.below hb4).rd) (Nat.le_trans (gB_len n) (by omega)) (by rw [gb_eq]; have := gN_le n; omega)
    unfold Pn.geo at hU
    have HU := Lib.hid hU
    have H4 := Lib.hid (And.intro hF4 hb4)
    clear hF4 hb4 hBd3 hB3 hgeo3 hgl3 hU
    go_wp2_with fail
    (with_reducible refine HU.out.mono ?_)
    rintro e w5 ⟨au, cu, rfl, hru5, hb5, hfr5⟩
    obtain ⟨ua, ub, ru, hus, hab, hrn, han, hbn, ha64, hb64⟩ := gus_two n hn
    rw [hus] at hru5
    obtain ⟨bu, ou, rfl, hcu⟩ := hru5 (by simp)
    have hcu0 := hcu 0 (by simp)
    have hcu1 := hcu 1 (by simp)
    simp only [List.getD_cons_zero, List.getD_cons_succ, Nat.add_zero] at hcu0 hcu1
    obtain ⟨hfa, hfb⟩ := hfr5 _ rfl
    dsimp only at hfa hfb
    have hlus : (gus n).length = ru.length + 2 := by rw [hus]; simp
    have H5 := Lib.hid (And.intro (H4.out.1.more hb5 bu hfa hfb) (And.intro hb5 (And.intro hcu0 (And.intro hcu1 (And.intro hfa (And.intro hus (And.intro hab hrn)))))))
    have HSZ5 := Lib.hid hfb
    rw [hlus]
    clear hru5 hb5 hfr5 hcu hcu0 hcu1 hfa hfb hus hlus hab hrn t0 t1 t2 t3
    go_wp2_with (at_make; refine wpList_make_full _ rfl _ _ 42 rfl w5.heap.size 5 i0 (.int .u8 0) 1 Tryd.underlying42 hi0 hz0 hz1 .i64 .i64 96 96 96 rfl rfl rfl rfl ?c1 ?c2 (Nat.le_refl _) ?_)
    case c1 => rw [hz2]; decide
    case c2 => decide
    intro w6 hown6 hgr6
    have hb6 : Below w5.heap.size w5 w6 := (Below.refl _ _).grown hgr6 (Nat.le_refl _) (fun k hk => by cases hk)
    have hfl : (l ++ List.replicate (96 - l.length) 0).length = 96 := by simp; omega
    have hflt : ∀ x ∈ l ++ List.replicate (96 - l.length) 0, x < 256 := fun x hx => by
      rcases List.mem_append.1 hx with h | h
      · exact HRD.out.1 x h
      · have := List.eq_of_mem_replicate h; omega
    have hget : ∀ j, j < l.length → (l ++ List.replicate (96 - l.length) 0).getD j 0 = l.getD j 0 := fun j hj => by
      rw [List.getD_eq_getElem?_getD, List.getD_eq_getElem?_getD, List.getElem?_append_left hj]
    have hfin : fill (l ++ List.replicate (96 - l.length) 0) l.length = (l ++ List.replicate (96 - l.length) 0).map bv := by
      unfold fill
      rw [List.take_left]
    rw [made_fill (l ++ List.replicate (96 - l.length) 0)] at hown6
    generalize l ++ List.replicate (96 - l.length) 0 = f at *
    obtain ⟨d, hd⟩ : ∃ d, d = w5.heap.size := ⟨_, rfl⟩
    rw [← hd] at hown6 hb6 ⊢
    have HF := Lib.hid (And.intro hfl (And.intro hflt (And.intro hget hfin)))
    have HD := Lib.hid hd
    have hd6 : d < w6.heap.size := (hown6.lt _ rfl).2
    clear hgr6 hfl hflt hget hfin hd
    go_wp2
    go_loopw [12] (fun iv wr => ∃ j : Nat, j ≤ l.length ∧ iv = .int .i64 j ∧ OwnsPage wr d d (fill f j) ∧ Below d w5 wr ∧ d < wr.heap.size) (fun iv _ => l.length - (intOf iv).toNat)
    case atStart => exact ⟨0, Nat.zero_le _, rfl, hown6, hb6, hd6⟩
    case round =>
      clear hown6 hb6 hd6
      obtain ⟨j, hj, rfl, hown, hb, hdl⟩ := hrel
      by_cases hjl : j < l.length
      · have hjl2 : (j : Int) < (l.length : Int) := by omega
        obtain ⟨bp, op, rfl, hcp⟩ := HRD.out.2.2 (by omega)
        have hb1w : Below w.heap.size w wr := H3.out.2.1.trans ((H4.out.2.mono H3.out.2.1.size).trans ((H5.out.2.1.mono (Nat.le_trans H3.out.2.1.size H4.out.2.size)).trans (hb.mono (by rw [HD.out]; exact Nat.le_trans (Nat.le_trans H3.out.2.1.size H4.out.2.size) H5.out.2.1.size))))
        have hp0 : wr.cell? ⟨bp, op + j, none⟩ = some (.int .u8 (l.getD j 0 : Nat)) := by rw [hb1w.cell (p := ⟨bp, op + j, none⟩) (World.block_lt_of_cell? w _ (hcp j hjl))]; exact hcp j hjl
        have hlt : j < 96 := by omega
        have hc := World.ownsRow.cellAt hown j (by omega)
        have hf := World.ownsRow.frozenAt hown j
        obtain ⟨u, hu⟩ : ∃ u, (fill f j)[j]? = some u := ⟨_, List.getElem?_eq_getElem (by rw [fill_length _ _ HF.out.1 (by omega)]; exact hlt)⟩
        rw [hu] at hc
        obtain ⟨hst, hgr⟩ := World.ownsRow.stored hown j (bv (f.getD j 0))
        rw [fill_set _ _ HF.out.1 hlt] at hst
        have hB2 := hb.setCell (p := ⟨d, j, none⟩) (Nat.le_refl d) (bv (f.getD j 0))
        unfold bv at hst hB2
        rw [HF.out.2.2.1 j hjl] at hst hB2
        obtain ⟨y, hy⟩ : ∃ y, l.getD j 0 = y := ⟨_, rfl⟩
        rw [hy] at hst hB2 hp0
        have HS := Lib.hid hst
        have HB := Lib.hid (And.intro hB2 (show d < (wr.setCell ⟨d, j, none⟩ (.int .u8 (y : Nat))).heap.size by simpa [World.setCell] using hdl))
        clear hst hB2 hgr hown hb hu hcp hb1w hdl hy
        go_wp2
        go_roundw
        case rel => exact ⟨j + 1, by omega, by go_num, HS.out, HB.out.1, HB.out.2⟩
        case measure => simp [intOf]; omega
      · have hjl2 : ¬ ((j : Int) < (l.length : Int)) := by omega
        obtain rfl : j = l.length := by omega
        rw [HF.out.2.2.2] at hown
        have hc := World.ownsRow.cellAt hown 95 (by omega)
        have hf := World.ownsRow.frozenAt hown 95
        obtain ⟨u, hu⟩ : ∃ u, (f.map bv)[95]? = some u := ⟨_, List.getElem?_eq_getElem (by rw [List.length_map, HF.out.1]; omega)⟩
        rw [hu] at hc
        obtain ⟨hst, hgr⟩ := World.ownsRow.stored hown 95 (bv 1)
        rw [← List.map_set] at hst
        have hB2 := hb.setCell (p := ⟨d, 95, none⟩) (Nat.le_refl d) (bv 1)
        have hql : (f.set 95 1).length = 96 := by rw [List.length_set]; exact HF.out.1
        have hqlt : ∀ x ∈ f.set 95 1, x < 256 := fun x hx => by
          rcases List.mem_or_eq_of_mem_set hx with h | h
          · exact HF.out.2.1 x h
          · omega
        have hq95 : (f.set 95 1).getD 95 0 ≠ 90 := by
          rw [List.getD_eq_getElem?_getD, List.getElem?_set_self (by rw [HF.out.1]; omega)]
          simp
        obtain ⟨d2, o2, cp2, he2, hcp2, -, hrd2⟩ := OwnsPage.page hst hqlt hql
        cases he2
        generalize f.set 95 1 = q at *
        rw [HD.out] at hB2 hrd2 hc hf ⊢
        have hF8 := H5.out.1.keep hB2
        have hl8 : w.heap.size ≤ w5.heap.size := Nat.le_trans (Nat.le_trans H3.out.2.1.size H4.out.2.size) H5.out.2.1.size
        have hb38 : Below w3.heap.size w3 (wr.setCell ⟨w5.heap.size, 95, none⟩ (bv 1)) := H4.out.2.trans ((H5.out.2.1.mono H4.out.2.size).trans (hB2.mono (Nat.le_trans H4.out.2.size H5.out.2.1.size)))
        have hcell := fun o v (hv : w5.cell? ⟨bu, o, none⟩ = some v) => (hB2.cell (p := ⟨bu, o, none⟩) (World.block_lt_of_cell? w5 _ hv)).trans hv
        have x0 := hcell _ _ H5.out.2.2.1
        have hP := program_f hF8 ua 0 q (some ⟨w5.heap.size, 0, none⟩) 96 0 hrd2 96 hql
        rw [f_one H5.out.2.2.2.2.2.1 hql] at hP
        have HP := Lib.hid (show Calls Tryd.prog 22 #[.pointer (some ⟨g, 0, none⟩), .int .i64 ua, .int .i64 0, .slice (some ⟨w5.heap.size, 0, none⟩) 96 96, .int .u64 0] (wr.setCell ⟨w5.heap.size, 95, none⟩ (bv 1)) (fun e w' => e = .returned (.int .i64 0) ∧ Did2 w3.heap.size [bu] (wr.setCell ⟨w5.heap.size, 95, none⟩ (bv 1)) g (Sc.s1 n ua q) w') from hP)
        have H8 := Lib.hid (And.intro hb38 (And.intro (hcell _ _ H5.out.2.2.2.1) hq95))
        have HX0 := Lib.hid x0
        have HQ := Lib.hid hql
        rw [show bv 1 = .int .u8 1 from rfl] at HP H8 HX0 x0
        clear hP hF8 hst hgr hB2 hown hb hu hcell hrd2 hqlt hql hq95 hcp2 hb38 hdl hl8
        go_wp2_with fail
        (with_reducible refine HP.out.mono ?_)
        rintro e w9 ⟨rfl, hD9⟩
        obtain ⟨hb38, hcb, hq95⟩ := H8.out
        have hk9 := hD9.keep bu (by simp)
        have u0 : w9.cell? ⟨bu, ou, none⟩ = some (.int .i64 ua) := (World.cell?_of_block (a := ⟨bu, ou, none⟩) hk9).trans HX0.out
        have u1 : w9.cell? ⟨bu, ou + 1, none⟩ = some (.int .i64 ub) := (World.cell?_of_block (a := ⟨bu, ou + 1, none⟩) hk9).trans hcb
        have hb39 : Below w3.heap.size w3 w9 := hb38.trans hD9.below
        have HL9 := Lib.hid (fun W (hb : Below w9.heap.size w9 W) => (show Calls Tryd.prog 23 #[.agg #[.int .u8 1, .int .u64 0, .int .u64 5, .int .i64 k, .int .i64 (-1), .slice none 0 0]] W (Gives W (page (x5 k)) 96) from lay_gives (x5 k) none 0 W (x5_fm k hk) (rd_nil _) (Nat.le_refl _) (fun _ => rfl) ((hD9.free.keep hb).tab)))
        have HP9 := Lib.hid (fun W (hb : Below w9.heap.size w9 W) a c (hrd : Rd W a (page (x5 k))) => (show Calls Tryd.prog 22 #[.pointer (some ⟨g, 0, none⟩), .int .i64 ua, .int .i64 1, .slice a 96 c, .int .u64 0] W (fun e w' => e = .returned (.int .i64 0) ∧ Did2 w3.heap.size [bu] W g (Sc.s2 n ua q k) w') from (by
          have h := program_f (hD9.free.keep hb) ua 1 (page (x5 k)) a c 0 hrd 96 (page_length _ (by simp [x5]))
          rw [f_two H5.out.2.2.2.2.2.1] at h
          exact h)))
        have HSS := Lib.hid (fun W (hb : Below w9.heap.size w9 W) => (hb.cell (p := ⟨bu, ou, none⟩) (World.block_lt_of_cell? w9 _ u0)).trans u0)
        have HS1 := Lib.hid (fun W (hb : Below w9.heap.size w9 W) => (hb.cell (p := ⟨bu, ou + 1, none⟩) (World.block_lt_of_cell? w9 _ u1)).trans u1)
        have H9 := Lib.hid (And.intro hb39 hq95)
        have hb0 : Below w9.heap.size w9 w9.drew := (Below.refl _ _).drew
        have hq0 := HSS.out _ hb0
        clear hb38 hcb hq95 hk9 u0 u1 hb39 hD9 x0 hc hf
        go_wp2_with fail
        go_region_held (fun W => W.cell? ⟨bu, ou, none⟩ = some (.int .i64 ua)) (first | exact hq0 | exact hq9 | exact hq10) (first
          | (go_at_call 23; ((with_reducible refine (HL9.out _ (by assumption)).mono ?_); rintro e w10 ⟨a10, c10, rfl, hc10, hr10, hb10, -⟩; have hb910 := hb0.trans (hb10.mono hb0.size); have hq9 := HSS.out _ hb910))
          | (go_at_call 22; ((with_reducible refine (HP9.out _ (by assumption) _ _ (by assumption)).mono ?_); rintro e w11 ⟨rfl, hD11⟩; have hq10 := (World.cell?_of_block (a := ⟨bu, ou, none⟩) (hD11.keep bu (by simp))).trans hq9)))
        all_goals
          have u1 : w11.cell? ⟨bu, ou + 1, none⟩ = some (.int .i64 ub) := (World.cell?_of_block (a := ⟨bu, ou + 1, none⟩) (hD11.keep bu (by simp))).trans (HS1.out _ hb910)
          have hb311 : Below w3.heap.size w3 w11 := H9.out.1.trans ((hb910.mono H9.out.1.size).trans hD11.below)
          have HL11 := Lib.hid (fun W (hb : Below w11.heap.size w11 W) => (show Calls Tryd.prog 23 #[.agg #[.int .u8 3, .int .u64 9, .int .u64 9, .int .i64 0, .int .i64 (-1), .slice none 0 0]] W (Gives W (page x9) 96) from lay_gives x9 none 0 W x9_fm (rd_nil _) (Nat.le_refl _) (fun _ => rfl) ((hD11.free.keep hb).tab)))
          have HP11 := Lib.hid (fun W (hb : Below w11.heap.size w11 W) a c (hrd : Rd W a (page x9)) => (show Calls Tryd.prog 22 #[.pointer (some ⟨g, 0, none⟩), .int .i64 ub, .int .i64 0, .slice a 96 c, .int .u64 0] W (fun e w' => e = .returned (.int .i64 0) ∧ Did2 w3.heap.size [bu] W g (Sc.s3 n ua ub q k) w') from (by
            have h := program_f (hD11.free.keep hb) ub 0 (page x9) a c 0 hrd 96 (page_length _ (by simp [x9]))
            rw [f_three H5.out.2.2.2.2.2.1 H5.out.2.2.2.2.2.2.1] at h
            exact h)))
          have HS3 := Lib.hid (fun W (hb : Below w11.heap.size w11 W) => (hb.cell (p := ⟨bu, ou + 1, none⟩) (World.block_lt_of_cell? w11 _ u1)).trans u1)
          have H11 := Lib.hid hb311
          have hb1d : Below w11.heap.size w11 w11.drew := (Below.refl _ _).drew
          have hqa := HS3.out _ hb1d
          clear u1 hb311 hD11 hq0 hq9 hq10 hb910 hb0 hr10 hc10 hb10
          go_wp2_with fail
          go_region_held (fun W => W.cell? ⟨bu, ou + 1, none⟩ = some (.int .i64 ub)) (first | exact hqa | exact hqb | exact hqc) (first
            | (go_at_call 23; ((with_reducible refine (HL11.out _ (by assumption)).mono ?_); rintro e w12 ⟨a12, c12, rfl, hc12, hr12, hb12, -⟩; have hb1112 := hb1d.trans (hb12.mono hb1d.size); have hqb := HS3.out _ hb1112))
            | (go_at_call 22; ((with_reducible refine (HP11.out _ (by assumption) _ _ (by assumption)).mono ?_); rintro e w13 ⟨rfl, hD13⟩; have hqc := (World.cell?_of_block (a := ⟨bu, ou + 1, none⟩) (hD13.keep bu (by simp))).trans hqb)))
          all_goals
            have hb313 : Below w3.heap.size w3 w13 := H11.out.trans ((hb1112.mono H11.out.size).trans hD13.below)
            obtain ⟨hBd3, hB3, hgeo3, hgl3⟩ := H3.out
            obtain ⟨⟨t0, t1, t2, t3⟩, -⟩ := four_cells ((hb313.block _ hgl3).trans hgeo3)
            obtain ⟨F, hA, -, -⟩ := hD13.free.arr
            have hgm := geom_of hn (s := Sc.s3 n ua ub q k) (hBd3.below hb313) rfl rfl
            have hheld := f_held (q := q) H5.out.2.2.2.2.2.1 H5.out.2.2.2.2.2.2.1 H5.out.2.2.2.2.2.2.2 H9.out.2 hk (gCn n)
            have hAll := all_on (c := gc) hA hgm rfl hD13.free.tab (by
              show (heldI (gCn n) (Sc.s3 n ua ub q k) (gus n)).length ≤ _
              rw [hheld]; split <;> simp)
            rw [show usb (gb n) (gB n) = gus n from rfl, hheld] at hAll
            have hsm := hgm.small
            have hb64' : gb n ≤ 64 := by rw [gb_eq]; have := gN_le n; omega
            by_cases hkC : k ≤ gCn n
            · have hd : decide (k ≤ gCn n) = true := decide_eq_true hkC
              rw [if_pos hkC] at hAll
              unfold AllOk Pn.geo at hAll
              rw [takeS_none (spoilt_plain (by simp [x5])), most_one, show (x5 k).sq = 5 from rfl] at hAll
              simp only [List.length_nil] at hAll
              have HA := Lib.hid hAll
              have H13 := Lib.hid (And.intro hb313 (And.intro hBd3 (And.intro hgeo3 hgl3)))
              clear hAll hgm hA hheld hD13 hqa hqb hqc hb1d hb1112 hr12 hc12 hb12 hb313 hBd3 hB3 hgeo3 hgl3 hkC
              go_wp2_with fail
              (with_reducible refine HA.out.mono ?_)
              rintro e w14 ⟨g0, pb0, cb0, pb, N, sa, sc, rfl, hM, hPa, -, hb14⟩
              obtain ⟨w15, hw15⟩ : ∃ w15, w15 = w14.alloc (.cells #[.pointer (some ⟨g0, 0, none⟩), .map (some pb), .int .u64 5, .slice sa 0 sc] 54) := ⟨_, rfl⟩
              have hbs : Below w14.heap.size w14 w15 := by rw [hw15]; exact (Below.refl _ _).alloc (Nat.le_refl _) _
              have hb1315 : Below w13.heap.size w13 w15 := hb14.trans (hbs.mono hb14.size)
              obtain ⟨hb313, hBd3, hgeo3, hgl3⟩ := H13.out
              have hb315 := hb313.trans (hb1315.mono hb313.size)
              obtain ⟨⟨t0, t1, t2, t3⟩, -⟩ := four_cells ((hb315.block _ hgl3).trans hgeo3)
              have hcp := Pn.refcap_any (gb n) (gp n) (gs n) (gB n) ga gc w15 ((hBd3.below hb315).rd) (Nat.le_trans (gB_len n) (by omega)) hsm hb64'
              rw [show Plan.cap (gb n) (gp n) (gs n) (gB n) = gCn n from (gC_eq n hn).1] at hcp
              unfold Pn.geo at hcp
              have HCP := Lib.hid hcp
              have hP15 := hPa.below hbs
              have HK := Lib.hid (fun W (hb : Below w15.heap.size w15 W) => (keys_of (hP15.below hb) [(k : Int)] (by simp) (fun a => by rw [best_one]; show a ∈ [(k : Int)] ↔ (if ((k : Nat) : Int) = a then _ else none : Option Fnd).isSome = true; by_cases e : ((k : Nat) : Int) = a; rw [if_pos e]; simp [e]; rw [if_neg e]; simp; exact fun h => e h.symm) 3 : (Builtin.len_ #[52] 3 #[.map (some pb)]).run Tryd.prog W = .ok (.int .i64 1) W))
              have hgs : w15.heap[w14.heap.size]? = some (.cells #[.pointer (some ⟨g0, 0, none⟩), .map (some pb), .int .u64 5, .slice sa 0 sc] 54 (0, 0)) := by rw [hw15]; exact heap_alloc_new _ _
              have HGS := Lib.hid hgs
              have HBF := Lib.hid (And.intro (H3.out.2.1.trans (hb315.mono H3.out.2.1.size)) (Array.getElem?_eq_some_iff.1 hgs).1)
              rw [hw15] at HCP t0 t1 t2 t3
              have HW15 := Lib.hid hw15
              clear hM hPa hb14 hbs hb1315 hb313 hBd3 hgeo3 hgl3 hb315 hcp hP15 hgs hw15
              go_wp2_with fail
              (with_reducible refine HCP.out.mono ?_)
              rintro e w16 ⟨rfl, hb16⟩
              rw [← HW15.out] at hb16
              obtain ⟨⟨y0, y1, y2, y3⟩, -⟩ := four_cells ((hb16.block _ HBF.out.2).trans HGS.out)
              have hln := HK.out _ hb16
              have HFIN := Lib.hid (HBF.out.1.trans (hb16.mono HBF.out.1.size))
              clear hb16 t0 t1 t2 t3
              go_wp2
              go_ret
              exact ⟨rfl, HFIN.out⟩
            · have hd : decide (k ≤ gCn n) = false := decide_eq_false hkC
              rw [if_neg hkC] at hAll
              unfold AllOk Pn.geo at hAll
              rw [takeS_none (spoilt_plain (by simp)), show most [] = 0 from rfl] at hAll
              simp only [List.length_nil] at hAll
              have HA := Lib.hid hAll
              have H13 := Lib.hid (And.intro hb313 (And.intro hBd3 (And.intro hgeo3 hgl3)))
              clear hAll hgm hA hheld hD13 hqa hqb hqc hb1d hb1112 hr12 hc12 hb12 hb313 hBd3 hB3 hgeo3 hgl3 hkC
              go_wp2_with fail
              (with_reducible refine HA.out.mono ?_)
              rintro e w14 ⟨g0, pb0, cb0, pb, N, sa, sc, rfl, hM, hPa, -, hb14⟩
              obtain ⟨w15, hw15⟩ : ∃ w15, w15 = w14.alloc (.cells #[.pointer (some ⟨g0, 0, none⟩), .map (some pb), .int .u64 0, .slice sa 0 sc] 54) := ⟨_, rfl⟩
              have hbs : Below w14.heap.size w14 w15 := by rw [hw15]; exact (Below.refl _ _).alloc (Nat.le_refl _) _
              have hb1315 : Below w13.heap.size w13 w15 := hb14.trans (hbs.mono hb14.size)
              obtain ⟨hb313, hBd3, hgeo3, hgl3⟩ := H13.out
              have hb315 := hb313.trans (hb1315.mono hb313.size)
              obtain ⟨⟨t0, t1, t2, t3⟩, -⟩ := four_cells ((hb315.block _ hgl3).trans hgeo3)
              have hcp := Pn.refcap_any (gb n) (gp n) (gs n) (gB n) ga gc w15 ((hBd3.below hb315).rd) (Nat.le_trans (gB_len n) (by omega)) hsm hb64'
              rw [show Plan.cap (gb n) (gp n) (gs n) (gB n) = gCn n from (gC_eq n hn).1] at hcp
              unfold Pn.geo at hcp
              have HCP := Lib.hid hcp
              have hP15 := hPa.below hbs
              have HK := Lib.hid (fun W (hb : Below w15.heap.size w15 W) => (keys_of (hP15.below hb) [] (by simp) (fun a => by simp [best]) 3 : (Builtin.len_ #[52] 3 #[.map (some pb)]).run Tryd.prog W = .ok (.int .i64 0) W))
              have hgs : w15.heap[w14.heap.size]? = some (.cells #[.pointer (some ⟨g0, 0, none⟩), .map (some pb), .int .u64 0, .slice sa 0 sc] 54 (0, 0)) := by rw [hw15]; exact heap_alloc_new _ _
              have HGS := Lib.hid hgs
              have HBF := Lib.hid (And.intro (H3.out.2.1.trans (hb315.mono H3.out.2.1.size)) (Array.getElem?_eq_some_iff.1 hgs).1)
              rw [hw15] at HCP t0 t1 t2 t3
              have HW15 := Lib.hid hw15
              clear hM hPa hb14 hbs hb1315 hb313 hBd3 hgeo3 hgl3 hb315 hcp hP15 hgs hw15
              go_wp2_with fail
              (with_reducible refine HCP.out.mono ?_)
              rintro e w16 ⟨rfl, hb16⟩
              rw [← HW15.out] at hb16
              obtain ⟨⟨y0, y1, y2, y3⟩, -⟩ := four_cells ((hb16.block _ HBF.out.2).trans HGS.out)
              have hln := HK.out _ hb16
              have HFIN := Lib.hid (HBF.out.1.trans (hb16.mono HBF.out.1.size))
              clear hb16 t0 t1 t2 t3
              go_wp2
              go_ret
              exact ⟨rfl, HFIN.out⟩
  · have hng : decide ((96 : Int) < (l.length : Int)) = true := decide_eq_true (by omega)
    have HAW := Lib.hid (awake_any w hT)
    have HT := Lib.hid hT
    clear hT hr
    go_enter Tryd.func8, Tryd.ntmps8
    go_wp2_with fail
    (with_reducible refine HAW.out.mono ?_)
    rintro e w1 ⟨rfl, hb1⟩
    have HA2 := Lib.hid (awake_any w1 (HT.out.below hb1 HT.out.pos))
    have HB1 := Lib.hid hb1
    clear hb1
    go_wp2_with fail
    (with_reducible refine HA2.out.mono ?_)
    rintro e w2 ⟨rfl, hb2⟩
    have HB2 := Lib.hid (HB1.out.trans (hb2.mono HB1.out.size))
    clear hb2
    go_wp2
    go_ret
    exact ⟨rfl, HB2.out⟩
end Go.Proofs.YtmhmmemmdekjhaaDoor.Sc
