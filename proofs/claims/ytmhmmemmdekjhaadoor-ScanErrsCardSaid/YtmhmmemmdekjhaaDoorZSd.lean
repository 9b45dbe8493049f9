/- The contract of scan's All. The contract of scan's All of an array whose power is off. The contract of scan's All of an array whose power is on. -/
import Derived.Test.YtmhmmemmdekjhaaDoorZSc
import Derived.Test.YtmhmmemmdekjhaaDoorZSb
import Derived.Test.YtmhmmemmdekjhaaDoorZPf
namespace Go.Proofs.YtmhmmemmdekjhaaDoor.Sc
open Go.RowKit
open Drawbar Drawbar.Sheet Drawbar.Nand Drawbar.Scan Drawbar.Gm Go.Proofs.YtmhmmemmdekjhaaDoor.Nd

abbrev sob (v0 v1 v2 v3 : Value) : Obj := .cells #[v0, v1, v2, v3] 54
abbrev zst : Obj := sob (.pointer none) (.map none) (.int .u64 0) (.slice none 0 0)
set_option maxRecDepth 100000 in
theorem info_state : (Tryd.prog.info? 54).map (·.size) = some 4 := by kernel_rfl
set_option maxRecDepth 100000 in
theorem four_cells {w : World} {g : Nat} {u0 u1 u2 u3 : Value} {t : TypeId} (h : w.heap[g]? = some (.cells #[u0, u1, u2, u3] t (0, 0))) :
    (w.cell? ⟨g, 0, none⟩ = some u0 ∧ w.cell? ⟨g, 1, none⟩ = some u1 ∧ w.cell? ⟨g, 2, none⟩ = some u2 ∧ w.cell? ⟨g, 3, none⟩ = some u3) ∧
    (w.frozen? ⟨g, 0, none⟩ = false ∧ w.frozen? ⟨g, 1, none⟩ = false ∧ w.frozen? ⟨g, 2, none⟩ = false ∧ w.frozen? ⟨g, 3, none⟩ = false) := by
  simp [World.cell?, World.frozen?, h]
set_option maxRecDepth 100000 in
theorem four_set {w : World} {g : Nat} {u0 u1 u2 u3 v0 v1 v2 v3 : Value} {t : TypeId} (h : w.heap[g]? = some (.cells #[u0, u1, u2, u3] t (0, 0))) :
    ((((w.setCell ⟨g, 0, none⟩ v0).setCell ⟨g, 1, none⟩ v1).setCell ⟨g, 2, none⟩ v2).setCell ⟨g, 3, none⟩ v3).heap[g]? = some (.cells #[v0, v1, v2, v3] t (0, 0)) := by
  have h4 := set_one (set_one (set_one (set_one h 0 v0) 1 v1) 2 v2) 3 v3
  simpa using h4
set_option maxRecDepth 100000 in
theorem one_below {B : Nat} (w : World) (g o : Nat) (v : Value) (hg : B ≤ g) : Below B w (w.setCell ⟨g, o, none⟩ v) := ⟨rfl, rfl, rfl, by simp [World.setCell], fun k hk => Below.heap_setCell _ _ _ _ (fun e => by simp at e; omega)⟩
set_option maxRecDepth 100000 in
theorem four_below {w : World} {B g : Nat} {v0 v1 v2 v3 : Value} (hg : B ≤ g) : Below B w ((((w.setCell ⟨g, 0, none⟩ v0).setCell ⟨g, 1, none⟩ v1).setCell ⟨g, 2, none⟩ v2).setCell ⟨g, 3, none⟩ v3) :=
  (((one_below _ _ _ _ hg).trans (one_below _ _ _ _ hg)).trans (one_below _ _ _ _ hg)).trans (one_below _ _ _ _ hg)
set_option maxRecDepth 100000 in
theorem one_grown (w : World) (g o : Nat) (v : Value) : w.grownBy (w.setCell ⟨g, o, none⟩ v) (some g) := ⟨rfl, rfl, rfl, by simp [World.setCell], fun k _ hne => Below.heap_setCell _ _ _ _ (fun e => hne (by rw [e]))⟩
set_option maxRecDepth 100000 in
theorem four_grown {w : World} {g : Nat} {v0 v1 v2 v3 : Value} : w.grownBy ((((w.setCell ⟨g, 0, none⟩ v0).setCell ⟨g, 1, none⟩ v1).setCell ⟨g, 2, none⟩ v2).setCell ⟨g, 3, none⟩ v3) (some g) :=
  grownBy_trans (grownBy_trans (grownBy_trans (one_grown _ _ _ _) (one_grown _ _ _ _)) (one_grown _ _ _ _)) (one_grown _ _ _ _)

/-- What All answers where it answers an error. -/
def AllNo (w : World) (z : Int) (e : Ending) (w' : World) : Prop :=
  e = .returned (.tuple #[.agg #[.pointer none, .map none, .int .u64 0, .slice none 0 0], .int .i64 z]) ∧ Below w.heap.size w w'
set_option maxRecDepth 100000 in
set_option maxHeartbeats 2000000 in
theorem all_early {w : World} {gp : Option Addr} {b p s : Int} {a : Option Addr} {n c : Nat} (z : Int) (hz : z = 5 ∨ z = 1)
    (hF : Calls Tryd.prog 35 #[.pointer gp, Pn.geo b p s a n c] ((w.alloc (Pn.boxed b p s a n c)).alloc zst) fun e w' => e = .returned (.int .i64 z) ∧ Below ((w.alloc (Pn.boxed b p s a n c)).alloc zst).heap.size ((w.alloc (Pn.boxed b p s a n c)).alloc zst) w') :
    Calls Tryd.prog 15 #[.pointer gp, Pn.geo b p s a n c] w (AllNo w z) := by
  have hbx : Below w.heap.size w ((w.alloc (Pn.boxed b p s a n c)).alloc zst) := ((Below.refl _ _).alloc (Nat.le_refl _) _).alloc (by simp) _
  have hsz : ((w.alloc (Pn.boxed b p s a n c)).alloc zst).heap.size = w.heap.size + 2 := by simp
  have hblk : ((w.alloc (Pn.boxed b p s a n c)).alloc zst).heap[w.heap.size + 1]? = some zst := by
    have := heap_alloc_new (w.alloc (Pn.boxed b p s a n c)) zst
    simpa using this
  have hq : (z != 0) = true := by rcases hz with rfl | rfl <;> rfl
  unfold Pn.geo at hF ⊢
  have HF := Lib.hid hF
  have HB := Lib.hid (And.intro hbx (And.intro hsz hblk))
  clear hF hbx hblk hz hsz
  go_enter Tryd.func15, Tryd.ntmps15
  go_wp2_with fail
  (with_reducible refine HF.out.mono ?_)
  rintro e w2 ⟨rfl, hb2⟩
  obtain ⟨hbx, hsz, hblk⟩ := HB.out
  have hblk2 := (hb2.block (w.heap.size + 1) (by omega)).trans hblk
  obtain ⟨⟨t0, t1, t2, t3⟩, ⟨z0, z1, z2, z3⟩⟩ := four_cells hblk2
  have hblkz := four_set (v0 := .pointer none) (v1 := .map none) (v2 := .int .u64 0) (v3 := .slice none 0 0) hblk2
  have hbz := (hbx.trans (hb2.mono (by omega))).trans (four_below (v0 := .pointer none) (v1 := .map none) (v2 := .int .u64 0) (v3 := .slice none 0 0) (Nat.le_succ w.heap.size))
  have HF := Lib.hid (And.intro hblkz hbz)
  clear hblkz hbz hb2 hblk hblk2 hbx hsz
  go_wp2
  obtain ⟨hblkz, hbz⟩ := HF.out
  generalize ((((w2.setCell ⟨w.heap.size + 1, 0, none⟩ (.pointer none)).setCell ⟨w.heap.size + 1, 1, none⟩ (.map none)).setCell ⟨w.heap.size + 1, 2, none⟩ (.int .u64 0)).setCell ⟨w.heap.size + 1, 3, none⟩ (.slice none 0 0)) = wz at *
  clear t0 t1 t2 t3 z0 z1 z2 z3
  refine bodyPost_ret (results_cell_tmp_row rfl _ _ (w.heap.size + 1) 54 _ (0, 0) _ rfl hblkz Tryd.underlying54 rfl info_state) rfl ?_
  exact ⟨rfl, hbz⟩
end Go.Proofs.YtmhmmemmdekjhaaDoor.Sc
namespace Go.Proofs.YtmhmmemmdekjhaaDoor.Sc
open Go.RowKit
open Drawbar Drawbar.Sheet Drawbar.Nand Drawbar.Scan Drawbar.Gm Go.Proofs.YtmhmmemmdekjhaaDoor.Nd

set_option maxRecDepth 100000 in
set_option maxHeartbeats 2000000 in
theorem readAll_off {w : World} {F : Nat → Prop} {g : Nat} {s : Arr} (h : ArrAt w F g s) (us : List Int) (a : Option Addr) (c : Nat) (hus : Blocks s.n us) (hru : Pn.RdI w a us) (m : Int) (hoff : s.off = true) (hne : 0 < us.length) :
    Calls Tryd.prog 41 #[.pointer (some ⟨g, 0, none⟩), .slice a us.length c, .int .i64 m] w fun e w' => e = .returned (.tuple #[.map none, .int .i64 9]) ∧ Below w.heap.size w w' := by
  have hb0 : Below w.heap.size w (w.alloc (.map #[] 0)) := (Below.refl _ _).alloc (Nat.le_refl _) _
  obtain ⟨b, off, rfl, hcu⟩ := (hru.below hb0) hne
  have hc := hcu 0 hne
  have hmem : us[0] ∈ us := List.getElem_mem hne
  have hrg := hus.rng _ hmem
  have hgd : us.getD 0 0 = us[0] := by simp [List.getD_eq_getElem?_getD, hne]
  obtain ⟨i, hi⟩ : ∃ i : Nat, us[0] = i := ⟨us[0].toNat, by omega⟩
  rw [hgd, hi] at hc
  rw [Nat.add_zero] at hc
  have HR := Lib.hid (read_off (h.keep hb0) i (by omega) m hoff)
  have HB := Lib.hid hb0
  have hmk := make_hold w
  have hlt2 : (0 : Int) < (us.length : Int) := by omega
  clear hcu hmem hrg hgd hi hus hru h hoff hb0
  go_enter Tryd.func41, Tryd.ntmps41
  go_wp2
  go_loopw [16] (fun iv wr => iv = .int .i64 0 ∧ w.alloc (.map #[] 0) = wr) (fun _ _ => 1)
  case atStart => exact ⟨rfl, rfl⟩
  case round =>
    obtain ⟨rfl, rfl⟩ := hrel
    go_wp2_with fail
    (with_reducible refine HR.out.mono ?_)
    rintro e w2 ⟨a2, c2, rfl, hfd, -, hb2⟩
    have HB2 := Lib.hid (HB.out.trans (hb2.mono HB.out.size))
    clear hb2 hfd
    go_wp2
    go_ret2
    exact ⟨rfl, HB2.out⟩

set_option maxRecDepth 100000 in
set_option maxHeartbeats 2000000 in
theorem all_off {w : World} {F : Nat → Prop} {g : Nat} {ar : Arr} (hA : ArrAt w F g ar) {b p s : Int} {B : List Int} {a : Option Addr} {C c : Nat} (h : Geom w ar b p s B a C) (hoff : ar.off = true) (hne : 0 < (usb b B).length) :
    Calls Tryd.prog 15 #[.pointer (some ⟨g, 0, none⟩), Pn.geo b p s a B.length c] w (AllNo w 9) := by
  have hbx : Below w.heap.size w ((w.alloc (Pn.boxed b p s a B.length c)).alloc zst) := ((Below.refl _ _).alloc (Nat.le_refl _) _).alloc (by simp) _
  have hsz0 : ((w.alloc (Pn.boxed b p s a B.length c)).alloc zst).heap.size = w.heap.size + 2 := by simp
  have hblk : ((w.alloc (Pn.boxed b p s a B.length c)).alloc zst).heap[w.heap.size + 1]? = some zst := by
    have := heap_alloc_new (w.alloc (Pn.boxed b p s a B.length c)) zst
    simpa using this
  have hcells := fun W hb => Pn.boxed_cells w b p s a B.length c W (((Below.refl _ _).alloc (Nat.le_refl _) zst).trans hb)
  have HF := Lib.hid (Geom.fits (c := c) (hA.keep hbx) (h.below hbx))
  have HC := Lib.hid (fun W (hb : Below ((w.alloc (Pn.boxed b p s a B.length c)).alloc zst).heap.size ((w.alloc (Pn.boxed b p s a B.length c)).alloc zst) W) => hcells W (hb.mono (by simp)))
  have HBW := Lib.hid (fun W (hb : Below ((w.alloc (Pn.boxed b p s a B.length c)).alloc zst).heap.size ((w.alloc (Pn.boxed b p s a B.length c)).alloc zst) W) => hbx.trans (hb.mono (by rw [hsz0]; omega)))
  have HBK := Lib.hid (fun W (hb : Below ((w.alloc (Pn.boxed b p s a B.length c)).alloc zst).heap.size ((w.alloc (Pn.boxed b p s a B.length c)).alloc zst) W) => (hb.block (w.heap.size + 1) (by rw [hsz0]; omega)).trans hblk)
  have HU := Lib.hid (fun W (hb : Below w.heap.size w W) => usable_at (h.below hb) c)
  have HM := Lib.hid (fun W (hb : Below w.heap.size w W) => meta_at (h.below hb) c)
  have HR := Lib.hid (fun W (hb : Below w.heap.size w W) a2 c2 (hr : Pn.RdI W a2 (usb b B)) => readAll_off (hA.keep hb) (usb b B) a2 c2 h.blocks hr C hoff hne)
  obtain ⟨x0, x1, x2, x3⟩ := hcells _ (by simpa using (Below.refl (w.heap.size + 1) ((w.alloc (Pn.boxed b p s a B.length c)).alloc zst)))
  unfold Pn.geo at HF HU HM ⊢
  clear hbx hcells hsz0 h hA hoff hblk hne
  generalize usb b B = us at *
  go_enter Tryd.func15, Tryd.ntmps15
  go_wp2_with fail
  (with_reducible refine HF.out.mono ?_)
  rintro e w2 ⟨rfl, hb2⟩
  obtain ⟨y0, y1, y2, y3⟩ := HC.out _ hb2
  have HB2 := Lib.hid hb2
  clear hb2 x0 x1 x2 x3
  go_wp2_with fail
  (with_reducible refine (HU.out _ (HBW.out _ HB2.out)).mono ?_)
  rintro e w3 ⟨a3, c3, rfl, hr3, hb3⟩
  have hb23 := HB2.out.trans (hb3.mono HB2.out.size)
  obtain ⟨z0, z1, z2, z3⟩ := HC.out _ hb23
  have HB3 := Lib.hid hb23
  have HR3 := Lib.hid hr3
  clear hb3 hr3 hb23 y0 y1 y2 y3
  go_wp2_with fail
  (with_reducible refine (HM.out _ (HBW.out _ HB3.out)).mono ?_)
  rintro e w4 ⟨rfl, hb4⟩
  have HB4 := Lib.hid (HB3.out.trans (hb4.mono HB3.out.size))
  have HRR := Lib.hid (HR.out w4 (HBW.out _ HB4.out) a3 c3 (HR3.out.below hb4))
  clear hb4 z0 z1 z2 z3
  go_wp2_with fail
  (with_reducible refine HRR.out.mono ?_)
  rintro e w5 ⟨rfl, hb5⟩
  have hb45 := HB4.out.trans (hb5.mono HB4.out.size)
  have hblk5 := HBK.out _ hb45
  obtain ⟨⟨t0, t1, t2, t3⟩, ⟨z0, z1, z2, z3⟩⟩ := four_cells hblk5
  have hblkz := four_set (v0 := .pointer none) (v1 := .map none) (v2 := .int .u64 0) (v3 := .slice none 0 0) hblk5
  have hbz := (HBW.out _ hb45).trans (four_below (v0 := .pointer none) (v1 := .map none) (v2 := .int .u64 0) (v3 := .slice none 0 0) (Nat.le_succ w.heap.size))
  have HFF := Lib.hid (And.intro hblkz hbz)
  clear hblkz hbz hb5 hblk5 hb45
  go_wp2
  obtain ⟨hblkz, hbz⟩ := HFF.out
  generalize ((((w5.setCell ⟨w.heap.size + 1, 0, none⟩ (.pointer none)).setCell ⟨w.heap.size + 1, 1, none⟩ (.map none)).setCell ⟨w.heap.size + 1, 2, none⟩ (.int .u64 0)).setCell ⟨w.heap.size + 1, 3, none⟩ (.slice none 0 0)) = wz at *
  clear t0 t1 t2 t3 z0 z1 z2 z3
  refine bodyPost_ret (results_cell_tmp_row rfl _ _ (w.heap.size + 1) 54 _ (0, 0) _ rfl hblkz Tryd.underlying54 rfl info_state) rfl ?_
  exact ⟨rfl, hbz⟩
end Go.Proofs.YtmhmmemmdekjhaaDoor.Sc
namespace Go.Proofs.YtmhmmemmdekjhaaDoor.Sc
open Go.RowKit
open Drawbar Drawbar.Sheet Drawbar.Nand Drawbar.Scan Drawbar.Gm Go.Proofs.YtmhmmemmdekjhaaDoor.Nd

set_option maxRecDepth 100000 in
theorem rdI_other {w w' : World} {a : Option Addr} {l : List Int} {d : Nat} (h : Pn.RdI w a l) (hg : w.grownBy w' (some d)) (hm : ∀ o u, w.cell? ⟨d, o, none⟩ ≠ some (.int .i64 u)) : Pn.RdI w' a l := fun h0 => by
  obtain ⟨b, off, rfl, hc⟩ := h h0
  refine ⟨b, off, rfl, fun i hi => ?_⟩
  have h1 := hc i hi
  have hne : b ≠ d := fun e => by rw [e] at h1; exact hm _ _ h1
  exact (World.cell?_of_block (a := ⟨b, off + i, none⟩) (hg.block b (World.block_lt_of_cell? w _ h1) (fun e => hne (by cases e; rfl)))).trans h1
set_option maxRecDepth 100000 in
theorem state_cells {w : World} {d : Nat} {pt mp : Option Addr} {mm : Option Nat} {q : Int} {n c : Nat} {t : TypeId} (h : w.heap[d]? = some (.cells #[.pointer pt, .map mm, .int .u64 q, .slice mp n c] t (0, 0))) :
    No8 w d ∧ ∀ o u, w.cell? ⟨d, o, none⟩ ≠ some (.int .i64 u) := by
  have key : ∀ o (k : IntKind) u, w.cell? ⟨d, o, none⟩ = some (.int k u) → k = .u64 := fun o k u he => by
    unfold World.cell? at he
    rw [h] at he
    rcases o with _ | _ | _ | _ | o
    all_goals simp at he
    exact he.1.symm
  exact ⟨fun o u he => (by cases key o _ u he), fun o u he => (by cases key o _ u he)⟩

/-- What All answers. -/
def AllOk (w : World) (ar : Arr) (C : Nat) (us : List Int) (L : List Fnd) (e : Ending) (w' : World) : Prop :=
  ∃ g0 pb0 cb0 pb N a c, e = .returned (.tuple #[.agg #[.pointer (some ⟨g0, 0, none⟩), .map (some pb), .int .u64 (most L : Nat), .slice a (takeS us L).1.length c], .int .i64 0]) ∧
    Pm.MapAt w' g0 pb0 cb0 (whereS C ar.n (best (takeS us L).2)) ∧ PagesAt w' pb N (best (takeS us L).2) ∧ Pn.RdI w' a (takeS us L).1 ∧ Below w.heap.size w w'
set_option maxRecDepth 100000 in
set_option maxHeartbeats 4000000 in
theorem all_on {w : World} {F : Nat → Prop} {g : Nat} {ar : Arr} (hA : ArrAt w F g ar) {b p s : Int} {B : List Int} {a : Option Addr} {C c : Nat} (h : Geom w ar b p s B a C) (hoff : ar.off = false) (hT : Tab w) (hl9 : (heldI C ar (usb b B)).length ≤ 100000) :
    Calls Tryd.prog 15 #[.pointer (some ⟨g, 0, none⟩), Pn.geo b p s a B.length c] w (AllOk w ar C (usb b B) (heldI C ar (usb b B))) := by
  have hbx : Below w.heap.size w ((w.alloc (Pn.boxed b p s a B.length c)).alloc zst) := ((Below.refl _ _).alloc (Nat.le_refl _) _).alloc (by simp) _
  have hsz0 : ((w.alloc (Pn.boxed b p s a B.length c)).alloc zst).heap.size = w.heap.size + 2 := by simp
  have hblk : ((w.alloc (Pn.boxed b p s a B.length c)).alloc zst).heap[w.heap.size + 1]? = some zst := by
    have := heap_alloc_new (w.alloc (Pn.boxed b p s a B.length c)) zst
    simpa using this
  have hcells := fun W hb => Pn.boxed_cells w b p s a B.length c W (((Below.refl _ _).alloc (Nat.le_refl _) zst).trans hb)
  have HF := Lib.hid (Geom.fits (c := c) (hA.keep hbx) (h.below hbx))
  have HC := Lib.hid (fun W (hb : Below ((w.alloc (Pn.boxed b p s a B.length c)).alloc zst).heap.size ((w.alloc (Pn.boxed b p s a B.length c)).alloc zst) W) => hcells W (hb.mono (by simp)))
  have HBW := Lib.hid (fun W (hb : Below ((w.alloc (Pn.boxed b p s a B.length c)).alloc zst).heap.size ((w.alloc (Pn.boxed b p s a B.length c)).alloc zst) W) => hbx.trans (hb.mono (by rw [hsz0]; omega)))
  have HBK := Lib.hid (fun W (hb : Below ((w.alloc (Pn.boxed b p s a B.length c)).alloc zst).heap.size ((w.alloc (Pn.boxed b p s a B.length c)).alloc zst) W) => (hb.block (w.heap.size + 1) (by rw [hsz0]; omega)).trans hblk)
  have HU := Lib.hid (fun W (hb : Below w.heap.size w W) => usable_at (h.below hb) c)
  have HM := Lib.hid (fun W (hb : Below w.heap.size w W) => meta_at (h.below hb) c)
  have HR := Lib.hid (fun W (hb : Below w.heap.size w W) a2 c2 (hr : Pn.RdI W a2 (usb b B)) => readAll_on (hA.keep hb) (usb b B) a2 c2 h.blocks hr C hoff (hT.below hb hT.pos))
  obtain ⟨x0, x1, x2, x3⟩ := hcells _ (by simpa using (Below.refl (w.heap.size + 1) ((w.alloc (Pn.boxed b p s a B.length c)).alloc zst)))
  unfold Pn.geo at HF HU HM ⊢
  have hwf := arr_wf hA
  have hft := held_fit (m := C) hwf h.blocks
  have hgr := held_grouped (m := C) hwf h.blocks
  have hC9 : C < 65000 := by
    have h1 := h.cap
    have h2 := Plan.cap_bounds B h.small
    have h3 := Plan.us_le B b
    have h4 := h.form
    obtain ⟨-, h5, h6, -⟩ := Pn.form_true h4
    have h7 : p * (((Plan.us B (Plan.kk b)).length : Int) - s - 1) ≤ 32 * 62 := by
      have e1 : ((Plan.us B (Plan.kk b)).length : Int) - s - 1 ≤ 62 := by omega
      rcases Int.le_total 0 (((Plan.us B (Plan.kk b)).length : Int) - s - 1) with h8 | h8
      · exact Int.le_trans (Int.mul_le_mul_of_nonneg_right h5.2 h8) (by omega)
      · have := Int.mul_nonpos_of_nonneg_of_nonpos (show 0 ≤ p by omega) h8; omega
    unfold Plan.cap at h1
    omega
  have hn0 := hwf.n0
  have hn64 := hwf.n64
  have hbn := h.n
  have hul := h.us_lt
  have HW := Lib.hid (fun W (hb : Below w.heap.size w W) mb n pg (hP : PagesAt W mb n pg) (hpg : ∀ a x, pg a = some x → 0 ≤ a ∧ a ≤ C ∧ x.b < ar.n ∧ x.p < 32) => where_any hP C ar.n hC9 hpg hn0 hn64 b p s B a c hbn.symm (h.rd.below hb) h.len h.small h.cap)
  have HFT := Lib.hid (And.intro hft (And.intro hgr (And.intro hwf.p32 (fun i hi => h.blocks.rng i hi : ∀ i ∈ usb b B, 0 ≤ i ∧ i < ar.n))))
  have HND := Lib.hid h.blocks.nd
  clear hbx hcells hsz0 h hA hoff hblk hT hwf hft hgr
  generalize usb b B = us at *
  generalize heldI C ar us = L0 at *
  go_enter Tryd.func15, Tryd.ntmps15
  go_wp2_with fail
  (with_reducible refine HF.out.mono ?_)
  rintro e w2 ⟨rfl, hb2⟩
  obtain ⟨y0, y1, y2, y3⟩ := HC.out _ hb2
  have HB2 := Lib.hid hb2
  clear hb2 x0 x1 x2 x3
  go_wp2_with fail
  (with_reducible refine (HU.out _ (HBW.out _ HB2.out)).mono ?_)
  rintro e w3 ⟨a3, c3, rfl, hr3, hb3⟩
  have hb23 := HB2.out.trans (hb3.mono HB2.out.size)
  obtain ⟨z0, z1, z2, z3⟩ := HC.out _ hb23
  have HB3 := Lib.hid hb23
  have HR3 := Lib.hid hr3
  clear hb3 hr3 hb23 y0 y1 y2 y3
  go_wp2_with fail
  (with_reducible refine (HM.out _ (HBW.out _ HB3.out)).mono ?_)
  rintro e w4 ⟨rfl, hb4⟩
  have HB4 := Lib.hid (HB3.out.trans (hb4.mono HB3.out.size))
  have hb4q := Lib.hid hb4
  have HRR := Lib.hid (HR.out w4 (HBW.out _ HB4.out) a3 c3 (HR3.out.below hb4))
  clear hb4 z0 z1 z2 z3
  go_wp2_with fail
  (with_reducible refine HRR.out.mono ?_)
  rintro e w5 ⟨mb, nm, rfl, hH5, hnm, hmb5, hb5⟩
  have HB5 := Lib.hid (HB4.out.trans (hb5.mono HB4.out.size))
  have HR5 := Lib.hid (HR3.out.below (hb4q.out.trans (hb5.mono hb4q.out.size)))
  have HGT := Lib.hid (greatest_any hH5 hl9)
  have HH5 := Lib.hid hH5
  have HMB := Lib.hid hmb5
  clear hb5 hH5 hmb5
  go_wp2_with fail
  (with_reducible refine HGT.out.mono ?_)
  rintro e w6 ⟨rfl, hb6⟩
  obtain ⟨sb, hsb⟩ : ∃ sb, sb = w6.heap.size := ⟨_, rfl⟩
  have hb7 : Below w6.heap.size w6 (w6.alloc (sob (.pointer none) (.map none) (.int .u64 (most L0 : Nat)) (.slice none 0 0))) := (Below.refl _ _).alloc (Nat.le_refl _) _
  have hblk7 := heap_alloc_new w6 (sob (.pointer none) (.map none) (.int .u64 (most L0 : Nat)) (.slice none 0 0))
  have hs7 : (w6.alloc (sob (.pointer none) (.map none) (.int .u64 (most L0 : Nat)) (.slice none 0 0))).heap.size = w6.heap.size + 1 := by simp
  have hb57 := hb6.trans (hb7.mono hb6.size)
  have HTK := Lib.hid (takeSpoilt_any (HH5.out.below hb57) hl9 (fun x hx => (HFT.out.1 x hx).1.fr) us a3 c3 (HR5.out.below hb57) (fun i hi => by have := HFT.out.2.2.2 i hi; omega) (by omega))
  have hfresh : mb < w5.heap.size := HH5.out.lt
  have H7 := Lib.hid (And.intro hb57 (And.intro hblk7 (And.intro hs7 (And.intro (HB5.out.trans (hb57.mono HB5.out.size)) (And.intro hfresh hb6.size)))))
  clear hb6 hb7 hblk7 hs7 hb57 hfresh hsb
  go_wp2_with fail
  (with_reducible refine HTK.out.mono ?_)
  rintro e w8 ⟨a8, c8, rfl, hr8, hH8, hg8⟩
  obtain ⟨hb57, hblk7, hs7, hB7, hfr, hle6⟩ := H7.out
  have hblk8 := (hg8.block w6.heap.size (by omega) (fun e => by cases e; omega)).trans hblk7
  have hB8 := hB7.trans (grown_below' (base := ((w.alloc (Pn.boxed b p s a B.length c)).alloc zst).heap.size) hg8 (fun d hd => by cases hd; have := HMB.out; have := HB4.out.size; omega) hB7.size)
  obtain ⟨⟨t0, t1, t2, t3⟩, ⟨z0, z1, z2, z3⟩⟩ := four_cells hblk8
  have hst8 := state_cells hblk8
  have hg9 := one_grown w8 w6.heap.size 3 (.slice a8 (takeS us L0).1.length c8)
  have hblk9 := set_one hblk8 3 (.slice a8 (takeS us L0).1.length c8)
  have hB9 := hB8.trans (one_below w8 w6.heap.size 3 (.slice a8 (takeS us L0).1.length c8) (show ((w.alloc (Pn.boxed b p s a B.length c)).alloc zst).heap.size ≤ w6.heap.size by have := HB5.out.size; omega))
  have hH9 := hH8.other hg9 hst8.1 (show w6.heap.size ≠ mb by omega)
  have hr9 := rdI_other hr8 hg9 hst8.2
  have hru8 : Pn.RdI w8 a3 us := rdI_other (HR5.out.below hb57) hg8 (fun o u he => by
    have := gmap_cell (HH5.out.below hb57).choose_spec.1 o
    rw [this] at he; cases he)
  have HNW := Lib.hid (newest_any hH9 (Nat.le_trans takeS_len.1 hl9) (fun x hx => (by have := (HFT.out.1 x (takeS_sub x hx)).1; exact ⟨this.ad0, this.ad2⟩)) us a3 c3 (rdI_other hru8 hg9 hst8.2) (fun i hi => by have := HFT.out.2.2.2 i hi; omega) (takeS_grouped HFT.out.2.1 HND.out) (by omega))
  have H9 := Lib.hid (And.intro hblk9 (And.intro hB9 (And.intro hr9 (And.intro hle6 (show w6.heap.size < (w8.setCell ⟨w6.heap.size, 3, none⟩ (.slice a8 (takeS us L0).1.length c8)).heap.size from (Array.getElem?_eq_some_iff.1 hblk9).1)))))
  clear hb57 hblk7 hs7 hB7 hfr hle6 hblk8 hB8 hst8 hg9 hblk9 hB9 hH9 hr9 hru8 hr8 hH8 hg8
  go_wp2_with fail
  (with_reducible refine HNW.out.mono ?_)
  rintro e w10 ⟨pb, N, rfl, hP10, hN, hpb, hb10⟩
  obtain ⟨hblk9, hB9, hr9, hle6, hlt9⟩ := H9.out
  have hblk10 := (hb10.block w6.heap.size hlt9).trans hblk9
  have hblk10 : w10.heap[w6.heap.size]? = some (sob (.pointer none) (.map none) (.int .u64 (most L0 : Nat)) (.slice a8 (takeS us L0).1.length c8)) := by simpa using hblk10
  have hB10 := hB9.trans (hb10.mono hB9.size)
  obtain ⟨⟨t0, t1, t2, t3⟩, ⟨z0, z1, z2, z3⟩⟩ := four_cells hblk10
  have hst10 := state_cells hblk10
  have hg11 := one_grown w10 w6.heap.size 1 (.map (some pb))
  have hblk11 : (w10.setCell ⟨w6.heap.size, 1, none⟩ (.map (some pb))).heap[w6.heap.size]? = some (sob (.pointer none) (.map (some pb)) (.int .u64 (most L0 : Nat)) (.slice a8 (takeS us L0).1.length c8)) := by simpa using set_one hblk10 1 (.map (some pb))
  have hB11 := hB10.trans (one_below w10 w6.heap.size 1 (.map (some pb)) (show ((w.alloc (Pn.boxed b p s a B.length c)).alloc zst).heap.size ≤ w6.heap.size by have := HB5.out.size; omega))
  have hP11 := hP10.other hg11 hst10.1 (show w6.heap.size ≠ pb by omega)
  have hr11 := rdI_other (hr9.below hb10) hg11 hst10.2
  have HWW := Lib.hid (HW.out (w10.setCell ⟨w6.heap.size, 1, none⟩ (.map (some pb))) (HBW.out _ hB11) pb N (best (takeS us L0).2) hP11 (fun ad x hx => by
    obtain ⟨hm, he⟩ := best_mem _ ad x hx
    have := (HFT.out.1 x (takeS_sub x hm)).1
    have hp32 := HFT.out.2.2.1
    have h1 := this.b
    have h2 := this.p
    have h3 := this.ad0
    have h4 := this.ad1
    exact ⟨by omega, by omega, by omega, by omega⟩))
  have hgc := HC.out _ hB11
  obtain ⟨g0, g1, g2, g3⟩ := hgc
  have hne1 : w6.heap.size ≠ pb := by omega
  have HSZ9 := Lib.hid (show w6.heap.size < pb by omega)
  obtain ⟨⟨r0, r1, r2, r3⟩, -⟩ := four_cells hblk11
  have hB11s := hB11.size
  have H11 := Lib.hid (And.intro hblk11 (And.intro hB11 (And.intro hP11 (And.intro hr11 (And.intro hle6 (And.intro hne1 (show w6.heap.size < (w10.setCell ⟨w6.heap.size, 1, none⟩ (.map (some pb))).heap.size from (Array.getElem?_eq_some_iff.1 hblk11).1)))))))
  clear hblk10 hB10 hst10 hg11 hblk11 hB11 hP11 hr11 hblk9 hB9 hr9 hle6 hlt9 hb10 hP10 hN hpb hne1 hB11s
  unfold Pn.geo at HWW
  go_wp2_with fail
  (with_reducible refine HWW.out.mono ?_)
  rintro e w12 ⟨gq, pq, cq, rfl, hM12, hg12, hp12, hc12, hb12⟩
  obtain ⟨hblk11, hB11, hP11, hr11, hle6, hne1, hlt11⟩ := H11.out
  have hblk12 := (hb12.block w6.heap.size hlt11).trans hblk11
  have hB12 := hB11.trans (hb12.mono hB11.size)
  obtain ⟨⟨s0, s1, s2, s3⟩, ⟨y0, y1, y2, y3⟩⟩ := four_cells hblk12
  have hst12 := state_cells hblk12
  have hg13 := one_grown w12 w6.heap.size 0 (.pointer (some ⟨gq, 0, none⟩))
  have hblk13 : (w12.setCell ⟨w6.heap.size, 0, none⟩ (.pointer (some ⟨gq, 0, none⟩))).heap[w6.heap.size]? = some (sob (.pointer (some ⟨gq, 0, none⟩)) (.map (some pb)) (.int .u64 (most L0 : Nat)) (.slice a8 (takeS us L0).1.length c8)) := by simpa using set_one hblk12 0 (.pointer (some ⟨gq, 0, none⟩))
  have hB13 := hB12.trans (one_below w12 w6.heap.size 0 (.pointer (some ⟨gq, 0, none⟩)) (show ((w.alloc (Pn.boxed b p s a B.length c)).alloc zst).heap.size ≤ w6.heap.size by have := HB5.out.size; omega))
  have hP13 := (hP11.below hb12).other hg13 hst12.1 hne1
  have hr13 := rdI_other (hr11.below hb12) hg13 hst12.2
  have hM13 : Pm.MapAt (w12.setCell ⟨w6.heap.size, 0, none⟩ (.pointer (some ⟨gq, 0, none⟩))) gq pq cq _ := hM12.keep fun d hd => hg13.block d (by have h1 := hM12.gl; have h2 := hM12.pbl; have h3 := hM12.cbl; rcases hd with rfl | rfl | rfl <;> assumption) (fun e => by cases e; rcases hd with h | h | h <;> omega)
  have hblkR := HBK.out _ hB13
  have hstR := state_cells hblkR
  obtain ⟨⟨q0, q1, q2, q3⟩, ⟨k0, k1, k2, k3⟩⟩ := four_cells hblkR
  obtain ⟨⟨m0, m1, m2, m3⟩, -⟩ := four_cells hblk13
  have hg14 := four_grown (w := (w12.setCell ⟨w6.heap.size, 0, none⟩ (.pointer (some ⟨gq, 0, none⟩)))) (g := w.heap.size + 1) (v0 := .pointer (some ⟨gq, 0, none⟩)) (v1 := .map (some pb)) (v2 := .int .u64 (most L0 : Nat)) (v3 := .slice a8 (takeS us L0).1.length c8)
  have hblk14 := four_set (v0 := .pointer (some ⟨gq, 0, none⟩)) (v1 := .map (some pb)) (v2 := .int .u64 (most L0 : Nat)) (v3 := .slice a8 (takeS us L0).1.length c8) hblkR
  have hbz := (HBW.out _ hB13).trans (four_below (v0 := .pointer (some ⟨gq, 0, none⟩)) (v1 := .map (some pb)) (v2 := .int .u64 (most L0 : Nat)) (v3 := .slice a8 (takeS us L0).1.length c8) (Nat.le_succ w.heap.size))
  have hB11s := hB11.size
  have hszB : ((w.alloc (Pn.boxed b p s a B.length c)).alloc zst).heap.size = w.heap.size + 2 := by simp
  have hR9 : w.heap.size + 1 < (w10.setCell ⟨w6.heap.size, 1, none⟩ (.map (some pb))).heap.size := by omega
  have hpb9 : w.heap.size + 1 ≠ pb := by have := HB5.out.size; have := HSZ9.out; omega
  have hP14 := hP13.other hg14 hstR.1 hpb9
  have hr14 := rdI_other hr13 hg14 hstR.2
  have hM14 : Pm.MapAt _ gq pq cq _ := hM13.keep fun d hd => hg14.block d (by have h1 := hM13.gl; have h2 := hM13.pbl; have h3 := hM13.cbl; rcases hd with rfl | rfl | rfl <;> assumption) (fun e => by cases e; rcases hd with h | h | h <;> omega)
  have HFIN := Lib.hid (And.intro hblk14 (And.intro hbz (And.intro hP14 (And.intro hr14 hM14))))
  clear hblk14 hbz hP14 hr14 hM14 hblk11 hB11 hP11 hr11 hle6 hne1 hlt11 hblk12 hB12 hst12 hg13 hblk13 hB13 hP13 hr13 hM13 hblkR hstR hg14 hM12 hg12 hp12 hc12 hb12 hB11s hR9 hpb9 hszB
  go_wp2
  obtain ⟨hblk14, hbz, hP14, hr14, hM14⟩ := HFIN.out
  generalize (((((w12.setCell ⟨w6.heap.size, 0, none⟩ (.pointer (some ⟨gq, 0, none⟩))).setCell ⟨w.heap.size + 1, 0, none⟩ (.pointer (some ⟨gq, 0, none⟩))).setCell ⟨w.heap.size + 1, 1, none⟩ (.map (some pb))).setCell ⟨w.heap.size + 1, 2, none⟩ (.int .u64 (most L0 : Nat))).setCell ⟨w.heap.size + 1, 3, none⟩ (.slice a8 (takeS us L0).1.length c8)) = wz at *
  clear q0 q1 q2 q3 k0 k1 k2 k3
  refine bodyPost_ret (results_cell_tmp_row rfl _ _ (w.heap.size + 1) 54 _ (0, 0) _ rfl hblk14 Tryd.underlying54 rfl info_state) rfl ?_
  exact ⟨gq, pq, cq, pb, N, a8, c8, rfl, hM14, hP14, hr14, hbz⟩
end Go.Proofs.YtmhmmemmdekjhaaDoor.Sc
