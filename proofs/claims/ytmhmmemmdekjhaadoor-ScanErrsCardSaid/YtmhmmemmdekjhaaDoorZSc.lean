/- The contract of scan's newest. The contract of scan's where. The contract of scan's fits. The contract of scan's Block. -/
import Derived.Test.YtmhmmemmdekjhaaDoorZSb
import Derived.Deep.RegionHeld
import Derived.IntWalk
namespace Go.Proofs.YtmhmmemmdekjhaaDoor.Sc
open Go.RowKit
open Drawbar Drawbar.Sheet Drawbar.Nand Drawbar.Scan Drawbar.Gm Go.Proofs.YtmhmmemmdekjhaaDoor.Nd

/-- A map of the pages pg. -/
def PagesAt (w : World) (b n : Nat) (pg : Int → Option Fnd) : Prop :=
  ∃ f, GMap Tryd.prog 3 w b n f ∧ (∀ a, pg a = none → f a = none) ∧ ∀ a x, pg a = some x → ∃ av cv, f a = some (fv x av cv) ∧ DaAt w (.slice av x.s.da.length cv) x.s.da
set_option maxRecDepth 100000 in
theorem PagesAt.below {w w' : World} {b n : Nat} {pg : Int → Option Fnd} (h : PagesAt w b n pg) (hb : Below w.heap.size w w') : PagesAt w' b n pg := by
  obtain ⟨f, h1, h2, h3⟩ := h
  refine ⟨f, h1.below hb, h2, fun a x hx => ?_⟩
  obtain ⟨av, cv, h4, h5⟩ := h3 a x hx
  exact ⟨av, cv, h4, h5.below hb⟩
set_option maxRecDepth 100000 in
theorem PagesAt.lt {w : World} {b n : Nat} {pg : Int → Option Fnd} (h : PagesAt w b n pg) : b < w.heap.size := by obtain ⟨f, h1, _⟩ := h; exact h1.lt
set_option maxRecDepth 100000 in
theorem PagesAt.put {w w' : World} {b n : Nat} {pg pg' : Int → Option Fnd} {f : Int → Option Value} (h1 : GMap Tryd.prog 3 w b n f) (h2 : ∀ a, pg a = none → f a = none) (h3 : ∀ a x, pg a = some x → ∃ av cv, f a = some (fv x av cv) ∧ DaAt w (.slice av x.s.da.length cv) x.s.da)
    {x : Fnd} {av : Option Addr} {cv : Nat} (hx : DaAt w (.slice av x.s.da.length cv) x.s.da) (hG : GMap Tryd.prog 3 w' b (n + 1) (Gm.put f x.s.ad (fv x av cv))) (hg : w.grownBy w' (some b)) (he : ∀ a, pg' a = if a = x.s.ad then some x else pg a) : PagesAt w' b (n + 1) pg' := by
  have hm := gmap_no8 h1
  refine ⟨_, hG, fun a ha => ?_, fun a y hy => ?_⟩
  · rw [he] at ha
    unfold Gm.put
    by_cases e : a = x.s.ad
    · rw [if_pos e] at ha; cases ha
    · rw [if_neg e] at ha ⊢; exact h2 a ha
  · rw [he] at hy
    unfold Gm.put
    by_cases e : a = x.s.ad
    · rw [if_pos e] at hy ⊢; cases hy; exact ⟨av, cv, rfl, hx.map hg hm⟩
    · rw [if_neg e] at hy ⊢
      obtain ⟨a2, c2, h4, h5⟩ := h3 a y hy
      exact ⟨a2, c2, h4, h5.map hg hm⟩
set_option maxRecDepth 100000 in
theorem PagesAt.other {w w' : World} {b n d : Nat} {pg : Int → Option Fnd} (h : PagesAt w b n pg) (hg : w.grownBy w' (some d)) (hm : No8 w d) (hd : d ≠ b) : PagesAt w' b n pg := by
  obtain ⟨f, h1, h2, h3⟩ := h
  refine ⟨f, GMap.other h1 hg hd, h2, fun a x hx => ?_⟩
  obtain ⟨av, cv, h4, h5⟩ := h3 a x hx
  exact ⟨av, cv, h4, h5.map hg hm⟩
abbrev zf : Value := .agg #[.int .i64 0, .int .i64 0, .int .u8 0, .int .u64 0, .int .u64 0, .int .i64 0, .int .i64 0, .slice none 0 0]
set_option maxRecDepth 100000 in
theorem zero_found (w : World) : (zeroValue 46).run Tryd.prog w = .ok zf w := by simp [Tryd.zeroValue46]
/-- What newest makes. -/
def Newest (w : World) (pg : Int → Option Fnd) (N : Nat) (e : Ending) (w' : World) : Prop :=
  ∃ b n, e = .returned (.map (some b)) ∧ PagesAt w' b n pg ∧ n ≤ N ∧ w.heap.size ≤ b ∧ Below w.heap.size w w'
set_option maxRecDepth 100000 in
theorem best_yes {D : List Fnd} {x : Fnd} (h : best D x.s.ad = none ∨ ∃ y, best D x.s.ad = some y ∧ y.s.sq < x.s.sq) (a : Int) : best (D ++ [x]) a = if a = x.s.ad then some x else best D a := by
  rw [best_snoc]
  unfold Scan.step
  by_cases e : a = x.s.ad
  · subst e
    rw [if_pos rfl, if_pos rfl]
    rcases h with h | ⟨y, h, hlt⟩
    · rw [h]
    · rw [h]; dsimp only; rw [if_pos hlt]
  · rw [if_neg (fun e2 => e e2.symm), if_neg e]
set_option maxRecDepth 100000 in
theorem best_no {D : List Fnd} {x y : Fnd} (h : best D x.s.ad = some y) (hn : ¬ y.s.sq < x.s.sq) : best (D ++ [x]) = best D := by
  funext a
  rw [best_snoc]
  unfold Scan.step
  by_cases e : x.s.ad = a
  · subst e; rw [if_pos rfl, h]; dsimp only; rw [if_neg hn]
  · rw [if_neg e]

set_option maxRecDepth 100000 in
set_option maxHeartbeats 4000000 in
theorem newest_any {w : World} {b n : Nat} {L : List Fnd} (h : Hold w b n L) (hlen : L.length ≤ 100000) (had : ∀ x ∈ L, 0 ≤ x.s.ad ∧ x.s.ad ≤ 65535) (us : List Int) (a : Option Addr) (c : Nat) (hru : Pn.RdI w a us) (hus : ∀ i ∈ us, 0 ≤ i ∧ i < 1000) (hgr : Grouped us L) (hu9 : us.length ≤ 1000) :
    Calls Tryd.prog 44 #[.map (some b), .slice a us.length c] w (Newest w (best L) L.length) := by
  have hb0 : Below w.heap.size w (w.alloc (.map #[] 0)) := (Below.refl _ _).alloc (Nat.le_refl _) _
  have hmk := make_pages w
  have hP0 : PagesAt (w.alloc (.map #[] 0)) w.heap.size 0 (best []) := ⟨_, GMap.made w _ _, fun a _ => rfl, fun a x hx => by cases hx⟩
  have HHD := Lib.hid h
  have HU := Lib.hid hus
  have HAD := Lib.hid had
  have HRU := Lib.hid hru
  have HG := Lib.hid hgr
  have hul : ∀ k, ((us.take k).flatMap fun i => of i L).length ≤ L.length := fun k => by
    have e := hgr
    unfold Grouped at e
    have h2 : (us.flatMap fun i => of i L) = ((us.take k).flatMap fun i => of i L) ++ ((us.drop k).flatMap fun i => of i L) := by rw [← List.flatMap_append, List.take_append_drop]
    rw [h2] at e
    have := congrArg List.length e
    rw [List.length_append] at this
    omega
  have HUL := Lib.hid hul
  clear hus had hru h hgr hul
  go_enter Tryd.func44, Tryd.ntmps44
  go_wp2
  go_loopw [15] (fun iv wr => ∃ k N : Nat, k ≤ us.length ∧ iv = .int .i64 k ∧ Below w.heap.size w wr ∧ PagesAt wr w.heap.size N (best ((us.take k).flatMap fun i => of i L)) ∧ N ≤ ((us.take k).flatMap fun i => of i L).length) (fun iv _ => us.length - (intOf iv).toNat)
  case atStart => exact ⟨0, 0, Nat.zero_le _, rfl, hb0, hP0, Nat.zero_le _⟩
  case round =>
    obtain ⟨k, N, hk, rfl, hbw, hPg, hN⟩ := hrel
    clear hP0 hb0 hmk
    by_cases hlt : k < us.length
    · obtain ⟨bb0, off0, hae, hcu⟩ := (HRU.out.below hbw) (by omega)
      have hc := hcu k hlt
      have hmem : us[k] ∈ us := List.getElem_mem hlt
      have hrg := HU.out _ hmem
      have hgd : us.getD k 0 = us[k] := by simp [List.getD_eq_getElem?_getD, hlt]
      have htk : (us.take (k + 1)).flatMap (fun i => of i L) = ((us.take k).flatMap fun i => of i L) ++ of us[k] L := by rw [take_snoc us k hlt, List.flatMap_append]; simp
      have hle1 := HUL.out (k + 1)
      rw [htk] at hle1
      rw [hgd] at hc
      have HTK := Lib.hid htk
      generalize us[k] = i at *
      have hwfi : (Lit.int .i64 i).wf = true := wf_of (by omega) (by omega)
      have hlt2 : (k : Int) < (us.length : Int) := by omega
      obtain ⟨a2, c2, hfd, hlook⟩ := HHD.out.look2 i hwfi
      have hlook := hlook wr hbw
      generalize hD : ((us.take k).flatMap fun i => of i L) = D at *
      have HSUB := Lib.hid (fun x (hx : x ∈ of i L) => HAD.out x (mem_of.1 hx).1)
      rw [List.length_append] at hle1
      generalize hll : of i L = l at *
      have HFD := Lib.hid hfd
      subst hae
      have HPG := Lib.hid (And.intro hbw hPg)
      have hl9 : l.length ≤ 100000 := by rw [← hll]; exact Nat.le_trans (of_len _ _) hlen
      clear hcu hmem hrg hgd htk hfd hbw hD hPg hll
      go_wp2
      go_loopw [23] (fun iv wr2 => ∃ j N2 : Nat, j ≤ l.length ∧ iv = .int .i64 j ∧ Below w.heap.size w wr2 ∧ PagesAt wr2 w.heap.size N2 (best (D ++ l.take j)) ∧ N2 ≤ D.length + j) (fun iv _ => l.length - (intOf iv).toNat)
      case atStart => exact ⟨0, N, Nat.zero_le _, rfl, HPG.out.1, by rw [List.take_zero, List.append_nil]; exact HPG.out.2, hN⟩
      case round =>
        clear hc hlook HPG
        obtain ⟨j, N2, hj, rfl, hbw2, hPg2, hN2⟩ := hrel
        by_cases hjl : j < l.length
        · obtain ⟨x, hx⟩ : ∃ x, l[j]? = some x := ⟨_, List.getElem?_eq_getElem hjl⟩
          obtain ⟨bb, off, v, rfl, hc, av, cv, rfl, hda⟩ := (HFD.out.below hbw2) j x hx
          have hxr := HSUB.out x (List.mem_of_getElem? hx)
          have c0 := hc 0 _ rfl
          have c1 := hc 1 _ rfl
          have c2 := hc 2 _ rfl
          have c3 := hc 3 _ rfl
          have c4 := hc 4 _ rfl
          have c5 := hc 5 _ rfl
          have c6 := hc 6 _ rfl
          have c7 := hc 7 _ rfl
          rw [Nat.add_zero] at c0
          have hsn : D ++ l.take (j + 1) = (D ++ l.take j) ++ [x] := by rw [List.take_add_one, hx]; simp
          generalize D ++ l.take j = E at *
          have hjl2 : (j : Int) < (l.length : Int) := by omega
          have hwfx : (Lit.int .i64 x.s.ad).wf = true := wf_of (by omega) (by omega)
          obtain ⟨w3, hw3⟩ : ∃ w3, w3 = wr.alloc (fob 46 x av cv) := ⟨_, rfl⟩
          have hb3 : Below wr.heap.size wr w3 := by rw [hw3]; exact (Below.refl _ _).alloc (Nat.le_refl _) _
          obtain ⟨f, hG, hf1, hf2⟩ := hPg2.below hb3
          have hlk := hG.look_ok Tryd.underlying3 Tryd.underlying52 (zero_found w3) x.s.ad hwfx
          have HS := Lib.hid hsn
          cases hbx : best E x.s.ad with
          | none =>
            rw [hf1 _ hbx] at hlk
            simp only [Option.getD_none, Option.isSome_none] at hlk
            rw [hw3] at hlk
            obtain ⟨w4, hw4⟩ : ∃ w4, w4 = (wr.alloc (fob 46 x av cv)).alloc (.cells #[.int .i64 0, .int .i64 0, .int .u8 0, .int .u64 0, .int .u64 0, .int .i64 0, .int .i64 0, .slice none 0 0] 46) := ⟨_, rfl⟩
            have hb4 : Below wr.heap.size wr w4 := by rw [hw4]; exact ((Below.refl _ _).alloc (Nat.le_refl _) _).alloc (by simp) _
            have hb34 : Below w3.heap.size w3 w4 := by rw [hw4, hw3]; exact (Below.refl _ _).alloc (Nat.le_refl _) _
            have HG := Lib.hid (And.intro (hG.below hb34) (And.intro hf1 (And.intro (fun a x hx => by obtain ⟨a9, c9, h4, h5⟩ := hf2 a x hx; exact ⟨a9, c9, h4, h5.below hb34⟩ : ∀ a x, best E a = some x → ∃ av cv, f a = some (fv x av cv) ∧ DaAt w4 (.slice av x.s.da.length cv) x.s.da) (And.intro (⟨av, cv, rfl, hda.1.below hb4, hda.2.1, hda.2.2⟩ : DaAt w4 (.slice av x.s.da.length cv) x.s.da) (And.intro hb4 (And.intro hbw2 hwfx))))))
            have HW4 := Lib.hid hw4
            have HBX := Lib.hid (best_yes (.inl hbx))
            clear hc hx hda hsn hG hf1 hf2 hb3 hbw2 hw3 hwfx hPg2 hbx hb4 hb34 hw4
            go_wp2_with (at_mapUpdate; refine wpList_mapUpdate_gm _ rfl _ _ _ 52 rfl Tryd.underlying3 Tryd.underlying52 w.heap.size N2 f rfl (by have h9 := HG.out.1; rw [HW4.out] at h9; exact h9) (by unfold maxLen; omega) _ rfl HG.out.2.2.2.2.2.2 (fv x av cv) rfl ?_; intro w5 hG5 hg5 hs5)
            rw [← HW4.out] at hg5
            have hfin := PagesAt.put (pg' := best (E ++ [x])) HG.out.1 HG.out.2.1 HG.out.2.2.1 HG.out.2.2.2.1 hG5 hg5 HBX.out
            rw [← HS.out] at hfin
            have hbf : Below w.heap.size w w5 := HG.out.2.2.2.2.2.1.trans ((HG.out.2.2.2.2.1.mono HG.out.2.2.2.2.2.1.size).trans (grown_below' hg5 (fun d hd => by cases hd; exact Nat.le_refl _) (Nat.le_trans HG.out.2.2.2.2.2.1.size HG.out.2.2.2.2.1.size)))
            have HFIN := Lib.hid (And.intro hbf hfin)
            clear hfin hbf hG5 hg5 hs5
            go_roundw
            case rel => exact ⟨j + 1, N2 + 1, by omega, by go_num, HFIN.out.1, HFIN.out.2, by omega⟩
            case measure => simp [intOf]; omega
          | some y =>
            obtain ⟨ay, cy, hfy, hday⟩ := hf2 _ y hbx
            rw [hfy] at hlk
            simp only [Option.getD_some, Option.isSome_some] at hlk
            rw [hw3] at hlk
            obtain ⟨w4, hw4⟩ : ∃ w4, w4 = (wr.alloc (fob 46 x av cv)).alloc (fob 46 y ay cy) := ⟨_, rfl⟩
            have hb4 : Below wr.heap.size wr w4 := by rw [hw4]; exact ((Below.refl _ _).alloc (Nat.le_refl _) _).alloc (by simp) _
            have hb34 : Below w3.heap.size w3 w4 := by rw [hw4, hw3]; exact (Below.refl _ _).alloc (Nat.le_refl _) _
            have HG := Lib.hid (And.intro (hG.below hb34) (And.intro hf1 (And.intro (fun a x hx => by obtain ⟨a9, c9, h4, h5⟩ := hf2 a x hx; exact ⟨a9, c9, h4, h5.below hb34⟩ : ∀ a x, best E a = some x → ∃ av cv, f a = some (fv x av cv) ∧ DaAt w4 (.slice av x.s.da.length cv) x.s.da) (And.intro (⟨av, cv, rfl, hda.1.below hb4, hda.2.1, hda.2.2⟩ : DaAt w4 (.slice av x.s.da.length cv) x.s.da) (And.intro hb4 (And.intro hbw2 hwfx))))))
            have HW4 := Lib.hid hw4
            by_cases hlt9 : y.s.sq < x.s.sq
            · have q1 : decide (y.s.sq < x.s.sq) = true := decide_eq_true hlt9
              have HBX := Lib.hid (best_yes (.inr ⟨y, hbx, hlt9⟩))
              clear hc hx hda hsn hG hf1 hf2 hb3 hbw2 hw3 hwfx hPg2 hbx hb4 hb34 hw4 hfy hday hlt9
              go_wp2_with (at_mapUpdate; refine wpList_mapUpdate_gm _ rfl _ _ _ 52 rfl Tryd.underlying3 Tryd.underlying52 w.heap.size N2 f rfl (by have h9 := HG.out.1; rw [HW4.out] at h9; exact h9) (by unfold maxLen; omega) _ rfl HG.out.2.2.2.2.2.2 (fv x av cv) rfl ?_; intro w5 hG5 hg5 hs5)
              rw [← HW4.out] at hg5
              have hfin := PagesAt.put (pg' := best (E ++ [x])) HG.out.1 HG.out.2.1 HG.out.2.2.1 HG.out.2.2.2.1 hG5 hg5 HBX.out
              rw [← HS.out] at hfin
              have hbf : Below w.heap.size w w5 := HG.out.2.2.2.2.2.1.trans ((HG.out.2.2.2.2.1.mono HG.out.2.2.2.2.2.1.size).trans (grown_below' hg5 (fun d hd => by cases hd; exact Nat.le_refl _) (Nat.le_trans HG.out.2.2.2.2.2.1.size HG.out.2.2.2.2.1.size)))
              have HFIN := Lib.hid (And.intro hbf hfin)
              clear hfin hbf hG5 hg5 hs5
              go_roundw
              case rel => exact ⟨j + 1, N2 + 1, by omega, by go_num, HFIN.out.1, HFIN.out.2, by omega⟩
              case measure => simp [intOf]; omega
            · have q1 : decide (y.s.sq < x.s.sq) = false := decide_eq_false hlt9
              have hpg9 : PagesAt w4 w.heap.size N2 (best (D ++ l.take (j + 1))) := by rw [HS.out, best_no hbx hlt9]; exact ⟨f, HG.out.1, HG.out.2.1, HG.out.2.2.1⟩
              have hbf : Below w.heap.size w w4 := hbw2.trans (hb4.mono hbw2.size)
              rw [hw4] at hpg9 hbf
              have HFIN := Lib.hid (And.intro hbf hpg9)
              clear hc hx hda hsn hG hf1 hf2 hb3 hbw2 hw3 hwfx hPg2 hbx hb4 hb34 hw4 hfy hday hlt9 hpg9 hbf
              go_wp2_with fail
              go_roundw
              case rel => exact ⟨j + 1, N2, by omega, by go_num, HFIN.out.1, HFIN.out.2, by omega⟩
              case measure => simp [intOf]; omega
        · have hjl2 : ¬ ((j : Int) < (l.length : Int)) := by omega
          obtain rfl : j = l.length := by omega
          rw [List.take_length, ← HTK.out] at hPg2
          have hN3 : N2 ≤ ((us.take (k + 1)).flatMap fun i => of i L).length := by rw [HTK.out, List.length_append]; exact hN2
          have HF := Lib.hid (And.intro hbw2 (And.intro hPg2 hN3))
          clear hbw2 hPg2 hN3 HFD
          go_wp2
          go_roundw
          case rel => exact ⟨k + 1, N2, by omega, by go_num, HF.out.1, HF.out.2.1, HF.out.2.2⟩
          case measure => simp [intOf]; omega
    · have hlt2 : ¬ ((k : Int) < (us.length : Int)) := by omega
      obtain rfl : k = us.length := by omega
      rw [List.take_length] at hPg hN
      rw [show (us.flatMap fun i => of i L) = L from HG.out] at hPg hN
      have HF := Lib.hid (⟨_, N, rfl, hPg, hN, Nat.le_refl _, hbw⟩ : Newest w (best L) L.length (.returned (.map (some w.heap.size))) wr)
      clear hPg hbw
      go_wp2
      go_ret
      exact HF.out
end Go.Proofs.YtmhmmemmdekjhaaDoor.Sc
namespace Drawbar.Scan
open Drawbar Drawbar.Sheet Drawbar.Nand
/-- The map of pages. -/
def whereS (C n : Nat) (pg : Int → Option Fnd) : Pm.St := ⟨C + 1, n, fun k => (pg k).map fun x => (x.b, x.p)⟩
/-- .. without those that are still to come. -/
def whereL (C n : Nat) (pg : Int → Option Fnd) (left : Int → Bool) : Pm.St := ⟨C + 1, n, fun k => if left k = true then none else (pg k).map fun x => (x.b, x.p)⟩
set_option maxRecDepth 100000 in
theorem whereL_start (C n : Nat) (pg : Int → Option Fnd) (left : Int → Bool) (h : ∀ k x, pg k = some x → left k = true) : whereL C n pg left = Pm.St.new (C + 1) n := by
  unfold whereL Pm.St.new
  congr 1
  funext k
  split
  · rfl
  · rename_i hl
    cases hp : pg k with
    | none => rfl
    | some x => exact absurd (h k x hp) hl
set_option maxRecDepth 100000 in
theorem whereL_fin (C n : Nat) (pg : Int → Option Fnd) (left : Int → Bool) (h : ∀ k x, pg k = some x → left k = false) : whereL C n pg left = whereS C n pg := by
  unfold whereL whereS
  congr 1
  funext k
  split
  · rename_i hl
    cases hp : pg k with
    | none => rfl
    | some x => rw [h k x hp] at hl; cases hl
  · rfl
set_option maxRecDepth 100000 in
theorem whereL_put (C n : Nat) (pg : Int → Option Fnd) (left : Int → Bool) (k : Nat) (x : Fnd) (h : pg k = some x) :
    (whereL C n pg left).put k (some (x.b, x.p)) = whereL C n pg (fun y => left y && !(decide (y = (k : Int)))) := by
  unfold whereL Pm.St.put
  dsimp only
  congr 1
  funext j
  by_cases e : j = k
  · subst e; rw [if_pos rfl, h, if_neg (by simp)]; rfl
  · rw [if_neg e]
    have : ((j : Int) = (k : Int)) = False := by simp; omega
    simp [this]
end Drawbar.Scan
namespace Go.Proofs.YtmhmmemmdekjhaaDoor.Sc
open Go.RowKit
open Drawbar Drawbar.Sheet Drawbar.Nand Drawbar.Scan Drawbar.Gm Go.Proofs.YtmhmmemmdekjhaaDoor.Nd

def Where (w : World) (C n : Nat) (pg : Int → Option Fnd) (e : Ending) (w' : World) : Prop := Pm.Made w (whereS C n pg) e w'
set_option maxRecDepth 100000 in
set_option maxHeartbeats 4000000 in
theorem where_any {w : World} {mb n : Nat} {pg : Int → Option Fnd} (h : PagesAt w mb n pg) (C nb : Nat) (hC : C < 65000) (hpg : ∀ a x, pg a = some x → 0 ≤ a ∧ a ≤ C ∧ x.b < nb ∧ x.p < 32) (h1 : 0 < nb) (h2 : nb ≤ 64)
    (b p s : Int) (B : List Int) (a : Option Addr) (c : Nat) (hb : b = nb) (hr : Pn.RdI w a B) (hB : B.length ≤ 1000) (hs : Plan.Small b p s) (hcap : Plan.cap b p s B = C) :
    Calls Tryd.prog 45 #[.map (some mb), Pn.geo b p s a B.length c] w (Where w C nb pg) := by
  have hbx : Below w.heap.size w (w.alloc (Pn.boxed b p s a B.length c)) := (Below.refl _ _).alloc (Nat.le_refl _) _
  have hM := fun W (hb : Below (w.alloc (Pn.boxed b p s a B.length c)).heap.size (w.alloc (Pn.boxed b p s a B.length c)) W) => Pn.meta_any b p s B a c W ((hr.alloc _).below hb) hB hs
  rw [hcap] at hM
  have hcells := Pn.boxed_cells w b p s a B.length c
  have hN : ∀ W, Calls Tryd.prog 78 #[.int .i64 ((C : Int) + 1), .int .i64 b] W (Pm.Made W (Pm.St.new (C + 1) nb)) := fun W => by
    have := Pm.new_any (C + 1) nb W (by omega) (by omega) h1 h2
    rw [hb]
    exact this
  have hsum : IntKind.i64.wrap ((C : Int) + 1) = (C : Int) + 1 := IntWalk.i64_in _ (by omega)
  unfold Pn.geo at hM ⊢
  have HM := Lib.hid hM
  have HNW := Lib.hid hN
  have HC := Lib.hid hcells
  have HP := Lib.hid h
  have HPG := Lib.hid hpg
  have HBX := Lib.hid hbx
  have hb0 := Pn.drew_below (w.alloc (Pn.boxed b p s a B.length c))
  have hq0 := hcells _ hb0
  have hsz0 : (w.alloc (Pn.boxed b p s a B.length c)).heap.size = w.heap.size + 1 := by simp
  have HSZ := Lib.hid hsz0
  clear hM hN hcells h hpg hb hr hs hcap hbx hsz0
  go_enter Tryd.func45, Tryd.ntmps45
  go_wp2_with fail
  go_region_held (fun W => W.cell? ⟨w.heap.size, 0, none⟩ = some (.int .i64 b) ∧ W.cell? ⟨w.heap.size, 1, none⟩ = some (.int .i64 p) ∧ W.cell? ⟨w.heap.size, 2, none⟩ = some (.int .i64 s) ∧ W.cell? ⟨w.heap.size, 3, none⟩ = some (.slice a B.length c)) (first | exact hq0 | exact hq9 | exact hq10) (first
    | (go_at_call 39; ((with_reducible refine (HM.out _ (by assumption)).mono ?_); rintro e w9 ⟨rfl, hb9⟩; have hb19 := hb0.trans (hb9.mono hb0.size); have hq9 := HC.out _ hb19))
    | (go_at_call 78; ((with_reducible refine (HNW.out _).mono ?_); rintro e w10 ⟨g0, pb0, cb0, rfl, hmap, hg9, hp9, hc9, hb10⟩; have hb110 := hb19.trans (hb10.mono hb19.size); have hq10 := HC.out _ hb110)))
  have hsz10 := Nat.le_trans hb19.size hb10.size
  have hP10 := HP.out.below (HBX.out.trans (hb110.mono (by rw [HSZ.out]; omega)))
  obtain ⟨f, hG, hf1, hf2⟩ := hP10
  have hst : whereL C nb pg (fun x => (f x).isSome) = Pm.St.new (C + 1) nb := whereL_start C nb pg _ fun k x hx => by obtain ⟨av, cv, h3, _⟩ := hf2 _ x hx; show (f _).isSome = true; rw [h3]; rfl
  rw [← hst] at hmap
  have HX := Lib.hid (And.intro hmap (And.intro hf1 hf2))
  have HB := Lib.hid (HBX.out.trans (hb110.mono (by rw [HSZ.out]; omega)))
  have HL := Lib.hid (And.intro hg9 (And.intro hp9 hc9))
  have HMB := Lib.hid HP.out.lt
  have HL2 := Lib.hid (And.intro hmap.gl (And.intro hmap.pbl hmap.cbl))
  have hw9 : w.heap.size < w9.heap.size := by have := hb19.size; rw [HSZ.out] at this; omega
  clear hmap hf1 hf2 hst hb0 hq0 hb9 hq9 hb19 hb10 hb110 hq10 hg9 hp9 hc9 hsum
  go_wp2_with (at_range; refine wpList_range_gm _ rfl _ 52 rfl Tryd.underlying3 Tryd.underlying52 mb n f rfl hG ?_; intro w0 cnt0 hrg0 hg0 hs0)
  have hb0 : Below w10.heap.size w10 w0 := grown_below' hg0 (fun d hd => by cases hd) (Nat.le_refl _)
  have hm0 := HX.out.1.below hb0
  go_frame
  go_loopw [] (fun wr => ∃ (left : Int → Bool) (cnt : Nat), GRange Tryd.prog 3 wr mb w10.heap.size n f left cnt ∧ Pm.MapAt wr g0 pb0 cb0 (whereL C nb pg left) ∧ Below w.heap.size w wr ∧ w10.heap.size < wr.heap.size) (fun wr => wr.rangeLeft mb w10.heap.size)
  case atStart => exact ⟨_, _, hrg0, hm0, HB.out.trans (hb0.mono HB.out.size), by omega⟩
  case round =>
    obtain ⟨left, cnt, hrg, hmp, hbw, hsz⟩ := hrel
    clear hm0 hb0 hg0 hrg0
    have HR := Lib.hid (And.intro hrg (And.intro hmp hbw))
    clear hmp hbw
    go_wp2_with (at_next; refine wpList_next_gm _ rfl _ rfl Tryd.underlying3 mb w10.heap.size n f left cnt rfl hrg ?_ ?_)
    · intro _ hl0
      have hfin := whereL_fin C nb pg left fun k x hx => hl0 _ (hrg.owns.wf _ _ (HX.out.2.2 _ x hx).choose_spec.choose_spec.1)
      have hmp := HR.out.2.1
      rw [hfin] at hmp
      have HF := Lib.hid (⟨g0, pb0, cb0, rfl, hmp, by have := HL.out.1; omega, by have := HL.out.2.1; omega, by have := HL.out.2.2; omega, HR.out.2.2⟩ : Where w C nb pg (.returned (.tuple #[.pointer (some ⟨g0, 0, none⟩), .int .i64 0])) wr)
      clear hfin hmp hrg hG hl0
      go_wp2
      go_ret2
      exact HF.out
    · intro i v w1 cnt1 hfi hli hrg1 hcl hg1 hs1 hen
      obtain ⟨x, hx⟩ : ∃ x, pg i = some x := by
        cases hp : pg i with
        | none => rw [HX.out.2.1 i hp] at hfi; cases hfi
        | some x => exact ⟨x, rfl⟩
      obtain ⟨av, cv, hf3, -⟩ := HX.out.2.2 i x hx
      rw [hf3] at hfi
      cases hfi
      obtain ⟨hi0, hiC, hxb, hxp⟩ := HPG.out i x hx
      obtain ⟨k, rfl⟩ : ∃ k : Nat, i = k := ⟨i.toNat, by omega⟩
      obtain ⟨hl1, hl2, hl3⟩ := HL2.out
      obtain ⟨hl4, hl5, hl6⟩ := HL.out
      have hmb := HMB.out
      have hm1 : Pm.MapAt w1 g0 pb0 cb0 (whereL C nb pg left) := HR.out.2.1.keep fun d hd => hg1.block d (by rcases hd with rfl | rfl | rfl <;> omega) (fun e => by cases e; rcases hd with h | h | h <;> omega)
      have hbA : Below w1.heap.size w1 (w1.alloc (fob 46 x av cv)) := (Below.refl _ _).alloc (Nat.le_refl _) _
      have hS := (Pm.set_in (hm1.below hbA) k x.b x.p (show k < C + 1 by omega) hxb hxp)
      rw [whereL_put C nb pg left k x hx] at hS
      have hb1 : Below w.heap.size w w1 := HR.out.2.2.trans (grown_below' hg1 (fun d hd => by cases hd; omega) HR.out.2.2.size)
      have HS := Lib.hid hS
      have HB1 := Lib.hid (And.intro hb1 (And.intro hbA (And.intro hrg1 (And.intro hrg hcl))))
      have hsA : (w1.alloc (fob 46 x av cv)).heap.size = w1.heap.size + 1 := by simp
      have HSA := Lib.hid hsA
      clear hS hm1 hbA hb1 hrg1 hrg hg1 hf3 hx hl1 hl2 hl3 hl4 hl5 hl6 hmb hcl hG hsA
      go_wp2_with fail
      (with_reducible refine HS.out.mono ?_)
      rintro e w2 ⟨rfl, hm2, ho2⟩
      obtain ⟨hl1, hl2, hl3⟩ := HL2.out
      obtain ⟨hl4, hl5, hl6⟩ := HL.out
      have hmb := HMB.out
      have hs1' := HSA.out
      have hs2 := ho2.size
      have hrg2 := HB1.out.2.2.1.keep (w' := w2) ((ho2.block mb (by omega) (fun h => by rcases h with h | h <;> omega)).trans (HB1.out.2.1.block mb (by omega))) ((ho2.block w10.heap.size (by omega) (fun h => by rcases h with h | h <;> omega)).trans (HB1.out.2.1.block w10.heap.size (by omega)))
      have hb2 : Below w.heap.size w w2 := HB1.out.1.trans ((HB1.out.2.1.mono HB1.out.1.size).trans (ho2.toBelow (fun d hd => by rcases hd with rfl | rfl <;> omega) (by have := HB1.out.1.size; omega)))
      have HF := Lib.hid (And.intro hrg2 (And.intro hm2 (And.intro hb2 (And.intro (show w10.heap.size < w2.heap.size by omega) (show w2.rangeLeft mb w10.heap.size < wr.rangeLeft mb w10.heap.size by rw [hrg2.left_eq, HB1.out.2.2.2.1.left_eq]; exact HB1.out.2.2.2.2)))))
      clear hrg2 hm2 hb2 ho2 hl1 hl2 hl3 hl4 hl5 hl6 hmb hs2 hs1'
      go_wp2
      go_roundw
      case rel => exact ⟨_, cnt1, HF.out.1, HF.out.2.1, HF.out.2.2.1, HF.out.2.2.2.1⟩
      case measure => exact HF.out.2.2.2.2
end Go.Proofs.YtmhmmemmdekjhaaDoor.Sc
namespace Go.Proofs.YtmhmmemmdekjhaaDoor.Sc
open Go.RowKit
open Drawbar Drawbar.Sheet Drawbar.Nand Drawbar.Scan Drawbar.Gm Go.Proofs.YtmhmmemmdekjhaaDoor.Nd

set_option maxRecDepth 100000 in
theorem fits_nil (b p s : Int) (a : Option Addr) (n c : Nat) (w : World) :
    Calls Tryd.prog 35 #[.pointer none, Pn.geo b p s a n c] w fun e w' => e = .returned (.int .i64 5) ∧ Below w.heap.size w w' := by
  unfold Pn.geo
  have hbx : Below w.heap.size w (w.alloc (Pn.boxed b p s a n c)) := (Below.refl _ _).alloc (Nat.le_refl _) _
  go_enter Tryd.func35, Tryd.ntmps35
  go_wp2
  go_ret
  exact ⟨rfl, hbx⟩

/-- Form answers fb. -/
def Forms (w : World) (b p s : Int) (a : Option Addr) (n c : Nat) (fb : Bool) : Prop :=
  ∀ W, Below w.heap.size w W → Calls Tryd.prog 70 #[Pn.geo b p s a n c] W fun e w' => e = .returned (.bool fb) ∧ Below W.heap.size W w'

set_option maxRecDepth 100000 in
set_option maxHeartbeats 4000000 in
theorem fits_any {w : World} {F : Nat → Prop} {g : Nat} {ar : Arr} (h : ArrAt w F g ar) (b p s : Int) (a : Option Addr) (n c : Nat) (fb : Bool) (hF : Forms w b p s a n c fb) :
    Calls Tryd.prog 35 #[.pointer (some ⟨g, 0, none⟩), Pn.geo b p s a n c] w fun e w' => e = .returned (.int .i64 (if fb = true ∧ (ar.n : Int) = b ∧ (ar.pages : Int) = p then 0 else 1)) ∧ Below w.heap.size w w' := by
  have hbx : Below w.heap.size w (w.alloc (Pn.boxed b p s a n c)) := (Below.refl _ _).alloc (Nat.le_refl _) _
  have hcells := Pn.boxed_cells w b p s a n c
  have hsz0 : (w.alloc (Pn.boxed b p s a n c)).heap.size = w.heap.size + 1 := by simp
  have HF := Lib.hid (fun W (hb : Below (w.alloc (Pn.boxed b p s a n c)).heap.size (w.alloc (Pn.boxed b p s a n c)) W) => hF W (hbx.trans (hb.mono (by rw [hsz0]; omega))))
  have HBL := Lib.hid (fun W (hb : Below (w.alloc (Pn.boxed b p s a n c)).heap.size (w.alloc (Pn.boxed b p s a n c)) W) => blocks_at (h.keep (hbx.trans (hb.mono (by rw [hsz0]; omega)))))
  have HPG := Lib.hid (fun W (hb : Below (w.alloc (Pn.boxed b p s a n c)).heap.size (w.alloc (Pn.boxed b p s a n c)) W) => pages_at (h.keep (hbx.trans (hb.mono (by rw [hsz0]; omega)))))
  have HC := Lib.hid hcells
  have HB := Lib.hid (fun W (hb : Below (w.alloc (Pn.boxed b p s a n c)).heap.size (w.alloc (Pn.boxed b p s a n c)) W) => hbx.trans (hb.mono (by rw [hsz0]; omega)))
  have hb0 := Pn.drew_below (w.alloc (Pn.boxed b p s a n c))
  have hq0 := hcells _ hb0
  unfold Pn.geo at HF ⊢
  have hcase : (fb = false ∧ (if fb = true ∧ (ar.n : Int) = b ∧ (ar.pages : Int) = p then (0 : Int) else 1) = 1) ∨ (fb = true ∧ ((ar.n : Int) != b) = true ∧ (if fb = true ∧ (ar.n : Int) = b ∧ (ar.pages : Int) = p then (0 : Int) else 1) = 1) ∨
      (fb = true ∧ ((ar.n : Int) != b) = false ∧ ((ar.pages : Int) != p) = true ∧ (if fb = true ∧ (ar.n : Int) = b ∧ (ar.pages : Int) = p then (0 : Int) else 1) = 1) ∨ (fb = true ∧ ((ar.n : Int) != b) = false ∧ ((ar.pages : Int) != p) = false ∧ (if fb = true ∧ (ar.n : Int) = b ∧ (ar.pages : Int) = p then (0 : Int) else 1) = 0) := by
    simp only [bne_iff_ne, ne_eq, bne_eq_false_iff_eq]
    cases fb with
    | false => exact .inl ⟨rfl, by simp⟩
    | true =>
      by_cases e1 : (ar.n : Int) = b
      · by_cases e2 : (ar.pages : Int) = p
        · exact .inr (.inr (.inr ⟨rfl, e1, e2, by rw [if_pos ⟨rfl, e1, e2⟩]⟩))
        · exact .inr (.inr (.inl ⟨rfl, e1, e2, by rw [if_neg (fun h => e2 h.2.2)]⟩))
      · exact .inr (.inl ⟨rfl, e1, by rw [if_neg (fun h => e1 h.2.1)]⟩)
  generalize (if fb = true ∧ (ar.n : Int) = b ∧ (ar.pages : Int) = p then (0 : Int) else 1) = z at *
  clear hcells h hF hbx hsz0
  rcases hcase with ⟨rfl, rfl⟩ | ⟨rfl, q1, rfl⟩ | ⟨rfl, q1, q2, rfl⟩ | ⟨rfl, q1, q2, rfl⟩
  · go_enter Tryd.func35, Tryd.ntmps35
    obtain ⟨x0, x1, x2, x3⟩ := hq0
    go_wp2_with fail
    first
      | (go_region_with (first
          | (go_at_call 70; ((with_reducible refine (HF.out _ (by assumption)).mono ?_); rintro e w9 ⟨rfl, hb9⟩; have hb19 := (show Below (w.alloc (Pn.boxed b p s a n c)).heap.size (w.alloc (Pn.boxed b p s a n c)) _ by assumption).trans (hb9.mono (show Below (w.alloc (Pn.boxed b p s a n c)).heap.size (w.alloc (Pn.boxed b p s a n c)) _ by assumption).size); have hq9 := HC.out _ hb19; obtain ⟨y0, y1, y2, y3⟩ := hq9))
          | (go_at_call 71; ((with_reducible refine (HBL.out _ (by assumption)).mono ?_); rintro e w9 ⟨rfl, rfl⟩))
          | (go_at_call 72; ((with_reducible refine (HPG.out _ (by assumption)).mono ?_); rintro e w9 ⟨rfl, rfl⟩))))
      | fail
    all_goals
      go_wp2
      go_ret
      exact ⟨rfl, HB.out _ (by assumption)⟩
  · go_enter Tryd.func35, Tryd.ntmps35
    obtain ⟨x0, x1, x2, x3⟩ := hq0
    go_wp2_with fail
    first
      | (go_region_with (first
          | (go_at_call 70; ((with_reducible refine (HF.out _ (by assumption)).mono ?_); rintro e w9 ⟨rfl, hb9⟩; have hb19 := (show Below (w.alloc (Pn.boxed b p s a n c)).heap.size (w.alloc (Pn.boxed b p s a n c)) _ by assumption).trans (hb9.mono (show Below (w.alloc (Pn.boxed b p s a n c)).heap.size (w.alloc (Pn.boxed b p s a n c)) _ by assumption).size); have hq9 := HC.out _ hb19; obtain ⟨y0, y1, y2, y3⟩ := hq9))
          | (go_at_call 71; ((with_reducible refine (HBL.out _ (by assumption)).mono ?_); rintro e w9 ⟨rfl, rfl⟩))
          | (go_at_call 72; ((with_reducible refine (HPG.out _ (by assumption)).mono ?_); rintro e w9 ⟨rfl, rfl⟩))))
      | fail
    all_goals
      go_wp2
      go_ret
      exact ⟨rfl, HB.out _ (by assumption)⟩
  · go_enter Tryd.func35, Tryd.ntmps35
    go_wp2_with fail
    go_region_held (fun W => W.cell? ⟨w.heap.size, 0, none⟩ = some (.int .i64 b) ∧ W.cell? ⟨w.heap.size, 1, none⟩ = some (.int .i64 p) ∧ W.cell? ⟨w.heap.size, 2, none⟩ = some (.int .i64 s) ∧ W.cell? ⟨w.heap.size, 3, none⟩ = some (.slice a n c)) (first | exact hq0 | exact hq9) (first
          | (go_at_call 70; ((with_reducible refine (HF.out _ (by assumption)).mono ?_); rintro e w9 ⟨rfl, hb9⟩; have hb19 := (show Below (w.alloc (Pn.boxed b p s a n c)).heap.size (w.alloc (Pn.boxed b p s a n c)) _ by assumption).trans (hb9.mono (show Below (w.alloc (Pn.boxed b p s a n c)).heap.size (w.alloc (Pn.boxed b p s a n c)) _ by assumption).size); have hq9 := HC.out _ hb19))
          | (go_at_call 71; ((with_reducible refine (HBL.out _ (by assumption)).mono ?_); rintro e w9 ⟨rfl, rfl⟩))
          | (go_at_call 72; ((with_reducible refine (HPG.out _ (by assumption)).mono ?_); rintro e w9 ⟨rfl, rfl⟩)))
    all_goals
      go_wp2
      go_ret
      exact ⟨rfl, HB.out _ (by assumption)⟩
  · go_enter Tryd.func35, Tryd.ntmps35
    go_wp2_with fail
    go_region_held (fun W => W.cell? ⟨w.heap.size, 0, none⟩ = some (.int .i64 b) ∧ W.cell? ⟨w.heap.size, 1, none⟩ = some (.int .i64 p) ∧ W.cell? ⟨w.heap.size, 2, none⟩ = some (.int .i64 s) ∧ W.cell? ⟨w.heap.size, 3, none⟩ = some (.slice a n c)) (first | exact hq0 | exact hq9) (first
          | (go_at_call 70; ((with_reducible refine (HF.out _ (by assumption)).mono ?_); rintro e w9 ⟨rfl, hb9⟩; have hb19 := (show Below (w.alloc (Pn.boxed b p s a n c)).heap.size (w.alloc (Pn.boxed b p s a n c)) _ by assumption).trans (hb9.mono (show Below (w.alloc (Pn.boxed b p s a n c)).heap.size (w.alloc (Pn.boxed b p s a n c)) _ by assumption).size); have hq9 := HC.out _ hb19))
          | (go_at_call 71; ((with_reducible refine (HBL.out _ (by assumption)).mono ?_); rintro e w9 ⟨rfl, rfl⟩))
          | (go_at_call 72; ((with_reducible refine (HPG.out _ (by assumption)).mono ?_); rintro e w9 ⟨rfl, rfl⟩)))
    all_goals
      go_wp2
      go_ret
      exact ⟨rfl, HB.out _ (by assumption)⟩
end Go.Proofs.YtmhmmemmdekjhaaDoor.Sc
namespace Go.Proofs.YtmhmmemmdekjhaaDoor.Sc
open Go.RowKit
open Drawbar Drawbar.Sheet Drawbar.Nand Drawbar.Scan Drawbar.Gm Go.Proofs.YtmhmmemmdekjhaaDoor.Nd

set_option maxRecDepth 100000 in
theorem block_nil (b p s : Int) (a : Option Addr) (n c : Nat) (i : Int) (w : World) :
    Calls Tryd.prog 13 #[.pointer none, Pn.geo b p s a n c, .int .i64 i] w (Tell w [] 5) := by
  have hF := fits_nil b p s a n c (w.alloc (Pn.boxed b p s a n c))
  have hbx : Below w.heap.size w (w.alloc (Pn.boxed b p s a n c)) := (Below.refl _ _).alloc (Nat.le_refl _) _
  unfold Pn.geo at hF ⊢
  have HF := Lib.hid hF
  have HB := Lib.hid hbx
  clear hF hbx
  go_enter Tryd.func13, Tryd.ntmps13
  go_wp2_with fail
  (with_reducible refine HF.out.mono ?_)
  rintro e w2 ⟨rfl, hb2⟩
  have HB2 := Lib.hid (tell_nil w w2 5 (HB.out.trans (hb2.mono HB.out.size)))
  clear hb2
  go_wp2
  go_ret2
  exact HB2.out

/-- A geometry with the form, of an array: its usable blocks us, its address Meta C. -/
structure Geom (w : World) (ar : Arr) (b p s : Int) (B : List Int) (a : Option Addr) (C : Nat) : Prop where
  rd : Pn.RdI w a B
  len : B.length ≤ 1000
  small : Plan.Small b p s
  form : Plan.form b p s B = true
  cap : Plan.cap b p s B = C
  n : (ar.n : Int) = b
  pages : (ar.pages : Int) = p
def usb (b : Int) (B : List Int) : List Int := Plan.us B (Plan.kk b)
set_option maxRecDepth 100000 in
theorem Geom.below {w w' : World} {ar : Arr} {b p s : Int} {B : List Int} {a : Option Addr} {C : Nat} (h : Geom w ar b p s B a C) (hb : Below w.heap.size w w') : Geom w' ar b p s B a C :=
  ⟨h.rd.below hb, h.len, h.small, h.form, h.cap, h.n, h.pages⟩
set_option maxRecDepth 100000 in
theorem us_nodup (B : List Int) (k : Nat) : (Plan.us B k).Nodup := by
  induction k with
  | zero => exact List.nodup_nil
  | succ k ih =>
    show (Plan.us B k ++ _).Nodup
    refine List.nodup_append.2 ⟨ih, by split <;> simp, fun x hx y hy e => ?_⟩
    have h1 := ((Plan.mem_us B k x).1 hx).2.1
    split at hy
    · cases hy
    · simp at hy; omega
set_option maxRecDepth 100000 in
theorem Geom.blocks {w : World} {ar : Arr} {b p s : Int} {B : List Int} {a : Option Addr} {C : Nat} (h : Geom w ar b p s B a C) : Blocks ar.n (usb b B) := by
  refine ⟨fun i hi => ?_, us_nodup _ _⟩
  have h1 := (Plan.mem_us B _ i).1 hi
  have h2 := h.n
  unfold Plan.kk at h1
  omega
set_option maxRecDepth 100000 in
theorem Geom.us_lt {w : World} {ar : Arr} {b p s : Int} {B : List Int} {a : Option Addr} {C : Nat} (_ : Geom w ar b p s B a C) : (usb b B).length ≤ 62 := Plan.us_le B b
set_option maxRecDepth 100000 in
theorem Geom.forms {w : World} {ar : Arr} {b p s : Int} {B : List Int} {a : Option Addr} {C c : Nat} (h : Geom w ar b p s B a C) : Forms w b p s a B.length c true := fun W hb => by
  have := Pn.form_any b p s B a c W (h.rd.below hb) h.len h.small
  rw [h.form] at this
  exact this
set_option maxRecDepth 100000 in
theorem Geom.fits {w : World} {F : Nat → Prop} {g : Nat} {ar : Arr} (hA : ArrAt w F g ar) {b p s : Int} {B : List Int} {a : Option Addr} {C c : Nat} (h : Geom w ar b p s B a C) :
    Calls Tryd.prog 35 #[.pointer (some ⟨g, 0, none⟩), Pn.geo b p s a B.length c] w fun e w' => e = .returned (.int .i64 0) ∧ Below w.heap.size w w' := by
  have := fits_any hA b p s a B.length c true h.forms
  rw [if_pos ⟨rfl, h.n, h.pages⟩] at this
  exact this
set_option maxRecDepth 100000 in
theorem usable_at {w : World} {ar : Arr} {b p s : Int} {B : List Int} {a : Option Addr} {C : Nat} (h : Geom w ar b p s B a C) (c : Nat) : Calls Tryd.prog 37 #[Pn.geo b p s a B.length c] w (Pn.NewInts w (usb b B)) := Pn.usable_any b p s B a c w h.rd h.len
set_option maxRecDepth 100000 in
theorem meta_at {w : World} {ar : Arr} {b p s : Int} {B : List Int} {a : Option Addr} {C : Nat} (h : Geom w ar b p s B a C) (c : Nat) : Calls Tryd.prog 39 #[Pn.geo b p s a B.length c] w fun e w' => e = .returned (.int .i64 C) ∧ Below w.heap.size w w' := by
  have := Pn.meta_any b p s B a c w h.rd h.len h.small
  rw [h.cap] at this
  exact this

set_option maxRecDepth 100000 in
set_option maxHeartbeats 2000000 in
theorem block_on {w : World} {F : Nat → Prop} {g : Nat} {ar : Arr} (hA : ArrAt w F g ar) {b p s : Int} {B : List Int} {a : Option Addr} {C c : Nat} (h : Geom w ar b p s B a C) (hoff : ar.off = false) (hT : Tab w) (i : Int) :
    Calls Tryd.prog 13 #[.pointer (some ⟨g, 0, none⟩), Pn.geo b p s a B.length c, .int .i64 i] w (if i ∈ usb b B then Tell w (blockF C ar i.toNat) 0 else Tell w [] 1) := by
  have hbx : Below w.heap.size w (w.alloc (Pn.boxed b p s a B.length c)) := (Below.refl _ _).alloc (Nat.le_refl _) _
  have hcells := Pn.boxed_cells w b p s a B.length c
  have hsz0 : (w.alloc (Pn.boxed b p s a B.length c)).heap.size = w.heap.size + 1 := by simp
  obtain ⟨x0, x1, x2, x3⟩ := hcells _ (Below.refl _ _)
  have HF := Lib.hid (Geom.fits (c := c) (hA.keep hbx) (h.below hbx))
  have hul := h.us_lt
  have HC := Lib.hid (fun W (hb : Below (w.alloc (Pn.boxed b p s a B.length c)).heap.size (w.alloc (Pn.boxed b p s a B.length c)) W) => hcells W hb)
  have HBW := Lib.hid (fun W (hb : Below (w.alloc (Pn.boxed b p s a B.length c)).heap.size (w.alloc (Pn.boxed b p s a B.length c)) W) => hbx.trans (hb.mono (by rw [hsz0]; omega)))
  have HU := Lib.hid (fun W (hb : Below w.heap.size w W) => usable_at (h.below hb) c)
  have HM := Lib.hid (fun W (hb : Below w.heap.size w W) => meta_at (h.below hb) c)
  have HCT := Lib.hid (fun W a2 c2 (hr : Pn.RdI W a2 (usb b B)) => Pn.contains_any (usb b B) a2 c2 i W hr (by omega))
  have HR := Lib.hid (fun W (hb : Below w.heap.size w W) (hi : i ∈ usb b B) => (by
    have hrg := h.blocks.rng i hi
    have := read_on (hA.keep hb) i.toNat (by omega) C hoff (hT.below hb hT.pos)
    rw [Int.toNat_of_nonneg hrg.1] at this
    exact this : Calls Tryd.prog 38 #[.pointer (some ⟨g, 0, none⟩), .int .i64 i, .int .i64 C] W (Tell W (blockF C ar i.toNat) 0)))
  unfold Pn.geo at HF HU HM ⊢
  clear hbx hcells hsz0 h hA hoff hT
  by_cases hi : i ∈ usb b B
  · rw [if_pos hi]
    have HI := Lib.hid hi
    have hd : decide (i ∈ usb b B) = true := decide_eq_true hi
    clear hi
    generalize usb b B = us at *
    go_enter Tryd.func13, Tryd.ntmps13
    go_wp2_with fail
    (with_reducible refine HF.out.mono ?_)
    rintro e w2 ⟨rfl, hb2⟩
    obtain ⟨y0, y1, y2, y3⟩ := HC.out _ hb2
    have HB2 := Lib.hid hb2
    clear hb2 x0 x1 x2 x3
    go_wp2_with fail
    (with_reducible refine (HU.out _ (HBW.out _ HB2.out)).mono ?_)
    rintro e w3 ⟨a3, c3, rfl, hr3, hb3⟩
    have hb23 := HB2.out.trans (hb3.mono HB2.out.size)
    obtain ⟨z0, z1, z2, z3⟩ := HC.out _ hb23
    have HB3 := Lib.hid hb23
    have HCC := Lib.hid (HCT.out w3 a3 c3 hr3)
    clear hb3 hr3 hb23 y0 y1 y2 y3
    go_wp2_with fail
    (with_reducible refine HCC.out.mono ?_)
    rintro e w4 ⟨rfl, rfl⟩
    rw [hd]
    clear hd
    go_wp2_with fail
    (with_reducible refine (HM.out _ (HBW.out _ HB3.out)).mono ?_)
    rintro e w5 ⟨rfl, hb5⟩
    have HB5 := Lib.hid (HBW.out _ (HB3.out.trans (hb5.mono HB3.out.size)))
    clear hb5 z0 z1 z2 z3
    go_wp2_with fail
    (with_reducible refine (HR.out _ HB5.out HI.out).mono ?_)
    rintro e w6 ⟨a6, c6, rfl, hf6, hn6, hb6⟩
    have HF6 := Lib.hid (⟨a6, c6, rfl, hf6, hn6, HB5.out.trans (hb6.mono HB5.out.size)⟩ : Tell w (blockF C ar i.toNat) 0 (.returned (.tuple #[.slice a6 (blockF C ar i.toNat).length c6, .int .i64 0])) w6)
    clear hf6 hn6 hb6
    go_wp2
    go_ret2
    exact HF6.out
  · rw [if_neg hi]
    have hd : decide (i ∈ usb b B) = false := decide_eq_false hi
    clear hi
    generalize usb b B = us at *
    go_enter Tryd.func13, Tryd.ntmps13
    go_wp2_with fail
    (with_reducible refine HF.out.mono ?_)
    rintro e w2 ⟨rfl, hb2⟩
    obtain ⟨y0, y1, y2, y3⟩ := HC.out _ hb2
    have HB2 := Lib.hid hb2
    clear hb2 x0 x1 x2 x3
    go_wp2_with fail
    (with_reducible refine (HU.out _ (HBW.out _ HB2.out)).mono ?_)
    rintro e w3 ⟨a3, c3, rfl, hr3, hb3⟩
    have hb23 := HB2.out.trans (hb3.mono HB2.out.size)
    have HF3 := Lib.hid (tell_nil w w3 1 (HBW.out _ hb23))
    have HCC := Lib.hid (HCT.out w3 a3 c3 hr3)
    clear hb3 hr3 hb23 y0 y1 y2 y3
    go_wp2_with fail
    (with_reducible refine HCC.out.mono ?_)
    rintro e w4 ⟨rfl, rfl⟩
    rw [hd]
    clear hd
    go_wp2
    go_ret2
    exact HF3.out
end Go.Proofs.YtmhmmemmdekjhaaDoor.Sc
