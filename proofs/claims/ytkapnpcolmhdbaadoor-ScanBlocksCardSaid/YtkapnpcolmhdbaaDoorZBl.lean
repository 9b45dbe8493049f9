/- The contract of the law's same. The walk of the law ScanBlocks, over what its array and the document's Pages tell. -/
import Derived.Test.YtkapnpcolmhdbaaDoorFnd
import Derived.Test.YtkapnpcolmhdbaaDoorSame
import Derived.Test.YtkapnpcolmhdbaaDoorZMc
import Derived.Test.YtkapnpcolmhdbaaDoorZSe
import Derived.Deep.RegionHeld
import Derived.Deep.CutRange
import Derived.BigQuiet
import Derived.Deep.QuietTactic
namespace Drawbar.Scan
open Drawbar Drawbar.Sheet
/-- Is what was found that? -/
def sameF (x y : Fnd) : Bool := decide (x.b = y.b ∧ x.p = y.p) && sameS x.s y.s
set_option maxRecDepth 100000 in
theorem sameF_true {x y : Fnd} : sameF x y = true ↔ x = y := by
  unfold sameF
  rw [Bool.and_eq_true, decide_eq_true_eq, same_true]
  constructor
  · rintro ⟨⟨h1, h2⟩, h3⟩
    cases x; cases y; simp_all
  · rintro rfl; exact ⟨⟨rfl, rfl⟩, rfl⟩
end Drawbar.Scan
namespace Go.Proofs.YtkapnpcolmhdbaaDoor.Sc
open Go.RowKit
open Drawbar Drawbar.Sheet Drawbar.Nand Drawbar.Scan Go.Proofs.YtkapnpcolmhdbaaDoor.Nd
def fagg (x : Fnd) (v : Value) : Value := .agg #[.int .i64 x.b, .int .i64 x.p, .int .u8 x.s.k, .int .u64 x.s.ep, .int .u64 x.s.sq, .int .i64 x.s.ad, .int .i64 x.s.fr, v]
set_option maxRecDepth 100000 in
set_option maxHeartbeats 4000000 in
theorem same_any (x y : Fnd) (v u : Value) (w : World) (hv : DaAt w v x.s.da) (hu : DaAt w u y.s.da) :
    Calls Tryd.prog 10 #[fagg x v, fagg y u] w fun e w' => e = .returned (.bool (sameF x y)) ∧ Below w.heap.size w w' := by
  obtain ⟨a, c, rfl, hr, hc, hn⟩ := hv
  obtain ⟨a2, c2, rfl, hr2, hc2, hn2⟩ := hu
  have HS := Lib.hid (fun W (hb : Below w.heap.size w W) => ssame_any x.s y.s a a2 c c2 W (hr.below hb) (hr2.below hb))
  obtain ⟨q, hq⟩ : ∃ q, sameF x y = q := ⟨_, rfl⟩
  rw [hq]
  unfold sameF at hq
  unfold fagg
  have HB := Lib.hid (fun o o' o'' => ((((Below.refl w.heap.size w).alloc (Nat.le_refl _) o).alloc (show w.heap.size ≤ (w.alloc o).heap.size by simp) o').alloc (show w.heap.size ≤ ((w.alloc o).alloc o').heap.size by simp; omega) o''))
  unfold sv at HS
  clear hr hc hn hr2 hc2 hn2
  by_cases h1 : x.b = y.b ∧ x.p = y.p
  · have e1 : ((x.b : Int) == (y.b : Int)) = true := by simp; omega
    have e2 : ((x.p : Int) == (y.p : Int)) = true := by simp; omega
    rw [decide_eq_true h1, Bool.true_and] at hq
    rw [hq] at HS
    have HQ := Lib.hid hq
    clear hq h1
    go_enter Tryd.func10, Tryd.ntmps10
    go_wp2_with fail
    (with_reducible refine (HS.out _ (HB.out _ _ _)).mono ?_)
    rintro e w5 ⟨rfl, hb5⟩
    have HB5 := Lib.hid (And.intro hb5 HB)
    clear hb5
    go_wp2
    go_ret
    exact ⟨rfl, (HB5.out.2.out _ _ _).trans (HB5.out.1.mono (HB5.out.2.out _ _ _).size)⟩
  · rw [decide_eq_false h1, Bool.false_and] at hq
    subst hq
    go_enter Tryd.func10, Tryd.ntmps10
    go_wp2
    all_goals
      go_ret
      exact ⟨rfl, HB.out _ _ _⟩
end Go.Proofs.YtkapnpcolmhdbaaDoor.Sc
namespace Drawbar.Scan
open Drawbar Drawbar.Sheet Drawbar.Nand
/-- The usable blocks ahead of block j - 1. -/
def usB (us : List Int) (j : Nat) : List Int := us.filter fun i => decide (i < (j : Int) - 1)
set_option maxRecDepth 100000 in
theorem heldI_app (m : Int) (s : Arr) (a b : List Int) : heldI m s (a ++ b) = heldI m s a ++ heldI m s b := by
  unfold heldI
  rw [List.flatMap_append]
end Drawbar.Scan
namespace Go.Proofs.YtkapnpcolmhdbaaDoor.Sc
open Go.RowKit
open Drawbar Drawbar.Sheet Drawbar.Nand Drawbar.Scan Drawbar.Gm Go.Proofs.YtkapnpcolmhdbaaDoor.Nd
set_option maxRecDepth 100000 in
theorem usB_all : ∀ n, n < 256 → usB (gus n) 0 = [] ∧ usB (gus n) (gN n + 2) = gus n ∧ ∀ j, j < 12 → usB (gus n) (j + 1) = usB (gus n) j ++ (if ((j : Int) - 1) ∈ gus n then [(j : Int) - 1] else []) ∧ gus n = usB (gus n) (j + 1) ++ (gus n).drop (usB (gus n) (j + 1)).length := by
  have h : ((List.range 256).all fun n => decide (usB (gus n) 0 = []) && decide (usB (gus n) (gN n + 2) = gus n) && (List.range 12).all fun j => decide (usB (gus n) (j + 1) = usB (gus n) j ++ (if ((j : Int) - 1) ∈ gus n then [(j : Int) - 1] else [])) && decide (gus n = usB (gus n) (j + 1) ++ (gus n).drop (usB (gus n) (j + 1)).length)) = true := by decide +kernel
  intro n hn
  have h1 := List.all_eq_true.1 h n (List.mem_range.2 hn)
  simp only [Bool.and_eq_true] at h1
  refine ⟨of_decide_eq_true h1.1.1, of_decide_eq_true h1.1.2, fun j hj => ?_⟩
  have h2 := List.all_eq_true.1 h1.2 j (List.mem_range.2 hj)
  simp only [Bool.and_eq_true] at h2
  exact ⟨of_decide_eq_true h2.1, of_decide_eq_true h2.2⟩
/-- What Block tells of block b. -/
noncomputable def fOf (n : Nat) (s : Arr) (b : Int) : List Fnd := if b ∈ gus n then blockF (gCn n) s b.toNat else []
set_option maxRecDepth 100000 in
theorem held_step (n : Nat) (hn : n < 256) (s : Arr) (j : Nat) (hj : j < 12) : ∃ r, heldI (gCn n) s (usB (gus n) (j + 1)) = heldI (gCn n) s (usB (gus n) j) ++ fOf n s ((j : Int) - 1) ∧ heldI (gCn n) s (gus n) = heldI (gCn n) s (usB (gus n) j) ++ fOf n s ((j : Int) - 1) ++ r := by
  obtain ⟨-, -, h⟩ := usB_all n hn
  obtain ⟨h1, h2⟩ := h j hj
  have e1 : heldI (gCn n) s (usB (gus n) (j + 1)) = heldI (gCn n) s (usB (gus n) j) ++ fOf n s ((j : Int) - 1) := by
    rw [h1, heldI_app]
    unfold fOf
    split
    · congr 1; unfold heldI; simp
    · rfl
  refine ⟨heldI (gCn n) s ((gus n).drop (usB (gus n) (j + 1)).length), e1, ?_⟩
  rw [← e1, ← heldI_app, ← h2]
set_option maxRecDepth 100000 in
theorem fOf_len (n : Nat) (s : Arr) (b : Int) (h : ∀ i, i < gN n → (showS s i).length ≤ 32) : (fOf n s b).length ≤ 32 := by
  unfold fOf
  split
  · next hb =>
    have := gus_rng n b hb
    rw [blockF_show]
    exact Nat.le_trans (foundTo_len _ _ _ _) (h _ (by omega))
  · exact Nat.zero_le _
set_option maxRecDepth 100000 in
theorem shown_96 {w : World} {F : Nat → Prop} {g : Nat} {s : Arr} (hA : ArrAt w F g s) (b : Nat) (hb : b < s.n) (k : Nat) (hk : k < (showS s b).length) : ((showS s b).getD k []).length = 96 ∧ ∀ x ∈ (showS s b).getD k [], x < 256 := by
  unfold showS at hk ⊢
  split at hk
  · cases hk
  · next ht =>
    rw [if_neg ht]
    refine ⟨arr_96 hA b hb k hk, ?_⟩
    obtain ⟨_, R, hb2, rows, pv, bv, h⟩ := hA
    obtain ⟨v, _, ⟨d, o, cap, _, _, h3, h4⟩, _⟩ := h.page b hb k _ (List.getElem?_eq_getElem hk)
    rw [List.getD_eq_getElem?_getD, List.getElem?_eq_getElem hk]
    simp only [Option.getD_some]
    exact h4.1
set_option maxRecDepth 100000 in
theorem shown_len {w : World} {F : Nat → Prop} {g : Nat} {s : Arr} (hA : ArrAt w F g s) (b : Nat) (hb : b < s.n) : (showS s b).length ≤ 32 := by
  have hwf := arr_wf hA
  have h1 := hwf.len b hb
  have h2 := hwf.p32
  unfold showS
  split
  · exact Nat.zero_le _
  · omega
/-- What the law's array tells of these happenings. -/
def ArrAny (n : Nat) : Prop := ∀ W ga gc (l : List PutV) la lc, Tab W → Bads W ga (gB n) → Puts W la l → Calls Tryd.prog 7 #[.agg #[.int .i64 (gb n), .int .i64 (gp n), .int .i64 (gs n), .slice ga (gB n).length gc], .slice la l.length lc] W (ArrQ W n)
/-- What the document's Pages tells. -/
def PgsAny (n : Nat) : Prop := ∀ W ga gc (s : Arr) oa oc, Bads W ga (gB n) → OutAt W oa (gN n) s → (∀ b, b < gN n → ∀ k, k < (showS s b).length → ((showS s b).getD k []).length = 96 ∧ ∀ x ∈ (showS s b).getD k [], x < 256) → (∀ b, b < gN n → (showS s b).length ≤ 32) →
    Calls Tryd.prog 8 #[.agg #[.int .i64 (gb n), .int .i64 (gp n), .int .i64 (gs n), .slice ga (gB n).length gc], .slice oa (gN n) oc] W (PgsQ W (heldI (gCn n) s (gus n)))
set_option maxRecDepth 100000 in
set_option maxHeartbeats 4000000 in
theorem blocks_any (n : Nat) (hn : n < 256) (hArr : ArrAny n) (hPgs : PgsAny n) (l : List PutV) (la : Option Addr) (lc : Nat) (w : World) (hT : Tab w) (hP : Puts w la l) :
    Calls Tryd.prog 3 #[.int .u8 n, .slice la l.length lc] w (Yes w) := by
  have HAW := Lib.hid (awake_any w hT)
  have HT := Lib.hid (And.intro hT hP)
  have HG := Lib.hid (fun W => (geometry_any n hn W : Calls Tryd.prog 6 #[.int .u8 n] W (Geos W n)))
  have HArr := Lib.hid hArr
  have HPgs := Lib.hid hPgs
  clear hT hP hArr hPgs
  go_enter Tryd.func3, Tryd.ntmps3
  go_wp2_with fail
  (with_reducible refine HAW.out.mono ?_)
  rintro e w1 ⟨rfl, hb1⟩
  go_wp2_with fail
  (with_reducible refine (HG.out _).mono ?_)
  rintro e w2 ⟨ga, gc, rfl, hBd, hb2⟩
  obtain ⟨w3, hw3⟩ : ∃ w3, w3 = w2.alloc (Pn.boxed (gb n) (gp n) (gs n) ga (gB n).length gc) := ⟨_, rfl⟩
  have hb23 : Below w2.heap.size w2 w3 := by rw [hw3]; exact (Below.refl _ _).alloc (Nat.le_refl _) _
  have hb13 := (hb1.trans (hb2.mono hb1.size)).trans (hb23.mono (Nat.le_trans hb1.size hb2.size))
  have HN := Lib.hid (HArr.out w3 ga gc l la lc (HT.out.1.below hb13 HT.out.1.pos) (hBd.below hb23) (HT.out.2.below hb13))
  have hgeo : w3.heap[w2.heap.size]? = some (Pn.boxed (gb n) (gp n) (gs n) ga (gB n).length gc) := by rw [hw3]; exact heap_alloc_new _ _
  have H3 := Lib.hid (And.intro (hBd.below hb23) (And.intro hb13 (And.intro hgeo (Array.getElem?_eq_some_iff.1 hgeo).1)))
  have HW3 := Lib.hid hw3
  rw [hw3] at HN
  unfold Pn.geo
  clear hb1 hb2 hb23 hb13 hBd hgeo hw3
  go_wp2_with fail
  (with_reducible refine HN.out.mono ?_)
  rintro e w4 ⟨g, oa, oc, s, rfl, hgood, hsn, hsp, hF4, hO4, hb4⟩
  rw [← HW3.out] at hF4 hb4
  obtain ⟨hBd3, hB3, hgeo3, hgl3⟩ := H3.out
  obtain ⟨⟨t0, t1, t2, t3⟩, -⟩ := four_cells ((hb4.block _ hgl3).trans hgeo3)
  obtain ⟨F4, hA4, -, -⟩ := hF4.arr
  have hlen32 : ∀ b, b < gN n → (showS s b).length ≤ 32 := fun b hb => shown_len hA4 b (by rw [hsn]; exact hb)
  have HU := Lib.hid (HPgs.out w4 ga gc s oa oc (hBd3.below hb4) hO4 (fun b hb => shown_96 hA4 b (by rw [hsn]; exact hb)) hlen32)
  have H4 := Lib.hid (And.intro hF4 (And.intro hb4 (And.intro hgood (And.intro hsn (And.intro hsp hlen32)))))
  have hAl : (heldI (gCn n) s (gus n)).length ≤ 224 := by
    have h1 := held_len (gCn n) s (gus n) (fun i hi => hlen32 i.toNat (by have := gus_rng n i hi; omega))
    have h2 := (gus_len n hn).2
    omega
  have HCL := Lib.hid (fun W (hb : Below w4.heap.size w4 W) => (four_cells (((hb4.trans (hb.mono hb4.size)).block _ hgl3).trans hgeo3)).1)
  have HBD := Lib.hid (fun W (hb : Below w4.heap.size w4 W) => hBd3.below (hb4.trans (hb.mono hb4.size)))
  have HF := Lib.hid (show Below w.heap.size w w4 from hB3.trans (hb4.mono hB3.size))
  have HBK := Lib.hid (fun W (hb : Below w4.heap.size w4 W) (b : Int) => (show Calls Tryd.prog 9 #[.pointer (some ⟨g, 0, none⟩), .agg #[.int .i64 (gb n), .int .i64 (gp n), .int .i64 (gs n), .slice ga (gB n).length gc], .int .i64 b] W (Tell W (fOf n s b) (if b ∈ gus n then 0 else 1)) from by
    have hF := hF4.keep hb
    obtain ⟨F, hA, -, -⟩ := hF.arr
    have h := block_on (c := gc) hA (geom_of hn (hBd3.below (hb4.trans (hb.mono hb4.size))) hsn hsp) hgood.off hF.tab b
    unfold Pn.geo at h
    refine h.mono fun e w' he => ?_
    unfold fOf
    by_cases hm : b ∈ gus n
    · rw [if_pos (show b ∈ usb (gb n) (gB n) from hm)] at he
      rw [if_pos hm, if_pos hm]; exact he
    · rw [if_neg (show ¬ b ∈ usb (gb n) (gB n) from hm)] at he
      rw [if_neg hm, if_neg hm]; exact he))
  clear hF4 hb4 hBd3 hB3 hgeo3 hgl3 hA4 hO4 hgood hsn hsp
  have HL32 := Lib.hid hlen32
  clear hlen32
  go_wp2_with fail
  (with_reducible refine HU.out.mono ?_)
  rintro e w5 ⟨v, rfl, hrow, hb5⟩
  obtain ⟨pa, pc, rfl, hfds, -, -⟩ := hrow.fds
  obtain ⟨AL, hAL⟩ : ∃ AL, heldI (gCn n) s (gus n) = AL := ⟨_, rfl⟩
  rw [hAL] at hfds hAl ⊢
  clear t0 t1 t2 t3
  have HAL := Lib.hid (And.intro hAL (And.intro hfds (And.intro hb5 hAl)))
  obtain ⟨PL, hPL⟩ : ∃ PL : Nat → Nat, PL = fun j => (heldI (gCn n) s (usB (gus n) j)).length := ⟨_, rfl⟩
  have hP0 : PL 0 = 0 := by rw [hPL]; show (heldI _ s (usB (gus n) 0)).length = 0; rw [(usB_all n hn).1]; rfl
  have hPN : PL (gN n + 2) = AL.length := by rw [hPL]; show (heldI _ s (usB (gus n) (gN n + 2))).length = _; rw [(usB_all n hn).2.1, hAL]
  have hPS : ∀ j, j < 12 → ∃ r p, PL j = p.length ∧ PL (j + 1) = PL j + (fOf n s ((j : Int) - 1)).length ∧ AL = p ++ fOf n s ((j : Int) - 1) ++ r := fun j hj => by
    obtain ⟨r, h1, h2⟩ := held_step n hn s j hj
    rw [hAL] at h2
    exact ⟨r, _, by rw [hPL], by rw [hPL]; show (heldI _ s (usB (gus n) (j + 1))).length = _; rw [h1, List.length_append], h2⟩
  have HPS := Lib.hid (And.intro hPN hPS)
  clear hAL hfds hb5 hrow hAl hPN hPS hPL
  go_wp2_with fail
  go_loopw [9, 10] (fun av bv wx => ∃ j : Nat, j ≤ gN n + 2 ∧ av = .int .i64 (PL j) ∧ bv = .int .i64 ((j : Int) - 1) ∧ Below w5.heap.size w5 wx) (fun _ bv _ => gN n + 2 - (intOf bv + 1).toNat)
  case atStart => exact ⟨0, Nat.zero_le _, by rw [hP0]; rfl, rfl, Below.refl _ _⟩
  case round =>
    obtain ⟨j, hj, rfl, rfl, hbr⟩ := hrel
    have hbr4 : Below w4.heap.size w4 wr := HAL.out.2.2.1.trans (hbr.mono HAL.out.2.2.1.size)
    obtain ⟨t0, t1, t2, t3⟩ := HCL.out wr hbr4
    have hN9 := gN_le n
    have hgbe := gb_eq n
    by_cases hlt : j < gN n + 2
    · have hle : (j : Int) - 1 ≤ gb n := by omega
      obtain ⟨F, hF⟩ : ∃ F, fOf n s ((j : Int) - 1) = F := ⟨_, rfl⟩
      obtain ⟨en, hen⟩ : ∃ en : Int, (if ((j : Int) - 1) ∈ gus n then (0 : Int) else 1) = en := ⟨_, rfl⟩
      have hbk := HBK.out wr hbr4 ((j : Int) - 1)
      rw [hF, hen] at hbk
      have HK := Lib.hid hbk
      have HR := Lib.hid (And.intro hbr (And.intro hbr4 (And.intro hF (And.intro hen hlt))))
      clear hbk hbr hbr4 hF hen hlt hgbe
      go_wp2_with fail
      (with_reducible refine HK.out.mono ?_)
      rintro e w6 ⟨a6, c6, rfl, hf6, -, hb6⟩
      have HF6 := Lib.hid (And.intro hf6 hb6)
      have hbr6 : Below w4.heap.size w4 w6 := HR.out.2.1.trans (hb6.mono HR.out.2.1.size)
      obtain ⟨t0, t1, t2, t3⟩ := HCL.out w6 hbr6
      obtain ⟨zz, hzz⟩ : ∃ zz : Bool, zz = decide (((j : Int) - 1) ∈ gus n) := ⟨_, rfl⟩
      have HZ := Lib.hid hzz
      have hbd6 := HBD.out w6 hbr6
      have HB6 := Lib.hid hbr6
      clear hf6 hb6 hzz hle hbr6
      go_upto_region 13 with fail
      go_cut [13] from 43 to 65 (fun v wx => v = .bool zz ∧ wx = w6)
      case first =>
        have hz : zz = true ↔ (2 ≤ (j : Int) - 1 ∧ (j : Int) - 1 < gb n ∧ (j : Int) - 1 ∉ gB n) := by rw [HZ.out, decide_eq_true_eq, gus_mem, gb_eq]
        have hz2 : ¬ (2 ≤ (j : Int) - 1 ∧ (j : Int) - 1 < gb n ∧ (j : Int) - 1 ∉ gB n) → zz = false := fun h => by
          cases zz with
          | false => rfl
          | true => exact absurd (hz.1 rfl) h
        by_cases h1 : (2 : Int) ≤ (j : Int) - 1
        · by_cases h2 : (j : Int) - 1 < gb n
          · rcases gB_cases n with hB | ⟨hB, -⟩
            · obtain rfl : zz = true := hz.2 ⟨h1, h2, by rw [hB]; simp⟩
              have h3 : ¬ (0 : Int) < ((gB n).length : Int) := by rw [hB]; simp
              clear hz hz2 hB hbd6
              go_wp2
              go_meet
              exact ⟨rfl, rfl⟩
            · have h3 : (0 : Int) < ((gB n).length : Int) := by rw [hB]; simp
              obtain ⟨bb, rfl, hcB⟩ := hbd6 (by omega)
              have hc0 : w6.cell? ⟨bb, 0, none⟩ = some (.int .i64 3) := by have := hcB 0 (by omega); rw [hB] at this; exact this
              by_cases h4 : (j : Int) - 1 = 3
              · obtain rfl : zz = false := hz2 (fun h => h.2.2 (by rw [hB, h4]; simp))
                have h5 : ((j : Int) - 1 == 3) = true := by rw [h4]; rfl
                clear hz hz2 hB hbd6 hcB h4
                go_wp2
                go_meet
                exact ⟨rfl, rfl⟩
              · obtain rfl : zz = true := hz.2 ⟨h1, h2, by rw [hB]; simp; omega⟩
                have h5 : ((j : Int) - 1 == 3) = false := by simp only [beq_eq_false_iff_ne]; exact h4
                clear hz hz2 hB hbd6 hcB h4
                go_wp2
                go_meet
                exact ⟨rfl, rfl⟩
          · obtain rfl : zz = false := hz2 (fun h => h2 h.2.1)
            clear hz hz2 hbd6
            go_wp2
            go_meet
            exact ⟨rfl, rfl⟩
        · obtain rfl : zz = false := hz2 (fun h => h1 h.1)
          clear hz hz2 hbd6
          go_wp2
          go_meet
          exact ⟨rfl, rfl⟩
      case rest =>
        obtain ⟨rfl, rfl⟩ := hcut
        clear hbd6
        go_upto_region 14 with fail
        go_cut [77] from 66 to 76 (fun v wx => v = .bool false ∧ wx = wc)
        case first =>
          have he := HR.out.2.2.2.1
          cases zz
          · have hn : ¬ ((j : Int) - 1) ∈ gus n := fun h => by have := HZ.out; rw [decide_eq_true h] at this; cases this
            rw [if_neg hn] at he
            subst he
            clear hn
            go_wp2
            go_meet
            exact ⟨rfl, rfl⟩
          · have hn : ((j : Int) - 1) ∈ gus n := of_decide_eq_true HZ.out.symm
            rw [if_pos hn] at he
            subst he
            clear hn
            go_wp2
            go_meet
            exact ⟨rfl, rfl⟩
        case rest =>
          obtain ⟨rfl, rfl⟩ := hcut
          obtain ⟨r, p, hp1, hp2, hp3⟩ := HPS.out.2 j (by have := HR.out.2.2.2.2; omega)
          rw [HR.out.2.2.1] at hp2 hp3
          have hPl : PL j + F.length ≤ 224 := by
            have h1 := congrArg List.length hp3
            rw [List.length_append, List.length_append] at h1
            have := HAL.out.2.2.2
            omega
          have hget : ∀ k x, F[k]? = some x → AL[PL j + k]? = some x ∧ PL j + k < AL.length := fun k x hx => by
            have hk := (List.getElem?_eq_some_iff.1 hx).1
            rw [hp3, hp1, List.append_assoc, List.getElem?_append_right (by omega), List.getElem?_append_left (by omega), List.length_append, List.length_append]
            exact ⟨by rw [← hx]; congr 1; omega, by omega⟩
          have HGT := Lib.hid (And.intro hget hp2)
          clear hp1 hp2 hp3 hget
          obtain ⟨wE, rfl⟩ : ∃ wE, wE = wr := ⟨_, rfl⟩
          go_wp2_with fail
          go_loopw [9, 14] (fun av iv wx => ∃ k Q : Nat, k ≤ F.length ∧ Q = PL j + k ∧ av = .int .i64 Q ∧ iv = .int .i64 k ∧ Below wc.heap.size wc wx) (fun _ iv _ => F.length - (intOf iv).toNat)
          case atStart => exact ⟨0, _, Nat.zero_le _, rfl, rfl, rfl, Below.refl _ _⟩
          case round =>
            obtain ⟨k, Q, hk, hQ, rfl, rfl, hbk⟩ := hrel
            by_cases hkl : k < F.length
            · have hkl2 : (k : Int) < (F.length : Int) := by omega
              obtain ⟨x, hx⟩ : ∃ x, F[k]? = some x := ⟨_, List.getElem?_eq_getElem hkl⟩
              obtain ⟨hAx, hQA⟩ := HGT.out.1 k x hx
              rw [← hQ] at hAx hQA
              obtain ⟨bq, oq, vq, rfl, hcq, hdq⟩ := (HF6.out.1.below hbk) k x hx
              have hb5r : Below w5.heap.size w5 wr := HR.out.1.trans ((HF6.out.2.trans (hbk.mono HF6.out.2.size)).mono HR.out.1.size)
              obtain ⟨bp, op, vp, rfl, hcp, hdp⟩ := (HAL.out.2.1.below hb5r) Q x hAx
              have c0 := hcq 0 _ rfl
              have c1 := hcq 1 _ rfl
              have c2 := hcq 2 _ rfl
              have c3 := hcq 3 _ rfl
              have c4 := hcq 4 _ rfl
              have c5 := hcq 5 _ rfl
              have c6 := hcq 6 _ rfl
              have c7 := hcq 7 _ rfl
              have d0 := hcp 0 _ rfl
              have d1 := hcp 1 _ rfl
              have d2 := hcp 2 _ rfl
              have d3 := hcp 3 _ rfl
              have d4 := hcp 4 _ rfl
              have d5 := hcp 5 _ rfl
              have d6 := hcp 6 _ rfl
              have d7 := hcp 7 _ rfl
              rw [Nat.add_zero] at c0 d0
              have HSM := Lib.hid (show Calls Tryd.prog 10 #[.agg #[.int .i64 x.b, .int .i64 x.p, .int .u8 x.s.k, .int .u64 x.s.ep, .int .u64 x.s.sq, .int .i64 x.s.ad, .int .i64 x.s.fr, vq], .agg #[.int .i64 x.b, .int .i64 x.p, .int .u8 x.s.k, .int .u64 x.s.ep, .int .u64 x.s.sq, .int .i64 x.s.ad, .int .i64 x.s.fr, vp]] wr.drew (fun e w' => e = .returned (.bool true) ∧ Below wr.heap.size wr w' ∧ w'.cell? ⟨bq, oq + k * 8, none⟩ = some (.int .i64 x.b) ∧ w'.cell? ⟨bq, oq + k * 8 + 1, none⟩ = some (.int .i64 x.p) ∧ w'.cell? ⟨bq, oq + k * 8 + 2, none⟩ = some (.int .u8 x.s.k) ∧ w'.cell? ⟨bq, oq + k * 8 + 3, none⟩ = some (.int .u64 x.s.ep) ∧ w'.cell? ⟨bq, oq + k * 8 + 4, none⟩ = some (.int .u64 x.s.sq) ∧ w'.cell? ⟨bq, oq + k * 8 + 5, none⟩ = some (.int .i64 x.s.ad) ∧ w'.cell? ⟨bq, oq + k * 8 + 6, none⟩ = some (.int .i64 x.s.fr) ∧ w'.cell? ⟨bq, oq + k * 8 + 7, none⟩ = some vq ∧ w'.cell? ⟨bp, op + Q * 8, none⟩ = some (.int .i64 x.b) ∧ w'.cell? ⟨bp, op + Q * 8 + 1, none⟩ = some (.int .i64 x.p) ∧ w'.cell? ⟨bp, op + Q * 8 + 2, none⟩ = some (.int .u8 x.s.k) ∧ w'.cell? ⟨bp, op + Q * 8 + 3, none⟩ = some (.int .u64 x.s.ep) ∧ w'.cell? ⟨bp, op + Q * 8 + 4, none⟩ = some (.int .u64 x.s.sq) ∧ w'.cell? ⟨bp, op + Q * 8 + 5, none⟩ = some (.int .i64 x.s.ad) ∧ w'.cell? ⟨bp, op + Q * 8 + 6, none⟩ = some (.int .i64 x.s.fr) ∧ w'.cell? ⟨bp, op + Q * 8 + 7, none⟩ = some vp) from by
                have h := same_any x x vq vp wr.drew (hdq.below ((Below.refl _ _).drew)) (hdp.below ((Below.refl _ _).drew))
                rw [sameF_true.2 rfl] at h
                refine h.mono ?_
                rintro e w' ⟨rfl, hb⟩
                have hb2 : Below wr.heap.size wr w' := ((Below.refl _ wr).drew).trans hb
                exact ⟨rfl, hb2, (hb2.cell (p := ⟨bq, oq + k * 8, none⟩) (World.block_lt_of_cell? wr _ c0)).trans c0, (hb2.cell (p := ⟨bq, oq + k * 8 + 1, none⟩) (World.block_lt_of_cell? wr _ c1)).trans c1, (hb2.cell (p := ⟨bq, oq + k * 8 + 2, none⟩) (World.block_lt_of_cell? wr _ c2)).trans c2, (hb2.cell (p := ⟨bq, oq + k * 8 + 3, none⟩) (World.block_lt_of_cell? wr _ c3)).trans c3, (hb2.cell (p := ⟨bq, oq + k * 8 + 4, none⟩) (World.block_lt_of_cell? wr _ c4)).trans c4, (hb2.cell (p := ⟨bq, oq + k * 8 + 5, none⟩) (World.block_lt_of_cell? wr _ c5)).trans c5, (hb2.cell (p := ⟨bq, oq + k * 8 + 6, none⟩) (World.block_lt_of_cell? wr _ c6)).trans c6, (hb2.cell (p := ⟨bq, oq + k * 8 + 7, none⟩) (World.block_lt_of_cell? wr _ c7)).trans c7, (hb2.cell (p := ⟨bp, op + Q * 8, none⟩) (World.block_lt_of_cell? wr _ d0)).trans d0, (hb2.cell (p := ⟨bp, op + Q * 8 + 1, none⟩) (World.block_lt_of_cell? wr _ d1)).trans d1, (hb2.cell (p := ⟨bp, op + Q * 8 + 2, none⟩) (World.block_lt_of_cell? wr _ d2)).trans d2, (hb2.cell (p := ⟨bp, op + Q * 8 + 3, none⟩) (World.block_lt_of_cell? wr _ d3)).trans d3, (hb2.cell (p := ⟨bp, op + Q * 8 + 4, none⟩) (World.block_lt_of_cell? wr _ d4)).trans d4, (hb2.cell (p := ⟨bp, op + Q * 8 + 5, none⟩) (World.block_lt_of_cell? wr _ d5)).trans d5, (hb2.cell (p := ⟨bp, op + Q * 8 + 6, none⟩) (World.block_lt_of_cell? wr _ d6)).trans d6, (hb2.cell (p := ⟨bp, op + Q * 8 + 7, none⟩) (World.block_lt_of_cell? wr _ d7)).trans d7⟩)
              have e1 : decide (AL.length ≤ Q) = false := decide_eq_false (by omega)
              have hQ9 : Q ≤ 1000 := by have := HAL.out.2.2.2; omega
              have hQA2 : (Q : Int) < (AL.length : Int) := by omega
              have HKK := Lib.hid (And.intro hbk hQ)
              clear hcq hcp hdq hdp hx hAx hb5r hbk hQ
              go_upto_region 19 with fail
              go_cut [99] from 84 to 98 (fun p wx => p = .bool false ∧ Below wr.heap.size wr wx)
              case first =>
                go_region_held (fun W' => W'.cell? ⟨bq, oq + k * 8, none⟩ = some (.int .i64 x.b) ∧ W'.cell? ⟨bq, oq + k * 8 + 1, none⟩ = some (.int .i64 x.p) ∧ W'.cell? ⟨bq, oq + k * 8 + 2, none⟩ = some (.int .u8 x.s.k) ∧ W'.cell? ⟨bq, oq + k * 8 + 3, none⟩ = some (.int .u64 x.s.ep) ∧ W'.cell? ⟨bq, oq + k * 8 + 4, none⟩ = some (.int .u64 x.s.sq) ∧ W'.cell? ⟨bq, oq + k * 8 + 5, none⟩ = some (.int .i64 x.s.ad) ∧ W'.cell? ⟨bq, oq + k * 8 + 6, none⟩ = some (.int .i64 x.s.fr) ∧ W'.cell? ⟨bq, oq + k * 8 + 7, none⟩ = some vq ∧ W'.cell? ⟨bp, op + Q * 8, none⟩ = some (.int .i64 x.b) ∧ W'.cell? ⟨bp, op + Q * 8 + 1, none⟩ = some (.int .i64 x.p) ∧ W'.cell? ⟨bp, op + Q * 8 + 2, none⟩ = some (.int .u8 x.s.k) ∧ W'.cell? ⟨bp, op + Q * 8 + 3, none⟩ = some (.int .u64 x.s.ep) ∧ W'.cell? ⟨bp, op + Q * 8 + 4, none⟩ = some (.int .u64 x.s.sq) ∧ W'.cell? ⟨bp, op + Q * 8 + 5, none⟩ = some (.int .i64 x.s.ad) ∧ W'.cell? ⟨bp, op + Q * 8 + 6, none⟩ = some (.int .i64 x.s.fr) ∧ W'.cell? ⟨bp, op + Q * 8 + 7, none⟩ = some vp) (go_keep) (first | (go_at_call 10; (with_reducible refine HSM.out.mono ?_); rintro e w5 ⟨rfl, hb5, z0, z1, z2, z3, z4, z5, z6, z7, z8, z9, z10, z11, z12, z13, z14, z15⟩))
                all_goals
                  go_wp2
                  go_meet
                  exact ⟨rfl, hb5⟩
              case rest =>
                obtain ⟨rfl, hbc⟩ := hcut
                clear c0 c1 c2 c3 c4 c5 c6 c7 d0 d1 d2 d3 d4 d5 d6 d7
                have HC := Lib.hid hbc
                clear hbc
                go_wp2
                go_roundw
                case rel => exact ⟨k + 1, Q + 1, by omega, by have := HKK.out.2; omega, by go_num, by go_num, HKK.out.1.trans (HC.out.mono HKK.out.1.size)⟩
                case measure => simp [intOf]; omega
            · have hkl2 : ¬ (k : Int) < (F.length : Int) := by omega
              obtain rfl : k = F.length := by omega
              have HE := Lib.hid (And.intro hbk hQ)
              clear hbk hQ hk
              go_wp2
              go_roundw
              case rel => exact ⟨j + 1, by have := HR.out.2.2.2.2; omega, by rw [HGT.out.2, ← HE.out.2], by go_num, HR.out.1.trans ((HF6.out.2.trans (HE.out.1.mono HF6.out.2.size)).mono HR.out.1.size)⟩
              case measure => have := HR.out.2.2.2.2; simp [intOf]; omega
    · have hle : ¬ (j : Int) - 1 ≤ gb n := by omega
      obtain rfl : j = gN n + 2 := by omega
      have e1 : ((PL (gN n + 2) : Int) == (AL.length : Int)) = true := by rw [HPS.out.1]; simp
      have HR := Lib.hid hbr4
      clear hbr hbr4 hj hlt
      go_wp2
      go_ret
      exact ⟨rfl, HF.out.trans (HR.out.mono HF.out.size)⟩
end Go.Proofs.YtkapnpcolmhdbaaDoor.Sc
