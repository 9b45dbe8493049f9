/- What both blocks of claims hold, as plain data; the contract of logbook.read. -/
import Derived.Test.YtcbgccmoeleanaaDoorClaimed
namespace Drawbar.Log
open Go.RowKit
open Go.Proofs.YtcbgccmoeleanaaDoor Drawbar Drawbar.Sheet Drawbar.Nand

def up (x y : En) : En := if x.e < y.e then y else x
/-- The claim of the greatest epoch of some pages. -/
noncomputable def best (l : List (List Nat)) : En := l.foldl (fun x p => up x (clm p)) En.z
theorem best_snoc (l : List (List Nat)) (p : List Nat) : best (l ++ [p]) = up (best l) (clm p) := by simp [best]
theorem best_take (l : List (List Nat)) (k : Nat) (h : k < l.length) : best (l.take (k + 1)) = up (best (l.take k)) (clm (l.getD k [])) := by
  rw [List.take_succ_eq_append_getElem h, best_snoc, List.getD_eq_getElem?_getD, List.getElem?_eq_getElem h]; rfl
/-- What a block holds. -/
structure Hd where
  last : En
  torn : Bool
def Hd.z : Hd := ⟨En.z, false⟩
noncomputable def heldS (s : Arr) (i : Nat) : Hd × Int :=
  if (s.b i).pages.length = 0 then (Hd.z, 0) else if s.off = true then (Hd.z, 9) else if (s.b i).torn = true then (⟨En.z, true⟩, 0) else (⟨best (s.b i).pages, false⟩, 0)
end Drawbar.Log
namespace Go.Proofs.YtcbgccmoeleanaaDoor.Lg
open Go.RowKit
open Drawbar Drawbar.Sheet Drawbar.Nand Drawbar.Log Go.Proofs.YtcbgccmoeleanaaDoor.Nd

abbrev hv (h : Hd) : Value := .agg #[.int .u64 h.last.e, .int .i64 h.last.w, .bool h.torn]
abbrev hbox (e : Nat) (w : Int) (t : Bool) : Obj := .cells #[.int .u64 e, .int .i64 w, .bool t] 65
abbrev zhbox : Obj := .cells #[.int .u64 0, .int .i64 0, .bool false] 65

theorem arr_page {w : World} {F : Nat → Prop} {g : Nat} {s : Arr} (h : ArrAt w F g s) (i : Nat) (hi : i < s.n) (k : Nat) (hk : k < (s.b i).pages.length) : ((s.b i).pages.getD k []).length = 96 := by
  obtain ⟨_, R, hb, rows, pv, bv, h⟩ := h
  obtain ⟨v, _, ⟨d, o, cap, _, _, h3, _⟩, _⟩ := h.page i hi k _ (List.getElem?_eq_getElem hk)
  rw [List.getD_eq_getElem?_getD, List.getElem?_eq_getElem hk]
  exact h3
theorem arr_len {w : World} {F : Nat → Prop} {g : Nat} {s : Arr} (h : ArrAt w F g s) (i : Nat) (hi : i < s.n) : (s.b i).pages.length ≤ s.pages := by
  obtain ⟨_, R, hb, rows, pv, bv, h⟩ := h
  exact h.wf.len i hi
theorem arr_n {w : World} {F : Nat → Prop} {g : Nat} {s : Arr} (h : ArrAt w F g s) : Wf s := by
  obtain ⟨_, R, hb, rows, pv, bv, h⟩ := h
  exact h.wf

theorem tells_page {w w' : World} {l : List Nat} {e : Ending} (h : Tells w (0, l) e w') (h96 : l.length = 96) : ∃ b off cap, e = .returned (.tuple #[.slice (some ⟨b, off, none⟩) 96 cap, .int .i64 0]) ∧ 96 ≤ cap ∧ Rd w' (some ⟨b, off, none⟩) l ∧ Below w.heap.size w w' := by
  obtain ⟨a, cap, rfl, hc, hr, hb, _⟩ := h
  dsimp only at *
  obtain ⟨b, off, rfl, _⟩ := hr.2.2 (by omega)
  rw [h96] at hc ⊢
  exact ⟨b, off, cap, rfl, hc, hr, hb⟩
theorem tells_err {w w' : World} {n : Int} {e : Ending} (h : Tells w (n, []) e w') : ∃ a cap, e = .returned (.tuple #[.slice a 0 cap, .int .i64 n]) ∧ Below w.heap.size w w' := by
  obtain ⟨a, cap, rfl, _, hr, hb, _⟩ := h
  exact ⟨a, cap, rfl, hb⟩
theorem info_block : (Tryd.prog.info? 65).map (·.size) = some 3 := by kernel_rfl
theorem three_set {w : World} {g : Nat} {u0 u1 u2 v0 v1 v2 : Value} {t : TypeId} (h : w.heap[g]? = some (.cells #[u0, u1, u2] t (0, 0))) :
    (((w.setCell ⟨g, 0, none⟩ v0).setCell ⟨g, 1, none⟩ v1).setCell ⟨g, 2, none⟩ v2).heap[g]? = some (.cells #[v0, v1, v2] t (0, 0)) := by
  have h6 := set_one (set_one (set_one h 0 v0) 1 v1) 2 v2
  simpa using h6
theorem set3_below {B : Nat} (w : World) (g : Nat) (v0 v1 v2 : Value) (hg : B ≤ g) : Below B w (((w.setCell ⟨g, 0, none⟩ v0).setCell ⟨g, 1, none⟩ v1).setCell ⟨g, 2, none⟩ v2) :=
  ((set_below _ _ _ _ hg).trans (set_below _ _ _ _ hg)).trans (set_below _ _ _ _ hg)
theorem two_of_three {w : World} {g : Nat} {u0 u1 u2 v0 v1 : Value} {t : TypeId} (h : w.heap[g]? = some (.cells #[u0, u1, u2] t (0, 0))) :
    ((w.setCell ⟨g, 0, none⟩ v0).setCell ⟨g, 1, none⟩ v1).heap[g]? = some (.cells #[v0, v1, u2] t (0, 0)) := by
  have h6 := set_one (set_one h 0 v0) 1 v1
  simpa using h6
theorem set_heap_other (w : World) (g o d : Nat) (v : Value) (h : d ≠ g) : (w.setCell ⟨g, o, none⟩ v).heap[d]? = w.heap[d]? := Below.heap_setCell _ _ _ _ (fun e => h e)

set_option maxHeartbeats 4000000 in
theorem lgread_any {w : World} {F : Nat → Prop} {g : Nat} {s : Arr} (h : ArrAt w F g s) (i : Nat) (hi : i < s.n) (hT : Tab w) :
    Calls Tryd.prog 35 #[.pointer (some ⟨g, 0, none⟩), .int .i64 i] w fun e w' => e = .returned (.tuple #[hv (heldS s i).1, .int .i64 (heldS s i).2]) ∧ Below w.heap.size w w' := by
  obtain ⟨wq, hwq⟩ : ∃ wq, (w.alloc zhbox).alloc zhbox = wq := ⟨_, rfl⟩
  have hb1 : Below w.heap.size w (w.alloc zhbox) := (Below.refl _ _).alloc (Nat.le_refl _) _
  have hs1 : (w.alloc zhbox).heap.size = w.heap.size + 1 := by simp
  have hbq : Below (w.heap.size + 1) (w.alloc zhbox) wq := hwq ▸ (Below.refl _ _).alloc (by rw [hs1]; exact Nat.le_refl _) _
  have hBq : Below w.heap.size w wq := hb1.trans (hbq.mono (Nat.le_succ _))
  have hk4 : wq.heap[w.heap.size]? = some zhbox := (hbq.block _ (Nat.lt_succ_self _)).trans (heap_alloc_new w zhbox)
  have hk6 : wq.heap[w.heap.size + 1]? = some zhbox := by
    have hz := heap_alloc_new (w.alloc zhbox) zhbox
    rw [hs1] at hz
    exact hwq ▸ hz
  have hszq : wq.heap.size = w.heap.size + 1 + 1 := by rw [← hwq]; simp
  have hnx := next_at (h.keep hBq) i hi
  have hpl : (s.b i).pages.length ≤ 32 := Nat.le_trans (arr_len h i hi) (arr_n h).p32
  have hRD := fun W (hb : Below w.heap.size w W) (k : Nat) => read_at (h.keep hb) i k
  have hTW := fun W (hb : Below w.heap.size w W) => hT.below hb hT.pos
  have h96 := fun k hk => arr_page h i hi k hk
  have hpm := arr_len h i hi
  clear hb1 hs1 hbq h hT
  obtain ⟨n, hn⟩ : ∃ n, n = (s.b i).pages.length := ⟨_, rfl⟩
  rw [← hn] at hnx hpl
  obtain ⟨r, hr⟩ : ∃ r, r = heldS s i := ⟨_, rfl⟩
  rw [← hr]
  unfold heldS at hr
  rw [← hn] at hr
  have HNX := Lib.hid hnx
  have HRD := Lib.hid hRD
  have HTW := Lib.hid hTW
  have H96 := Lib.hid h96
  have HN := Lib.hid hn
  have HR := Lib.hid hr
  have HPM := Lib.hid hpm
  clear hnx hRD hTW h96 hn hr hpm
  go_enter Tryd.func35, Tryd.ntmps35
  go_wp2_with fail
  refine HNX.out.mono ?_
  rintro e w1 ⟨rfl, rfl⟩
  clear HNX
  go_wp2
  go_loopw [14] (fun iv wr => ∃ (k : Nat) (x : En), k ≤ n ∧ iv = .int .i64 k ∧ x = best ((s.b i).pages.take k) ∧ (0 < k → s.off = false ∧ (s.b i).torn = false) ∧ wr.heap[w.heap.size]? = some zhbox ∧ wr.heap[w.heap.size + 1]? = some (hbox x.e x.w false) ∧ Below w.heap.size w wr) (fun iv _ => n - (intOf iv).toNat)
  case atStart => exact ⟨0, En.z, by omega, rfl, rfl, fun h => by omega, hk4, hk6, hBq⟩
  case round =>
    obtain ⟨k, x, hk, rfl, hx, hgood, hk4, hk6, hB⟩ := hrel
    clear hBq hwq hszq
    have hlt4 := lt_of_block hk4
    have hlt6 := lt_of_block hk6
    by_cases hkn : k < n
    · have hkl : k < (s.b i).pages.length := by rw [← HN.out]; exact hkn
      by_cases hoff : s.off = true
      · have hq : s.read i k = (9, []) := by
          unfold Arr.read
          rw [if_neg (fun hh => hh ⟨by omega, by omega⟩), if_pos hoff]
        have hC := HRD.out wr hB k
        rw [hq] at hC
        have HC := Lib.hid hC
        obtain rfl : r = (Hd.z, 9) := by rw [HR.out, if_neg (by omega), if_pos hoff]
        clear hC hq hgood hx hoff
        go_wp2_with fail
        refine HC.out.mono ?_
        rintro e w2 ⟨ht, -⟩
        obtain ⟨a2, c2, rfl, hb2⟩ := tells_err ht
        have hk42 := (hb2.block _ hlt4).trans hk4
        have t0 := cell_blk hk42 0 _ rfl
        have t1 := cell_blk hk42 1 _ rfl
        have t2 := cell_blk hk42 2 _ rfl
        have z0 := frozen_blk hk42 0
        have z1 := frozen_blk hk42 1
        have z2 := frozen_blk hk42 2
        have hB2 := hB.trans (hb2.mono hB.size)
        have hfB := hB2.trans (set3_below w2 w.heap.size (.int .u64 0) (.int .i64 0) (.bool false) (Nat.le_refl _))
        have hfin := three_set (v0 := .int .u64 0) (v1 := .int .i64 0) (v2 := .bool false) hk42
        clear ht hk4 hk6 hb2
        go_wp2
        refine bodyPost_ret (results_cell_tmp_row rfl _ _ w.heap.size 65 _ (0, 0) _ rfl hfin Tryd.underlying65 rfl info_block) rfl ?_
        exact ⟨rfl, hfB⟩
      · have hoff2 : s.off = false := by simpa using hoff
        by_cases htorn : (s.b i).torn = true
        · have hq : s.read i k = (4, []) := by
            unfold Arr.read
            have e0 : ((i : Int)).toNat = i := Int.toNat_natCast i
            rw [if_neg (fun hh => hh ⟨by omega, by omega⟩), if_neg hoff, if_neg (fun hh => hh ⟨by omega, by have := HPM.out; omega⟩), e0, if_neg (by omega), if_pos htorn]
          have hC := HRD.out wr hB k
          rw [hq] at hC
          have HC := Lib.hid hC
          obtain rfl : r = (⟨En.z, true⟩, 0) := by rw [HR.out, if_neg (by omega), if_neg hoff, if_pos htorn]
          clear hC hq hgood hx hoff hoff2 htorn
          go_wp2_with fail
          refine HC.out.mono ?_
          rintro e w2 ⟨ht, -⟩
          obtain ⟨a2, c2, rfl, hb2⟩ := tells_err ht
          have hk42 := (hb2.block _ hlt4).trans hk4
          have t0 := cell_blk hk42 0 _ rfl
          have t1 := cell_blk hk42 1 _ rfl
          have t2 := cell_blk hk42 2 _ rfl
          have z0 := frozen_blk hk42 0
          have z1 := frozen_blk hk42 1
          have z2 := frozen_blk hk42 2
          have hB2 := hB.trans (hb2.mono hB.size)
          have hfB := hB2.trans (set3_below w2 w.heap.size (.int .u64 0) (.int .i64 0) (.bool true) (Nat.le_refl _))
          have hfin := three_set (v0 := .int .u64 0) (v1 := .int .i64 0) (v2 := .bool true) hk42
          clear ht hk4 hk6 hb2
          go_wp2
          refine bodyPost_ret (results_cell_tmp_row rfl _ _ w.heap.size 65 _ (0, 0) _ rfl hfin Tryd.underlying65 rfl info_block) rfl ?_
          exact ⟨rfl, hfB⟩
        · have htorn2 : (s.b i).torn = false := by simpa using htorn
          have hq : s.read i k = (0, (s.b i).pages.getD k []) := by
            unfold Arr.read
            have e0 : ((i : Int)).toNat = i := Int.toNat_natCast i
            rw [if_neg (fun hh => hh ⟨by omega, by omega⟩), if_neg hoff, if_neg (fun hh => hh ⟨by omega, by have := HPM.out; omega⟩), e0, if_neg (by omega), if_neg htorn, Int.toNat_natCast]
          have hC := HRD.out wr hB k
          rw [hq] at hC
          have hl96 := H96.out k hkl
          have hnext := best_take (s.b i).pages k hkl
          rw [← hx] at hnext
          generalize (s.b i).pages.getD k [] = p at hC hl96 hnext
          obtain ⟨y, hy⟩ : ∃ y, clm p = y := ⟨_, rfl⟩
          rw [hy] at hnext
          have HC := Lib.hid hC
          have HP := Lib.hid hl96
          have HY := Lib.hid hy
          have HO := Lib.hid (And.intro hoff2 htorn2)
          have HX := Lib.hid hnext
          clear hC hq hgood hx hoff hoff2 htorn htorn2 hl96 hy hnext
          go_wp2_with fail
          refine HC.out.mono ?_
          rintro e w2 ⟨ht, -⟩
          obtain ⟨b2, o2, c2, rfl, hc2, hr2, hb2⟩ := tells_page ht HP.out
          have hk42 := (hb2.block _ hlt4).trans hk4
          have hk62 := (hb2.block _ hlt6).trans hk6
          have hB2 := hB.trans (hb2.mono hB.size)
          have hCL := claimed_any p b2 o2 c2 w2 96 HP.out rfl hr2 hc2 (HTW.out w2 hB2)
          rw [HY.out] at hCL
          have HCL := Lib.hid hCL
          have hl4 := lt_of_block hk42
          have hl6 := lt_of_block hk62
          clear ht hk4 hk6 hb2 hCL hlt4 hlt6 hr2 HC hB
          go_wp2_with fail
          refine HCL.out.mono ?_
          rintro e w3 ⟨rfl, hb3⟩
          have hk43 := (hb3.block _ hl4).trans hk42
          have hk63 := (hb3.block _ hl6).trans hk62
          have hB3 := hB2.trans (hb3.mono hB2.size)
          have t0 := cell_blk hk63 0 _ rfl
          have t1 := cell_blk hk63 1 _ rfl
          have z0 := frozen_blk hk63 0
          have z1 := frozen_blk hk63 1
          have hl4 := lt_of_block hk43
          have hl6 := lt_of_block hk63
          obtain ⟨ye, yw⟩ := y
          obtain ⟨xe, xw⟩ := x
          dsimp only at *
          clear hk42 hk62 hb3 hB2 HCL
          by_cases hlt : xe < ye
          · have hnx : up ⟨xe, xw⟩ ⟨ye, yw⟩ = ⟨ye, yw⟩ := if_pos hlt
            rw [hnx] at HX
            have hs4 : ((w3.setCell ⟨w.heap.size + 1, 0, none⟩ (.int .u64 ye)).setCell ⟨w.heap.size + 1, 1, none⟩ (.int .i64 yw)).heap.size = w3.heap.size := by simp [World.setCell]
            have hfin := two_of_three (v0 := .int .u64 ye) (v1 := .int .i64 yw) hk63
            have hfB := hB3.trans ((set_below w3 (w.heap.size + 1) 0 (.int .u64 ye) (Nat.le_succ _)).trans (set_below _ (w.heap.size + 1) 1 (.int .i64 yw) (Nat.le_succ _)))
            have hf4 : ((w3.setCell ⟨w.heap.size + 1, 0, none⟩ (.int .u64 ye)).setCell ⟨w.heap.size + 1, 1, none⟩ (.int .i64 yw)).heap[w.heap.size]? = some zhbox := (set_heap_other _ _ _ _ _ (by omega)).trans ((set_heap_other _ _ _ _ _ (by omega)).trans hk43)
            have HALL := Lib.hid (And.intro hs4 (And.intro hfin (And.intro hfB hf4)))
            clear hs4 hfin hfB hf4 hk43 hk63
            go_wp2
            go_roundw
            case rel =>
              obtain ⟨hs4, hfin, hfB, hf4⟩ := HALL.out
              generalize ((w3.setCell ⟨w.heap.size + 1, 0, none⟩ (.int .u64 ye)).setCell ⟨w.heap.size + 1, 1, none⟩ (.int .i64 yw)) = w4 at *
              have hA := (Below.refl w4.heap.size w4).alloc (Nat.le_refl _) (ebox ⟨ye, yw⟩)
              exact ⟨k + 1, ⟨ye, yw⟩, by omega, by go_num, HX.out.symm, fun _ => HO.out, (hA.block _ (by rw [hs4]; exact hl4)).trans hf4, (hA.block _ (by rw [hs4]; exact hl6)).trans hfin, hfB.trans (hA.mono hfB.size)⟩
            case measure => simp [intOf]; omega
          · have hnx : up ⟨xe, xw⟩ ⟨ye, yw⟩ = ⟨xe, xw⟩ := if_neg hlt
            rw [hnx] at HX
            have hlt2 : ye ≤ xe := by omega
            have hA := (Below.refl w3.heap.size w3).alloc (Nat.le_refl _) (ebox ⟨ye, yw⟩)
            have HALL := Lib.hid (And.intro ((hA.block _ hl4).trans hk43) (And.intro ((hA.block _ hl6).trans hk63) (hB3.trans (hA.mono hB3.size))))
            clear hA hk43 hk63
            go_wp2
            go_roundw
            case rel => exact ⟨k + 1, ⟨xe, xw⟩, by omega, by go_num, HX.out.symm, fun _ => HO.out, HALL.out.1, HALL.out.2.1, HALL.out.2.2⟩
            case measure => simp [intOf]; omega
    · have hkn2 : ¬ ((k : Int) < (n : Int)) := by omega
      obtain rfl : k = n := by omega
      have hres : r = (⟨x, false⟩, 0) := by
        have e1 : (s.b i).pages.take k = (s.b i).pages := by rw [HN.out, List.take_length]
        rw [e1] at hx
        rw [HR.out]
        by_cases h0 : k = 0
        · have e2 : (s.b i).pages = [] := List.eq_nil_of_length_eq_zero (by rw [← HN.out]; exact h0)
          rw [if_pos h0, hx, e2]; rfl
        · obtain ⟨g1, g2⟩ := hgood (by omega)
          rw [if_neg h0, if_neg (by simp [g1]), if_neg (by simp [g2]), hx]
      subst hres
      have c0 := cell_blk hk6 0 _ rfl
      have c1 := cell_blk hk6 1 _ rfl
      have c2 := cell_blk hk6 2 _ rfl
      have t0 := cell_blk hk4 0 _ rfl
      have t1 := cell_blk hk4 1 _ rfl
      have t2 := cell_blk hk4 2 _ rfl
      have z0 := frozen_blk hk4 0
      have z1 := frozen_blk hk4 1
      have z2 := frozen_blk hk4 2
      obtain ⟨xe, xw⟩ := x
      dsimp only at *
      have hfB := hB.trans (set3_below wr w.heap.size (.int .u64 xe) (.int .i64 xw) (.bool false) (Nat.le_refl _))
      have hfin := three_set (v0 := .int .u64 xe) (v1 := .int .i64 xw) (v2 := .bool false) hk4
      clear hk4 hk6 hgood hx
      go_wp2
      refine bodyPost_ret (results_cell_tmp_row rfl _ _ w.heap.size 65 _ (0, 0) _ rfl hfin Tryd.underlying65 rfl info_block) rfl ?_
      exact ⟨rfl, hfB⟩
end Go.Proofs.YtcbgccmoeleanaaDoor.Lg
