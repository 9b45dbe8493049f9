/- The contract of scan's read. -/
import Derived.Test.YtkapnpcolmhdbaaDoorFnd
import Derived.OwnWalk
namespace Go.Proofs.YtkapnpcolmhdbaaDoor.Sc
open Go.RowKit
open Drawbar Drawbar.Sheet Drawbar.Nand Drawbar.Scan Go.Proofs.YtkapnpcolmhdbaaDoor.Nd

theorem blocks_at {w : World} {F : Nat → Prop} {g : Nat} {s : Arr} (h : ArrAt w F g s) : Calls Tryd.prog 65 #[.pointer (some ⟨g, 0, none⟩)] w fun e w' => e = .returned (.int .i64 s.n) ∧ w = w' := by
  obtain ⟨_, R, hb, rows, pv, bv, h⟩ := h
  exact blocks_any g hb s.n _ (h.gc 0 _ rfl)
theorem pages_at {w : World} {F : Nat → Prop} {g : Nat} {s : Arr} (h : ArrAt w F g s) : Calls Tryd.prog 66 #[.pointer (some ⟨g, 0, none⟩)] w fun e w' => e = .returned (.int .i64 s.pages) ∧ w = w' := by
  obtain ⟨_, R, hb, rows, pv, bv, h⟩ := h
  have c1 := h.gc 1 _ rfl
  clear h
  go_enter Tryd.func66, Tryd.ntmps66
  go_wp2
  go_ret
  exact ⟨rfl, rfl⟩
theorem arr_wf {w : World} {F : Nat → Prop} {g : Nat} {s : Arr} (h : ArrAt w F g s) : Wf s := by
  obtain ⟨_, R, hb, rows, pv, bv, h⟩ := h
  exact h.wf
theorem arr_96 {w : World} {F : Nat → Prop} {g : Nat} {s : Arr} (h : ArrAt w F g s) (i : Nat) (hi : i < s.n) (j : Nat) (hj : j < (s.b i).pages.length) : ((s.b i).pages.getD j []).length = 96 := by
  obtain ⟨_, R, hb, rows, pv, bv, h⟩ := h
  obtain ⟨v, _, ⟨d, o, cap, _, _, h3, _⟩, _⟩ := h.page i hi j _ (List.getElem?_eq_getElem hj)
  rw [List.getD_eq_getElem?_getD, List.getElem?_eq_getElem hj]
  exact h3
theorem inB_nat {i n : Nat} (h : i < n) : inB (i : Int) n := ⟨by omega, by omega⟩
theorem rd_off {s : Arr} {i : Nat} (hi : i < s.n) (j : Int) (h : s.off = true) : s.read i j = (9, []) := by
  unfold Arr.read
  rw [if_neg (fun h => h (inB_nat hi)), if_pos h]
theorem rd_on {s : Arr} {i j : Nat} (hi : i < s.n) (hj : j < s.pages) (h : s.off = false) : s.read i j = if ((s.b i).pages.length : Int) ≤ j then (5, []) else if (s.b i).torn = true then (4, []) else (0, (s.b i).pages.getD j []) := by
  unfold Arr.read
  rw [if_neg (fun h => h (inB_nat hi)), if_neg (by simp [h]), if_neg (fun h => h (inB_nat hj))]
  rfl

/-- What a call that tells found pages answers. -/
def Tell (w : World) (L : List Fnd) (z : Int) (e : Ending) (w' : World) : Prop :=
  ∃ a c, e = .returned (.tuple #[.slice a L.length c, .int .i64 z]) ∧ Fds w' a L ∧ (a = none → c = 0) ∧ Below w.heap.size w w'
theorem tell_nil (w w' : World) (z : Int) (hb : Below w.heap.size w w') : Tell w [] z (.returned (.tuple #[.slice none 0 0, .int .i64 z])) w' := ⟨none, 0, rfl, fds_nil _ _, fun _ => rfl, hb⟩

set_option maxRecDepth 100000 in
set_option maxHeartbeats 2000000 in
theorem read_off {w : World} {F : Nat → Prop} {g : Nat} {s : Arr} (h : ArrAt w F g s) (i : Nat) (hi : i < s.n) (m : Int) (hoff : s.off = true) :
    Calls Tryd.prog 32 #[.pointer (some ⟨g, 0, none⟩), .int .i64 i, .int .i64 m] w (Tell w [] 9) := by
  have HP := Lib.hid (pages_at h)
  have hwf := arr_wf h
  have hp0 := hwf.p0
  have hp32 := hwf.p32
  have hR := Nd.read_at h i 0
  rw [rd_off hi 0 hoff] at hR
  have HR := Lib.hid hR
  have HT := Lib.hid (fun w' hb => tell_nil w w' 9 hb)
  clear hR hwf h
  have hlt : (0 : Int) < (s.pages : Int) := by omega
  go_enter Tryd.func32, Tryd.ntmps32
  go_wp2_with fail
  refine HP.out.mono ?_
  rintro e w1 ⟨rfl, rfl⟩
  go_wp2
  go_loopw [8, 16] (fun bl iv wr => bl = .slice none 0 0 ∧ iv = .int .i64 0 ∧ w = wr) (fun _ _ _ => 1)
  case atStart => exact ⟨rfl, rfl, rfl⟩
  case round =>
    obtain ⟨rfl, rfl, rfl⟩ := hrel
    go_wp2_with fail
    refine HR.out.mono ?_
    rintro e w2 ⟨⟨a, cap, rfl, hcap, hrd, hb, -⟩, -⟩
    dsimp only at hcap hrd ⊢
    have HB := Lib.hid (HT.out _ hb)
    clear hrd hb
    go_wp2
    go_ret2
    exact HB.out

set_option maxRecDepth 100000 in
set_option maxHeartbeats 4000000 in
theorem read_on {w : World} {F : Nat → Prop} {g : Nat} {s : Arr} (h : ArrAt w F g s) (i : Nat) (hi : i < s.n) (m : Int) (hoff : s.off = false) (hT : Tab w) :
    Calls Tryd.prog 32 #[.pointer (some ⟨g, 0, none⟩), .int .i64 i, .int .i64 m] w (Tell w (blockF m s i) 0) := by
  obtain ⟨i0, hi0, hz0, hz1, hz2⟩ := info_parts info_found
  have HP := Lib.hid (pages_at h)
  have hwf := arr_wf h
  have hp0 := hwf.p0
  have hp32 := hwf.p32
  have hlen := hwf.len i hi
  have h96 := fun j hj => arr_96 h i hi j hj
  have hfull : ¬ ((s.b i).torn = true ∧ 0 < (s.b i).pages.length) → blockF m s i = foundTo m i (s.b i).pages (s.b i).pages.length := fun hn => by
    unfold blockF
    by_cases ht : (s.b i).torn = true
    · rw [if_pos ht, show (s.b i).pages.length = 0 by by_cases hl : 0 < (s.b i).pages.length; exact absurd ⟨ht, hl⟩ hn; omega]; rfl
    · rw [if_neg ht]
  have hnone : (s.b i).torn = true → blockF m s i = [] := fun ht => by unfold blockF; rw [if_pos ht]
  have HR := Lib.hid (fun (W : World) (hb : Below w.heap.size w W) (j : Nat) (hj : j < s.pages) => (rd_on hi hj hoff) ▸ Nd.read_at (h.keep hb) i j)
  have HL := Lib.hid (fun n => foundTo_len m i (s.b i).pages n)
  have hS : ∀ j, foundTo m i (s.b i).pages (j + 1) = foundTo m i (s.b i).pages j ++ one m i j ((s.b i).pages.getD j []) := fun j => rfl
  have HS := Lib.hid hS
  clear hS
  generalize blockF m s i = BF at *
  generalize hft : foundTo m i (s.b i).pages = ft at *
  generalize (s.b i).pages = P at *
  generalize (s.b i).torn = tn at *
  have H96 := Lib.hid h96
  have HFU := Lib.hid hfull
  have HNO := Lib.hid hnone
  have HTB := Lib.hid hT
  have hft0 : ft 0 = [] := by rw [← hft]; rfl
  have HF0 := Lib.hid hft0
  clear h96 hfull hnone hT h hwf hft hoff hft0
  go_enter Tryd.func32, Tryd.ntmps32
  go_wp2_with fail
  refine HP.out.mono ?_
  rintro e w1 ⟨rfl, rfl⟩
  go_wp2
  go_loopw [8, 16] (fun bl iv wr => ∃ j : Nat, j ≤ P.length ∧ iv = .int .i64 j ∧ Below w.heap.size w wr ∧ RowF wr w.heap.size 46 bl (ft j) ∧ (tn = true → j = 0)) (fun _ iv _ => s.pages - (intOf iv).toNat)
  case atStart => exact ⟨0, Nat.zero_le _, rfl, Below.refl _ _, by rw [HF0.out]; exact RowF.nil _ _ _, fun _ => rfl⟩
  case round =>
    obtain ⟨j, hj, rfl, hbw, hrow, htn⟩ := hrel
    by_cases hjs : j < s.pages
    · have hjs2 : (j : Int) < (s.pages : Int) := by omega
      have hR := HR.out wr hbw j hjs
      by_cases hjP : j < P.length
      · rw [if_neg (by omega)] at hR
        cases tn with
        | true =>
          rw [if_pos rfl] at hR
          have HRR := Lib.hid hR
          have HB := Lib.hid (fun w' (hb : Below wr.heap.size wr w') => (by rw [HNO.out rfl]; exact tell_nil w w' 0 (hbw.trans (hb.mono hbw.size)) : Tell w BF 0 (.returned (.tuple #[.slice none 0 0, .int .i64 0])) w'))
          clear hR hrow htn hbw
          go_wp2_with fail
          refine HRR.out.mono ?_
          rintro e w2 ⟨⟨a, cap, rfl, hcap, hrd, hb, -⟩, -⟩
          dsimp only at hcap hrd ⊢
          have HBB := Lib.hid (HB.out _ hb)
          clear hrd hb
          go_wp2
          go_ret2
          exact HBB.out
        | false =>
          rw [if_neg (by simp)] at hR
          have HRR := Lib.hid hR
          have hl96 := H96.out j hjP
          have hst := HS.out j
          obtain ⟨l, hl⟩ : ∃ l, P.getD j [] = l := ⟨_, rfl⟩
          rw [hl] at HRR hl96 hst
          have hle := HL.out j
          have HL96 := Lib.hid hl96
          clear hl96
          cases hx : adr m l with
          | none =>
            have hst2 : ft (j + 1) = ft j := by rw [hst]; unfold one; rw [hx]; simp
            have HST := Lib.hid hst2
            have HX := Lib.hid hx
            have HROW := Lib.hid (fun w' (hb : Below wr.heap.size wr w') => And.intro (hrow.below hb) (hbw.trans (hb.mono hbw.size)))
            have HT2 := Lib.hid (fun w' (hb : Below wr.heap.size wr w') => HTB.out.below (hbw.trans (hb.mono hbw.size)) HTB.out.pos)
            clear hR hrow htn hbw hst hst2 hx hl
            go_wp2_with fail
            refine HRR.out.mono ?_
            rintro e w2 ⟨⟨a, cap, rfl, hcap, hrd, hb, -⟩, -⟩
            dsimp only at hcap hrd ⊢
            have hA := adr_no m l HX.out a cap w2 l.length rfl hrd hcap (fun ha => by obtain ⟨bb, oo, e, _⟩ := hrd.2.2 (by have := HL96.out; omega); rw [ha] at e; cases e) (HT2.out _ hb)
            have HA := Lib.hid hA
            have HB := Lib.hid hb
            clear hA hrd hb hcap
            go_wp2_with fail
            (with_reducible refine HA.out.mono ?_)
            rintro e w3 ⟨rfl, hb3⟩
            have hb4 : Below wr.heap.size wr (w3.alloc zob) := HB.out.trans ((hb3.trans ((Below.refl _ _).alloc hb3.size _)).mono HB.out.size)
            have HB4 := Lib.hid hb4
            clear hb3 hb4
            go_wp2
            go_roundw
            case rel => exact ⟨j + 1, by omega, by go_num, (HROW.out _ HB4.out).2, by rw [HST.out]; exact (HROW.out _ HB4.out).1, fun h => by cases h⟩
            case measure => simp [intOf]; omega
          | some x =>
            have hst2 : ft (j + 1) = ft j ++ [⟨i, j, x⟩] := by rw [hst]; unfold one; rw [hx]
            have HST := Lib.hid hst2
            have HX := Lib.hid hx
            have HROW := Lib.hid (And.intro hrow hbw)
            have HT2 := Lib.hid (fun w' (hb : Below wr.heap.size wr w') => HTB.out.below (hbw.trans (hb.mono hbw.size)) HTB.out.pos)
            clear hR hrow htn hbw hst hst2 hx hl
            go_wp2_with fail
            refine HRR.out.mono ?_
            rintro e w2 ⟨⟨a, cap, rfl, hcap, hrd, hb, -⟩, -⟩
            dsimp only at hcap hrd ⊢
            have hA := adr_yes m l x HX.out a cap w2 l.length rfl hrd hcap (fun ha => by obtain ⟨bb, oo, e, _⟩ := hrd.2.2 (by have := HL96.out; omega); rw [ha] at e; cases e) (HT2.out _ hb)
            have HA := Lib.hid hA
            have HB := Lib.hid hb
            clear hA hrd hb hcap
            go_wp2_with fail
            (with_reducible refine HA.out.mono ?_)
            rintro e w3 ⟨a3, c3, rfl, hda, hb3, hfr3⟩
            obtain ⟨w4, hw4⟩ : ∃ w4, w4 = (w3.alloc (boxs 44 x a3 c3)).alloc (.cells #[.int .i64 i, .int .i64 j, .int .u8 x.k, .int .u64 x.ep, .int .u64 x.sq, .int .i64 x.ad, .int .i64 x.fr, .slice a3 x.da.length c3] 46) := ⟨_, rfl⟩
            have hb34 : Below w3.heap.size w3 w4 := by rw [hw4]; exact ((Below.refl _ _).alloc (Nat.le_refl _) _).alloc (by simp) _
            have hb4 : Below wr.heap.size wr w4 := HB.out.trans ((hb3.trans (hb34.mono hb3.size)).mono HB.out.size)
            obtain ⟨L, hL1, hL2⟩ := HROW.out.1
            have hap : ApartV _ (.slice a3 x.da.length c3) := fun a' n c' he h0 hbb => by
              cases he
              have h1 := (hL2.own.lt _ hbb).2
              have h2 := hfr3 h0 a' rfl
              have := HB.out.size
              omega
            have hL4 := hL2.below hb4
            have hown := hL4.own
            have hLn : L.length ≤ j := by rw [← List.length_map (f := Prod.fst), hL1]; exact hle
            have hat : At w4 (some ⟨w3.heap.size + 1, 0, none⟩) (fcells ⟨i, j, x⟩ (.slice a3 x.da.length c3)) := by
              rw [hw4]
              have := at_eight (w3.alloc (boxs 44 x a3 c3)) (.int .i64 i) (.int .i64 j) (.int .u8 x.k) (.int .u64 x.ep) (.int .u64 x.sq) (.int .i64 x.ad) (.int .i64 x.fr) (.slice a3 x.da.length c3) 46
              simpa [fcells] using this
            have hda4 := hda.below hb34
            have hsz : w.heap.size ≤ w4.heap.size := Nat.le_trans HROW.out.2.size hb4.size
            have HB4 := Lib.hid hb4
            have HW4 := Lib.hid hw4
            have HDA := Lib.hid (And.intro hda4 (And.intro hL1 (And.intro hL4 hap)))
            clear hb34 hb4 hb3 hda hw4 hda4 hL1 hL4 hL2 hap hfr3
            go_wp2_with (at_builtin; refine wpList_append_row rfl (.tmp 37) (.tmp 43) 34 rfl 46 i0 (.agg #[.int .i64 0, .int .i64 0, .int .u8 0, .int .u64 0, .int .u64 0, .int .i64 0, .int .i64 0, .slice none 0 0]) 8 80 Tryd.underlying34 hi0 hz0 hz1 hz2 rfl (by decide) _ L.length (rowF L) rfl (by rw [HW4.out] at hown; exact hown) ⟨w3.heap.size + 1, 0, none⟩ 1 1 (fcells ⟨i, j, x⟩ (.slice a3 x.da.length c3)) rfl rfl (by rw [HW4.out] at hat; exact hat _ rfl) (by simp [fcells, Value.oneCell']) (by unfold maxLen; omega) (by omega) ?_; intro v6 w6 hown6 hg6 hloc6)
            obtain ⟨hda4, hL1, hL4, hap⟩ := HDA.out
            rw [← HW4.out] at hg6 hloc6
            obtain ⟨hL6, hb6⟩ := hL4.app hda4 hap hsz hown6 hg6 hloc6
            have HFIN := Lib.hid (And.intro (HROW.out.2.trans ((HB4.out.mono HROW.out.2.size).trans hb6)) (⟨_, rfl, hL6⟩ : RowF w6 w.heap.size 46 v6 (List.map Prod.fst (L ++ [(⟨i, j, x⟩, .slice a3 x.da.length c3)]))))
            have HL1 := Lib.hid hL1
            clear hL6 hb6 hL4 hap hda4 hL1 hown6 hg6 hloc6 hat hown
            go_roundw
            case rel => exact ⟨j + 1, by omega, by go_num, HFIN.out.1, (by rw [HST.out, ← HL1.out]; have := HFIN.out.2; rwa [List.map_append] at this), fun h => by cases h⟩
            case measure => simp [intOf]; omega
      · rw [if_pos (by omega)] at hR
        obtain rfl : j = P.length := by omega
        have hrow2 := hrow
        rw [← HFU.out (fun h => by have := htn h.1; omega)] at hrow2
        obtain ⟨a5, c5, rfl, hfds, hn5, -⟩ := hrow2.fds
        have HRR := Lib.hid hR
        have HB := Lib.hid (fun w' (hb : Below wr.heap.size wr w') => (⟨a5, c5, rfl, hfds.below hb, hn5, hbw.trans (hb.mono hbw.size)⟩ : Tell w BF 0 (.returned (.tuple #[.slice a5 BF.length c5, .int .i64 0])) w'))
        clear hR hrow htn hbw hrow2 hfds hn5
        go_wp2_with fail
        refine HRR.out.mono ?_
        rintro e w2 ⟨⟨a, cap, rfl, hcap, hrd, hb, -⟩, -⟩
        dsimp only at hcap hrd ⊢
        have HBB := Lib.hid (HB.out _ hb)
        clear hrd hb
        go_wp2
        go_ret2
        exact HBB.out
    · have hjs2 : ¬ ((j : Int) < (s.pages : Int)) := by omega
      obtain rfl : j = P.length := by omega
      have hrow2 := hrow
      rw [← HFU.out (fun h => by have := htn h.1; omega)] at hrow2
      obtain ⟨a5, c5, rfl, hfds, hn5, -⟩ := hrow2.fds
      have HB := Lib.hid (⟨a5, c5, rfl, hfds, hn5, hbw⟩ : Tell w BF 0 (.returned (.tuple #[.slice a5 BF.length c5, .int .i64 0])) wr)
      clear hrow htn hbw hrow2 hfds hn5
      go_wp2
      go_ret2
      exact HB.out
end Go.Proofs.YtkapnpcolmhdbaaDoor.Sc
