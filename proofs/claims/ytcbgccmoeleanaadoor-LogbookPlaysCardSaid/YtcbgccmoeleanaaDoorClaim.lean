/- The contracts of logbook.hasBook, Last and Claim. -/
import Derived.Test.YtcbgccmoeleanaaDoorOpenB
import Derived.Test.YtcbgccmoeleanaaDoorGoOn
namespace Drawbar.Log
open Go.RowKit
open Go.Proofs.YtcbgccmoeleanaaDoor Drawbar Drawbar.Sheet Drawbar.Nand

/-- What Last tells. -/
noncomputable def lastS (s : Arr) : En × Int := ((getH (openS s).1 (homeS (openS s).1)).last, (openS s).2)
open Classical in
/-- What Claim answers, and the array. -/
noncomputable def claimS (s : Arr) (x : En) : Int × Arr :=
  if okE x = false then (1, s) else if (openS s).2 ≠ 0 then ((openS s).2, s)
  else if x.e ≤ (getH (openS s).1 (homeS (openS s).1)).last.e then (6, s)
  else if (getH (openS s).1 (homeS (openS s).1)).torn = true then beginS s (1 - (homeS (openS s).1 : Int)) x
  else goOnS x (homeS (openS s).1) (s.pages - (s.b (homeS (openS s).1)).pages.length) (s.b (homeS (openS s).1)).pages.length s
end Drawbar.Log
namespace Go.Proofs.YtcbgccmoeleanaaDoor.Lg
open Go.RowKit
open Drawbar Drawbar.Sheet Drawbar.Nand Drawbar.Log Go.Proofs.YtcbgccmoeleanaaDoor.Nd

theorem has_at {w : World} {F : Nat → Prop} {g : Nat} {s : Arr} (h : ArrAt w F g s) : Calls Tryd.prog 24 #[.pointer (some ⟨g, 0, none⟩)] w fun e w' => e = .returned (.bool (decide (2 ≤ (s.n : Int)))) ∧ w = w' := by
  have HB := Lib.hid (blocks_at h)
  clear h
  go_enter Tryd.func24, Tryd.ntmps24
  go_wp2_with fail
  refine HB.out.mono ?_
  rintro e w2 ⟨rfl, rfl⟩
  go_wp2
  go_ret
  exact ⟨rfl, rfl⟩
theorem has_two {w : World} {F : Nat → Prop} {g : Nat} {s : Arr} (h : ArrAt w F g s) (h2 : 1 < s.n) : Calls Tryd.prog 24 #[.pointer (some ⟨g, 0, none⟩)] w fun e w' => e = .returned (.bool true) ∧ w = w' := by
  have h3 := has_at h
  rw [decide_eq_true (by omega)] at h3
  exact h3
theorem has_one {w : World} {F : Nat → Prop} {g : Nat} {s : Arr} (h : ArrAt w F g s) (h2 : s.n = 1) : Calls Tryd.prog 24 #[.pointer (some ⟨g, 0, none⟩)] w fun e w' => e = .returned (.bool false) ∧ w = w' := by
  have h3 := has_at h
  rw [decide_eq_false (by omega)] at h3
  exact h3
theorem has_nil (w : World) : Calls Tryd.prog 24 #[.pointer none] w fun e w' => e = .returned (.bool false) ∧ w = w' := by
  go_enter Tryd.func24, Tryd.ntmps24
  go_wp2_with fail
  refine (blocks_nil w).mono ?_
  rintro e w2 ⟨rfl, rfl⟩
  go_wp2
  go_ret
  exact ⟨rfl, rfl⟩

theorem last_none (p : Value) (w : World) (hH : ∀ W, Below w.heap.size w W → Calls Tryd.prog 24 #[p] W fun e w' => e = .returned (.bool false) ∧ W = w') :
    Calls Tryd.prog 13 #[p] w fun e w' => e = .returned (.tuple #[.agg #[.int .u64 0, .int .i64 0], .int .i64 5]) ∧ Below w.heap.size w w' := by
  have hbx : Below w.heap.size w (w.alloc zbox) := (Below.refl _ _).alloc (Nat.le_refl _) _
  have hblk := heap_alloc_new w zbox
  generalize hwx : w.alloc zbox = wx at *
  have HH := Lib.hid (hH wx hbx)
  have t0 := cell_blk hblk 0 _ rfl
  have t1 := cell_blk hblk 1 _ rfl
  have z0 := frozen_blk hblk 0
  have z1 := frozen_blk hblk 1
  have hfin := two_set (v0 := .int .u64 0) (v1 := .int .i64 0) hblk
  have hfB := hbx.trans ((set_below wx w.heap.size 0 (.int .u64 0) (Nat.le_refl _)).trans (set_below _ w.heap.size 1 (.int .i64 0) (Nat.le_refl _)))
  have HALL := Lib.hid (And.intro hfin hfB)
  clear hH hbx hblk hfin hfB
  go_enter Tryd.func13, Tryd.ntmps13
  go_wp2_with fail
  refine HH.out.mono ?_
  rintro e w2 ⟨rfl, rfl⟩
  go_wp2
  refine bodyPost_ret (results_cell_tmp_row rfl _ _ w.heap.size 30 _ (0, 0) _ rfl HALL.out.1 Tryd.underlying30 rfl info_entry) rfl ?_
  exact ⟨rfl, HALL.out.2⟩

theorem claim_none (p : Value) (x : En) (w : World) (hH : ∀ W, Below w.heap.size w W → Calls Tryd.prog 24 #[p] W fun e w' => e = .returned (.bool false) ∧ W = w') :
    Calls Tryd.prog 12 #[p, ev x] w fun e w' => e = .returned (.int .i64 5) ∧ Below w.heap.size w w' := by
  have hbx : Below w.heap.size w (w.alloc (ebox x)) := (Below.refl _ _).alloc (Nat.le_refl _) _
  generalize hwx : w.alloc (ebox x) = wx at *
  have HH := Lib.hid (hH wx hbx)
  clear hH
  go_enter Tryd.func12, Tryd.ntmps12
  go_wp2_with fail
  refine HH.out.mono ?_
  rintro e w2 ⟨rfl, rfl⟩
  go_wp2
  go_ret
  exact ⟨rfl, hbx⟩

theorem did_still {w w' : World} {F : Nat → Prop} {g : Nat} {s : Arr} (h : ArrAt w F g s) (hb : Below w.heap.size w w') (z : Int) : Did w F g (z, s) (.returned (.int .i64 z)) w' :=
  ⟨rfl, ArrAt.grow (h.keep hb) (fun _ hd => .inl hd) (fun d hd => hd.elim (fun hf => Nat.lt_of_lt_of_le (h.bound d hf) hb.size) (fun hf => hf.2)), Keep.below hb⟩

theorem home_zero (e0 e1 : Nat) (w0 w1 : Int) (t0 t1 : Bool) (hlt : ¬ e0 < e1) (W : World) : Calls Tryd.prog 27 #[.agg #[.int .u64 e0, .int .i64 w0, .bool t0, .int .u64 e1, .int .i64 w1, .bool t1]] W fun e w' => e = .returned (.int .i64 0) ∧ Below W.heap.size W w' := by
  have h := home_any (⟨⟨e0, w0⟩, t0⟩, ⟨⟨e1, w1⟩, t1⟩) W
  have e : homeS (⟨⟨e0, w0⟩, t0⟩, ⟨⟨e1, w1⟩, t1⟩) = 0 := if_neg hlt
  rw [e] at h
  exact h
theorem home_one (e0 e1 : Nat) (w0 w1 : Int) (t0 t1 : Bool) (hlt : e0 < e1) (W : World) : Calls Tryd.prog 27 #[.agg #[.int .u64 e0, .int .i64 w0, .bool t0, .int .u64 e1, .int .i64 w1, .bool t1]] W fun e w' => e = .returned (.int .i64 1) ∧ Below W.heap.size W w' := by
  have h := home_any (⟨⟨e0, w0⟩, t0⟩, ⟨⟨e1, w1⟩, t1⟩) W
  have e : homeS (⟨⟨e0, w0⟩, t0⟩, ⟨⟨e1, w1⟩, t1⟩) = 1 := if_pos hlt
  rw [e] at h
  exact h

set_option maxHeartbeats 4000000 in
theorem last_any {w : World} {F : Nat → Prop} {g : Nat} {s : Arr} (h : ArrAt w F g s) (h2 : 1 < s.n) (hT : Tab w) :
    Calls Tryd.prog 13 #[.pointer (some ⟨g, 0, none⟩)] w fun e w' => e = .returned (.tuple #[ev (lastS s).1, .int .i64 (lastS s).2]) ∧ Below w.heap.size w w' := by
  have hbx : Below w.heap.size w (w.alloc zbox) := (Below.refl _ _).alloc (Nat.le_refl _) _
  have hblk := heap_alloc_new w zbox
  generalize hwx : w.alloc zbox = wx at *
  have HH := Lib.hid (has_two (h.keep hbx) h2)
  have HO := Lib.hid (open_book (h.keep hbx) h2 (hT.below hbx hT.pos))
  unfold lastS
  obtain ⟨r, hr⟩ : ∃ r, openS s = r := ⟨_, rfl⟩
  rw [hr] at HO ⊢
  obtain ⟨⟨⟨⟨e0, w0⟩, t0⟩, ⟨⟨e1, w1⟩, t1⟩⟩, er⟩ := r
  dsimp only at HO ⊢
  have hl := lt_of_block hblk
  clear h hT hr
  by_cases hlt : e0 < e1
  · have hhome : (getH (⟨⟨e0, w0⟩, t0⟩, ⟨⟨e1, w1⟩, t1⟩) (homeS (⟨⟨e0, w0⟩, t0⟩, ⟨⟨e1, w1⟩, t1⟩))).last = ⟨e1, w1⟩ := by
      have e : homeS (⟨⟨e0, w0⟩, t0⟩, ⟨⟨e1, w1⟩, t1⟩) = 1 := if_pos hlt
      rw [e]; rfl
    rw [hhome]
    have HM := Lib.hid (fun W => home_one e0 e1 w0 w1 t0 t1 hlt W)
    clear hhome hlt
    go_enter Tryd.func13, Tryd.ntmps13
    go_wp2_with fail
    refine HH.out.mono ?_
    rintro e w2 ⟨rfl, rfl⟩
    go_wp2_with fail
    refine HO.out.mono ?_
    rintro e w2 ⟨rfl, hb2⟩
    have hk2 := (hb2.block _ hl).trans hblk
    have hB2 := hbx.trans (hb2.mono hbx.size)
    have hl2 := lt_of_block hk2
    have hA : Below w2.heap.size w2 (w2.alloc (.cells #[.int .u64 e0, .int .i64 w0, .bool t0, .int .u64 e1, .int .i64 w1, .bool t1] 67)) := (Below.refl _ _).alloc (Nat.le_refl _) _
    have hk4 := heap_alloc_new w2 (.cells #[.int .u64 e0, .int .i64 w0, .bool t0, .int .u64 e1, .int .i64 w1, .bool t1] 67)
    clear hb2 hbx hblk HO HH hwx
    go_upto_region 4 with fail
    generalize w2.alloc (.cells #[.int .u64 e0, .int .i64 w0, .bool t0, .int .u64 e1, .int .i64 w1, .bool t1] 67) = w3 at *
    have hk3 := (hA.block _ hl2).trans hk2
    have hB3 := hB2.trans (hA.mono hB2.size)
    have hl3 := lt_of_block hk3
    have hl4 := lt_of_block hk4
    clear hk2 hA hB2
    have c0 := cell_blk hk4 0 _ rfl
    have c1 := cell_blk hk4 1 _ rfl
    have c2 := cell_blk hk4 2 _ rfl
    have c3 := cell_blk hk4 3 _ rfl
    have c4 := cell_blk hk4 4 _ rfl
    have c5 := cell_blk hk4 5 _ rfl
    go_wp2_with fail
    refine (HM.out _).mono ?_
    rintro e w4 ⟨rfl, hb4⟩
    have hk5 := (hb4.block _ hl3).trans hk3
    have hk6 := (hb4.block _ hl4).trans hk4
    have d0 := cell_blk hk6 3 _ rfl
    have d1 := cell_blk hk6 4 _ rfl
    have t0 := cell_blk hk5 0 _ rfl
    have t1 := cell_blk hk5 1 _ rfl
    have z0 := frozen_blk hk5 0
    have z1 := frozen_blk hk5 1
    have hfin := two_set (v0 := .int .u64 e1) (v1 := .int .i64 w1) hk5
    have hfB := (hB3.trans (hb4.mono hB3.size)).trans ((set_below w4 w.heap.size 0 (.int .u64 e1) (Nat.le_refl _)).trans (set_below _ w.heap.size 1 (.int .i64 w1) (Nat.le_refl _)))
    have HALL := Lib.hid (And.intro hfin hfB)
    clear hk5 hk6 hfin hfB hk3 hk4 c0 c1 c2 c3 c4 c5 hb4
    go_wp2
    refine bodyPost_ret (results_cell_tmp_row rfl _ _ w.heap.size 30 _ (0, 0) _ rfl HALL.out.1 Tryd.underlying30 rfl info_entry) rfl ?_
    exact ⟨rfl, HALL.out.2⟩
  · have hhome : (getH (⟨⟨e0, w0⟩, t0⟩, ⟨⟨e1, w1⟩, t1⟩) (homeS (⟨⟨e0, w0⟩, t0⟩, ⟨⟨e1, w1⟩, t1⟩))).last = ⟨e0, w0⟩ := by
      have e : homeS (⟨⟨e0, w0⟩, t0⟩, ⟨⟨e1, w1⟩, t1⟩) = 0 := if_neg hlt
      rw [e]; rfl
    rw [hhome]
    have HM := Lib.hid (fun W => home_zero e0 e1 w0 w1 t0 t1 hlt W)
    clear hhome hlt
    go_enter Tryd.func13, Tryd.ntmps13
    go_wp2_with fail
    refine HH.out.mono ?_
    rintro e w2 ⟨rfl, rfl⟩
    go_wp2_with fail
    refine HO.out.mono ?_
    rintro e w2 ⟨rfl, hb2⟩
    have hk2 := (hb2.block _ hl).trans hblk
    have hB2 := hbx.trans (hb2.mono hbx.size)
    have hl2 := lt_of_block hk2
    have hA : Below w2.heap.size w2 (w2.alloc (.cells #[.int .u64 e0, .int .i64 w0, .bool t0, .int .u64 e1, .int .i64 w1, .bool t1] 67)) := (Below.refl _ _).alloc (Nat.le_refl _) _
    have hk4 := heap_alloc_new w2 (.cells #[.int .u64 e0, .int .i64 w0, .bool t0, .int .u64 e1, .int .i64 w1, .bool t1] 67)
    clear hb2 hbx hblk HO HH hwx
    go_upto_region 4 with fail
    generalize w2.alloc (.cells #[.int .u64 e0, .int .i64 w0, .bool t0, .int .u64 e1, .int .i64 w1, .bool t1] 67) = w3 at *
    have hk3 := (hA.block _ hl2).trans hk2
    have hB3 := hB2.trans (hA.mono hB2.size)
    have hl3 := lt_of_block hk3
    have hl4 := lt_of_block hk4
    clear hk2 hA hB2
    have c0 := cell_blk hk4 0 _ rfl
    have c1 := cell_blk hk4 1 _ rfl
    have c2 := cell_blk hk4 2 _ rfl
    have c3 := cell_blk hk4 3 _ rfl
    have c4 := cell_blk hk4 4 _ rfl
    have c5 := cell_blk hk4 5 _ rfl
    go_wp2_with fail
    refine (HM.out _).mono ?_
    rintro e w4 ⟨rfl, hb4⟩
    have hk5 := (hb4.block _ hl3).trans hk3
    have hk6 := (hb4.block _ hl4).trans hk4
    have d0 := cell_blk hk6 0 _ rfl
    have d1 := cell_blk hk6 1 _ rfl
    have t0 := cell_blk hk5 0 _ rfl
    have t1 := cell_blk hk5 1 _ rfl
    have z0 := frozen_blk hk5 0
    have z1 := frozen_blk hk5 1
    have hfin := two_set (v0 := .int .u64 e0) (v1 := .int .i64 w0) hk5
    have hfB := (hB3.trans (hb4.mono hB3.size)).trans ((set_below w4 w.heap.size 0 (.int .u64 e0) (Nat.le_refl _)).trans (set_below _ w.heap.size 1 (.int .i64 w0) (Nat.le_refl _)))
    have HALL := Lib.hid (And.intro hfin hfB)
    clear hk5 hk6 hfin hfB hk3 hk4 c0 c1 c2 c3 c4 c5 hb4
    go_wp2
    refine bodyPost_ret (results_cell_tmp_row rfl _ _ w.heap.size 30 _ (0, 0) _ rfl HALL.out.1 Tryd.underlying30 rfl info_entry) rfl ?_
    exact ⟨rfl, HALL.out.2⟩

set_option maxHeartbeats 4000000 in
theorem claim_at {w : World} {F : Nat → Prop} {g : Nat} {s : Arr} (h : ArrAt w F g s) (h2 : 1 < s.n) (x : En) (hT : Tab w) (hF0 : ¬ F 0) :
    Calls Tryd.prog 12 #[.pointer (some ⟨g, 0, none⟩), ev x] w (Did w F g (claimS s x)) := by
  have hbd := fun d hd => h.bound d hd
  have hbx : Below w.heap.size w (w.alloc (ebox x)) := (Below.refl _ _).alloc (Nat.le_refl _) _
  have hblk := heap_alloc_new w (ebox x)
  generalize hwx : w.alloc (ebox x) = wx at *
  have HH := Lib.hid (has_two (h.keep hbx) h2)
  have HFM := Lib.hid (fun W => formed_any x W)
  have c0 := cell_blk hblk 0 _ rfl
  have c1 := cell_blk hblk 1 _ rfl
  have HS := Lib.hid (fun W (hb : Below w.heap.size w W) (z : Int) => did_still h hb z)
  have HO := Lib.hid (fun W (hb : Below w.heap.size w W) => open_book (h.keep hb) h2 (hT.below hb hT.pos))
  have HBEG := Lib.hid (fun W (hb : Below w.heap.size w W) (i : Int) (hx : okE x = true) => begin_at (h.keep hb) i x hx (hT.below hb hT.pos) hF0)
  have HGO := Lib.hid (fun W (hb : Below w.heap.size w W) (i : Nat) (hi : i < 2) (hx : okE x = true) => goOn_at (h.keep hb) i hi h2 x hx (hT.below hb hT.pos) hF0)
  have HBD := Lib.hid hbd
  have hlx := lt_of_block hblk
  clear h hT hF0 hbd
  obtain ⟨R, hR⟩ : ∃ R, R = claimS s x := ⟨_, rfl⟩
  rw [← hR]
  unfold claimS at hR
  obtain ⟨r, hr⟩ : ∃ r, openS s = r := ⟨_, rfl⟩
  rw [hr] at hR
  have HR := Lib.hid hr
  clear hr
  obtain ⟨q, hq⟩ : ∃ q, okE x = q := ⟨_, rfl⟩
  rw [hq] at HFM hR
  cases q with
  | false =>
    rw [if_pos rfl] at hR
    subst hR
    clear hq HO HBEG HGO HR
    go_enter Tryd.func12, Tryd.ntmps12
    go_wp2_with fail
    refine HH.out.mono ?_
    rintro e w2 ⟨rfl, rfl⟩
    go_wp2_with fail
    refine (HFM.out _).mono ?_
    rintro e w2 ⟨rfl, hb2⟩
    go_wp2
    go_ret
    exact HS.out _ (hbx.trans (hb2.mono hbx.size)) 1
  | true =>
    rw [if_neg (by decide)] at hR
    obtain ⟨⟨⟨⟨e0, w0⟩, t0⟩, ⟨⟨e1, w1⟩, t1⟩⟩, er⟩ := r
    dsimp only at hR
    have HO2 := Lib.hid (fun W hb => (show Calls Tryd.prog 26 #[.pointer (some ⟨g, 0, none⟩)] W fun e w' => e = .returned (.tuple #[.agg #[.int .u64 e0, .int .i64 w0, .bool t0, .int .u64 e1, .int .i64 w1, .bool t1], .int .i64 er]) ∧ Below W.heap.size W w' from by have h := HO.out W hb; rw [HR.out] at h; exact h))
    have HX := Lib.hid hq
    clear hq HO HR
    by_cases hlt : e0 < e1
    · have hh : homeS (⟨⟨e0, w0⟩, t0⟩, ⟨⟨e1, w1⟩, t1⟩) = 1 := if_pos hlt
      have HM := Lib.hid (fun W => home_one e0 e1 w0 w1 t0 t1 hlt W)
      rw [hh, show getH (⟨⟨e0, w0⟩, t0⟩, ⟨⟨e1, w1⟩, t1⟩) 1 = ⟨⟨e1, w1⟩, t1⟩ from rfl] at hR
      dsimp only at hR
      clear hh hlt
      by_cases her : er = 0
      rotate_left
      · rw [if_pos her] at hR
        subst hR
        have hq : (er != 0) = true := by simp; exact her
        clear HBEG HGO her
        go_enter Tryd.func12, Tryd.ntmps12
        go_wp2_with fail
        refine HH.out.mono ?_
        rintro e w2 ⟨rfl, rfl⟩
        go_wp2_with fail
        refine (HFM.out _).mono ?_
        rintro e wa ⟨rfl, hb1⟩
        have hk1 := (hb1.block _ hlx).trans hblk
        have hB1 := hbx.trans (hb1.mono hbx.size)
        have hl1 := lt_of_block hk1
        clear HH HFM hbx hblk c0 c1 hwx
        go_wp2_with fail
        refine (HO2.out _ hB1).mono ?_
        rintro e w2 ⟨rfl, hb2⟩
        have hk2 := (hb2.block _ hl1).trans hk1
        have hB2 := hB1.trans (hb2.mono hB1.size)
        have hl2 := lt_of_block hk2
        have hA : Below w2.heap.size w2 (w2.alloc (.cells #[.int .u64 e0, .int .i64 w0, .bool t0, .int .u64 e1, .int .i64 w1, .bool t1] 67)) := (Below.refl _ _).alloc (Nat.le_refl _) _
        have hk4 := heap_alloc_new w2 (.cells #[.int .u64 e0, .int .i64 w0, .bool t0, .int .u64 e1, .int .i64 w1, .bool t1] 67)
        clear hb1 hb2 HO2 hB1 hk1
        go_upto_region 6 with fail
        generalize w2.alloc (.cells #[.int .u64 e0, .int .i64 w0, .bool t0, .int .u64 e1, .int .i64 w1, .bool t1] 67) = w3 at *
        have hk3 := (hA.block _ hl2).trans hk2
        have hB3 := hB2.trans (hA.mono hB2.size)
        have hl3 := lt_of_block hk3
        have hl4 := lt_of_block hk4
        clear hk2 hA hB2
        have c0 := cell_blk hk4 0 _ rfl
        have c1 := cell_blk hk4 1 _ rfl
        have c2 := cell_blk hk4 2 _ rfl
        have c3 := cell_blk hk4 3 _ rfl
        have c4 := cell_blk hk4 4 _ rfl
        have c5 := cell_blk hk4 5 _ rfl
        go_wp2_with fail
        refine (HM.out _).mono ?_
        rintro e w4 ⟨rfl, hb4⟩
        have hk5 := (hb4.block _ hl3).trans hk3
        have hk6 := (hb4.block _ hl4).trans hk4
        have hB4 := hB3.trans (hb4.mono hB3.size)
        clear hk3 hk4 c0 c1 c2 c3 c4 c5 hb4 HM hB3
        have d0 := cell_blk hk5 0 _ rfl
        have d1 := cell_blk hk5 1 _ rfl
        go_wp2
        go_ret
        exact HS.out _ hB4 er
      subst her
      rw [if_neg (fun h => h rfl)] at hR
      by_cases hord : x.e ≤ e1
      · rw [if_pos hord] at hR
        subst hR
        clear HBEG HGO
        go_enter Tryd.func12, Tryd.ntmps12
        go_wp2_with fail
        refine HH.out.mono ?_
        rintro e w2 ⟨rfl, rfl⟩
        go_wp2_with fail
        refine (HFM.out _).mono ?_
        rintro e wa ⟨rfl, hb1⟩
        have hk1 := (hb1.block _ hlx).trans hblk
        have hB1 := hbx.trans (hb1.mono hbx.size)
        have hl1 := lt_of_block hk1
        clear HH HFM hbx hblk c0 c1 hwx
        go_wp2_with fail
        refine (HO2.out _ hB1).mono ?_
        rintro e w2 ⟨rfl, hb2⟩
        have hk2 := (hb2.block _ hl1).trans hk1
        have hB2 := hB1.trans (hb2.mono hB1.size)
        have hl2 := lt_of_block hk2
        have hA : Below w2.heap.size w2 (w2.alloc (.cells #[.int .u64 e0, .int .i64 w0, .bool t0, .int .u64 e1, .int .i64 w1, .bool t1] 67)) := (Below.refl _ _).alloc (Nat.le_refl _) _
        have hk4 := heap_alloc_new w2 (.cells #[.int .u64 e0, .int .i64 w0, .bool t0, .int .u64 e1, .int .i64 w1, .bool t1] 67)
        clear hb1 hb2 HO2 hB1 hk1
        go_upto_region 6 with fail
        generalize w2.alloc (.cells #[.int .u64 e0, .int .i64 w0, .bool t0, .int .u64 e1, .int .i64 w1, .bool t1] 67) = w3 at *
        have hk3 := (hA.block _ hl2).trans hk2
        have hB3 := hB2.trans (hA.mono hB2.size)
        have hl3 := lt_of_block hk3
        have hl4 := lt_of_block hk4
        clear hk2 hA hB2
        have c0 := cell_blk hk4 0 _ rfl
        have c1 := cell_blk hk4 1 _ rfl
        have c2 := cell_blk hk4 2 _ rfl
        have c3 := cell_blk hk4 3 _ rfl
        have c4 := cell_blk hk4 4 _ rfl
        have c5 := cell_blk hk4 5 _ rfl
        go_wp2_with fail
        refine (HM.out _).mono ?_
        rintro e w4 ⟨rfl, hb4⟩
        have hk5 := (hb4.block _ hl3).trans hk3
        have hk6 := (hb4.block _ hl4).trans hk4
        have hB4 := hB3.trans (hb4.mono hB3.size)
        clear hk3 hk4 c0 c1 c2 c3 c4 c5 hb4 HM hB3
        have d0 := cell_blk hk5 0 _ rfl
        have d1 := cell_blk hk5 1 _ rfl
        have f0 := cell_blk hk6 3 _ rfl
        clear hk5 hk6
        go_wp2
        go_region
        go_wp2
        go_ret
        exact HS.out _ hB4.drew 6
      rw [if_neg hord] at hR
      have hord2 : e1 < x.e := by omega
      clear hord
      cases t1 with
      | true =>
        rw [if_pos rfl] at hR
        clear HGO HS
        go_enter Tryd.func12, Tryd.ntmps12
        go_wp2_with fail
        refine HH.out.mono ?_
        rintro e w2 ⟨rfl, rfl⟩
        go_wp2_with fail
        refine (HFM.out _).mono ?_
        rintro e wa ⟨rfl, hb1⟩
        have hk1 := (hb1.block _ hlx).trans hblk
        have hB1 := hbx.trans (hb1.mono hbx.size)
        have hl1 := lt_of_block hk1
        clear HH HFM hbx hblk c0 c1 hwx
        go_wp2_with fail
        refine (HO2.out _ hB1).mono ?_
        rintro e w2 ⟨rfl, hb2⟩
        have hk2 := (hb2.block _ hl1).trans hk1
        have hB2 := hB1.trans (hb2.mono hB1.size)
        have hl2 := lt_of_block hk2
        have hA : Below w2.heap.size w2 (w2.alloc (.cells #[.int .u64 e0, .int .i64 w0, .bool t0, .int .u64 e1, .int .i64 w1, .bool true] 67)) := (Below.refl _ _).alloc (Nat.le_refl _) _
        have hk4 := heap_alloc_new w2 (.cells #[.int .u64 e0, .int .i64 w0, .bool t0, .int .u64 e1, .int .i64 w1, .bool true] 67)
        clear hb1 hb2 HO2 hB1 hk1
        go_upto_region 6 with fail
        generalize w2.alloc (.cells #[.int .u64 e0, .int .i64 w0, .bool t0, .int .u64 e1, .int .i64 w1, .bool true] 67) = w3 at *
        have hk3 := (hA.block _ hl2).trans hk2
        have hB3 := hB2.trans (hA.mono hB2.size)
        have hl3 := lt_of_block hk3
        have hl4 := lt_of_block hk4
        clear hk2 hA hB2
        have c0 := cell_blk hk4 0 _ rfl
        have c1 := cell_blk hk4 1 _ rfl
        have c2 := cell_blk hk4 2 _ rfl
        have c3 := cell_blk hk4 3 _ rfl
        have c4 := cell_blk hk4 4 _ rfl
        have c5 := cell_blk hk4 5 _ rfl
        go_wp2_with fail
        refine (HM.out _).mono ?_
        rintro e w4 ⟨rfl, hb4⟩
        have hk5 := (hb4.block _ hl3).trans hk3
        have hk6 := (hb4.block _ hl4).trans hk4
        have hB4 := hB3.trans (hb4.mono hB3.size)
        clear hk3 hk4 c0 c1 c2 c3 c4 c5 hb4 HM hB3
        have d0 := cell_blk hk5 0 _ rfl
        have d1 := cell_blk hk5 1 _ rfl
        have f0 := cell_blk hk6 3 _ rfl
        have f2 := cell_blk hk6 5 _ rfl
        have HC := Lib.hid (show Calls Tryd.prog 28 #[.pointer (some ⟨g, 0, none⟩), .int .i64 0, .agg #[.int .u64 x.e, .int .i64 x.w]] w4.drew (Did w4.drew F g R) from hR ▸ HBEG.out _ hB4.drew 0 HX.out)
        have HB5 := Lib.hid hB4.drew
        clear hk5 hk6 HBEG hR hB4
        go_wp2
        go_region
        go_wp2_with fail
        refine HC.out.mono ?_
        intro e w5 hd
        have hD := Did.after HB5.out hd HBD.out
        obtain ⟨rfl, -⟩ := hd
        go_wp2
        go_ret
        exact hD
      | false =>
        rw [if_neg (by decide)] at hR
        clear HBEG HS
        go_enter Tryd.func12, Tryd.ntmps12
        go_wp2_with fail
        refine HH.out.mono ?_
        rintro e w2 ⟨rfl, rfl⟩
        go_wp2_with fail
        refine (HFM.out _).mono ?_
        rintro e wa ⟨rfl, hb1⟩
        have hk1 := (hb1.block _ hlx).trans hblk
        have hB1 := hbx.trans (hb1.mono hbx.size)
        have hl1 := lt_of_block hk1
        clear HH HFM hbx hblk c0 c1 hwx
        go_wp2_with fail
        refine (HO2.out _ hB1).mono ?_
        rintro e w2 ⟨rfl, hb2⟩
        have hk2 := (hb2.block _ hl1).trans hk1
        have hB2 := hB1.trans (hb2.mono hB1.size)
        have hl2 := lt_of_block hk2
        have hA : Below w2.heap.size w2 (w2.alloc (.cells #[.int .u64 e0, .int .i64 w0, .bool t0, .int .u64 e1, .int .i64 w1, .bool false] 67)) := (Below.refl _ _).alloc (Nat.le_refl _) _
        have hk4 := heap_alloc_new w2 (.cells #[.int .u64 e0, .int .i64 w0, .bool t0, .int .u64 e1, .int .i64 w1, .bool false] 67)
        clear hb1 hb2 HO2 hB1 hk1
        go_upto_region 6 with fail
        generalize w2.alloc (.cells #[.int .u64 e0, .int .i64 w0, .bool t0, .int .u64 e1, .int .i64 w1, .bool false] 67) = w3 at *
        have hk3 := (hA.block _ hl2).trans hk2
        have hB3 := hB2.trans (hA.mono hB2.size)
        have hl3 := lt_of_block hk3
        have hl4 := lt_of_block hk4
        clear hk2 hA hB2
        have c0 := cell_blk hk4 0 _ rfl
        have c1 := cell_blk hk4 1 _ rfl
        have c2 := cell_blk hk4 2 _ rfl
        have c3 := cell_blk hk4 3 _ rfl
        have c4 := cell_blk hk4 4 _ rfl
        have c5 := cell_blk hk4 5 _ rfl
        go_wp2_with fail
        refine (HM.out _).mono ?_
        rintro e w4 ⟨rfl, hb4⟩
        have hk5 := (hb4.block _ hl3).trans hk3
        have hk6 := (hb4.block _ hl4).trans hk4
        have hB4 := hB3.trans (hb4.mono hB3.size)
        clear hk3 hk4 c0 c1 c2 c3 c4 c5 hb4 HM hB3
        have d0 := cell_blk hk5 0 _ rfl
        have d1 := cell_blk hk5 1 _ rfl
        have f0 := cell_blk hk6 3 _ rfl
        have f2 := cell_blk hk6 5 _ rfl
        have HC := Lib.hid (show Calls Tryd.prog 29 #[.pointer (some ⟨g, 0, none⟩), .int .i64 1, .agg #[.int .u64 x.e, .int .i64 x.w]] w4.drew (Did w4.drew F g R) from hR ▸ HGO.out _ hB4.drew 1 (by omega) HX.out)
        have HB5 := Lib.hid hB4.drew
        clear hk5 hk6 HGO hR hB4
        go_wp2
        go_region
        go_wp2_with fail
        refine HC.out.mono ?_
        intro e w5 hd
        have hD := Did.after HB5.out hd HBD.out
        obtain ⟨rfl, -⟩ := hd
        go_wp2
        go_ret
        exact hD
    · have hh : homeS (⟨⟨e0, w0⟩, t0⟩, ⟨⟨e1, w1⟩, t1⟩) = 0 := if_neg hlt
      have HM := Lib.hid (fun W => home_zero e0 e1 w0 w1 t0 t1 hlt W)
      rw [hh, show getH (⟨⟨e0, w0⟩, t0⟩, ⟨⟨e1, w1⟩, t1⟩) 0 = ⟨⟨e0, w0⟩, t0⟩ from rfl] at hR
      dsimp only at hR
      clear hh hlt
      by_cases her : er = 0
      rotate_left
      · rw [if_pos her] at hR
        subst hR
        have hq : (er != 0) = true := by simp; exact her
        clear HBEG HGO her
        go_enter Tryd.func12, Tryd.ntmps12
        go_wp2_with fail
        refine HH.out.mono ?_
        rintro e w2 ⟨rfl, rfl⟩
        go_wp2_with fail
        refine (HFM.out _).mono ?_
        rintro e wa ⟨rfl, hb1⟩
        have hk1 := (hb1.block _ hlx).trans hblk
        have hB1 := hbx.trans (hb1.mono hbx.size)
        have hl1 := lt_of_block hk1
        clear HH HFM hbx hblk c0 c1 hwx
        go_wp2_with fail
        refine (HO2.out _ hB1).mono ?_
        rintro e w2 ⟨rfl, hb2⟩
        have hk2 := (hb2.block _ hl1).trans hk1
        have hB2 := hB1.trans (hb2.mono hB1.size)
        have hl2 := lt_of_block hk2
        have hA : Below w2.heap.size w2 (w2.alloc (.cells #[.int .u64 e0, .int .i64 w0, .bool t0, .int .u64 e1, .int .i64 w1, .bool t1] 67)) := (Below.refl _ _).alloc (Nat.le_refl _) _
        have hk4 := heap_alloc_new w2 (.cells #[.int .u64 e0, .int .i64 w0, .bool t0, .int .u64 e1, .int .i64 w1, .bool t1] 67)
        clear hb1 hb2 HO2 hB1 hk1
        go_upto_region 6 with fail
        generalize w2.alloc (.cells #[.int .u64 e0, .int .i64 w0, .bool t0, .int .u64 e1, .int .i64 w1, .bool t1] 67) = w3 at *
        have hk3 := (hA.block _ hl2).trans hk2
        have hB3 := hB2.trans (hA.mono hB2.size)
        have hl3 := lt_of_block hk3
        have hl4 := lt_of_block hk4
        clear hk2 hA hB2
        have c0 := cell_blk hk4 0 _ rfl
        have c1 := cell_blk hk4 1 _ rfl
        have c2 := cell_blk hk4 2 _ rfl
        have c3 := cell_blk hk4 3 _ rfl
        have c4 := cell_blk hk4 4 _ rfl
        have c5 := cell_blk hk4 5 _ rfl
        go_wp2_with fail
        refine (HM.out _).mono ?_
        rintro e w4 ⟨rfl, hb4⟩
        have hk5 := (hb4.block _ hl3).trans hk3
        have hk6 := (hb4.block _ hl4).trans hk4
        have hB4 := hB3.trans (hb4.mono hB3.size)
        clear hk3 hk4 c0 c1 c2 c3 c4 c5 hb4 HM hB3
        have d0 := cell_blk hk5 0 _ rfl
        have d1 := cell_blk hk5 1 _ rfl
        go_wp2
        go_ret
        exact HS.out _ hB4 er
      subst her
      rw [if_neg (fun h => h rfl)] at hR
      by_cases hord : x.e ≤ e0
      · rw [if_pos hord] at hR
        subst hR
        clear HBEG HGO
        go_enter Tryd.func12, Tryd.ntmps12
        go_wp2_with fail
        refine HH.out.mono ?_
        rintro e w2 ⟨rfl, rfl⟩
        go_wp2_with fail
        refine (HFM.out _).mono ?_
        rintro e wa ⟨rfl, hb1⟩
        have hk1 := (hb1.block _ hlx).trans hblk
        have hB1 := hbx.trans (hb1.mono hbx.size)
        have hl1 := lt_of_block hk1
        clear HH HFM hbx hblk c0 c1 hwx
        go_wp2_with fail
        refine (HO2.out _ hB1).mono ?_
        rintro e w2 ⟨rfl, hb2⟩
        have hk2 := (hb2.block _ hl1).trans hk1
        have hB2 := hB1.trans (hb2.mono hB1.size)
        have hl2 := lt_of_block hk2
        have hA : Below w2.heap.size w2 (w2.alloc (.cells #[.int .u64 e0, .int .i64 w0, .bool t0, .int .u64 e1, .int .i64 w1, .bool t1] 67)) := (Below.refl _ _).alloc (Nat.le_refl _) _
        have hk4 := heap_alloc_new w2 (.cells #[.int .u64 e0, .int .i64 w0, .bool t0, .int .u64 e1, .int .i64 w1, .bool t1] 67)
        clear hb1 hb2 HO2 hB1 hk1
        go_upto_region 6 with fail
        generalize w2.alloc (.cells #[.int .u64 e0, .int .i64 w0, .bool t0, .int .u64 e1, .int .i64 w1, .bool t1] 67) = w3 at *
        have hk3 := (hA.block _ hl2).trans hk2
        have hB3 := hB2.trans (hA.mono hB2.size)
        have hl3 := lt_of_block hk3
        have hl4 := lt_of_block hk4
        clear hk2 hA hB2
        have c0 := cell_blk hk4 0 _ rfl
        have c1 := cell_blk hk4 1 _ rfl
        have c2 := cell_blk hk4 2 _ rfl
        have c3 := cell_blk hk4 3 _ rfl
        have c4 := cell_blk hk4 4 _ rfl
        have c5 := cell_blk hk4 5 _ rfl
        go_wp2_with fail
        refine (HM.out _).mono ?_
        rintro e w4 ⟨rfl, hb4⟩
        have hk5 := (hb4.block _ hl3).trans hk3
        have hk6 := (hb4.block _ hl4).trans hk4
        have hB4 := hB3.trans (hb4.mono hB3.size)
        clear hk3 hk4 c0 c1 c2 c3 c4 c5 hb4 HM hB3
        have d0 := cell_blk hk5 0 _ rfl
        have d1 := cell_blk hk5 1 _ rfl
        have f0 := cell_blk hk6 0 _ rfl
        clear hk5 hk6
        go_wp2
        go_region
        go_wp2
        go_ret
        exact HS.out _ hB4.drew 6
      rw [if_neg hord] at hR
      have hord2 : e0 < x.e := by omega
      clear hord
      cases t0 with
      | true =>
        rw [if_pos rfl] at hR
        clear HGO HS
        go_enter Tryd.func12, Tryd.ntmps12
        go_wp2_with fail
        refine HH.out.mono ?_
        rintro e w2 ⟨rfl, rfl⟩
        go_wp2_with fail
        refine (HFM.out _).mono ?_
        rintro e wa ⟨rfl, hb1⟩
        have hk1 := (hb1.block _ hlx).trans hblk
        have hB1 := hbx.trans (hb1.mono hbx.size)
        have hl1 := lt_of_block hk1
        clear HH HFM hbx hblk c0 c1 hwx
        go_wp2_with fail
        refine (HO2.out _ hB1).mono ?_
        rintro e w2 ⟨rfl, hb2⟩
        have hk2 := (hb2.block _ hl1).trans hk1
        have hB2 := hB1.trans (hb2.mono hB1.size)
        have hl2 := lt_of_block hk2
        have hA : Below w2.heap.size w2 (w2.alloc (.cells #[.int .u64 e0, .int .i64 w0, .bool true, .int .u64 e1, .int .i64 w1, .bool t1] 67)) := (Below.refl _ _).alloc (Nat.le_refl _) _
        have hk4 := heap_alloc_new w2 (.cells #[.int .u64 e0, .int .i64 w0, .bool true, .int .u64 e1, .int .i64 w1, .bool t1] 67)
        clear hb1 hb2 HO2 hB1 hk1
        go_upto_region 6 with fail
        generalize w2.alloc (.cells #[.int .u64 e0, .int .i64 w0, .bool true, .int .u64 e1, .int .i64 w1, .bool t1] 67) = w3 at *
        have hk3 := (hA.block _ hl2).trans hk2
        have hB3 := hB2.trans (hA.mono hB2.size)
        have hl3 := lt_of_block hk3
        have hl4 := lt_of_block hk4
        clear hk2 hA hB2
        have c0 := cell_blk hk4 0 _ rfl
        have c1 := cell_blk hk4 1 _ rfl
        have c2 := cell_blk hk4 2 _ rfl
        have c3 := cell_blk hk4 3 _ rfl
        have c4 := cell_blk hk4 4 _ rfl
        have c5 := cell_blk hk4 5 _ rfl
        go_wp2_with fail
        refine (HM.out _).mono ?_
        rintro e w4 ⟨rfl, hb4⟩
        have hk5 := (hb4.block _ hl3).trans hk3
        have hk6 := (hb4.block _ hl4).trans hk4
        have hB4 := hB3.trans (hb4.mono hB3.size)
        clear hk3 hk4 c0 c1 c2 c3 c4 c5 hb4 HM hB3
        have d0 := cell_blk hk5 0 _ rfl
        have d1 := cell_blk hk5 1 _ rfl
        have f0 := cell_blk hk6 0 _ rfl
        have f2 := cell_blk hk6 2 _ rfl
        have HC := Lib.hid (show Calls Tryd.prog 28 #[.pointer (some ⟨g, 0, none⟩), .int .i64 1, .agg #[.int .u64 x.e, .int .i64 x.w]] w4.drew (Did w4.drew F g R) from hR ▸ HBEG.out _ hB4.drew 1 HX.out)
        have HB5 := Lib.hid hB4.drew
        clear hk5 hk6 HBEG hR hB4
        go_wp2
        go_region
        go_wp2_with fail
        refine HC.out.mono ?_
        intro e w5 hd
        have hD := Did.after HB5.out hd HBD.out
        obtain ⟨rfl, -⟩ := hd
        go_wp2
        go_ret
        exact hD
      | false =>
        rw [if_neg (by decide)] at hR
        clear HBEG HS
        go_enter Tryd.func12, Tryd.ntmps12
        go_wp2_with fail
        refine HH.out.mono ?_
        rintro e w2 ⟨rfl, rfl⟩
        go_wp2_with fail
        refine (HFM.out _).mono ?_
        rintro e wa ⟨rfl, hb1⟩
        have hk1 := (hb1.block _ hlx).trans hblk
        have hB1 := hbx.trans (hb1.mono hbx.size)
        have hl1 := lt_of_block hk1
        clear HH HFM hbx hblk c0 c1 hwx
        go_wp2_with fail
        refine (HO2.out _ hB1).mono ?_
        rintro e w2 ⟨rfl, hb2⟩
        have hk2 := (hb2.block _ hl1).trans hk1
        have hB2 := hB1.trans (hb2.mono hB1.size)
        have hl2 := lt_of_block hk2
        have hA : Below w2.heap.size w2 (w2.alloc (.cells #[.int .u64 e0, .int .i64 w0, .bool false, .int .u64 e1, .int .i64 w1, .bool t1] 67)) := (Below.refl _ _).alloc (Nat.le_refl _) _
        have hk4 := heap_alloc_new w2 (.cells #[.int .u64 e0, .int .i64 w0, .bool false, .int .u64 e1, .int .i64 w1, .bool t1] 67)
        clear hb1 hb2 HO2 hB1 hk1
        go_upto_region 6 with fail
        generalize w2.alloc (.cells #[.int .u64 e0, .int .i64 w0, .bool false, .int .u64 e1, .int .i64 w1, .bool t1] 67) = w3 at *
        have hk3 := (hA.block _ hl2).trans hk2
        have hB3 := hB2.trans (hA.mono hB2.size)
        have hl3 := lt_of_block hk3
        have hl4 := lt_of_block hk4
        clear hk2 hA hB2
        have c0 := cell_blk hk4 0 _ rfl
        have c1 := cell_blk hk4 1 _ rfl
        have c2 := cell_blk hk4 2 _ rfl
        have c3 := cell_blk hk4 3 _ rfl
        have c4 := cell_blk hk4 4 _ rfl
        have c5 := cell_blk hk4 5 _ rfl
        go_wp2_with fail
        refine (HM.out _).mono ?_
        rintro e w4 ⟨rfl, hb4⟩
        have hk5 := (hb4.block _ hl3).trans hk3
        have hk6 := (hb4.block _ hl4).trans hk4
        have hB4 := hB3.trans (hb4.mono hB3.size)
        clear hk3 hk4 c0 c1 c2 c3 c4 c5 hb4 HM hB3
        have d0 := cell_blk hk5 0 _ rfl
        have d1 := cell_blk hk5 1 _ rfl
        have f0 := cell_blk hk6 0 _ rfl
        have f2 := cell_blk hk6 2 _ rfl
        have HC := Lib.hid (show Calls Tryd.prog 29 #[.pointer (some ⟨g, 0, none⟩), .int .i64 0, .agg #[.int .u64 x.e, .int .i64 x.w]] w4.drew (Did w4.drew F g R) from hR ▸ HGO.out _ hB4.drew 0 (by omega) HX.out)
        have HB5 := Lib.hid hB4.drew
        clear hk5 hk6 HGO hR hB4
        go_wp2
        go_region
        go_wp2_with fail
        refine HC.out.mono ?_
        intro e w5 hd
        have hD := Did.after HB5.out hd HBD.out
        obtain ⟨rfl, -⟩ := hd
        go_wp2
        go_ret
        exact hD
end Go.Proofs.YtcbgccmoeleanaaDoor.Lg
