/- The contract of logbook.open. -/
import Derived.Test.YtcbgccmoeleanaaDoorHome
import Derived.Deep.CutRange
namespace Go.Proofs.YtcbgccmoeleanaaDoor.Lg
open Go.RowKit
open Drawbar Drawbar.Sheet Drawbar.Nand Drawbar.Log Go.Proofs.YtcbgccmoeleanaaDoor.Nd

abbrev zkbox : Obj := .cells #[.int .u64 0, .int .i64 0, .bool false, .int .u64 0, .int .i64 0, .bool false] 67

set_option maxHeartbeats 400000 in
theorem open_book {w : World} {F : Nat → Prop} {g : Nat} {s : Arr} (h : ArrAt w F g s) (h2 : 1 < s.n) (hT : Tab w) :
    Calls Tryd.prog 26 #[.pointer (some ⟨g, 0, none⟩)] w fun e w' => e = .returned (.tuple #[kv (openS s).1, .int .i64 (openS s).2]) ∧ Below w.heap.size w w' := by
  obtain ⟨wq, hwq⟩ : ∃ wq, (w.alloc zkbox).alloc zkbox = wq := ⟨_, rfl⟩
  have hb1 : Below w.heap.size w (w.alloc zkbox) := (Below.refl _ _).alloc (Nat.le_refl _) _
  have hs1 : (w.alloc zkbox).heap.size = w.heap.size + 1 := by simp
  have hbq : Below (w.heap.size + 1) (w.alloc zkbox) wq := hwq ▸ (Below.refl _ _).alloc (by rw [hs1]; exact Nat.le_refl _) _
  have hBq : Below w.heap.size w wq := hb1.trans (hbq.mono (Nat.le_succ _))
  have hk2 : wq.heap[w.heap.size]? = some zkbox := (hbq.block _ (Nat.lt_succ_self _)).trans (heap_alloc_new w zkbox)
  have hk4 : wq.heap[w.heap.size + 1]? = some zkbox := by
    have hz := heap_alloc_new (w.alloc zkbox) zkbox
    rw [hs1] at hz
    exact hwq ▸ hz
  have h0 : ∀ W, Below w.heap.size w W → Calls Tryd.prog 35 #[.pointer (some ⟨g, 0, none⟩), .int .i64 0] W fun e w' => e = .returned (.tuple #[hv (heldS s 0).1, .int .i64 (heldS s 0).2]) ∧ Below W.heap.size W w' :=
    fun W hb => lgread_any (h.keep hb) 0 (by omega) (hT.below hb hT.pos)
  have h1 : ∀ W, Below w.heap.size w W → Calls Tryd.prog 35 #[.pointer (some ⟨g, 0, none⟩), .int .i64 1] W fun e w' => e = .returned (.tuple #[hv (heldS s 1).1, .int .i64 (heldS s 1).2]) ∧ Below W.heap.size W w' :=
    fun W hb => lgread_any (h.keep hb) 1 h2 (hT.below hb hT.pos)
  obtain ⟨r, hr0⟩ : ∃ r, r = openS s := ⟨_, rfl⟩
  rw [← hr0]
  have H0 := Lib.hid h0
  have H1 := Lib.hid h1
  have HR0 := Lib.hid hr0
  have HK := Lib.hid (And.intro hk2 (And.intro hBq hk4))
  clear h0 h1 hr0 h hT h2 hb1 hs1 hbq
  go_enter Tryd.func26, Tryd.ntmps26
  go_wp2
  go_loopw [8] (fun iv wr => wr.heap[w.heap.size]? = some zkbox ∧ Below w.heap.size w wr ∧ (iv = .int .i64 0 ∧ wr.heap[w.heap.size + 1]? = some zkbox ∨
      iv = .int .i64 1 ∧ (∃ x : Hd, heldS s 0 = (x, 0) ∧ wr.heap[w.heap.size + 1]? = some (kbox x.last.e x.last.w x.torn 0 0 false)) ∨
      iv = .int .i64 2 ∧ (∃ x y : Hd, heldS s 0 = (x, 0) ∧ heldS s 1 = (y, 0) ∧ wr.heap[w.heap.size + 1]? = some (kbox x.last.e x.last.w x.torn y.last.e y.last.w y.torn))))
    (fun iv _ => 2 - (intOf iv).toNat)
  case atStart => exact ⟨HK.out.1, HK.out.2.1, .inl ⟨rfl, HK.out.2.2⟩⟩
  case round =>
    obtain ⟨hk2, hB, ⟨rfl, hk4⟩ | ⟨rfl, ⟨⟨⟨a0, b0⟩, d0⟩, hx0, hk4⟩⟩ | ⟨rfl, ⟨⟨⟨a0, b0⟩, d0⟩, ⟨⟨a1, b1⟩, d1⟩, hx0, hx1, hk4⟩⟩⟩ := hrel
    all_goals clear hwq HK
    · have HC := Lib.hid (H0.out wr hB)
      have hl2 := lt_of_block hk2
      have hl4 := lt_of_block hk4
      obtain ⟨⟨⟨⟨ha, hb⟩, hd⟩, er⟩, hr⟩ : ∃ r : Hd × Int, r = heldS s 0 := ⟨_, rfl⟩
      rw [← hr] at HC
      dsimp only at HC
      by_cases her : er = 0
      · subst her
        have HR := Lib.hid hr
        clear hr
        go_wp2_with fail
        refine HC.out.mono ?_
        rintro e w2 ⟨rfl, hb2⟩
        have hk22 := (hb2.block _ hl2).trans hk2
        have hk42 := (hb2.block _ hl4).trans hk4
        have hB2 := hB.trans (hb2.mono hB.size)
        have hl2 := lt_of_block hk22
        have hl4 := lt_of_block hk42
        have hA : Below w2.heap.size w2 (w2.alloc (.cells #[.int .u64 ha, .int .i64 hb, .bool hd] 65)) := (Below.refl _ _).alloc (Nat.le_refl _) _
        have hk6 := heap_alloc_new w2 (.cells #[.int .u64 ha, .int .i64 hb, .bool hd] 65)
        clear hk2 hk4 hb2
        go_upto_region 6 with fail
        generalize w2.alloc (.cells #[.int .u64 ha, .int .i64 hb, .bool hd] 65) = w3 at *
        have hk23 := (hA.block _ hl2).trans hk22
        have hk43 := (hA.block _ hl4).trans hk42
        have hB3 := hB2.trans (hA.mono hB2.size)
        clear hk22 hk42 hA
        have t0 := cell_blk hk43 0 _ rfl
        have z0 := frozen_blk hk43 0
        have t1 := cell_blk hk43 1 _ rfl
        have z1 := frozen_blk hk43 1
        have t2 := cell_blk hk43 2 _ rfl
        have z2 := frozen_blk hk43 2
        have c0 := cell_blk hk6 0 _ rfl
        have c1 := cell_blk hk6 1 _ rfl
        have c2 := cell_blk hk6 2 _ rfl
        have hfin := low_set (v0 := .int .u64 ha) (v1 := .int .i64 hb) (v2 := .bool hd) hk43
        have hfB := hB3.trans (((set_below w3 (w.heap.size + 1) 0 (.int .u64 ha) (Nat.le_succ _)).trans (set_below _ (w.heap.size + 1) 1 (.int .i64 hb) (Nat.le_succ _))).trans (set_below _ (w.heap.size + 1) 2 (.bool hd) (Nat.le_succ _)))
        have hf4 := (set_heap_other ((w3.setCell ⟨w.heap.size + 1, 0, none⟩ (.int .u64 ha)).setCell ⟨w.heap.size + 1, 1, none⟩ (.int .i64 hb)) (w.heap.size + 1) 2 w.heap.size (.bool hd) (by omega)).trans ((set_heap_other _ _ _ _ _ (by omega)).trans ((set_heap_other _ _ _ _ _ (by omega)).trans hk23))
        have HALL := Lib.hid (And.intro hfin (And.intro hfB hf4))
        clear hfin hfB hf4 hk23 hk43 hk6
        go_wp2
        go_roundw
        case rel =>
          obtain ⟨hfin, hfB, hf4⟩ := HALL.out
          exact ⟨hf4, hfB, .inr (.inl ⟨rfl, ⟨⟨ha, hb⟩, hd⟩, HR.out.symm, hfin⟩)⟩
        case measure => simp [intOf]
      · have hq : (er != 0) = true := by simp; exact her
        obtain ⟨hz, hze⟩ : r = ((Hd.z, Hd.z), er) ∧ True := by
          refine ⟨?_, trivial⟩
          rw [HR0.out]
          unfold openS
          rw [← hr, if_pos her]
        subst hz
        clear hr hze her
        go_wp2_with fail
        refine HC.out.mono ?_
        rintro e w2 ⟨rfl, hb2⟩
        have hk22 := (hb2.block _ hl2).trans hk2
        have hk42 := (hb2.block _ hl4).trans hk4
        have hB2 := hB.trans (hb2.mono hB.size)
        have hl2 := lt_of_block hk22
        have hl4 := lt_of_block hk42
        have hA : Below w2.heap.size w2 (w2.alloc (.cells #[.int .u64 ha, .int .i64 hb, .bool hd] 65)) := (Below.refl _ _).alloc (Nat.le_refl _) _
        have hk6 := heap_alloc_new w2 (.cells #[.int .u64 ha, .int .i64 hb, .bool hd] 65)
        clear hk2 hk4 hb2
        go_upto_region 6 with fail
        generalize w2.alloc (.cells #[.int .u64 ha, .int .i64 hb, .bool hd] 65) = w3 at *
        have hk23 := (hA.block _ hl2).trans hk22
        have hk43 := (hA.block _ hl4).trans hk42
        have hB3 := hB2.trans (hA.mono hB2.size)
        clear hk22 hk42 hA
        clear hk43 hk6
        have t0 := cell_blk hk23 0 _ rfl
        have z0 := frozen_blk hk23 0
        have t1 := cell_blk hk23 1 _ rfl
        have z1 := frozen_blk hk23 1
        have t2 := cell_blk hk23 2 _ rfl
        have z2 := frozen_blk hk23 2
        have t3 := cell_blk hk23 3 _ rfl
        have z3 := frozen_blk hk23 3
        have t4 := cell_blk hk23 4 _ rfl
        have z4 := frozen_blk hk23 4
        have t5 := cell_blk hk23 5 _ rfl
        have z5 := frozen_blk hk23 5
        have hfin := six_set (v0 := .int .u64 0) (v1 := .int .i64 0) (v2 := .bool false) (v3 := .int .u64 0) (v4 := .int .i64 0) (v5 := .bool false) hk23
        have hfB := hB3.trans (six_below (v0 := .int .u64 0) (v1 := .int .i64 0) (v2 := .bool false) (v3 := .int .u64 0) (v4 := .int .i64 0) (v5 := .bool false) (Nat.le_refl w.heap.size))
        have HALL := Lib.hid (And.intro hfin hfB)
        clear hfin hfB hk23
        go_wp2
        refine bodyPost_ret (results_cell_tmp_row rfl _ _ w.heap.size 67 _ (0, 0) _ rfl HALL.out.1 Tryd.underlying67 rfl info_book) rfl ?_
        exact ⟨rfl, HALL.out.2⟩
    · have HC := Lib.hid (H1.out wr hB)
      have hl2 := lt_of_block hk2
      have hl4 := lt_of_block hk4
      obtain ⟨⟨⟨⟨ha, hb⟩, hd⟩, er⟩, hr⟩ : ∃ r : Hd × Int, r = heldS s 1 := ⟨_, rfl⟩
      rw [← hr] at HC
      dsimp only at HC
      by_cases her : er = 0
      · subst her
        have HR := Lib.hid hr
        clear hr
        go_wp2_with fail
        refine HC.out.mono ?_
        rintro e w2 ⟨rfl, hb2⟩
        have hk22 := (hb2.block _ hl2).trans hk2
        have hk42 := (hb2.block _ hl4).trans hk4
        have hB2 := hB.trans (hb2.mono hB.size)
        have hl2 := lt_of_block hk22
        have hl4 := lt_of_block hk42
        have hA : Below w2.heap.size w2 (w2.alloc (.cells #[.int .u64 ha, .int .i64 hb, .bool hd] 65)) := (Below.refl _ _).alloc (Nat.le_refl _) _
        have hk6 := heap_alloc_new w2 (.cells #[.int .u64 ha, .int .i64 hb, .bool hd] 65)
        clear hk2 hk4 hb2
        go_upto_region 6 with fail
        generalize w2.alloc (.cells #[.int .u64 ha, .int .i64 hb, .bool hd] 65) = w3 at *
        have hk23 := (hA.block _ hl2).trans hk22
        have hk43 := (hA.block _ hl4).trans hk42
        have hB3 := hB2.trans (hA.mono hB2.size)
        clear hk22 hk42 hA
        have t3 := cell_blk hk43 3 _ rfl
        have z3 := frozen_blk hk43 3
        have t4 := cell_blk hk43 4 _ rfl
        have z4 := frozen_blk hk43 4
        have t5 := cell_blk hk43 5 _ rfl
        have z5 := frozen_blk hk43 5
        have c0 := cell_blk hk6 0 _ rfl
        have c1 := cell_blk hk6 1 _ rfl
        have c2 := cell_blk hk6 2 _ rfl
        have hfin := high_set (v0 := .int .u64 ha) (v1 := .int .i64 hb) (v2 := .bool hd) hk43
        have hfB := hB3.trans (((set_below w3 (w.heap.size + 1) 3 (.int .u64 ha) (Nat.le_succ _)).trans (set_below _ (w.heap.size + 1) 4 (.int .i64 hb) (Nat.le_succ _))).trans (set_below _ (w.heap.size + 1) 5 (.bool hd) (Nat.le_succ _)))
        have hf4 := (set_heap_other ((w3.setCell ⟨w.heap.size + 1, 3, none⟩ (.int .u64 ha)).setCell ⟨w.heap.size + 1, 4, none⟩ (.int .i64 hb)) (w.heap.size + 1) 5 w.heap.size (.bool hd) (by omega)).trans ((set_heap_other _ _ _ _ _ (by omega)).trans ((set_heap_other _ _ _ _ _ (by omega)).trans hk23))
        have HALL := Lib.hid (And.intro hfin (And.intro hfB hf4))
        clear hfin hfB hf4 hk23 hk43 hk6
        go_wp2
        go_roundw
        case rel =>
          obtain ⟨hfin, hfB, hf4⟩ := HALL.out
          exact ⟨hf4, hfB, .inr (.inr ⟨rfl, ⟨⟨a0, b0⟩, d0⟩, ⟨⟨ha, hb⟩, hd⟩, hx0, HR.out.symm, hfin⟩)⟩
        case measure => simp [intOf]
      · have hq : (er != 0) = true := by simp; exact her
        obtain ⟨hz, hze⟩ : r = ((Hd.z, Hd.z), er) ∧ True := by
          refine ⟨?_, trivial⟩
          rw [HR0.out]
          unfold openS
          rw [hx0, ← hr, if_neg (fun h => h rfl), if_pos her]
        subst hz
        clear hr hze her
        go_wp2_with fail
        refine HC.out.mono ?_
        rintro e w2 ⟨rfl, hb2⟩
        have hk22 := (hb2.block _ hl2).trans hk2
        have hk42 := (hb2.block _ hl4).trans hk4
        have hB2 := hB.trans (hb2.mono hB.size)
        have hl2 := lt_of_block hk22
        have hl4 := lt_of_block hk42
        have hA : Below w2.heap.size w2 (w2.alloc (.cells #[.int .u64 ha, .int .i64 hb, .bool hd] 65)) := (Below.refl _ _).alloc (Nat.le_refl _) _
        have hk6 := heap_alloc_new w2 (.cells #[.int .u64 ha, .int .i64 hb, .bool hd] 65)
        clear hk2 hk4 hb2
        go_upto_region 6 with fail
        generalize w2.alloc (.cells #[.int .u64 ha, .int .i64 hb, .bool hd] 65) = w3 at *
        have hk23 := (hA.block _ hl2).trans hk22
        have hk43 := (hA.block _ hl4).trans hk42
        have hB3 := hB2.trans (hA.mono hB2.size)
        clear hk22 hk42 hA
        clear hk43 hk6
        have t0 := cell_blk hk23 0 _ rfl
        have z0 := frozen_blk hk23 0
        have t1 := cell_blk hk23 1 _ rfl
        have z1 := frozen_blk hk23 1
        have t2 := cell_blk hk23 2 _ rfl
        have z2 := frozen_blk hk23 2
        have t3 := cell_blk hk23 3 _ rfl
        have z3 := frozen_blk hk23 3
        have t4 := cell_blk hk23 4 _ rfl
        have z4 := frozen_blk hk23 4
        have t5 := cell_blk hk23 5 _ rfl
        have z5 := frozen_blk hk23 5
        have hfin := six_set (v0 := .int .u64 0) (v1 := .int .i64 0) (v2 := .bool false) (v3 := .int .u64 0) (v4 := .int .i64 0) (v5 := .bool false) hk23
        have hfB := hB3.trans (six_below (v0 := .int .u64 0) (v1 := .int .i64 0) (v2 := .bool false) (v3 := .int .u64 0) (v4 := .int .i64 0) (v5 := .bool false) (Nat.le_refl w.heap.size))
        have HALL := Lib.hid (And.intro hfin hfB)
        clear hfin hfB hk23
        go_wp2
        refine bodyPost_ret (results_cell_tmp_row rfl _ _ w.heap.size 67 _ (0, 0) _ rfl HALL.out.1 Tryd.underlying67 rfl info_book) rfl ?_
        exact ⟨rfl, HALL.out.2⟩
    · obtain rfl : r = ((⟨⟨a0, b0⟩, d0⟩, ⟨⟨a1, b1⟩, d1⟩), 0) := by
        rw [HR0.out]
        unfold openS
        rw [hx0, hx1, if_neg (fun h => h rfl), if_neg (fun h => h rfl)]
      clear HR0 hx0 hx1
      dsimp only at *
      have c0 := cell_blk hk4 0 _ rfl
      have c1 := cell_blk hk4 1 _ rfl
      have c2 := cell_blk hk4 2 _ rfl
      have c3 := cell_blk hk4 3 _ rfl
      have c4 := cell_blk hk4 4 _ rfl
      have c5 := cell_blk hk4 5 _ rfl
      have t0 := cell_blk hk2 0 _ rfl
      have z0 := frozen_blk hk2 0
      have t1 := cell_blk hk2 1 _ rfl
      have z1 := frozen_blk hk2 1
      have t2 := cell_blk hk2 2 _ rfl
      have z2 := frozen_blk hk2 2
      have t3 := cell_blk hk2 3 _ rfl
      have z3 := frozen_blk hk2 3
      have t4 := cell_blk hk2 4 _ rfl
      have z4 := frozen_blk hk2 4
      have t5 := cell_blk hk2 5 _ rfl
      have z5 := frozen_blk hk2 5
      have hfin := six_set (v0 := .int .u64 a0) (v1 := .int .i64 b0) (v2 := .bool d0) (v3 := .int .u64 a1) (v4 := .int .i64 b1) (v5 := .bool d1) hk2
      have hfB := hB.trans (six_below (v0 := .int .u64 a0) (v1 := .int .i64 b0) (v2 := .bool d0) (v3 := .int .u64 a1) (v4 := .int .i64 b1) (v5 := .bool d1) (Nat.le_refl w.heap.size))
      clear hk2 hk4
      go_wp2
      refine bodyPost_ret (results_cell_tmp_row rfl _ _ w.heap.size 67 _ (0, 0) _ rfl hfin Tryd.underlying67 rfl info_book) rfl ?_
      exact ⟨rfl, hfB⟩
end Go.Proofs.YtcbgccmoeleanaaDoor.Lg
