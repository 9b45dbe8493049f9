/- The law PmapMoves answers true. -/
import Derived.Test.YtfehioapjoihkaaPAwake
import Derived.Test.YtfehioapjoihkaaArgs
import Derived.BigRegion
namespace Drawbar.Pm
/-- One of five addresses. -/
def one (v : Pl) : St := (St.new 5 64).put 3 v
theorem one_none : one none = St.new 5 64 := put_id (St.new 5 64) 3
theorem one_put (v u : Pl) : (one v).put 3 u = one u := put_put _ _ _ _
theorem one_apart (v : Nat × Nat) : Apart (one (some v)) := (Apart.new 5 64).set 3 _ fun j _ h => by cases h
theorem one_at (v : Pl) (k : Nat) : (one v).at_ k = if k = 3 then v else none := rfl
theorem one_cnt (b p : Nat) : (one (some (b, p))).cnt b = 1 := by
  show cntTo _ 5 = 1
  simp [cntTo, one_at, on]
theorem one_len (v : Nat × Nat) : (one (some v)).len = 1 := by
  show cntTo _ 5 = 1
  simp [cntTo, one_at]
theorem none_len : (one none).len = 0 := by decide
theorem one_ons (b p : Nat) : (one (some (b, p))).ons b = [3] := by
  show (List.range 5).filter _ = [3]
  simp [List.range, List.range.loop, List.filter, one_at, on]
end Drawbar.Pm
namespace Go.Proofs.Ytfehioapjoihkaa
open Go.RowKit
open Drawbar Drawbar.Pm

/-- A place in a variable. -/
structure Box (w : World) (bx : Nat) (b p : Int) : Prop where
  c0 : w.cell? ⟨bx, 0, none⟩ = some (.int .i64 b)
  c1 : w.cell? ⟨bx, 1, none⟩ = some (.int .i64 p)
theorem Box.lt {w : World} {bx : Nat} {b p : Int} (h : Box w bx b p) : bx < w.heap.size := World.block_lt_of_cell? w _ h.c0
theorem Box.only {w w' : World} {bx : Nat} {b p : Int} (h : Box w bx b p) {F : Nat → Prop} (ho : Only F w w') (hf : ¬ F bx) : Box w' bx b p :=
  ⟨(World.cell?_of_block (a := ⟨bx, 0, none⟩) (ho.block bx h.lt hf)).trans h.c0, (World.cell?_of_block (a := ⟨bx, 1, none⟩) (ho.block bx h.lt hf)).trans h.c1⟩
theorem Box.below {w w' : World} {bx : Nat} {b p : Int} (h : Box w bx b p) (hb : Below w.heap.size w w') : Box w' bx b p := h.only (Only.below (F := fun _ => False) hb) fun h => h
theorem Box.new (w : World) (b p : Int) : Box (w.alloc (.cells #[.int .i64 b, .int .i64 p] 34)) w.heap.size b p := ⟨by simp, by simp⟩
theorem Box.drew {w : World} {bx : Nat} {b p : Int} (h : Box w bx b p) : Box w.drew bx b p := ⟨h.c0, h.c1⟩

set_option maxHeartbeats 2000000 in
theorem moves_any (l : List Int) (a : Option Addr) (c : Nat) (w : World) (hs : Nums .u16 w a l) : Calls Try.prog 5 #[.slice a l.length c] w (Yes w) := by
  by_cases h60 : 60 < l.length
  · have i1 : (60 : Int) < l.length := by omega
    clear hs
    go_enter Try.func5, Try.ntmps5
    go_wp2_with fail
    refine (awake_any _).mono ?_
    rintro e w1 ⟨rfl, b1⟩
    go_wp2_with fail
    refine (awake_any _).mono ?_
    rintro e w2 ⟨rfl, b2⟩
    have b3 := b1.trans (b2.mono b1.size)
    clear b1 b2
    go_wp2
    go_ret
    exact ⟨rfl, b3⟩
  · have i1 : (l.length : Int) ≤ 60 := by omega
    have HS := Lib.hid hs
    clear hs
    go_enter Try.func5, Try.ntmps5
    go_wp2_with fail
    refine (awake_any _).mono ?_
    rintro e w1 ⟨rfl, b1⟩
    have hn : Calls Try.prog 12 #[.int .i64 5, .int .i64 64] w1 (Made w1 (St.new 5 64)) := new_any 5 64 w1 (by omega) (by omega) (by omega) (by omega)
    have HN := Lib.hid hn
    have B1 := Lib.hid b1
    clear hn b1
    go_wp2_with fail
    refine HN.out.mono ?_
    intro e w2 hm
    obtain ⟨g, pb, cb, rfl, h2, b2⟩ := hm.mine
    rw [← one_none] at h2
    have H2 : Hid (Mine w.heap.size w2 g pb cb (one none)) := Lib.hid ⟨h2.at_, Nat.le_trans B1.out.size h2.g9, Nat.le_trans B1.out.size h2.p9, Nat.le_trans B1.out.size h2.c9⟩
    have B2 : Hid (Below w.heap.size w w2) := Lib.hid (B1.out.trans (b2.mono B1.out.size))
    clear hm HN h2 b2
    go_wp2
    go_loopw [5] (fun iv wr => ∃ (i : Nat) (v : Pl), iv = .int .i64 i ∧ i ≤ l.length ∧ Hid (Mine w.heap.size wr g pb cb (one v)) ∧ Hid (Below w.heap.size w wr)) (fun iv _ => l.length - (intOf iv).toNat)
    case atStart => exact ⟨0, none, rfl, Nat.zero_le _, H2, B2⟩
    case round =>
      obtain ⟨i, v, rfl, hi, HR, BR⟩ := hrel
      clear H2 B2 B1
      by_cases hlt : i < l.length
      · have i2 : (i : Int) < (l.length : Int) := by omega
        obtain ⟨bb, off, rfl, hc⟩ := HS.out.2 (by omega)
        have hcell : wr.cell? ⟨bb, off + i, none⟩ = some (.int .u16 (l.getD i 0)) := (BR.out.cell (p := ⟨bb, off + i, none⟩) (World.block_lt_of_cell? w _ (hc i hlt))).trans (hc i hlt)
        have hbb : bb < wr.heap.size := World.block_lt_of_cell? wr _ hcell
        have hb := bounds_u16 (HS.out.wf i hlt)
        generalize l.getD i 0 = y at hcell hb
        obtain ⟨x, rfl⟩ : ∃ x : Nat, y = x := ⟨y.toNat, by omega⟩
        obtain ⟨b, hbx⟩ : ∃ b : Nat, b = x % 64 := ⟨_, rfl⟩
        obtain ⟨p, hpx⟩ : ∃ p : Nat, p = x / 64 % 32 := ⟨_, rfl⟩
        have e1 : (x : Int) % 64 = (b : Int) := by omega
        have e2 : (x : Int) / 64 % 32 = (p : Int) := by omega
        have hb9 : b < 64 := by omega
        have hp9 : p < 32 := by omega
        clear hc hbx hpx
        go_wp2_with fail
        go_region
        go_wp2_with fail
        have X0 : Box ((wr.alloc (.cells #[.int .i64 b, .int .i64 p] 34)).drew) wr.heap.size b p := (Box.new wr b p).drew
        have B0 : Below wr.heap.size wr ((wr.alloc (.cells #[.int .i64 b, .int .i64 p] 34)).drew) := Below.drewB ((Below.refl _ _).alloc (Nat.le_refl _) _)
        have M0 := HR.out.below B0
        have L0 := BR.out.trans (B0.mono BR.out.size)
        have n1 := HR.out.at_.pbl
        have n2 := HR.out.at_.cbl
        generalize (wr.alloc (.cells #[.int .i64 b, .int .i64 p] 34)).drew = W0 at X0 M0 L0 ⊢
        clear B0 hcell hbb e1 e2 HR BR hb
        generalize wr.heap.size = bx at X0 n1 n2 ⊢
        have hset : Calls Try.prog 14 #[.pointer (some ⟨g, 0, none⟩), .int .i64 3, .agg #[.int .i64 b, .int .i64 p]] W0 fun e w' => e = .returned (.int .i64 0) ∧ Become W0 g pb cb ((one v).put 3 (some (b, p))) w' := set_in M0.at_ 3 b p (show 3 < 5 by omega) hb9 hp9
        rw [one_put] at hset
        refine hset.mono ?_
        clear hset
        rintro e W1 ⟨rfl, hbc⟩
        have M1 := M0.become hbc
        have X1 := X0.only hbc.2 (by unfold Two; omega)
        have L1 := L0.trans (M0.low hbc L0.size)
        have hget : Calls Try.prog 16 #[.pointer (some ⟨g, 0, none⟩), .int .i64 3] W1 fun e w' => e = .returned (.tuple #[.agg #[.int .i64 b, .int .i64 p], .bool true]) ∧ Below W1.heap.size W1 w' := get_in M1.at_ 3 (show 3 < 5 by omega)
        have HG := Lib.hid hget
        have n3 := X1.lt
        clear hbc M0 X0 L0 hget
        go_wp2_with fail
        refine HG.out.mono ?_
        rintro e W2 ⟨rfl, hb2⟩
        have M2 := M1.below hb2
        have X2 := X1.below hb2
        have L2 := L1.trans (hb2.mono L1.size)
        have x0 := X2.c0
        have n4 := X2.lt
        clear hb2 M1 X1 L1 HG n3
        go_wp2_with fail
        have B3 : Below W2.heap.size W2 (W2.alloc (.cells #[.int .i64 b, .int .i64 p] 34)) := (Below.refl _ _).alloc (Nat.le_refl _) _
        have Y3 := Box.new W2 b p
        have X3 := X2.below B3
        have M3 := M2.below B3
        have L3 := L2.trans (B3.mono L2.size)
        clear B3 x0 M2 X2 L2 n4
        generalize W2.alloc (.cells #[.int .i64 b, .int .i64 p] 34) = W3 at X3 Y3 M3 L3 ⊢
        generalize W2.heap.size = cx at Y3 ⊢
        refine (on_in M3.at_ (one_apart (b, p)) b hb9).mono ?_
        rintro e W4 ⟨a4, l4, c4, rfl, hrd, hperm, -, hb4⟩
        rw [one_ons, List.perm_singleton] at hperm
        subst hperm
        have M4 := M3.below hb4
        have X4 := X3.below hb4
        have Y4 := Y3.below hb4
        have L4 := L3.trans (hb4.mono L3.size)
        obtain ⟨lb, lo, rfl, hcl⟩ := hrd (by decide)
        have hcl0 := hcl 0 (by decide)
        have hcl1 : W4.cell? ⟨lb, lo, none⟩ = some (.int .i64 3) := by simpa using hcl0
        have x0 := X4.c0
        have x1 := X4.c1
        have y0 := Y4.c0
        have y1 := Y4.c1
        have hlen := len_any M4.at_
        rw [one_len] at hlen
        have hlen2 : Calls Try.prog 18 #[.pointer (some ⟨g, 0, none⟩)] W4 fun e w' => e = .returned (.int .i64 1) ∧ W4 = w' := hlen
        have hcnt := count_in M4.at_ b hb9
        rw [one_cnt] at hcnt
        have hcnt2 : Calls Try.prog 17 #[.pointer (some ⟨g, 0, none⟩), .int .i64 b] W4 fun e w' => e = .returned (.int .i64 1) ∧ W4 = w' := hcnt
        have HL := Lib.hid hlen2
        have HC := Lib.hid hcnt2
        have HM4 := Lib.hid M4
        have HL4 := Lib.hid L4
        clear hlen hlen2 hcnt hcnt2 hcl hcl0 hrd hb4 M3 X3 Y3 L3 M4 L4 X4 Y4
        go_wp2_with (first
          | (go_at_call 18; (with_reducible refine HL.out.mono ?_); rintro e w' ⟨rfl, rfl⟩)
          | (go_at_call 17; (with_reducible refine HC.out.mono ?_); rintro e w' ⟨rfl, rfl⟩))
        go_roundw
        case rel => exact ⟨i + 1, some (b, p), by go_num, by omega, HM4, HL4⟩
        case measure => simp [intOf]; omega
      · have i2 : ¬ (i : Int) < (l.length : Int) := by omega
        have hdrop : Calls Try.prog 13 #[.pointer (some ⟨g, 0, none⟩), .int .i64 3] wr fun e w' => e = .returned (.int .i64 0) ∧ Become wr g pb cb ((one v).put 3 none) w' := drop_in HR.out.at_ 3 (show 3 < 5 by omega)
        rw [one_put] at hdrop
        have HD := Lib.hid hdrop
        clear hdrop
        go_wp2_with fail
        refine HD.out.mono ?_
        rintro e W1 ⟨rfl, hbc⟩
        have M1 := HR.out.become hbc
        have L1 := BR.out.trans (HR.out.low hbc BR.out.size)
        have hget : Calls Try.prog 16 #[.pointer (some ⟨g, 0, none⟩), .int .i64 3] W1 fun e w' => e = .returned (.tuple #[.agg #[.int .i64 0, .int .i64 0], .bool false]) ∧ Below W1.heap.size W1 w' := get_in M1.at_ 3 (show 3 < 5 by omega)
        have HG := Lib.hid hget
        clear hbc hget HD
        go_wp2_with fail
        refine HG.out.mono ?_
        rintro e W2 ⟨rfl, hb2⟩
        have M2 := (M1.below hb2).below ((Below.refl _ _).alloc (Nat.le_refl _) (.cells #[.int .i64 0, .int .i64 0] 34))
        have L2 := (L1.trans (hb2.mono L1.size)).alloc (Nat.le_trans L1.size hb2.size) (.cells #[.int .i64 0, .int .i64 0] 34)
        have hlen := len_any M2.at_
        rw [none_len] at hlen
        have HL := Lib.hid hlen
        have HL2 := Lib.hid L2
        clear M1 L1 hb2 M2 L2 HG hlen
        go_wp2_with (first
          | (go_at_call 18; refine HL.out.mono ?_; rintro e w' ⟨rfl, rfl⟩))
        go_ret
        exact ⟨rfl, HL2.out⟩
end Go.Proofs.Ytfehioapjoihkaa
