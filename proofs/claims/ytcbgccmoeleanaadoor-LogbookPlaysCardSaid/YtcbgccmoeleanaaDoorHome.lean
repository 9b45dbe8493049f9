/- What logbook.open tells, as plain data; the contract of (logbook.book).home. -/
import Derived.Test.YtcbgccmoeleanaaDoorBook
namespace Drawbar.Log
open Go.RowKit
open Go.Proofs.YtcbgccmoeleanaaDoor Drawbar Drawbar.Sheet Drawbar.Nand

noncomputable def openS (s : Arr) : (Hd × Hd) × Int :=
  if (heldS s 0).2 ≠ 0 then ((Hd.z, Hd.z), (heldS s 0).2) else if (heldS s 1).2 ≠ 0 then ((Hd.z, Hd.z), (heldS s 1).2) else (((heldS s 0).1, (heldS s 1).1), 0)
def homeS (b : Hd × Hd) : Nat := if b.1.last.e < b.2.last.e then 1 else 0
def getH (b : Hd × Hd) (i : Nat) : Hd := if i = 0 then b.1 else b.2
end Drawbar.Log
namespace Go.Proofs.YtcbgccmoeleanaaDoor.Lg
open Go.RowKit
open Drawbar Drawbar.Sheet Drawbar.Nand Drawbar.Log Go.Proofs.YtcbgccmoeleanaaDoor.Nd

abbrev kv (b : Hd × Hd) : Value := .agg #[.int .u64 b.1.last.e, .int .i64 b.1.last.w, .bool b.1.torn, .int .u64 b.2.last.e, .int .i64 b.2.last.w, .bool b.2.torn]
abbrev kbox (e0 : Int) (w0 : Int) (t0 : Bool) (e1 : Int) (w1 : Int) (t1 : Bool) : Obj := .cells #[.int .u64 e0, .int .i64 w0, .bool t0, .int .u64 e1, .int .i64 w1, .bool t1] 67
theorem info_book : (Tryd.prog.info? 67).map (·.size) = some 6 := by kernel_rfl
theorem low_set {w : World} {g : Nat} {u0 u1 u2 u3 u4 u5 v0 v1 v2 : Value} {t : TypeId} (h : w.heap[g]? = some (.cells #[u0, u1, u2, u3, u4, u5] t (0, 0))) :
    (((w.setCell ⟨g, 0, none⟩ v0).setCell ⟨g, 1, none⟩ v1).setCell ⟨g, 2, none⟩ v2).heap[g]? = some (.cells #[v0, v1, v2, u3, u4, u5] t (0, 0)) := by
  have h6 := set_one (set_one (set_one h 0 v0) 1 v1) 2 v2
  simpa using h6
theorem high_set {w : World} {g : Nat} {u0 u1 u2 u3 u4 u5 v0 v1 v2 : Value} {t : TypeId} (h : w.heap[g]? = some (.cells #[u0, u1, u2, u3, u4, u5] t (0, 0))) :
    (((w.setCell ⟨g, 3, none⟩ v0).setCell ⟨g, 4, none⟩ v1).setCell ⟨g, 5, none⟩ v2).heap[g]? = some (.cells #[u0, u1, u2, v0, v1, v2] t (0, 0)) := by
  have h6 := set_one (set_one (set_one h 3 v0) 4 v1) 5 v2
  simpa using h6

set_option maxHeartbeats 4000000 in
theorem home_any (b : Hd × Hd) (w : World) : Calls Tryd.prog 27 #[kv b] w fun e w' => e = .returned (.int .i64 (homeS b)) ∧ Below w.heap.size w w' := by
  unfold homeS
  obtain ⟨⟨⟨e0, w0⟩, t0⟩, ⟨⟨e1, w1⟩, t1⟩⟩ := b
  dsimp only
  have hblk := heap_alloc_new w (kbox e0 w0 t0 e1 w1 t1)
  have hB : Below w.heap.size w (w.alloc (kbox e0 w0 t0 e1 w1 t1)) := (Below.refl _ _).alloc (Nat.le_refl _) _
  generalize hw1 : w.alloc (kbox e0 w0 t0 e1 w1 t1) = wq at *
  have c0 := cell_blk hblk 0 _ rfl
  have c3 := cell_blk hblk 3 _ rfl
  have hself : decide ((e0 : Int) < (e0 : Int)) = false := by simp
  have HK := Lib.hid hblk
  have HB := Lib.hid hB
  clear hblk c0 c3 hB
  obtain ⟨q, hq⟩ : ∃ q : Nat, q = if e0 < e1 then 1 else 0 := ⟨_, rfl⟩
  rw [← hq]
  have HQ := Lib.hid hq
  clear hq
  go_enter Tryd.func27, Tryd.ntmps27
  go_wp2
  go_loopw [3, 5] (fun hvv iv wr => wr.heap[w.heap.size]? = some (kbox e0 w0 t0 e1 w1 t1) ∧ Below w.heap.size w wr ∧ (iv = .int .i64 0 ∧ hvv = .int .i64 0 ∨ iv = .int .i64 1 ∧ hvv = .int .i64 0 ∨ iv = .int .i64 2 ∧ hvv = .int .i64 q))
    (fun _ iv _ => 2 - (intOf iv).toNat)
  case atStart => exact ⟨HK.out, HB.out, .inl ⟨rfl, rfl⟩⟩
  case round =>
    obtain ⟨hk, hB, ⟨rfl, rfl⟩ | ⟨rfl, rfl⟩ | ⟨rfl, rfl⟩⟩ := hrel
    all_goals clear hw1 HK HB
    · have c0 := cell_blk hk 0 _ rfl
      go_wp2
      go_region
      go_wp2
      go_roundw
      case rel => exact ⟨hk, hB.drew, .inr (.inl ⟨rfl, rfl⟩)⟩
      case measure => simp [intOf]
    · have c0 := cell_blk hk 0 _ rfl
      have c3 := cell_blk hk 3 _ rfl
      by_cases hlt : e0 < e1
      · obtain rfl : q = 1 := by rw [HQ.out, if_pos hlt]
        go_wp2
        go_region
        go_wp2
        go_roundw
        case rel => exact ⟨hk, hB.drew, .inr (.inr ⟨rfl, rfl⟩)⟩
        case measure => simp [intOf]
      · obtain rfl : q = 0 := by rw [HQ.out, if_neg hlt]
        have hlt2 : e1 ≤ e0 := by omega
        go_wp2
        go_region
        go_wp2
        go_roundw
        case rel => exact ⟨hk, hB.drew, .inr (.inr ⟨rfl, rfl⟩)⟩
        case measure => simp [intOf]
    · clear HQ
      go_wp2
      go_ret
      exact ⟨rfl, hB⟩

end Go.Proofs.YtcbgccmoeleanaaDoor.Lg
