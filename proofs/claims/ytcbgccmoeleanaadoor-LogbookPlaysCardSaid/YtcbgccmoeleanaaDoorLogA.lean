/- The logbook's entries as plain data; the contracts of formed, lay and claimed. -/
import Derived.Test.YtcbgccmoeleanaaDoorBack
import Derived.Test.YtcbgccmoeleanaaDoorTorn
import Derived.Test.YtcbgccmoeleanaaDoorNdApi
namespace Drawbar.Log
open Go.RowKit
open Go.Proofs.YtcbgccmoeleanaaDoor Drawbar Drawbar.Sheet

/-- An entry: an epoch, and who has it. -/
structure En where
  e : Nat
  w : Int
def En.z : En := ⟨0, 0⟩
/-- Can it be claimed? -/
def okE (x : En) : Bool := decide (1 ≤ x.e ∧ x.e ≤ 281474976710655 ∧ 0 ≤ x.w ∧ x.w ≤ 1)
/-- The sheet of a claim, and its page. -/
def pgS (x : En) : Sh := ⟨3, x.e, x.e, x.w, -1, []⟩
def pgE (x : En) : List Nat := page (pgS x)
/-- The claim that a page is; of epoch 0: it is none. -/
noncomputable def clm (p : List Nat) : En :=
  if (readS p).2 = 0 ∧ (readS p).1.k = 3 ∧ (readS p).1.sq = (readS p).1.ep ∧ (readS p).1.fr = -1 ∧ okE ⟨(readS p).1.ep, (readS p).1.ad⟩ = true then ⟨(readS p).1.ep, (readS p).1.ad⟩ else En.z
theorem ok_fm {x : En} (h : okE x = true) : fm (pgS x) = true := by
  have h := of_decide_eq_true h
  exact decide_eq_true ⟨(by decide : 1 ≤ 3), (by decide : 3 ≤ 3), h.2.1, h.2.1, h.2.2.1, (by omega : x.w ≤ 65535), (by decide : (-1 : Int) ≤ -1), (by decide : (-1 : Int) ≤ 63), .inr ⟨(by decide : 3 ≠ 1), rfl⟩⟩
theorem clm_page {x : En} (h : okE x = true) : clm (pgE x) = x := by
  unfold clm pgE
  rw [read_page (ok_fm h) (by intro y hy; cases hy)]
  exact if_pos ⟨rfl, rfl, rfl, rfl, h⟩
theorem pgE_length (x : En) : (pgE x).length = 96 := page_length _ (Nat.zero_le 64)
theorem clm_last {p : List Nat} (h : p.getD 95 0 ≠ 90) : clm p = En.z := by
  have e : readS p = (zeroS, 3) := by
    unfold readS
    exact if_neg (fun h2 => h h2.2)
  unfold clm
  rw [e]
  exact if_neg (fun h => absurd h.1 (by decide))
end Drawbar.Log
namespace Go.Proofs.YtcbgccmoeleanaaDoor.Lg
open Go.RowKit
open Drawbar Drawbar.Sheet Drawbar.Nand Drawbar.Log Go.Proofs.YtcbgccmoeleanaaDoor.Nd

abbrev ev (x : En) : Value := .agg #[.int .u64 x.e, .int .i64 x.w]
abbrev ebox (x : En) : Obj := .cells #[.int .u64 x.e, .int .i64 x.w] 30

theorem cell_blk {w : World} {g : Nat} {cs : Array Value} {t : TypeId} (h : w.heap[g]? = some (.cells cs t (0, 0))) (k : Nat) (v : Value) (hk : cs[k]? = some v) : w.cell? ⟨g, k, none⟩ = some v := by
  simp [World.cell?, h, hk]
theorem frozen_blk {w : World} {g : Nat} {cs : Array Value} {t : TypeId} (h : w.heap[g]? = some (.cells cs t (0, 0))) (k : Nat) : w.frozen? ⟨g, k, none⟩ = false := by
  simp [World.frozen?, h]

theorem formed_any (x : En) (w : World) : Calls Tryd.prog 25 #[ev x] w fun e w' => e = .returned (.bool (okE x)) ∧ Below w.heap.size w w' := by
  have hblk := heap_alloc_new w (ebox x)
  have c0 := cell_blk hblk 0 _ rfl
  have c1 := cell_blk hblk 1 _ rfl
  have hB := fun o => (Below.refl w.heap.size w).alloc (Nat.le_refl _) o
  generalize hq : okE x = q
  unfold okE at hq
  obtain ⟨e, wh⟩ := x
  dsimp only at *
  clear hblk
  by_cases h0 : 1 ≤ e
  rotate_left
  · obtain rfl : q = false := hq.symm.trans (decide_eq_false fun h => h0 h.1)
    clear hq
    go_enter Tryd.func25, Tryd.ntmps25
    go_wp2
    all_goals
      go_ret
      first
        | exact ⟨rfl, hB _⟩
        | exact ⟨congrArg (fun t => Ending.returned (.bool t)) (decide_eq_false (by omega)), hB _⟩
  by_cases h1 : e ≤ 281474976710655
  rotate_left
  · obtain rfl : q = false := hq.symm.trans (decide_eq_false fun h => h1 h.2.1)
    clear hq
    go_enter Tryd.func25, Tryd.ntmps25
    go_wp2
    all_goals
      go_ret
      first
        | exact ⟨rfl, hB _⟩
        | exact ⟨congrArg (fun t => Ending.returned (.bool t)) (decide_eq_false (by omega)), hB _⟩
  by_cases h2 : 0 ≤ wh
  rotate_left
  · obtain rfl : q = false := hq.symm.trans (decide_eq_false fun h => h2 h.2.2.1)
    clear hq
    go_enter Tryd.func25, Tryd.ntmps25
    go_wp2
    all_goals
      go_ret
      first
        | exact ⟨rfl, hB _⟩
        | exact ⟨congrArg (fun t => Ending.returned (.bool t)) (decide_eq_false (by omega)), hB _⟩
  by_cases h3 : wh ≤ 1
  · obtain rfl : q = true := hq.symm.trans (decide_eq_true ⟨h0, h1, h2, h3⟩)
    clear hq
    go_enter Tryd.func25, Tryd.ntmps25
    go_wp2
    all_goals
      go_ret
      first
        | exact ⟨rfl, hB _⟩
        | exact ⟨congrArg (fun t => Ending.returned (.bool t)) (decide_eq_true (by omega)), hB _⟩
  · obtain rfl : q = false := hq.symm.trans (decide_eq_false fun h => h3 h.2.2.2)
    clear hq
    go_enter Tryd.func25, Tryd.ntmps25
    go_wp2
    all_goals
      go_ret
      first
        | exact ⟨rfl, hB _⟩
        | exact ⟨congrArg (fun t => Ending.returned (.bool t)) (decide_eq_false (by omega)), hB _⟩

theorem lglay_any (x : En) (w : World) (hx : okE x = true) (hT : Tab w) : Calls Tryd.prog 37 #[ev x] w (Gives w (pgE x) 96) := by
  have hblk := heap_alloc_new w (ebox x)
  have hB : Below w.heap.size w (w.alloc (ebox x)) := (Below.refl _ _).alloc (Nat.le_refl _) _
  have hL : Calls Tryd.prog 45 #[.agg #[.int .u8 3, .int .u64 x.e, .int .u64 x.e, .int .i64 x.w, .int .i64 (-1), .slice none 0 0]] (w.alloc (ebox x)) (Gives (w.alloc (ebox x)) (pgE x) 96) :=
    lay_gives (pgS x) none 0 _ (ok_fm hx) (rd_nil _) (Nat.le_refl _) (fun _ => rfl) (hT.alloc _)
  generalize hw1 : w.alloc (ebox x) = w1 at *
  have c0 := cell_blk hblk 0 _ rfl
  have c1 := cell_blk hblk 1 _ rfl
  have HL := Lib.hid hL
  clear hL hT hx
  go_enter Tryd.func37, Tryd.ntmps37
  go_wp2_with (go_at_call 45; (with_reducible refine HL.out.mono ?_); rintro e w2 ⟨a, c, rfl, hc, hr, hb, hown⟩)
  go_ret
  exact ⟨a, c, rfl, hc, hr, hB.trans (hb.mono hB.size), ownsRow_base hown hB.size⟩
end Go.Proofs.YtcbgccmoeleanaaDoor.Lg
