/- The contract of drawbarlaw01.awake: it answers true, and lays nothing but new memory. -/
import Derived.Test.YtopmljbemogcoaaDoorGet
import Derived.Lib.SlBytesConst
import Derived.Laws.BytesString
namespace Go.Proofs.YtopmljbemogcoaaDoor
open Go.RowKit
open Drawbar

/-- What a row of bytes reads as. -/
theorem rd_of_own {w : World} {base : Nat} {v : Value} {n : Nat} {l : List Nat} (h : w.ownsRow base 5 1 v n (l.map bv)) (hl : ∀ x ∈ l, x < 256) (hn : l.length ≤ 140737488351232) :
    ∃ a cap, v = .slice a l.length cap ∧ l.length ≤ cap ∧ Rd w a l ∧ n = l.length ∧ ∀ k, a = some k → base ≤ k.block ∧ k.block < w.heap.size := by
  have hlt := h.lt
  have hlen : l.length = n := by simpa using h.1
  subst hlen
  rcases h.2 with ⟨rfl, h0⟩ | ⟨g, cap, cur, rfl, h1, h2, h3, h4, h5, h6⟩
  · exact ⟨none, 0, by rw [h0], by omega, ⟨hl, hn, fun h => by omega⟩, rfl, fun _ h => by cases h⟩
  · refine ⟨some ⟨g, 0, none⟩, cap, rfl, h3, ⟨hl, hn, fun _ => ⟨g, 0, rfl, fun i hi => ?_⟩⟩, rfl, fun k hk => ?_⟩
    · have := h.cells (g := g) rfl i (bv (l.getD i 0)) (by
        rw [List.getElem?_map, List.getElem?_eq_getElem hi, List.getD_eq_getElem?_getD, List.getElem?_eq_getElem hi]; rfl)
      rw [Addr.add_lit] at this
      exact this
    · cases hk; exact hlt g rfl

theorem Tab.below {w w' : World} {B : Nat} (h : Tab w) (hb : Below B w w') (hB : 0 < B) : Tab w' := fun i hi => by
  rw [hb.cell hB]; exact h i hi
theorem Tab.pos {w : World} (h : Tab w) : 0 < w.heap.size := World.block_lt_of_cell? w _ (h 0 (by decide))
theorem Tab.alloc {w : World} (h : Tab w) (o : Obj) : Tab (w.alloc o) := fun i hi => cell_alloc o (h i hi)

def Yes (w : World) (e : Ending) (w' : World) : Prop := e = .returned (.bool true) ∧ Below w.heap.size w w'

def digits9 : List Nat := [49, 50, 51, 52, 53, 54, 55, 56, 57]
theorem sum9 : Crc.sum digits9 = 3421780262 := by decide +kernel
theorem put300 : put 300 2 = [44, 1] := by decide

/-- Bytes as a string. -/
def strOf (l : List Nat) : ByteArray := ⟨(l.map UInt8.ofNat).toArray⟩
theorem push_fold (l : List Nat) (s : ByteArray) : (l.map Int.ofNat).foldl (fun r n => r.push (UInt8.ofNat n.toNat)) s = ⟨s.data ++ (l.map UInt8.ofNat).toArray⟩ := by
  induction l generalizing s with
  | nil => simp
  | cons x r ih =>
    simp only [List.map_cons, List.foldl_cons]
    rw [ih]
    congr 1
    show s.data.push _ ++ _ = _
    apply Array.ext'
    simp

theorem conv_str (w : World) (a : Option Addr) (l : List Nat) (cap : Nat) (h : Rd w a l) : (convert 23 9 (.slice a l.length cap)).run Tryd.prog w = .ok (.string (strOf l)) w := by
  rw [run_convert_bytes_string w 23 9 5 a l.length cap Tryd.underlying23 Tryd.underlying5 Tryd.underlying9]
  cases a with
  | none =>
    obtain rfl : l = [] := List.eq_nil_of_length_eq_zero (h.ofNil rfl)
    simp [Conv.bytesToString, strOf]; rfl
  | some ad =>
    have hl : (loadCells ad l.length).run Tryd.prog w = .ok ((l.map Int.ofNat).map (Value.int .u8)).toArray w := by
      have := run_firstCells_some (P := Tryd.prog) w 1 l.length ad l.length cap (l.map bv) (by simp) (h.at ad rfl)
      simp only [Builtin.firstCells, Nat.mul_one] at this
      rw [this]; congr 2; simp [bv]
    rw [run_bytesToString w ad l.length cap (l.map Int.ofNat) hl, push_fold]
    congr 2
    simp [strOf]

theorem sum9_call (w : World) (hT : Tab w) :
    Calls Tryd.prog 33 #[.slice (some ⟨w.heap.size, 0, none⟩) 9 9] (w.alloc (.cells #[.int .u8 49, .int .u8 50, .int .u8 51, .int .u8 52, .int .u8 53, .int .u8 54, .int .u8 55, .int .u8 56, .int .u8 57] 5 (9, 10)))
      fun e w' => e = .returned (.int .u32 3421780262) ∧ (w.alloc (.cells #[.int .u8 49, .int .u8 50, .int .u8 51, .int .u8 52, .int .u8 53, .int .u8 54, .int .u8 55, .int .u8 56, .int .u8 57] 5 (9, 10))) = w' := by
  have hr : Rd (w.alloc (.cells (digits9.map bv).toArray 5 (9, 10))) (some ⟨w.heap.size, 0, none⟩) digits9 := by
    refine ⟨by decide, by decide, fun _ => ⟨_, _, rfl, fun i hi => ?_⟩⟩
    rw [World.cell?_alloc_mark, Nat.zero_add, List.getElem?_toArray, List.getElem?_map, List.getElem?_eq_getElem hi, List.getD_eq_getElem?_getD, List.getElem?_eq_getElem hi]
    rfl
  have h := sum_any digits9 (some ⟨w.heap.size, 0, none⟩) 9 _ hr (hT.alloc _)
  rw [sum9] at h
  exact h

theorem rd_nil (w : World) : Rd w none [] := ⟨by simp, by simp, fun h => absurd h (by simp)⟩

end Go.Proofs.YtopmljbemogcoaaDoor
