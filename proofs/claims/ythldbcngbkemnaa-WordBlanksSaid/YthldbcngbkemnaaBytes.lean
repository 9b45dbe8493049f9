/- Bytes in memory: what a slice of bytes reads as. -/
import Derived.Test.YthldbcngbkemnaaProg
import Derived.Test.YthldbcngbkemnaaLaw
import Derived.WalkKit
import Derived.Handy
import Derived.WalkSpells
import Derived.Lib.Hide
import Derived.Lib.SlBytesConst
import Derived.Laws.BytesString
namespace Go.Proofs.Ythldbcngbkemnaa
open Go.RowKit
open Drawbar

/-- The slice value v reads as these bytes in w. -/
def Rd (w : World) (a : Option Addr) (l : List Nat) : Prop :=
  (∀ x ∈ l, x < 256) ∧ l.length ≤ 140737488351232 ∧ (0 < l.length → ∃ b off, a = some ⟨b, off, none⟩ ∧ ∀ i, i < l.length → w.cell? ⟨b, off + i, none⟩ = some (.int .u8 (l.getD i 0 : Nat)))

theorem getD_mem (l : List Nat) (k : Nat) (h : k < l.length) : l.getD k 0 ∈ l := by
  rw [List.getD_eq_getElem?_getD, List.getElem?_eq_getElem h]; exact List.getElem_mem h

theorem take_getD (l : List Nat) (k : Nat) (h : k < l.length) : l.take (k + 1) = l.take k ++ [l.getD k 0] := by
  rw [List.take_succ_eq_append_getElem h, List.getD_eq_getElem?_getD, List.getElem?_eq_getElem h]; rfl

theorem ret_int {k : IntKind} {a b : Int} (h : a = b) : Ending.returned (.int k a) = .returned (.int k b) := by rw [h]

def bv (x : Nat) : Value := .int .u8 (x : Int)

theorem info_u8 : (Try.prog.info? 5).map (fun i => (i.zero, i.size, i.bytes)) = some (some (.int .u8 0), 1, 1) := by kernel_rfl

theorem bv_one (l : List Nat) : ∀ u ∈ l.map bv, u.oneCell' = true := by
  intro u hu; obtain ⟨x, _, rfl⟩ := List.mem_map.1 hu; rfl

theorem Rd.at {w : World} {a : Option Addr} {l : List Nat} (h : Rd w a l) : At w a (l.map bv) := by
  intro b hb j u hj
  obtain ⟨hl, hlen, hc⟩ := h
  have hjl : j < l.length := by have := (List.getElem?_eq_some_iff.1 hj).1; simpa using this
  obtain ⟨b', off, ha, hcell⟩ := hc (by omega)
  rw [ha] at hb
  obtain rfl := Option.some.inj hb
  rw [Addr.add_lit, hcell j hjl]
  rw [List.getElem?_map, List.getElem?_eq_getElem hjl] at hj
  rw [← hj, List.getD_eq_getElem?_getD, List.getElem?_eq_getElem hjl]; rfl

theorem Rd.ofNil {w : World} {a : Option Addr} {l : List Nat} (h : Rd w a l) (ha : a = none) : l.length = 0 := by
  obtain ⟨_, _, hc⟩ := h
  rcases Nat.eq_zero_or_pos l.length with h0 | h0
  · exact h0
  · obtain ⟨b, off, e, _⟩ := hc h0
    rw [ha] at e; cases e

/-- What a row of bytes reads as. -/
theorem rd_of_own {w : World} {base : Nat} {v : Value} {n : Nat} {l : List Nat} (h : w.ownsRow base 5 1 v n (l.map bv)) (hl : ∀ x ∈ l, x < 256) (hn : l.length ≤ 140737488351232) :
    ∃ a cap, v = .slice a l.length cap ∧ l.length ≤ cap ∧ Rd w a l ∧ n = l.length ∧ ∀ k, a = some k → base ≤ k.block ∧ k.block < w.heap.size := by
  have hlt := h.lt
  have hlen : l.length = n := by simpa using h.1
  subst hlen
  rcases h.2 with ⟨rfl, h0⟩ | ⟨g, cap, cur, rfl, h1, h2, h3, h4, h5, h6⟩
  · exact ⟨none, 0, by rw [h0], by omega, ⟨hl, hn, fun h => by omega⟩, rfl, fun _ h => by cases h⟩
  · refine ⟨some ⟨g, 0, none⟩, cap, rfl, h3, ⟨hl, hn, fun _ => ⟨g, 0, rfl, fun i hi => ?_⟩⟩, rfl, fun k hk => ?_⟩
    · have := h.cells (g := g) rfl i (bv (l.getD i 0)) (by
        rw [List.getElem?_map, List.getElem?_eq_getElem hi, List.getD_eq_getElem?_getD, List.getElem?_eq_getElem hi]; rfl)
      rw [Addr.add_lit] at this
      exact this
    · cases hk; exact hlt g rfl

def Yes (w : World) (e : Ending) (w' : World) : Prop := e = .returned (.bool true) ∧ Below w.heap.size w w'

/-- Bytes as a string. -/
def strOf (l : List Nat) : ByteArray := ⟨(l.map UInt8.ofNat).toArray⟩

theorem push_fold (l : List Nat) (s : ByteArray) : (l.map Int.ofNat).foldl (fun r n => r.push (UInt8.ofNat n.toNat)) s = ⟨s.data ++ (l.map UInt8.ofNat).toArray⟩ := by
  induction l generalizing s with
  | nil => simp
  | cons x r ih =>
    simp only [List.map_cons, List.foldl_cons]
    rw [ih]
    congr 1
    show s.data.push _ ++ _ = _
    apply Array.ext'
    simp

theorem conv_str (w : World) (a : Option Addr) (l : List Nat) (cap : Nat) (h : Rd w a l) : (convert 23 9 (.slice a l.length cap)).run Try.prog w = .ok (.string (strOf l)) w := by
  rw [run_convert_bytes_string w 23 9 5 a l.length cap Try.underlying23 Try.underlying5 Try.underlying9]
  cases a with
  | none =>
    obtain rfl : l = [] := List.eq_nil_of_length_eq_zero (h.ofNil rfl)
    simp [Conv.bytesToString, strOf]; rfl
  | some ad =>
    have hl : (loadCells ad l.length).run Try.prog w = .ok ((l.map Int.ofNat).map (Value.int .u8)).toArray w := by
      have := run_firstCells_some (P := Try.prog) w 1 l.length ad l.length cap (l.map bv) (by simp) (h.at ad rfl)
      simp only [Builtin.firstCells, Nat.mul_one] at this
      rw [this]; congr 2; simp [bv]
    rw [run_bytesToString w ad l.length cap (l.map Int.ofNat) hl, push_fold]
    congr 2
    simp [strOf]

theorem rd_nil (w : World) : Rd w none [] := ⟨by simp, by simp, fun h => absurd h (by simp)⟩

theorem Rd.take {w : World} {a : Option Addr} {l : List Nat} (h : Rd w a l) (c : Nat) : Rd w a (l.take c) := by
  obtain ⟨hl, hlen, hc⟩ := h
  refine ⟨fun x hx => hl x (List.mem_of_mem_take hx), by rw [List.length_take]; omega, fun h0 => ?_⟩
  rw [List.length_take] at h0
  obtain ⟨b, off, rfl, hcell⟩ := hc (by omega)
  refine ⟨b, off, rfl, fun i hi => ?_⟩
  rw [List.length_take] at hi
  rw [hcell i (by omega), List.getD_eq_getElem?_getD, List.getD_eq_getElem?_getD, List.getElem?_take_of_lt (by omega)]

theorem Rd.drop {w : World} {b off : Nat} {l : List Nat} (h : Rd w (some ⟨b, off, none⟩) l) (c : Nat) : Rd w (some ⟨b, off + c, none⟩) (l.drop c) := by
  obtain ⟨hl, hlen, hc⟩ := h
  refine ⟨fun x hx => hl x (List.mem_of_mem_drop hx), by rw [List.length_drop]; omega, fun h0 => ?_⟩
  rw [List.length_drop] at h0
  obtain ⟨b', off', e, hcell⟩ := hc (by omega)
  cases e
  refine ⟨b, off + c, rfl, fun i hi => ?_⟩
  rw [List.length_drop] at hi
  rw [Nat.add_assoc, hcell (c + i) (by omega), List.getD_eq_getElem?_getD, List.getD_eq_getElem?_getD, List.getElem?_drop]

theorem rd_empty (w : World) (a : Option Addr) : Rd w a [] := ⟨by simp, by simp, fun h => absurd h (by simp)⟩

/-- A row that isn't empty, opened. -/
theorem rd_of_own' {w : World} {base : Nat} {v : Value} {n : Nat} {l : List Nat} (h : w.ownsRow base 5 1 v n (l.map bv)) (hl : ∀ x ∈ l, x < 256) (hn : l.length ≤ 140737488351232) (h0 : 0 < l.length) :
    ∃ g cap, v = .slice (some ⟨g, 0, none⟩) l.length cap ∧ l.length ≤ cap ∧ Rd w (some ⟨g, 0, none⟩) l ∧ base ≤ g ∧ g < w.heap.size := by
  obtain ⟨a, cap, rfl, h1, h2, _, h3⟩ := rd_of_own h hl hn
  rcases h.2 with ⟨e, _⟩ | ⟨g, cap', cur, e, _⟩
  · simp at e; omega
  · simp only [Value.slice.injEq] at e
    obtain ⟨rfl, _, rfl⟩ := e
    exact ⟨g, cap, rfl, h1, h2, h3 _ rfl⟩

theorem set_lt (l : List Nat) (hl : ∀ x ∈ l, x < 256) (j x : Nat) (hx : x < 256) : ∀ y ∈ l.set j x, y < 256 := by
  intro y hy
  rcases List.mem_or_eq_of_mem_set hy with h | rfl
  · exact hl y h
  · exact hx

theorem Rd.set {w : World} {g off : Nat} {l : List Nat} (h : Rd w (some ⟨g, off, none⟩) l) (j x : Nat) (hj : j < l.length) (hx : x < 256) :
    Rd (w.setCell ⟨g, off + j, none⟩ (.int .u8 (x : Int))) (some ⟨g, off, none⟩) (l.set j x) := by
  obtain ⟨hl, hlen, hc⟩ := h
  obtain ⟨b, o, e, hcell⟩ := hc (by omega)
  cases e
  refine ⟨set_lt l hl j x hx, by simpa using hlen, fun _ => ⟨g, off, rfl, fun i hi => ?_⟩⟩
  rw [List.length_set] at hi
  by_cases hij : i = j
  · subst hij
    rw [World.cell?_setCell_same _ _ _ (hcell i hi)]
    simp [hi]
  · rw [World.cell?_setCell_other _ _ _ _ (by intro e; have := congrArg Addr.off e; simp at this; omega), hcell i hi]
    rw [List.getD_eq_getElem?_getD, List.getD_eq_getElem?_getD, List.getElem?_set_ne (by omega)]

theorem Rd.below {w w' : World} {a : Option Addr} {l : List Nat} (h : Rd w a l) (hb : Below w.heap.size w w') : Rd w' a l := by
  obtain ⟨hl, hlen, hc⟩ := h
  refine ⟨hl, hlen, fun h0 => ?_⟩
  obtain ⟨b, off, rfl, hcell⟩ := hc h0
  exact ⟨b, off, rfl, fun i hi => by rw [hb.cell (p := ⟨b, off + i, none⟩) (World.block_lt_of_cell? w _ (hcell i hi))]; exact hcell i hi⟩

theorem grownBy_setCell (w : World) (g o : Nat) (x : Value) : w.grownBy (w.setCell ⟨g, o, none⟩ x) (some g) :=
  ⟨rfl, rfl, rfl, by simp [World.setCell], fun k _ hk => Below.heap_setCell _ _ _ _ (fun e => hk (by rw [e]))⟩

theorem grownBy_refl (w : World) (row : Option Nat) : w.grownBy w row := ⟨rfl, rfl, rfl, Nat.le_refl _, fun _ _ _ => rfl⟩

theorem grownBy_trans {w w1 w2 : World} {row : Option Nat} (h : w.grownBy w1 row) (h2 : w1.grownBy w2 row) : w.grownBy w2 row :=
  ⟨h2.os.trans h.os, h2.tape.trans h.tape, h2.output.trans h.output, Nat.le_trans h.size h2.size, fun k hk hr => (h2.block k (Nat.lt_of_lt_of_le hk h.size) hr).trans (h.block k hk hr)⟩

theorem Below.grownBy {w w' : World} (h : Below w.heap.size w w') (row : Option Nat) : w.grownBy w' row := ⟨h.os, h.tape, h.output, h.size, fun k hk _ => h.block k hk⟩
end Go.Proofs.Ythldbcngbkemnaa
