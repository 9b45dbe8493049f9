/- An entry, and a script of calls, among a law's arguments, opened. -/
import Derived.Test.YtcbgccmoeleanaaDoorArg
import Derived.Test.YtcbgccmoeleanaaDoorLogA
import Derived.Deep.Slices
namespace Go.Proofs.YtcbgccmoeleanaaDoor.Lg
open Go.ChangeShapes Go.WideShapes Go.ChangeAt Go.RowKit Go.WideMaps Go.WideElems
open Drawbar Drawbar.Log

/-- A call of the script. -/
structure ActV where
  kind : Int
  up : Int
  who : Int
  n : Int
  e : Int
  w : Int
def ActV.cells (r : ActV) : List Value := [.int .u8 r.kind, .int .u8 r.up, .int .u8 r.who, .int .i64 r.n, .int .u64 r.e, .int .i64 r.w]
structure ActV.Ok (r : ActV) : Prop where
  kind : (Lit.int .u8 r.kind).wf = true
  up : (Lit.int .u8 r.up).wf = true
  who : (Lit.int .u8 r.who).wf = true
  n : (Lit.int .i64 r.n).wf = true
  e : (Lit.int .u64 r.e).wf = true
  w : (Lit.int .i64 r.w).wf = true

/-- The slice at a holds these calls. -/
def Acts (w : World) (a : Option Addr) (l : List ActV) : Prop :=
  ∀ i r, l[i]? = some r → r.Ok ∧ ∃ b off, a = some ⟨b, off, none⟩ ∧ ∀ j, j < 6 → w.cell? ⟨b, off + i * 6 + j, none⟩ = r.cells[j]?

theorem Acts.below {w w' : World} {a : Option Addr} {l : List ActV} (h : Acts w a l) (hb : Below w.heap.size w w') : Acts w' a l := fun i r hi => by
  obtain ⟨ho, b, off, rfl, hc⟩ := h i r hi
  refine ⟨ho, b, off, rfl, fun j hj => ?_⟩
  have e : r.cells[j]? = some (r.cells[j]'(by simpa [ActV.cells] using hj)) := List.getElem?_eq_getElem _
  have h1 := (hc j hj).trans e
  rw [hb.cell (p := ⟨b, off + i * 6 + j, none⟩) (World.block_lt_of_cell? w _ h1)]
  exact hc j hj

section
variable {H : Type} {enc : TypeId × Value → H} {W : World}
theorem cells_entry : Tryd.prog.cellsOf 30 = 2 := by kernel_rfl
theorem cellsOf_u8 : Tryd.prog.cellsOf 5 = 1 := by kernel_rfl
theorem cellsOf_int : Tryd.prog.cellsOf 3 = 1 := by kernel_rfl
theorem cellsOf_u64 : Tryd.prog.cellsOf 28 = 1 := by kernel_rfl

set_option maxRecDepth 100000 in
theorem entry_cells {fuel : Nat} {cs : List Value} {x : DataW H × List MemPlace} (h : DataW.trod enc Tryd.prog W 0 (fun _ => true) true fuel 30 cs = some x) :
    ∃ e w : Int, (Lit.int .u64 e).wf = true ∧ (Lit.int .i64 w).wf = true ∧ cs = [.int .u64 e, .int .i64 w] := by
  obtain ⟨xs, n, _, _, hlen, hxs, hf⟩ := DataW.trod_struct Tryd.underlying30 h
  rw [cells_entry] at hlen
  have hx2 : xs.length = 2 := hxs
  match cs, hlen with
  | [c0, c1], _ =>
    have e0 : xs[0]? = some (xs[0]'(by omega)) := List.getElem?_eq_getElem _
    have h0 : DataW.trod enc Tryd.prog W 0 (fun _ => true) true n 28 (([c0, c1].drop 0).take (Tryd.prog.cellsOf 28)) = some (xs[0]'(by omega)) := (hf 0 _ rfl).trans e0
    rw [cellsOf_u64] at h0
    obtain ⟨z0, k0, -, w0⟩ := DataW.trod_int Tryd.underlying28 h0
    have e1 : xs[1]? = some (xs[1]'(by omega)) := List.getElem?_eq_getElem _
    have h1 : DataW.trod enc Tryd.prog W 0 (fun _ => true) true n 3 (([c0, c1].drop 1).take (Tryd.prog.cellsOf 3)) = some (xs[1]'(by omega)) := (hf 1 _ rfl).trans e1
    rw [cellsOf_int] at h1
    obtain ⟨z1, k1, -, w1⟩ := DataW.trod_int Tryd.underlying3 h1
    have g0 := List.head_eq_of_cons_eq k0
    have g1 := List.head_eq_of_cons_eq k1
    exact ⟨z0, z1, w0, w1, by rw [g0, g1]⟩

set_option maxRecDepth 100000 in
theorem entry_of_trod {r : Reach} {base : Nat} {v : Value} {d : DataW H} {p : List MemPlace} (hv : Value.okWide Tryd.prog W r base 30 v)
    (h : DataW.Trod enc Tryd.prog W 0 (fun _ => true) true 30 v d p) :
    ∃ x : En, v = .agg #[.int .u64 x.e, .int .i64 x.w] ∧ (x.e < 2 ^ 64 ∧ -9223372036854775808 ≤ x.w ∧ x.w ≤ 9223372036854775807) := by
  obtain ⟨cs, rfl, hsz⟩ := okWide_struct Tryd.underlying30 hv
  obtain ⟨fuel, hf⟩ := h
  obtain ⟨e, w, he, hw, hcs⟩ := entry_cells hf
  have hcs2 : (Value.agg cs).cells.toList = cs.toList := rfl
  rw [hcs2] at hcs
  have b0 := bounds_u64 he
  have b1 := bounds_i64 hw
  refine ⟨⟨e.toNat, w⟩, ?_, by show e.toNat < 2 ^ 64; omega, by show -9223372036854775808 ≤ w ∧ w ≤ 9223372036854775807; omega⟩
  have : cs = #[.int .u64 e, .int .i64 w] := Array.toList_inj.1 hcs
  rw [this]
  show Value.agg #[.int .u64 e, .int .i64 w] = .agg #[.int .u64 (e.toNat : Int), .int .i64 w]
  rw [show (e.toNat : Int) = e by omega]
theorem cells_act : Tryd.prog.cellsOf 32 = 6 := by kernel_rfl
set_option maxRecDepth 100000 in
theorem act_of_trod {fuel : Nat} {cs : List Value} {x : DataW H × List MemPlace} (h : DataW.trod enc Tryd.prog W 0 (fun _ => true) true fuel 32 cs = some x) : ∃ r : ActV, r.Ok ∧ cs = r.cells := by
  obtain ⟨xs, n, _, _, hlen, hxs, hf⟩ := DataW.trod_struct Tryd.underlying32 h
  rw [cells_act] at hlen
  have hx5 : xs.length = 5 := hxs
  match cs, hlen with
  | [c0, c1, c2, c3, c4, c5], _ =>
    have e0 : xs[0]? = some (xs[0]'(by omega)) := List.getElem?_eq_getElem _
    have h0 : DataW.trod enc Tryd.prog W 0 (fun _ => true) true n 5 (([c0, c1, c2, c3, c4, c5].drop 0).take (Tryd.prog.cellsOf 5)) = some (xs[0]'(by omega)) := (hf 0 _ rfl).trans e0
    rw [cellsOf_u8] at h0
    obtain ⟨z0, k0, -, w0⟩ := DataW.trod_int Tryd.underlying5 h0
    have g0 := List.head_eq_of_cons_eq k0
    have e1 : xs[1]? = some (xs[1]'(by omega)) := List.getElem?_eq_getElem _
    have h1 : DataW.trod enc Tryd.prog W 0 (fun _ => true) true n 5 (([c0, c1, c2, c3, c4, c5].drop 1).take (Tryd.prog.cellsOf 5)) = some (xs[1]'(by omega)) := (hf 1 _ rfl).trans e1
    rw [cellsOf_u8] at h1
    obtain ⟨z1, k1, -, w1⟩ := DataW.trod_int Tryd.underlying5 h1
    have g1 := List.head_eq_of_cons_eq k1
    have e2 : xs[2]? = some (xs[2]'(by omega)) := List.getElem?_eq_getElem _
    have h2 : DataW.trod enc Tryd.prog W 0 (fun _ => true) true n 5 (([c0, c1, c2, c3, c4, c5].drop 2).take (Tryd.prog.cellsOf 5)) = some (xs[2]'(by omega)) := (hf 2 _ rfl).trans e2
    rw [cellsOf_u8] at h2
    obtain ⟨z2, k2, -, w2⟩ := DataW.trod_int Tryd.underlying5 h2
    have g2 := List.head_eq_of_cons_eq k2
    have e3 : xs[3]? = some (xs[3]'(by omega)) := List.getElem?_eq_getElem _
    have h3 : DataW.trod enc Tryd.prog W 0 (fun _ => true) true n 3 (([c0, c1, c2, c3, c4, c5].drop 3).take (Tryd.prog.cellsOf 3)) = some (xs[3]'(by omega)) := (hf 3 _ rfl).trans e3
    rw [cellsOf_int] at h3
    obtain ⟨z3, k3, -, w3⟩ := DataW.trod_int Tryd.underlying3 h3
    have g3 := List.head_eq_of_cons_eq k3
    have e4 : xs[4]? = some (xs[4]'(by omega)) := List.getElem?_eq_getElem _
    have h4 : DataW.trod enc Tryd.prog W 0 (fun _ => true) true n 30 (([c0, c1, c2, c3, c4, c5].drop 4).take (Tryd.prog.cellsOf 30)) = some (xs[4]'(by omega)) := (hf 4 _ rfl).trans e4
    rw [cells_entry] at h4
    obtain ⟨z4, z5, w4, w5, k4⟩ := entry_cells h4
    have g4 : c4 = .int .u64 z4 := List.head_eq_of_cons_eq k4
    have g5 : c5 = .int .i64 z5 := List.head_eq_of_cons_eq (List.tail_eq_of_cons_eq k4)
    exact ⟨⟨z0, z1, z2, z3, z4, z5⟩, ⟨w0, w1, w2, w3, w4, w5⟩, by rw [g0, g1, g2, g3, g4, g5]; rfl⟩

set_option maxRecDepth 100000 in
theorem acts_of_trod {fuel : Nat} {a : Option Addr} {n c : Nat} {d : DataW H} {p : List MemPlace}
    (hf : DataW.trod enc Tryd.prog W 0 (fun _ => true) true fuel 22 [.slice a n c] = some (d, p)) : ∃ l : List ActV, n = l.length ∧ Acts W a l := by
  rcases Go.Deep.open_slice Tryd.underlying22 hf with ⟨hcs, _⟩ | ⟨ad, len, cap, m, n', D, Pl, hcs, hb, hl, hm, hmm, hx, hi⟩
  · simp only [List.cons.injEq, Value.slice.injEq] at hcs
    obtain ⟨⟨rfl, rfl, rfl⟩, _⟩ := hcs
    exact ⟨[], rfl, fun i r h => by simp at h⟩
  · simp only [List.cons.injEq, Value.slice.injEq] at hcs
    obtain ⟨⟨rfl, rfl, rfl⟩, _⟩ := hcs
    simp only [if_true] at hmm
    rw [cells_act] at hi
    have each : ∀ i, i < n → ∃ r : ActV, r.Ok ∧ ∀ j, j < 6 → W.cell? (ad.add (i * 6 + j)) = r.cells[j]? := fun i hin => by
      obtain ⟨cs', hc, ht⟩ := hi i (by omega)
      obtain ⟨r, hr, rfl⟩ := act_of_trod ht
      obtain ⟨_, _, hcell⟩ := World.cells?_some hc
      exact ⟨r, hr, fun j hj => by rw [← hcell j hj, Go.Deep.add_add]⟩
    have pick : ∃ l : List ActV, l.length = n ∧ ∀ i r, l[i]? = some r → r.Ok ∧ ∀ j, j < 6 → W.cell? (ad.add (i * 6 + j)) = r.cells[j]? := by
      clear hf hx hi
      have : ∀ k, k ≤ n → ∃ l : List ActV, l.length = k ∧ ∀ i r, l[i]? = some r → r.Ok ∧ ∀ j, j < 6 → W.cell? (ad.add (i * 6 + j)) = r.cells[j]? := by
        intro k
        induction k with
        | zero => intro _; exact ⟨[], rfl, fun i r h => by simp at h⟩
        | succ k ih =>
          intro hk
          obtain ⟨l, hl1, hl2⟩ := ih (by omega)
          obtain ⟨r, hr⟩ := each k (by omega)
          refine ⟨l ++ [r], by simp [hl1], fun i r' h => ?_⟩
          rcases Nat.lt_or_ge i l.length with h1 | h1
          · rw [List.getElem?_append_left h1] at h
            exact hl2 i r' h
          · have h2 := (List.getElem?_eq_some_iff.1 h).1
            have h3 : i = l.length := by simp at h2; omega
            subst h3
            simp at h
            subst h
            rw [hl1]
            exact hr
      exact this n (Nat.le_refl _)
    obtain ⟨l, hl1, hl2⟩ := pick
    refine ⟨l, hl1.symm, fun i r h => ?_⟩
    obtain ⟨hr, hc⟩ := hl2 i r h
    have h0 : 0 < l.length := Nat.lt_of_le_of_lt (Nat.zero_le i) (List.getElem?_eq_some_iff.1 h).1
    obtain ⟨r0, hr0⟩ : ∃ r0, l[0]? = some r0 := ⟨_, List.getElem?_eq_getElem h0⟩
    have h00 : W.cell? (ad.add (0 * 6 + 0)) = some (.int .u8 r0.kind) := (hl2 0 r0 hr0).2 0 (by omega)
    obtain ⟨b, off, spot⟩ := ad
    have hspot : spot = none := by simpa [Addr.add] using World.cell?_spot h00
    subst hspot
    refine ⟨hr, b, off, rfl, fun j hj => ?_⟩
    rw [Nat.add_assoc, ← Go.WideShapes.add_plain]
    exact hc j hj
end
end Go.Proofs.YtcbgccmoeleanaaDoor.Lg
