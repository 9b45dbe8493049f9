/- A slice of calls (Act) among a law's arguments, opened: what each of its cells holds. -/
import Derived.Test.YtjibiehchfhjnaaBytes
import Derived.ProofKit
import Derived.OpenShut
import Derived.Carry
import Derived.Deep.Slices
namespace Go.Proofs.Ytjibiehchfhjnaa
open Go.ChangeShapes Go.WideShapes Go.ChangeAt Go.RowKit Go.WideMaps Go.WideElems
open Drawbar

/-- A call of the script. -/
structure ActV where
  kind : Int
  i : Int
  p : Int
  near : Bool
  b : Int
  size : Int
  epoch : Int
  n : Int
def ActV.cells (r : ActV) : List Value := [.int .u8 r.kind, .int .i64 r.i, .int .i64 r.p, .bool r.near, .int .u8 r.b, .int .u8 r.size, .int .u64 r.epoch, .int .i64 r.n]
structure ActV.Ok (r : ActV) : Prop where
  kind : (Lit.int .u8 r.kind).wf = true
  i : (Lit.int .i64 r.i).wf = true
  p : (Lit.int .i64 r.p).wf = true
  b : (Lit.int .u8 r.b).wf = true
  size : (Lit.int .u8 r.size).wf = true
  epoch : (Lit.int .u64 r.epoch).wf = true
  n : (Lit.int .i64 r.n).wf = true

/-- The slice at a holds these calls. -/
def Acts (w : World) (a : Option Addr) (l : List ActV) : Prop :=
  ∀ i r, l[i]? = some r → r.Ok ∧ ∃ b off, a = some ⟨b, off, none⟩ ∧ ∀ j, j < 8 → w.cell? ⟨b, off + i * 8 + j, none⟩ = r.cells[j]?

theorem Acts.below {w w' : World} {a : Option Addr} {l : List ActV} (h : Acts w a l) (hb : Below w.heap.size w w') : Acts w' a l := fun i r hi => by
  obtain ⟨ho, b, off, rfl, hc⟩ := h i r hi
  refine ⟨ho, b, off, rfl, fun j hj => ?_⟩
  have e : r.cells[j]? = some (r.cells[j]'(by simpa [ActV.cells] using hj)) := List.getElem?_eq_getElem _
  have h1 := (hc j hj).trans e
  rw [hb.cell (p := ⟨b, off + i * 8 + j, none⟩) (World.block_lt_of_cell? w _ h1)]
  exact hc j hj

section
variable {H : Type} {enc : TypeId × Value → H} {W : World}
theorem cells_act : Try.prog.cellsOf 35 = 8 := by kernel_rfl
theorem cellsOf_u8 : Try.prog.cellsOf 5 = 1 := by kernel_rfl
theorem cellsOf_int : Try.prog.cellsOf 3 = 1 := by kernel_rfl
theorem cellsOf_bool : Try.prog.cellsOf 4 = 1 := by kernel_rfl
theorem cellsOf_u64 : Try.prog.cellsOf 22 = 1 := by kernel_rfl

theorem act_of_trod {fuel : Nat} {cs : List Value} {x : DataW H × List MemPlace} (h : DataW.trod enc Try.prog W 0 (fun _ => true) true fuel 35 cs = some x) : ∃ r : ActV, r.Ok ∧ cs = r.cells := by
  obtain ⟨xs, n, _, _, hlen, hxs, hf⟩ := DataW.trod_struct Try.underlying35 h
  rw [cells_act] at hlen
  have hx8 : xs.length = 8 := hxs
  match cs, hlen with
  | [c0, c1, c2, c3, c4, c5, c6, c7], _ =>
    have e0 : xs[0]? = some (xs[0]'(by omega)) := List.getElem?_eq_getElem _
    have h0 : DataW.trod enc Try.prog W 0 (fun _ => true) true n 5 (([c0, c1, c2, c3, c4, c5, c6, c7].drop 0).take (Try.prog.cellsOf 5)) = some (xs[0]'(by omega)) := (hf 0 _ rfl).trans e0
    rw [cellsOf_u8] at h0
    obtain ⟨z0, k0, -, w0⟩ := DataW.trod_int Try.underlying5 h0
    have g0 := List.head_eq_of_cons_eq k0
    have e1 : xs[1]? = some (xs[1]'(by omega)) := List.getElem?_eq_getElem _
    have h1 : DataW.trod enc Try.prog W 0 (fun _ => true) true n 3 (([c0, c1, c2, c3, c4, c5, c6, c7].drop 1).take (Try.prog.cellsOf 3)) = some (xs[1]'(by omega)) := (hf 1 _ rfl).trans e1
    rw [cellsOf_int] at h1
    obtain ⟨z1, k1, -, w1⟩ := DataW.trod_int Try.underlying3 h1
    have g1 := List.head_eq_of_cons_eq k1
    have e2 : xs[2]? = some (xs[2]'(by omega)) := List.getElem?_eq_getElem _
    have h2 : DataW.trod enc Try.prog W 0 (fun _ => true) true n 3 (([c0, c1, c2, c3, c4, c5, c6, c7].drop 2).take (Try.prog.cellsOf 3)) = some (xs[2]'(by omega)) := (hf 2 _ rfl).trans e2
    rw [cellsOf_int] at h2
    obtain ⟨z2, k2, -, w2⟩ := DataW.trod_int Try.underlying3 h2
    have g2 := List.head_eq_of_cons_eq k2
    have e3 : xs[3]? = some (xs[3]'(by omega)) := List.getElem?_eq_getElem _
    have h3 : DataW.trod enc Try.prog W 0 (fun _ => true) true n 4 (([c0, c1, c2, c3, c4, c5, c6, c7].drop 3).take (Try.prog.cellsOf 4)) = some (xs[3]'(by omega)) := (hf 3 _ rfl).trans e3
    rw [cellsOf_bool] at h3
    obtain ⟨z3, k3, -⟩ := DataW.trod_bool Try.underlying4 h3
    have g3 := List.head_eq_of_cons_eq k3
    have e4 : xs[4]? = some (xs[4]'(by omega)) := List.getElem?_eq_getElem _
    have h4 : DataW.trod enc Try.prog W 0 (fun _ => true) true n 5 (([c0, c1, c2, c3, c4, c5, c6, c7].drop 4).take (Try.prog.cellsOf 5)) = some (xs[4]'(by omega)) := (hf 4 _ rfl).trans e4
    rw [cellsOf_u8] at h4
    obtain ⟨z4, k4, -, w4⟩ := DataW.trod_int Try.underlying5 h4
    have g4 := List.head_eq_of_cons_eq k4
    have e5 : xs[5]? = some (xs[5]'(by omega)) := List.getElem?_eq_getElem _
    have h5 : DataW.trod enc Try.prog W 0 (fun _ => true) true n 5 (([c0, c1, c2, c3, c4, c5, c6, c7].drop 5).take (Try.prog.cellsOf 5)) = some (xs[5]'(by omega)) := (hf 5 _ rfl).trans e5
    rw [cellsOf_u8] at h5
    obtain ⟨z5, k5, -, w5⟩ := DataW.trod_int Try.underlying5 h5
    have g5 := List.head_eq_of_cons_eq k5
    have e6 : xs[6]? = some (xs[6]'(by omega)) := List.getElem?_eq_getElem _
    have h6 : DataW.trod enc Try.prog W 0 (fun _ => true) true n 22 (([c0, c1, c2, c3, c4, c5, c6, c7].drop 6).take (Try.prog.cellsOf 22)) = some (xs[6]'(by omega)) := (hf 6 _ rfl).trans e6
    rw [cellsOf_u64] at h6
    obtain ⟨z6, k6, -, w6⟩ := DataW.trod_int Try.underlying22 h6
    have g6 := List.head_eq_of_cons_eq k6
    have e7 : xs[7]? = some (xs[7]'(by omega)) := List.getElem?_eq_getElem _
    have h7 : DataW.trod enc Try.prog W 0 (fun _ => true) true n 3 (([c0, c1, c2, c3, c4, c5, c6, c7].drop 7).take (Try.prog.cellsOf 3)) = some (xs[7]'(by omega)) := (hf 7 _ rfl).trans e7
    rw [cellsOf_int] at h7
    obtain ⟨z7, k7, -, w7⟩ := DataW.trod_int Try.underlying3 h7
    have g7 := List.head_eq_of_cons_eq k7
    exact ⟨⟨z0, z1, z2, z3, z4, z5, z6, z7⟩, ⟨w0, w1, w2, w4, w5, w6, w7⟩, by rw [g0, g1, g2, g3, g4, g5, g6, g7]; rfl⟩

theorem acts_of_trod {fuel : Nat} {a : Option Addr} {n c : Nat} {d : DataW H} {p : List MemPlace}
    (hf : DataW.trod enc Try.prog W 0 (fun _ => true) true fuel 23 [.slice a n c] = some (d, p)) : ∃ l : List ActV, n = l.length ∧ Acts W a l := by
  rcases Go.Deep.open_slice Try.underlying23 hf with ⟨hcs, _⟩ | ⟨ad, len, cap, m, n', D, Pl, hcs, hb, hl, hm, hmm, hx, hi⟩
  · simp only [List.cons.injEq, Value.slice.injEq] at hcs
    obtain ⟨⟨rfl, rfl, rfl⟩, _⟩ := hcs
    exact ⟨[], rfl, fun i r h => by simp at h⟩
  · simp only [List.cons.injEq, Value.slice.injEq] at hcs
    obtain ⟨⟨rfl, rfl, rfl⟩, _⟩ := hcs
    simp only [if_true] at hmm
    rw [cells_act] at hi
    have each : ∀ i, i < n → ∃ r : ActV, r.Ok ∧ ∀ j, j < 8 → W.cell? (ad.add (i * 8 + j)) = r.cells[j]? := fun i hin => by
      obtain ⟨cs', hc, ht⟩ := hi i (by omega)
      obtain ⟨r, hr, rfl⟩ := act_of_trod ht
      obtain ⟨_, _, hcell⟩ := World.cells?_some hc
      exact ⟨r, hr, fun j hj => by rw [← hcell j hj, Go.Deep.add_add]⟩
    have pick : ∃ l : List ActV, l.length = n ∧ ∀ i r, l[i]? = some r → r.Ok ∧ ∀ j, j < 8 → W.cell? (ad.add (i * 8 + j)) = r.cells[j]? := by
      clear hf hx hi
      have : ∀ k, k ≤ n → ∃ l : List ActV, l.length = k ∧ ∀ i r, l[i]? = some r → r.Ok ∧ ∀ j, j < 8 → W.cell? (ad.add (i * 8 + j)) = r.cells[j]? := by
        intro k
        induction k with
        | zero => intro _; exact ⟨[], rfl, fun i r h => by simp at h⟩
        | succ k ih =>
          intro hk
          obtain ⟨l, hl1, hl2⟩ := ih (by omega)
          obtain ⟨r, hr⟩ := each k (by omega)
          refine ⟨l ++ [r], by simp [hl1], fun i r' h => ?_⟩
          rcases Nat.lt_or_ge i l.length with h1 | h1
          · rw [List.getElem?_append_left h1] at h
            exact hl2 i r' h
          · have h2 := (List.getElem?_eq_some_iff.1 h).1
            have h3 : i = l.length := by simp at h2; omega
            subst h3
            simp at h
            subst h
            rw [hl1]
            exact hr
      exact this n (Nat.le_refl _)
    obtain ⟨l, hl1, hl2⟩ := pick
    refine ⟨l, hl1.symm, fun i r h => ?_⟩
    obtain ⟨hr, hc⟩ := hl2 i r h
    have h0 : 0 < l.length := Nat.lt_of_le_of_lt (Nat.zero_le i) (List.getElem?_eq_some_iff.1 h).1
    obtain ⟨r0, hr0⟩ : ∃ r0, l[0]? = some r0 := ⟨_, List.getElem?_eq_getElem h0⟩
    have h00 : W.cell? (ad.add (0 * 8 + 0)) = some (.int .u8 r0.kind) := (hl2 0 r0 hr0).2 0 (by omega)
    obtain ⟨b, off, spot⟩ := ad
    have hspot : spot = none := by simpa [Addr.add] using World.cell?_spot h00
    subst hspot
    refine ⟨hr, b, off, rfl, fun j hj => ?_⟩
    rw [Nat.add_assoc, ← Go.WideShapes.add_plain]
    exact hc j hj
end
end Go.Proofs.Ytjibiehchfhjnaa
