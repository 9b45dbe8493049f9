/- What stands among the laws' arguments of pmap and pool, opened: slices of numbers, a place, slices of calls. -/
import Derived.Test.YtfehioapjoihkaaProg
import Derived.WalkKit
import Derived.Handy
import Derived.ProofKit
import Derived.OpenShut
import Derived.Carry
import Derived.Deep.Slices
namespace Go.Proofs.Ytfehioapjoihkaa
open Go.ChangeShapes Go.WideShapes Go.ChangeAt Go.RowKit Go.WideMaps Go.WideElems

theorem cellsOf_u8 : Try.prog.cellsOf 5 = 1 := by kernel_rfl
theorem cellsOf_i64 : Try.prog.cellsOf 3 = 1 := by kernel_rfl
theorem cellsOf_bool : Try.prog.cellsOf 4 = 1 := by kernel_rfl
theorem cellsOf_u16 : Try.prog.cellsOf 47 = 1 := by kernel_rfl
/-- The slice at a reads as these numbers of this kind. -/
def Nums (q : IntKind) (w : World) (a : Option Addr) (l : List Int) : Prop :=
  (∀ x ∈ l, (Lit.int q x).wf = true) ∧ (0 < l.length → ∃ b off, a = some ⟨b, off, none⟩ ∧ ∀ i, i < l.length → w.cell? ⟨b, off + i, none⟩ = some (.int q (l.getD i 0)))
theorem Nums.below {q : IntKind} {w w' : World} {a : Option Addr} {l : List Int} (h : Nums q w a l) (hb : Below w.heap.size w w') : Nums q w' a l := by
  obtain ⟨hl, hc⟩ := h
  refine ⟨hl, fun h0 => ?_⟩
  obtain ⟨b, off, rfl, hcell⟩ := hc h0
  exact ⟨b, off, rfl, fun i hi => by rw [hb.cell (p := ⟨b, off + i, none⟩) (World.block_lt_of_cell? w _ (hcell i hi))]; exact hcell i hi⟩
theorem Nums.wf {q : IntKind} {w : World} {a : Option Addr} {l : List Int} (h : Nums q w a l) (i : Nat) (hi : i < l.length) : (Lit.int q (l.getD i 0)).wf = true := h.1 _ (by
  rw [List.getD_eq_getElem?_getD, List.getElem?_eq_getElem hi]
  exact List.getElem_mem hi)
theorem nums_of_trod {H : Type} {enc : TypeId × Value → H} {W : World} {fuel : Nat} {a : Option Addr} {n c : Nat} {d : DataW H} {p : List MemPlace} {t e : TypeId} {q : IntKind} (ht : Try.prog.underlying t = some (.slice e)) (he : Try.prog.underlying e = some (.int q)) (hc : Try.prog.cellsOf e = 1)
    (hf : DataW.trod enc Try.prog W 0 (fun _ => true) true fuel t [.slice a n c] = some (d, p)) : ∃ l : List Int, n = l.length ∧ Nums q W a l := by
  rcases open_ints ht he hc hf with ⟨hcs, _⟩ | ⟨ad, n', c', zs, hcs, _, hl, _, hz, hx, hcell, hwz⟩
  · simp only [List.cons.injEq, Value.slice.injEq] at hcs
    obtain ⟨⟨rfl, rfl, rfl⟩, _⟩ := hcs
    exact ⟨[], rfl, by simp, fun h => by simp at h⟩
  · simp only [List.cons.injEq, Value.slice.injEq] at hcs
    obtain ⟨⟨rfl, rfl, rfl⟩, _⟩ := hcs
    simp only [if_true] at hz
    have hlen : (zs.take n).length = n := by rw [List.length_take]; omega
    refine ⟨zs.take n, hlen.symm, fun x hx => hwz x (List.mem_of_mem_take hx), fun h0 => ?_⟩
    rw [hlen] at h0
    obtain ⟨b, off, rfl, hc⟩ := ints_at hcell (by omega)
    refine ⟨b, off, rfl, fun i hi => ?_⟩
    rw [hlen] at hi
    rw [hc i (by omega), List.getD_eq_getElem?_getD, List.getD_eq_getElem?_getD, List.getElem?_take_of_lt (by omega)]
theorem cells_place : Try.prog.cellsOf 34 = 2 := by kernel_rfl
set_option maxRecDepth 100000 in
theorem place_of_trod {H : Type} {enc : TypeId × Value → H} {W : World} {r : Reach} {base : Nat} {v : Value} {d : DataW H} {p : List MemPlace} (hv : Value.okWide Try.prog W r base 34 v)
    (h : DataW.Trod enc Try.prog W 0 (fun _ => true) true 34 v d p) : ∃ b q : Int, v = .agg #[.int .i64 b, .int .i64 q] := by
  obtain ⟨cs, rfl, hsz⟩ := okWide_struct Try.underlying34 hv
  obtain ⟨fuel, hf⟩ := h
  obtain ⟨xs, n, _, _, hlen, hxs, hg⟩ := DataW.trod_struct Try.underlying34 hf
  have hcs : (Value.agg cs).cells.toList = cs.toList := rfl
  rw [hcs] at hlen hg
  rw [cells_place] at hlen
  have hx4 : xs.length = 2 := hxs
  obtain ⟨L, hL⟩ : ∃ L, cs.toList = L := ⟨_, rfl⟩
  rw [hL] at hlen hg
  match L, hlen, hL with
  | [c0, c1], _, hL =>
    have e0 : xs[0]? = some (xs[0]'(by omega)) := List.getElem?_eq_getElem _
    have h0 : DataW.trod enc Try.prog W 0 (fun _ => true) true n 3 (([c0, c1].drop 0).take (Try.prog.cellsOf 3)) = some (xs[0]'(by omega)) := (hg 0 _ rfl).trans e0
    rw [cellsOf_i64] at h0
    obtain ⟨z0, k0, -, w0⟩ := DataW.trod_int Try.underlying3 h0
    have e1 : xs[1]? = some (xs[1]'(by omega)) := List.getElem?_eq_getElem _
    have h1 : DataW.trod enc Try.prog W 0 (fun _ => true) true n 3 (([c0, c1].drop 1).take (Try.prog.cellsOf 3)) = some (xs[1]'(by omega)) := (hg 1 _ rfl).trans e1
    rw [cellsOf_i64] at h1
    obtain ⟨z1, k1, -, w1⟩ := DataW.trod_int Try.underlying3 h1
    have g0 : c0 = _ := List.head_eq_of_cons_eq k0
    have g1 : c1 = _ := List.head_eq_of_cons_eq k1
    refine ⟨z0, z1, ?_⟩
    have : cs = #[c0, c1] := Array.toList_inj.1 hL
    rw [this, g0, g1]
/-- A call of the script. -/
structure ActA where
  kind : Int
  addr : Int
  b : Int
  p : Int
  near : Bool
def ActA.cells (r : ActA) : List Value := [.int .u8 r.kind, .int .i64 r.addr, .int .i64 r.b, .int .i64 r.p, .bool r.near]
structure ActA.Ok (r : ActA) : Prop where
  kind : (Lit.int .u8 r.kind).wf = true
  addr : (Lit.int .i64 r.addr).wf = true
  b : (Lit.int .i64 r.b).wf = true
  p : (Lit.int .i64 r.p).wf = true
/-- The slice at a holds these calls. -/
def ActAs (w : World) (a : Option Addr) (l : List ActA) : Prop :=
  ∀ i r, l[i]? = some r → r.Ok ∧ ∃ b off, a = some ⟨b, off, none⟩ ∧ ∀ j, j < 5 → w.cell? ⟨b, off + i * 5 + j, none⟩ = r.cells[j]?
theorem ActAs.below {w w' : World} {a : Option Addr} {l : List ActA} (h : ActAs w a l) (hb : Below w.heap.size w w') : ActAs w' a l := fun i r hi => by
  obtain ⟨ho, b, off, rfl, hc⟩ := h i r hi
  refine ⟨ho, b, off, rfl, fun j hj => ?_⟩
  have e : r.cells[j]? = some (r.cells[j]'(by simpa [ActA.cells] using hj)) := List.getElem?_eq_getElem _
  have h1 := (hc j hj).trans e
  rw [hb.cell (p := ⟨b, off + i * 5 + j, none⟩) (World.block_lt_of_cell? w _ h1)]
  exact hc j hj
theorem cells_ActA : Try.prog.cellsOf 31 = 5 := by kernel_rfl
set_option maxRecDepth 100000 in
theorem ActA_of_trod {H : Type} {enc : TypeId × Value → H} {W : World} {fuel : Nat} {cs : List Value} {x : DataW H × List MemPlace} (h : DataW.trod enc Try.prog W 0 (fun _ => true) true fuel 31 cs = some x) : ∃ r : ActA, r.Ok ∧ cs = r.cells := by
  obtain ⟨xs, n, _, _, hlen, hxs, hf⟩ := DataW.trod_struct Try.underlying31 h
  rw [cells_ActA] at hlen
  have hx8 : xs.length = 5 := hxs
  match cs, hlen with
  | [c0, c1, c2, c3, c4], _ =>
    have e0 : xs[0]? = some (xs[0]'(by omega)) := List.getElem?_eq_getElem _
    have h0 : DataW.trod enc Try.prog W 0 (fun _ => true) true n 5 (([c0, c1, c2, c3, c4].drop 0).take (Try.prog.cellsOf 5)) = some (xs[0]'(by omega)) := (hf 0 _ rfl).trans e0
    rw [cellsOf_u8] at h0
    obtain ⟨z0, k0, -, w0⟩ := DataW.trod_int Try.underlying5 h0
    have g0 := List.head_eq_of_cons_eq k0
    have e1 : xs[1]? = some (xs[1]'(by omega)) := List.getElem?_eq_getElem _
    have h1 : DataW.trod enc Try.prog W 0 (fun _ => true) true n 3 (([c0, c1, c2, c3, c4].drop 1).take (Try.prog.cellsOf 3)) = some (xs[1]'(by omega)) := (hf 1 _ rfl).trans e1
    rw [cellsOf_i64] at h1
    obtain ⟨z1, k1, -, w1⟩ := DataW.trod_int Try.underlying3 h1
    have g1 := List.head_eq_of_cons_eq k1
    have e2 : xs[2]? = some (xs[2]'(by omega)) := List.getElem?_eq_getElem _
    have h2 : DataW.trod enc Try.prog W 0 (fun _ => true) true n 3 (([c0, c1, c2, c3, c4].drop 2).take (Try.prog.cellsOf 3)) = some (xs[2]'(by omega)) := (hf 2 _ rfl).trans e2
    rw [cellsOf_i64] at h2
    obtain ⟨z2, k2, -, w2⟩ := DataW.trod_int Try.underlying3 h2
    have g2 := List.head_eq_of_cons_eq k2
    have e3 : xs[3]? = some (xs[3]'(by omega)) := List.getElem?_eq_getElem _
    have h3 : DataW.trod enc Try.prog W 0 (fun _ => true) true n 3 (([c0, c1, c2, c3, c4].drop 3).take (Try.prog.cellsOf 3)) = some (xs[3]'(by omega)) := (hf 3 _ rfl).trans e3
    rw [cellsOf_i64] at h3
    obtain ⟨z3, k3, -, w3⟩ := DataW.trod_int Try.underlying3 h3
    have g3 := List.head_eq_of_cons_eq k3
    have e4 : xs[4]? = some (xs[4]'(by omega)) := List.getElem?_eq_getElem _
    have h4 : DataW.trod enc Try.prog W 0 (fun _ => true) true n 4 (([c0, c1, c2, c3, c4].drop 4).take (Try.prog.cellsOf 4)) = some (xs[4]'(by omega)) := (hf 4 _ rfl).trans e4
    rw [cellsOf_bool] at h4
    obtain ⟨z4, k4, -⟩ := DataW.trod_bool Try.underlying4 h4
    have g4 := List.head_eq_of_cons_eq k4
    exact ⟨⟨z0, z1, z2, z3, z4⟩, ⟨w0, w1, w2, w3⟩, by rw [g0, g1, g2, g3, g4]; rfl⟩
set_option maxRecDepth 100000 in
theorem ActAs_of_trod {H : Type} {enc : TypeId × Value → H} {W : World} {fuel : Nat} {a : Option Addr} {n c : Nat} {d : DataW H} {p : List MemPlace}
    (hf : DataW.trod enc Try.prog W 0 (fun _ => true) true fuel 22 [.slice a n c] = some (d, p)) : ∃ l : List ActA, n = l.length ∧ ActAs W a l := by
  rcases Go.Deep.open_slice Try.underlying22 hf with ⟨hcs, _⟩ | ⟨ad, len, cap, m, n', D, Pl, hcs, hb, hl, hm, hmm, hx, hi⟩
  · simp only [List.cons.injEq, Value.slice.injEq] at hcs
    obtain ⟨⟨rfl, rfl, rfl⟩, _⟩ := hcs
    exact ⟨[], rfl, fun i r h => by simp at h⟩
  · simp only [List.cons.injEq, Value.slice.injEq] at hcs
    obtain ⟨⟨rfl, rfl, rfl⟩, _⟩ := hcs
    simp only [if_true] at hmm
    rw [cells_ActA] at hi
    have each : ∀ i, i < n → ∃ r : ActA, r.Ok ∧ ∀ j, j < 5 → W.cell? (ad.add (i * 5 + j)) = r.cells[j]? := fun i hin => by
      obtain ⟨cs', hc, ht⟩ := hi i (by omega)
      obtain ⟨r, hr, rfl⟩ := ActA_of_trod ht
      obtain ⟨_, _, hcell⟩ := World.cells?_some hc
      exact ⟨r, hr, fun j hj => by rw [← hcell j hj, Go.Deep.add_add]⟩
    have pick : ∃ l : List ActA, l.length = n ∧ ∀ i r, l[i]? = some r → r.Ok ∧ ∀ j, j < 5 → W.cell? (ad.add (i * 5 + j)) = r.cells[j]? := by
      clear hf hx hi
      have : ∀ k, k ≤ n → ∃ l : List ActA, l.length = k ∧ ∀ i r, l[i]? = some r → r.Ok ∧ ∀ j, j < 5 → W.cell? (ad.add (i * 5 + j)) = r.cells[j]? := by
        intro k
        induction k with
        | zero => intro _; exact ⟨[], rfl, fun i r h => by simp at h⟩
        | succ k ih =>
          intro hk
          obtain ⟨l, hl1, hl2⟩ := ih (by omega)
          obtain ⟨r, hr⟩ := each k (by omega)
          refine ⟨l ++ [r], by simp [hl1], fun i r' h => ?_⟩
          rcases Nat.lt_or_ge i l.length with h1 | h1
          · rw [List.getElem?_append_left h1] at h
            exact hl2 i r' h
          · have h2 := (List.getElem?_eq_some_iff.1 h).1
            have h3 : i = l.length := by simp at h2; omega
            subst h3
            simp at h
            subst h
            rw [hl1]
            exact hr
      exact this n (Nat.le_refl _)
    obtain ⟨l, hl1, hl2⟩ := pick
    refine ⟨l, hl1.symm, fun i r h => ?_⟩
    obtain ⟨hr, hc⟩ := hl2 i r h
    have h0 : 0 < l.length := Nat.lt_of_le_of_lt (Nat.zero_le i) (List.getElem?_eq_some_iff.1 h).1
    obtain ⟨r0, hr0⟩ : ∃ r0, l[0]? = some r0 := ⟨_, List.getElem?_eq_getElem h0⟩
    have h00 : W.cell? (ad.add (0 * 5 + 0)) = some (.int .u8 r0.kind) := (hl2 0 r0 hr0).2 0 (by omega)
    obtain ⟨b, off, spot⟩ := ad
    have hspot : spot = none := by simpa [Addr.add] using World.cell?_spot h00
    subst hspot
    refine ⟨hr, b, off, rfl, fun j hj => ?_⟩
    rw [Nat.add_assoc, ← Go.WideShapes.add_plain]
    exact hc j hj

/-- A call of the script. -/
structure ActB where
  b : Int
  how : Int
def ActB.cells (r : ActB) : List Value := [.int .i64 r.b, .int .u8 r.how]
structure ActB.Ok (r : ActB) : Prop where
  b : (Lit.int .i64 r.b).wf = true
  how : (Lit.int .u8 r.how).wf = true
/-- The slice at a holds these calls. -/
def ActBs (w : World) (a : Option Addr) (l : List ActB) : Prop :=
  ∀ i r, l[i]? = some r → r.Ok ∧ ∃ b off, a = some ⟨b, off, none⟩ ∧ ∀ j, j < 2 → w.cell? ⟨b, off + i * 2 + j, none⟩ = r.cells[j]?
theorem ActBs.below {w w' : World} {a : Option Addr} {l : List ActB} (h : ActBs w a l) (hb : Below w.heap.size w w') : ActBs w' a l := fun i r hi => by
  obtain ⟨ho, b, off, rfl, hc⟩ := h i r hi
  refine ⟨ho, b, off, rfl, fun j hj => ?_⟩
  have e : r.cells[j]? = some (r.cells[j]'(by simpa [ActB.cells] using hj)) := List.getElem?_eq_getElem _
  have h1 := (hc j hj).trans e
  rw [hb.cell (p := ⟨b, off + i * 2 + j, none⟩) (World.block_lt_of_cell? w _ h1)]
  exact hc j hj
theorem cells_ActB : Try.prog.cellsOf 56 = 2 := by kernel_rfl
set_option maxRecDepth 100000 in
theorem ActB_of_trod {H : Type} {enc : TypeId × Value → H} {W : World} {fuel : Nat} {cs : List Value} {x : DataW H × List MemPlace} (h : DataW.trod enc Try.prog W 0 (fun _ => true) true fuel 56 cs = some x) : ∃ r : ActB, r.Ok ∧ cs = r.cells := by
  obtain ⟨xs, n, _, _, hlen, hxs, hf⟩ := DataW.trod_struct Try.underlying56 h
  rw [cells_ActB] at hlen
  have hx8 : xs.length = 2 := hxs
  match cs, hlen with
  | [c0, c1], _ =>
    have e0 : xs[0]? = some (xs[0]'(by omega)) := List.getElem?_eq_getElem _
    have h0 : DataW.trod enc Try.prog W 0 (fun _ => true) true n 3 (([c0, c1].drop 0).take (Try.prog.cellsOf 3)) = some (xs[0]'(by omega)) := (hf 0 _ rfl).trans e0
    rw [cellsOf_i64] at h0
    obtain ⟨z0, k0, -, w0⟩ := DataW.trod_int Try.underlying3 h0
    have g0 := List.head_eq_of_cons_eq k0
    have e1 : xs[1]? = some (xs[1]'(by omega)) := List.getElem?_eq_getElem _
    have h1 : DataW.trod enc Try.prog W 0 (fun _ => true) true n 5 (([c0, c1].drop 1).take (Try.prog.cellsOf 5)) = some (xs[1]'(by omega)) := (hf 1 _ rfl).trans e1
    rw [cellsOf_u8] at h1
    obtain ⟨z1, k1, -, w1⟩ := DataW.trod_int Try.underlying5 h1
    have g1 := List.head_eq_of_cons_eq k1
    exact ⟨⟨z0, z1⟩, ⟨w0, w1⟩, by rw [g0, g1]; rfl⟩
set_option maxRecDepth 100000 in
theorem ActBs_of_trod {H : Type} {enc : TypeId × Value → H} {W : World} {fuel : Nat} {a : Option Addr} {n c : Nat} {d : DataW H} {p : List MemPlace}
    (hf : DataW.trod enc Try.prog W 0 (fun _ => true) true fuel 50 [.slice a n c] = some (d, p)) : ∃ l : List ActB, n = l.length ∧ ActBs W a l := by
  rcases Go.Deep.open_slice Try.underlying50 hf with ⟨hcs, _⟩ | ⟨ad, len, cap, m, n', D, Pl, hcs, hb, hl, hm, hmm, hx, hi⟩
  · simp only [List.cons.injEq, Value.slice.injEq] at hcs
    obtain ⟨⟨rfl, rfl, rfl⟩, _⟩ := hcs
    exact ⟨[], rfl, fun i r h => by simp at h⟩
  · simp only [List.cons.injEq, Value.slice.injEq] at hcs
    obtain ⟨⟨rfl, rfl, rfl⟩, _⟩ := hcs
    simp only [if_true] at hmm
    rw [cells_ActB] at hi
    have each : ∀ i, i < n → ∃ r : ActB, r.Ok ∧ ∀ j, j < 2 → W.cell? (ad.add (i * 2 + j)) = r.cells[j]? := fun i hin => by
      obtain ⟨cs', hc, ht⟩ := hi i (by omega)
      obtain ⟨r, hr, rfl⟩ := ActB_of_trod ht
      obtain ⟨_, _, hcell⟩ := World.cells?_some hc
      exact ⟨r, hr, fun j hj => by rw [← hcell j hj, Go.Deep.add_add]⟩
    have pick : ∃ l : List ActB, l.length = n ∧ ∀ i r, l[i]? = some r → r.Ok ∧ ∀ j, j < 2 → W.cell? (ad.add (i * 2 + j)) = r.cells[j]? := by
      clear hf hx hi
      have : ∀ k, k ≤ n → ∃ l : List ActB, l.length = k ∧ ∀ i r, l[i]? = some r → r.Ok ∧ ∀ j, j < 2 → W.cell? (ad.add (i * 2 + j)) = r.cells[j]? := by
        intro k
        induction k with
        | zero => intro _; exact ⟨[], rfl, fun i r h => by simp at h⟩
        | succ k ih =>
          intro hk
          obtain ⟨l, hl1, hl2⟩ := ih (by omega)
          obtain ⟨r, hr⟩ := each k (by omega)
          refine ⟨l ++ [r], by simp [hl1], fun i r' h => ?_⟩
          rcases Nat.lt_or_ge i l.length with h1 | h1
          · rw [List.getElem?_append_left h1] at h
            exact hl2 i r' h
          · have h2 := (List.getElem?_eq_some_iff.1 h).1
            have h3 : i = l.length := by simp at h2; omega
            subst h3
            simp at h
            subst h
            rw [hl1]
            exact hr
      exact this n (Nat.le_refl _)
    obtain ⟨l, hl1, hl2⟩ := pick
    refine ⟨l, hl1.symm, fun i r h => ?_⟩
    obtain ⟨hr, hc⟩ := hl2 i r h
    have h0 : 0 < l.length := Nat.lt_of_le_of_lt (Nat.zero_le i) (List.getElem?_eq_some_iff.1 h).1
    obtain ⟨r0, hr0⟩ : ∃ r0, l[0]? = some r0 := ⟨_, List.getElem?_eq_getElem h0⟩
    have h00 : W.cell? (ad.add (0 * 2 + 0)) = some (.int .i64 r0.b) := (hl2 0 r0 hr0).2 0 (by omega)
    obtain ⟨b, off, spot⟩ := ad
    have hspot : spot = none := by simpa [Addr.add] using World.cell?_spot h00
    subst hspot
    refine ⟨hr, b, off, rfl, fun j hj => ?_⟩
    rw [Nat.add_assoc, ← Go.WideShapes.add_plain]
    exact hc j hj

end Go.Proofs.Ytfehioapjoihkaa
