/- A slice of happenings (Put) among a law's arguments, opened: what each of its cells holds. What happens to an array in the laws ScanBlocks and ScanAll, as plain data. The document's array (drawbarref03.Array) in memory: its blocks' pages as texts. The contracts of the document's array's begin. Stores into a block of the document's array. The contract of the document's laid (drawbarref03): a page's first bytes, and ff behind them. The contracts of the document's array's Read, as far as Program and Erase ask, and of its Program. The contracts of the document's array's Erase. -/
import Derived.Test.YtkapnpcolmhdbaaDoorScanP
import Derived.Test.YtkapnpcolmhdbaaDoorArg
import Derived.ProofKit
import Derived.OpenShut
import Derived.Carry
import Derived.Deep.Slices
import Derived.Test.YtkapnpcolmhdbaaDoorZSe
import Derived.Test.YtkapnpcolmhdbaaDoorNdApi
import Derived.Deep.AppendLies
import Derived.Test.YtkapnpcolmhdbaaDoorNdState
import Derived.Test.YtkapnpcolmhdbaaDoorOcta
import Derived.Deep.RegionLaw
namespace Go.Proofs.YtkapnpcolmhdbaaDoor.Sc
open Go.ChangeShapes Go.WideShapes Go.ChangeAt Go.RowKit Go.WideMaps Go.WideElems
open Drawbar
/-- A happening: n: how many bytes its data have; da: these, if they are 64 at most. -/
structure PutV where
  k : Nat
  b : Nat
  ad : Nat
  fr : Nat
  cut : Nat
  copy : Bool
  hole : Bool
  n : Nat
  da : List Nat
def PutV.cells (r : PutV) (v : Value) : List Value := [.int .u8 r.k, .int .u8 r.b, .int .u8 r.ad, .int .u8 r.fr, .int .u8 r.cut, .bool r.copy, .bool r.hole, v]
structure PutV.Ok (r : PutV) : Prop where
  k : r.k < 256
  b : r.b < 256
  ad : r.ad < 256
  fr : r.fr < 256
  cut : r.cut < 256
  big : 64 < r.n → r.da = []
  len : r.n ≤ 64 → r.da.length = r.n
/-- Its data in memory. -/
def PutDa (w : World) (v : Value) (r : PutV) : Prop := ∃ a c, v = .slice a r.n c ∧ r.n ≤ maxLen ∧ (r.n ≤ 64 → Rd w a r.da ∧ r.n ≤ c ∧ (a = none → c = 0))
set_option maxRecDepth 100000 in
theorem PutDa.below {w w' : World} {v : Value} {r : PutV} (h : PutDa w v r) (hb : Below w.heap.size w w') : PutDa w' v r := by
  obtain ⟨a, c, rfl, hn, h⟩ := h
  exact ⟨a, c, rfl, hn, fun h0 => ⟨(h h0).1.below hb, (h h0).2⟩⟩
/-- The slice at a holds these happenings. -/
def Puts (w : World) (a : Option Addr) (l : List PutV) : Prop :=
  ∀ i r, l[i]? = some r → r.Ok ∧ ∃ b off v, a = some ⟨b, off, none⟩ ∧ (∀ j, j < 8 → w.cell? ⟨b, off + i * 8 + j, none⟩ = (r.cells v)[j]?) ∧ PutDa w v r
set_option maxRecDepth 100000 in
theorem Puts.below {w w' : World} {a : Option Addr} {l : List PutV} (h : Puts w a l) (hb : Below w.heap.size w w') : Puts w' a l := fun i r hi => by
  obtain ⟨ho, b, off, v, rfl, hc, hd⟩ := h i r hi
  refine ⟨ho, b, off, v, rfl, fun j hj => ?_, hd.below hb⟩
  have e : (r.cells v)[j]? = some ((r.cells v)[j]'(by simpa [PutV.cells] using hj)) := List.getElem?_eq_getElem _
  have h1 := (hc j hj).trans e
  rw [hb.cell (p := ⟨b, off + i * 8 + j, none⟩) (World.block_lt_of_cell? w _ h1)]
  exact hc j hj
section
variable {H : Type} {enc : TypeId × Value → H} {W : World}
set_option maxRecDepth 100000 in
theorem cells_put : Tryd.prog.cellsOf 73 = 8 := by kernel_rfl
set_option maxRecDepth 100000 in
theorem cellsP_u8 : Tryd.prog.cellsOf 5 = 1 := by kernel_rfl
set_option maxRecDepth 100000 in
theorem cellsP_bool : Tryd.prog.cellsOf 4 = 1 := by kernel_rfl
set_option maxRecDepth 100000 in
theorem cellsP_bytes : Tryd.prog.cellsOf 42 = 1 := by kernel_rfl
set_option maxRecDepth 100000 in
theorem da_of_trod {fuel : Nat} {v : Value} {x : DataW H × List MemPlace} (hf : DataW.trod enc Tryd.prog W 0 (fun _ => true) true fuel 42 [v] = some x) :
    ∃ a n c, v = .slice a n c ∧ n ≤ maxLen ∧ (n ≤ 64 → ∃ l : List Nat, n = l.length ∧ Rd W a l ∧ n ≤ c ∧ (a = none → c = 0)) := by
  rcases open_ints Tryd.underlying42 Tryd.underlying5 cellsP_u8 hf with ⟨hcs, _⟩ | ⟨ad, n', c', zs, hcs, hmx, hl, _, hz, hx, hcell, hwz⟩
  · simp only [List.cons.injEq] at hcs
    exact ⟨none, 0, 0, hcs.1, Nat.zero_le _, fun _ => ⟨[], rfl, rd_nil W, Nat.le_refl _, fun _ => rfl⟩⟩
  · simp only [List.cons.injEq] at hcs
    simp only [if_true] at hz
    refine ⟨some ad, n', c', hcs.1, (by first | exact hmx | omega), fun h64 => ⟨(zs.take n').map Int.toNat, by rw [List.length_map, List.length_take]; omega, ⟨?_, by rw [List.length_map, List.length_take]; omega, fun h0 => ?_⟩, hl, fun h => by cases h⟩⟩
    · intro x hx
      obtain ⟨z, hz1, rfl⟩ := List.mem_map.1 hx
      have := bounds_u8 (hwz z (List.mem_of_mem_take hz1))
      omega
    · rw [List.length_map, List.length_take] at h0
      obtain ⟨b, off, rfl, hc⟩ := ints_at hcell (by omega)
      refine ⟨b, off, rfl, fun i hi => ?_⟩
      rw [List.length_map, List.length_take] at hi
      rw [hc i (by omega)]
      have hb := bounds_u8 (hwz (zs[i]'(by omega)) (List.getElem_mem _))
      rw [List.getD_eq_getElem?_getD, List.getD_eq_getElem?_getD, List.getElem?_map, List.getElem?_take_of_lt (by omega), List.getElem?_eq_getElem (by omega)]
      simp only [Option.map_some, Option.getD_some]
      congr 2
      omega
set_option maxRecDepth 100000 in
theorem put_of_trod {fuel : Nat} {cs : List Value} {x : DataW H × List MemPlace} (h : DataW.trod enc Tryd.prog W 0 (fun _ => true) true fuel 73 cs = some x) : ∃ (r : PutV) (v : Value), r.Ok ∧ cs = r.cells v ∧ PutDa W v r := by
  obtain ⟨xs, n, _, _, hlen, hxs, hf⟩ := DataW.trod_struct Tryd.underlying73 h
  rw [cells_put] at hlen
  have hx8 : xs.length = 8 := hxs
  match cs, hlen with
  | [c0, c1, c2, c3, c4, c5, c6, c7], _ =>
    have e0 : xs[0]? = some (xs[0]'(by omega)) := List.getElem?_eq_getElem _
    have h0 : DataW.trod enc Tryd.prog W 0 (fun _ => true) true n 5 (([c0, c1, c2, c3, c4, c5, c6, c7].drop 0).take (Tryd.prog.cellsOf 5)) = some (xs[0]'(by omega)) := (hf 0 _ rfl).trans e0
    rw [cellsP_u8] at h0
    obtain ⟨z0, k0, -, w0⟩ := DataW.trod_int Tryd.underlying5 h0
    have g0 := List.head_eq_of_cons_eq k0
    have b0 := bounds_u8 w0
    have e1 : xs[1]? = some (xs[1]'(by omega)) := List.getElem?_eq_getElem _
    have h1 : DataW.trod enc Tryd.prog W 0 (fun _ => true) true n 5 (([c0, c1, c2, c3, c4, c5, c6, c7].drop 1).take (Tryd.prog.cellsOf 5)) = some (xs[1]'(by omega)) := (hf 1 _ rfl).trans e1
    rw [cellsP_u8] at h1
    obtain ⟨z1, k1, -, w1⟩ := DataW.trod_int Tryd.underlying5 h1
    have g1 := List.head_eq_of_cons_eq k1
    have b1 := bounds_u8 w1
    have e2 : xs[2]? = some (xs[2]'(by omega)) := List.getElem?_eq_getElem _
    have h2 : DataW.trod enc Tryd.prog W 0 (fun _ => true) true n 5 (([c0, c1, c2, c3, c4, c5, c6, c7].drop 2).take (Tryd.prog.cellsOf 5)) = some (xs[2]'(by omega)) := (hf 2 _ rfl).trans e2
    rw [cellsP_u8] at h2
    obtain ⟨z2, k2, -, w2⟩ := DataW.trod_int Tryd.underlying5 h2
    have g2 := List.head_eq_of_cons_eq k2
    have b2 := bounds_u8 w2
    have e3 : xs[3]? = some (xs[3]'(by omega)) := List.getElem?_eq_getElem _
    have h3 : DataW.trod enc Tryd.prog W 0 (fun _ => true) true n 5 (([c0, c1, c2, c3, c4, c5, c6, c7].drop 3).take (Tryd.prog.cellsOf 5)) = some (xs[3]'(by omega)) := (hf 3 _ rfl).trans e3
    rw [cellsP_u8] at h3
    obtain ⟨z3, k3, -, w3⟩ := DataW.trod_int Tryd.underlying5 h3
    have g3 := List.head_eq_of_cons_eq k3
    have b3 := bounds_u8 w3
    have e4 : xs[4]? = some (xs[4]'(by omega)) := List.getElem?_eq_getElem _
    have h4 : DataW.trod enc Tryd.prog W 0 (fun _ => true) true n 5 (([c0, c1, c2, c3, c4, c5, c6, c7].drop 4).take (Tryd.prog.cellsOf 5)) = some (xs[4]'(by omega)) := (hf 4 _ rfl).trans e4
    rw [cellsP_u8] at h4
    obtain ⟨z4, k4, -, w4⟩ := DataW.trod_int Tryd.underlying5 h4
    have g4 := List.head_eq_of_cons_eq k4
    have b4 := bounds_u8 w4
    have e5 : xs[5]? = some (xs[5]'(by omega)) := List.getElem?_eq_getElem _
    have h5 : DataW.trod enc Tryd.prog W 0 (fun _ => true) true n 4 (([c0, c1, c2, c3, c4, c5, c6, c7].drop 5).take (Tryd.prog.cellsOf 4)) = some (xs[5]'(by omega)) := (hf 5 _ rfl).trans e5
    rw [cellsP_bool] at h5
    obtain ⟨z5, k5, -⟩ := DataW.trod_bool Tryd.underlying4 h5
    have g5 := List.head_eq_of_cons_eq k5
    have e6 : xs[6]? = some (xs[6]'(by omega)) := List.getElem?_eq_getElem _
    have h6 : DataW.trod enc Tryd.prog W 0 (fun _ => true) true n 4 (([c0, c1, c2, c3, c4, c5, c6, c7].drop 6).take (Tryd.prog.cellsOf 4)) = some (xs[6]'(by omega)) := (hf 6 _ rfl).trans e6
    rw [cellsP_bool] at h6
    obtain ⟨z6, k6, -⟩ := DataW.trod_bool Tryd.underlying4 h6
    have g6 := List.head_eq_of_cons_eq k6
    have e7 : xs[7]? = some (xs[7]'(by omega)) := List.getElem?_eq_getElem _
    have h7 : DataW.trod enc Tryd.prog W 0 (fun _ => true) true n 42 (([c0, c1, c2, c3, c4, c5, c6, c7].drop 7).take (Tryd.prog.cellsOf 42)) = some (xs[7]'(by omega)) := (hf 7 _ rfl).trans e7
    rw [cellsP_bytes] at h7
    obtain ⟨a, m, cc, rfl, hm, hda⟩ := da_of_trod (v := c7) h7
    by_cases h64 : m ≤ 64
    · obtain ⟨l, hl, hr, hcc, hnil⟩ := hda h64
      refine ⟨⟨z0.toNat, z1.toNat, z2.toNat, z3.toNat, z4.toNat, z5, z6, m, l⟩, .slice a m cc, ⟨(by dsimp only; omega), (by dsimp only; omega), (by dsimp only; omega), (by dsimp only; omega), (by dsimp only; omega), fun h => (by dsimp only at h; omega), fun _ => hl.symm⟩, ?_, a, cc, rfl, hm, fun _ => ⟨hr, hcc, hnil⟩⟩
      unfold PutV.cells
      dsimp only
      rw [g0, g1, g2, g3, g4, g5, g6, Int.toNat_of_nonneg b0.1, Int.toNat_of_nonneg b1.1, Int.toNat_of_nonneg b2.1, Int.toNat_of_nonneg b3.1, Int.toNat_of_nonneg b4.1]
    · refine ⟨⟨z0.toNat, z1.toNat, z2.toNat, z3.toNat, z4.toNat, z5, z6, m, []⟩, .slice a m cc, ⟨(by dsimp only; omega), (by dsimp only; omega), (by dsimp only; omega), (by dsimp only; omega), (by dsimp only; omega), fun _ => rfl, fun h => absurd h h64⟩, ?_, a, cc, rfl, hm, fun h => absurd h h64⟩
      unfold PutV.cells
      dsimp only
      rw [g0, g1, g2, g3, g4, g5, g6, Int.toNat_of_nonneg b0.1, Int.toNat_of_nonneg b1.1, Int.toNat_of_nonneg b2.1, Int.toNat_of_nonneg b3.1, Int.toNat_of_nonneg b4.1]
set_option maxRecDepth 100000 in
theorem puts_of_trod {fuel : Nat} {a : Option Addr} {n c : Nat} {d : DataW H} {p : List MemPlace}
    (hf : DataW.trod enc Tryd.prog W 0 (fun _ => true) true fuel 22 [.slice a n c] = some (d, p)) : ∃ l : List PutV, n = l.length ∧ Puts W a l := by
  rcases Go.Deep.open_slice Tryd.underlying22 hf with ⟨hcs, _⟩ | ⟨ad, len, cap, m, n', D, Pl, hcs, hb, hl, hm, hmm, hx, hi⟩
  · simp only [List.cons.injEq, Value.slice.injEq] at hcs
    obtain ⟨⟨rfl, rfl, rfl⟩, _⟩ := hcs
    exact ⟨[], rfl, fun i r h => by simp at h⟩
  · simp only [List.cons.injEq, Value.slice.injEq] at hcs
    obtain ⟨⟨rfl, rfl, rfl⟩, _⟩ := hcs
    simp only [if_true] at hmm
    rw [cells_put] at hi
    have each : ∀ i, i < n → ∃ r : PutV, r.Ok ∧ ∃ v, (∀ j, j < 8 → W.cell? (ad.add (i * 8 + j)) = (r.cells v)[j]?) ∧ PutDa W v r := fun i hin => by
      obtain ⟨cs', hc, ht⟩ := hi i (by omega)
      obtain ⟨r, v, hr, rfl, hda⟩ := put_of_trod ht
      obtain ⟨_, _, hcell⟩ := World.cells?_some hc
      exact ⟨r, hr, v, fun j hj => by rw [← hcell j hj, Go.Deep.add_add], hda⟩
    have pick : ∃ l : List PutV, l.length = n ∧ ∀ i r, l[i]? = some r → r.Ok ∧ ∃ v, (∀ j, j < 8 → W.cell? (ad.add (i * 8 + j)) = (r.cells v)[j]?) ∧ PutDa W v r := by
      clear hf hx hi
      have : ∀ k, k ≤ n → ∃ l : List PutV, l.length = k ∧ ∀ i r, l[i]? = some r → r.Ok ∧ ∃ v, (∀ j, j < 8 → W.cell? (ad.add (i * 8 + j)) = (r.cells v)[j]?) ∧ PutDa W v r := by
        intro k
        induction k with
        | zero => intro _; exact ⟨[], rfl, fun i r h => by simp at h⟩
        | succ k ih =>
          intro hk
          obtain ⟨l, hl1, hl2⟩ := ih (by omega)
          obtain ⟨r, hr⟩ := each k (by omega)
          refine ⟨l ++ [r], by simp [hl1], fun i r' h => ?_⟩
          rcases Nat.lt_or_ge i l.length with h1 | h1
          · rw [List.getElem?_append_left h1] at h
            exact hl2 i r' h
          · have h2 := (List.getElem?_eq_some_iff.1 h).1
            have h3 : i = l.length := by simp at h2; omega
            subst h3
            simp at h
            subst h
            rw [hl1]
            exact hr
      exact this n (Nat.le_refl _)
    obtain ⟨l, hl1, hl2⟩ := pick
    refine ⟨l, hl1.symm, fun i r h => ?_⟩
    obtain ⟨hr, v, hc, hda⟩ := hl2 i r h
    have h0 : 0 < l.length := Nat.lt_of_le_of_lt (Nat.zero_le i) (List.getElem?_eq_some_iff.1 h).1
    obtain ⟨r0, hr0⟩ : ∃ r0, l[0]? = some r0 := ⟨_, List.getElem?_eq_getElem h0⟩
    obtain ⟨-, v0, hc0, -⟩ := hl2 0 r0 hr0
    have h00 : W.cell? (ad.add (0 * 8 + 0)) = some (.int .u8 r0.k) := hc0 0 (by omega)
    obtain ⟨b, off, spot⟩ := ad
    have hspot : spot = none := by simpa [Addr.add] using World.cell?_spot h00
    subst hspot
    refine ⟨hr, b, off, v, rfl, fun j hj => ?_, hda⟩
    rw [Nat.add_assoc, ← Go.WideShapes.add_plain]
    exact hc j hj
end
end Go.Proofs.YtkapnpcolmhdbaaDoor.Sc
namespace Drawbar.Scan
open Go.RowKit
open Drawbar Drawbar.Sheet Drawbar.Nand Go.Proofs.YtkapnpcolmhdbaaDoor.Nd Go.Proofs.YtkapnpcolmhdbaaDoor.Sc

/-- The sheet that a happening lays. -/
def sheetP (C N sq : Nat) (laid : List Sh) (x : PutV) : Sh :=
  if x.copy = true ∧ 0 < laid.length then ⟨(laid.getD (x.ad % laid.length) zeroS).k, 1, sq, (laid.getD (x.ad % laid.length) zeroS).ad, (x.fr % N : Nat), (laid.getD (x.ad % laid.length) zeroS).da⟩
  else if x.hole = true then ⟨2, 1, sq, (x.ad % (C + 2) : Nat), -1, []⟩ else ⟨1, 1, sq, (x.ad % (C + 2) : Nat), -1, x.da⟩
/-- A sheet that was laid. -/
structure OkS (C : Nat) (x : Sh) : Prop where
  k : x.k = 1 ∨ x.k = 2
  ep : x.ep = 1
  sq : x.sq ≤ 60
  ad : 0 ≤ x.ad ∧ x.ad ≤ C + 1
  fr : -1 ≤ x.fr ∧ x.fr ≤ 63
  da : x.k = 1 ∧ x.da.length ≤ 64 ∨ x.k ≠ 1 ∧ x.da.length = 0
  lt : ∀ u ∈ x.da, u < 256
set_option maxRecDepth 100000 in
theorem OkS.fm {C : Nat} {x : Sh} (h : OkS C x) (hC : C ≤ 60000) : Sheet.fm x = true := by
  obtain ⟨h1, h2, h3, h4, h5, h6, h7⟩ := h
  unfold Sheet.fm
  exact decide_eq_true ⟨by omega, by omega, by omega, by omega, by omega, by omega, by omega, by omega, h6⟩
set_option maxRecDepth 100000 in
theorem sheetP_ok {C N sq : Nat} {laid : List Sh} {x : PutV} (hx : x.Ok) (hN : 0 < N) (hN9 : N ≤ 9) (hs : sq ≤ 60) (hl : ∀ y ∈ laid, OkS C y) (hd : ∀ u ∈ x.da, u < 256) : OkS C (sheetP C N sq laid x) := by
  unfold sheetP
  have h1 := Nat.mod_lt x.fr hN
  have h2 := Nat.mod_lt x.ad (show 0 < C + 2 by omega)
  split
  · next h =>
    have hm : laid.getD (x.ad % laid.length) zeroS ∈ laid := by
      rw [List.getD_eq_getElem?_getD, List.getElem?_eq_getElem (Nat.mod_lt _ h.2)]
      exact List.getElem_mem _
    have ho := hl _ hm
    exact ⟨ho.k, rfl, hs, ho.ad, by dsimp only; omega, ho.da, ho.lt⟩
  · split
    · exact ⟨.inr rfl, rfl, hs, by dsimp only; omega, by dsimp only; omega, .inr ⟨(by dsimp only; omega), rfl⟩, fun u hu => by cases hu⟩
    · refine ⟨.inl rfl, rfl, hs, by dsimp only; omega, by dsimp only; omega, .inl ⟨rfl, ?_⟩, hd⟩
      dsimp only
      rcases Nat.lt_or_ge 64 x.n with h | h
      · rw [hx.big h]; simp
      · rw [hx.len h]; exact h

/-- What happens to the array. -/
def opP (s : Arr) (k b : Nat) (p : List Nat) (cut : Nat) : Arr :=
  if k < 9 then (s.program b (s.b b).pages.length p 1).2
  else if k = 9 then (s.erase b 1).2
  else if k = 10 then (({ s with armed := 1 } : Arr).program b (s.b b).pages.length p 1).2.restart cut
  else (({ s with armed := 1 } : Arr).erase b 1).2.restart cut

set_option maxRecDepth 100000 in
theorem Good.nums {s s' : Arr} {us : List Int} (h : Good s us) (h1 : s'.armed = 0) (h2 : s'.off = false) (h3 : s'.begun = .no) (h4 : s'.fence = 0) (h5 : s'.n = s.n) (h6 : ∀ i, (s'.b i).doom = (s.b i).doom ∧ (s'.b i).fails = (s.b i).fails) : Good s' us :=
  ⟨h1, h2, h3, h4, fun i hi => by have := h.ok i hi; rw [h5, (h6 i).1, (h6 i).2]; exact this⟩
set_option maxRecDepth 100000 in
/-- A block's fields but pages, torn, erases stand. -/
theorem upd_fields (f : Nat → Blk) (i : Nat) (x : Blk) (h1 : x.doom = (f i).doom) (h2 : x.fails = (f i).fails) (j : Nat) : ((upd f i x) j).doom = (f j).doom ∧ ((upd f i x) j).fails = (f j).fails := by
  unfold upd
  by_cases h : j = i
  · subst h; rw [if_pos rfl]; exact ⟨h1, h2⟩
  · rw [if_neg h]; exact ⟨rfl, rfl⟩
set_option maxRecDepth 100000 in
theorem lay_fields (b : Blk) (p : List Nat) (cut : Int) : (b.lay p cut).doom = b.doom ∧ (b.lay p cut).fails = b.fails := by unfold Blk.lay; split <;> exact ⟨rfl, rfl⟩
set_option maxRecDepth 100000 in
theorem erase_fields (b : Blk) (cut : Int) : (b.erase cut).doom = b.doom ∧ (b.erase cut).fails = b.fails := by unfold Blk.erase; split <;> (try split) <;> exact ⟨rfl, rfl⟩
/-- A programming that is cut. -/
def cutS (s : Arr) (bg : Begun) : Arr := { s with armed := 0, ops := wrap64 (s.ops + 1), off := true, begun := bg }
set_option maxRecDepth 100000 in
theorem Good.cut_program {s : Arr} {us : List Int} (h : Good s us) {i : Nat} (hi : (i : Int) ∈ us) {p : List Nat} (hp : p.length = 96) (e : Nat) :
    ∃ z, ({ s with armed := 1 } : Arr).program i (s.b i).pages.length p e = if (s.b i).pages.length < s.pages ∧ (s.b i).torn = false then (9, cutS s (.lay i p)) else (z, { s with armed := 1 }) := by
  obtain ⟨h1, h2, h3⟩ := h.ok i hi
  have c1 : ¬ ¬ inB (i : Int) s.n := fun h => h ⟨by omega, by omega⟩
  have c2 : ¬ s.off = true := by rw [h.off]; simp
  have c4 : ¬ p.length ≠ 96 := by omega
  have c6 : ¬ e < s.fence := by rw [h.fence]; omega
  unfold Arr.program
  simp only [Int.toNat_natCast]
  rw [if_neg c1, if_neg c2]
  by_cases hl : (s.b i).pages.length < s.pages
  · have c3 : ¬ ¬ inB ((s.b i).pages.length : Int) s.pages := fun h => h ⟨by omega, by omega⟩
    rw [if_neg c3, if_neg c4]
    by_cases ht : (s.b i).torn = true
    · exact ⟨6, by rw [if_pos (.inr ht), if_neg (fun hh => by rw [ht] at hh; cases hh.2)]⟩
    · have ht2 : (s.b i).torn = false := by simpa using ht
      have c5 : ¬ (((s.b i).pages.length : Int) ≠ (s.b i).pages.length ∨ (s.b i).torn = true) := fun hh => hh.elim (fun h4 => h4 rfl) ht
      refine ⟨0, ?_⟩
      have hc : (s.b i).pages.length < s.pages ∧ (s.b i).torn = false := ⟨hl, ht2⟩
      have ho : ({ s with armed := 1 } : Arr).operate i (.lay i p) (fun b => b.lay p 96) = (9, cutS s (.lay i p)) := by
        unfold Arr.operate Arr.tick cutS
        dsimp only
        rw [if_pos rfl, tick_good h2, upd_same']
      rw [if_neg c5, if_neg c6, if_pos hc, ho]
      rfl
  · have c3 : ¬ inB ((s.b i).pages.length : Int) s.pages := fun h => hl (by have := h.2; omega)
    exact ⟨1, by rw [if_pos c3, if_neg (fun hh => hl hh.1)]⟩
set_option maxRecDepth 100000 in
theorem Good.cut_erase {s : Arr} {us : List Int} (h : Good s us) {i : Nat} (hi : (i : Int) ∈ us) (e : Nat) :
    ({ s with armed := 1 } : Arr).erase i e = (9, cutS s (.erase i)) := by
  obtain ⟨h1, h2, h3⟩ := h.ok i hi
  have c1 : ¬ ¬ inB (i : Int) s.n := fun h => h ⟨by omega, by omega⟩
  have c2 : ¬ s.off = true := by rw [h.off]; simp
  have c6 : ¬ e < s.fence := by rw [h.fence]; omega
  unfold Arr.erase
  simp only [Int.toNat_natCast]
  rw [if_neg c1, if_neg c2, if_neg c6]
  unfold Arr.operate Arr.tick cutS
  dsimp only
  rw [if_pos rfl, tick_good h2, upd_same']
set_option maxRecDepth 100000 in
theorem Good.restart {s s' : Arr} {us : List Int} (h : Good s us) (h5 : s'.n = s.n) (h6 : ∀ i, (s'.b i).doom = (s.b i).doom ∧ (s'.b i).fails = (s.b i).fails) (cut : Int) : Good (s'.restart cut) us := by
  have hres : (s'.resume cut).n = s.n ∧ ∀ i, ((s'.resume cut).b i).doom = (s.b i).doom ∧ ((s'.resume cut).b i).fails = (s.b i).fails := by
    have key : ∀ k x, x.doom = (s'.b k).doom → x.fails = (s'.b k).fails → ∀ i, ((upd s'.b k x) i).doom = (s.b i).doom ∧ ((upd s'.b k x) i).fails = (s.b i).fails := fun k x h1 h2 i => by
      have := upd_fields s'.b k x h1 h2 i
      exact ⟨this.1.trans (h6 i).1, this.2.trans (h6 i).2⟩
    unfold Arr.resume
    cases s'.begun with
    | no => exact ⟨h5, h6⟩
    | lay k p => exact ⟨h5, key k _ (lay_fields _ p cut).1 (lay_fields _ p cut).2⟩
    | erase k => exact ⟨h5, key k _ (erase_fields _ cut).1 (erase_fields _ cut).2⟩
  exact h.nums rfl rfl rfl rfl hres.1 hres.2
set_option maxRecDepth 100000 in
theorem restart_n (s : Arr) (cut : Int) : (s.restart cut).n = s.n ∧ (s.restart cut).pages = s.pages := by
  unfold Arr.restart Arr.resume
  dsimp only
  split <;> exact ⟨rfl, rfl⟩
set_option maxRecDepth 100000 in
theorem opP_good {s : Arr} {us : List Int} (h : Good s us) {b : Nat} (hb : (b : Int) ∈ us) (k cut : Nat) {p : List Nat} (hp : p.length = 96) :
    Good (opP s k b p cut) us ∧ (opP s k b p cut).n = s.n ∧ (opP s k b p cut).pages = s.pages := by
  unfold opP
  split
  · by_cases hr : (s.b b).pages.length < s.pages ∧ (s.b b).torn = false
    · rw [h.program hb hp 1 hr.1 hr.2 _ rfl]
      exact ⟨h.put b p, rfl, rfl⟩
    · obtain ⟨z, hz, -⟩ := h.program_no hb hp 1 _ rfl (by
        rcases Nat.lt_or_ge (s.b b).pages.length s.pages with h1 | h1
        · exact .inr (by cases ht : (s.b b).torn with | true => rfl | false => exact absurd ⟨h1, ht⟩ hr)
        · exact .inl h1)
      rw [hz]
      exact ⟨h, rfl, rfl⟩
  · split
    · rw [h.erase hb 1]
      exact ⟨h.wipe b, rfl, rfl⟩
    · split
      · obtain ⟨z, hz⟩ := h.cut_program hb hp 1
        rw [hz]
        split
        · exact ⟨h.restart (s' := cutS s (.lay b p)) rfl (fun _ => ⟨rfl, rfl⟩) _, (restart_n _ _).1, (restart_n _ _).2⟩
        · exact ⟨h.restart (s' := { s with armed := 1 }) rfl (fun _ => ⟨rfl, rfl⟩) _, (restart_n _ _).1, (restart_n _ _).2⟩
      · rw [h.cut_erase hb 1]
        exact ⟨h.restart (s' := cutS s (.erase b)) rfl (fun _ => ⟨rfl, rfl⟩) _, (restart_n _ _).1, (restart_n _ _).2⟩
set_option maxRecDepth 100000 in
theorem gC_small : ∀ n, n < 256 → gCn n ≤ 60 := by
  have h : ((List.range 256).all fun n => decide (gCn n ≤ 60)) = true := by decide +kernel
  intro n hn
  exact of_decide_eq_true (List.all_eq_true.1 h n (List.mem_range.2 hn))
/-- The pages of a block, as the laws' second loop tells them. -/
def showS (s : Arr) (i : Nat) : List (List Nat) := if (s.b i).torn = true then [] else (s.b i).pages
end Drawbar.Scan
namespace Go.Proofs.YtkapnpcolmhdbaaDoor.Sc
open Go.RowKit
open Drawbar Drawbar.Nand Go.Proofs.YtkapnpcolmhdbaaDoor.Nd

def strs (ps : List (List Nat)) : List Value := ps.map fun l => .string (strOf l)
set_option maxRecDepth 100000 in
theorem strs_length (ps : List (List Nat)) : (strs ps).length = ps.length := by unfold strs; simp
/-- Its own block: left, off, cut, and the page that was cut. -/
structure MHd (w : World) (m rb n P left : Nat) (off : Bool) (cut : Int) (t : ByteArray) : Prop where
  c0 : w.cell? ⟨m, 0, none⟩ = some (.slice (some ⟨rb, 0, none⟩) n n)
  c1 : w.cell? ⟨m, 1, none⟩ = some (.int .i64 P)
  c2 : w.cell? ⟨m, 2, none⟩ = some (.int .u64 0)
  c3 : ∃ v, w.cell? ⟨m, 3, none⟩ = some (.int .i64 v)
  c4 : w.cell? ⟨m, 4, none⟩ = some (.int .i64 left)
  c5 : w.cell? ⟨m, 5, none⟩ = some (.bool off)
  c6 : ∃ v, w.cell? ⟨m, 6, none⟩ = some (.int .i64 v)
  c7 : w.cell? ⟨m, 7, none⟩ = some (.int .i64 cut)
  c8 : w.cell? ⟨m, 8, none⟩ = some (.string t)
  fz : ∀ o, w.frozen? ⟨m, o, none⟩ = false
set_option maxRecDepth 100000 in
theorem MHd.keep {w w' : World} {m rb n P left : Nat} {off : Bool} {cut : Int} {t : ByteArray} (h : MHd w m rb n P left off cut t) (e : w'.heap[m]? = w.heap[m]?) : MHd w' m rb n P left off cut t := by
  obtain ⟨c0, c1, c2, ⟨v3, c3⟩, c4, c5, ⟨v6, c6⟩, c7, c8, fz⟩ := h
  exact ⟨(World.cell?_of_block (a := ⟨m, 0, none⟩) e).trans c0, (World.cell?_of_block (a := ⟨m, 1, none⟩) e).trans c1, (World.cell?_of_block (a := ⟨m, 2, none⟩) e).trans c2, ⟨v3, (World.cell?_of_block (a := ⟨m, 3, none⟩) e).trans c3⟩, (World.cell?_of_block (a := ⟨m, 4, none⟩) e).trans c4,
    (World.cell?_of_block (a := ⟨m, 5, none⟩) e).trans c5, ⟨v6, (World.cell?_of_block (a := ⟨m, 6, none⟩) e).trans c6⟩, (World.cell?_of_block (a := ⟨m, 7, none⟩) e).trans c7, (World.cell?_of_block (a := ⟨m, 8, none⟩) e).trans c8, fun o => (World.frozen?_of_block (a := ⟨m, o, none⟩) e).trans (fz o)⟩
set_option maxRecDepth 100000 in
theorem cell_oth {w : World} {m k j : Nat} {v u : Value} (h : w.cell? ⟨m, j, none⟩ = some u) (hne : k ≠ j) : (w.setCell ⟨m, k, none⟩ v).cell? ⟨m, j, none⟩ = some u :=
  (World.cell?_setCell_other w _ _ v (fun e => by injection e with _ e2 _; exact hne e2)).trans h
section
variable {w : World} {m rb n P left : Nat} {off : Bool} {cut : Int} {t : ByteArray}
set_option maxRecDepth 100000 in
theorem MHd.setOps (h : MHd w m rb n P left off cut t) (x : Int) : MHd (w.setCell ⟨m, 6, none⟩ (.int .i64 x)) m rb n P left off cut t := by
  obtain ⟨c0, c1, c2, ⟨v3, c3⟩, c4, c5, ⟨v6, c6⟩, c7, c8, fz⟩ := h
  exact ⟨cell_oth c0 (by decide), cell_oth c1 (by decide), cell_oth c2 (by decide), ⟨v3, cell_oth c3 (by decide)⟩, cell_oth c4 (by decide), cell_oth c5 (by decide), ⟨x, World.cell?_setCell_same _ _ _ c6⟩, cell_oth c7 (by decide), cell_oth c8 (by decide), fun o => (World.frozen?_setCell _ _ _ _).trans (fz o)⟩
set_option maxRecDepth 100000 in
theorem MHd.setBoots (h : MHd w m rb n P left off cut t) (x : Int) : MHd (w.setCell ⟨m, 3, none⟩ (.int .i64 x)) m rb n P left off cut t := by
  obtain ⟨c0, c1, c2, ⟨v3, c3⟩, c4, c5, ⟨v6, c6⟩, c7, c8, fz⟩ := h
  exact ⟨cell_oth c0 (by decide), cell_oth c1 (by decide), cell_oth c2 (by decide), ⟨x, World.cell?_setCell_same _ _ _ c3⟩, cell_oth c4 (by decide), cell_oth c5 (by decide), ⟨v6, cell_oth c6 (by decide)⟩, cell_oth c7 (by decide), cell_oth c8 (by decide), fun o => (World.frozen?_setCell _ _ _ _).trans (fz o)⟩
set_option maxRecDepth 100000 in
theorem MHd.setFence (h : MHd w m rb n P left off cut t) : MHd (w.setCell ⟨m, 2, none⟩ (.int .u64 0)) m rb n P left off cut t := by
  obtain ⟨c0, c1, c2, ⟨v3, c3⟩, c4, c5, ⟨v6, c6⟩, c7, c8, fz⟩ := h
  exact ⟨cell_oth c0 (by decide), cell_oth c1 (by decide), World.cell?_setCell_same _ _ _ c2, ⟨v3, cell_oth c3 (by decide)⟩, cell_oth c4 (by decide), cell_oth c5 (by decide), ⟨v6, cell_oth c6 (by decide)⟩, cell_oth c7 (by decide), cell_oth c8 (by decide), fun o => (World.frozen?_setCell _ _ _ _).trans (fz o)⟩
set_option maxRecDepth 100000 in
theorem MHd.setLeft (h : MHd w m rb n P left off cut t) (x : Nat) : MHd (w.setCell ⟨m, 4, none⟩ (.int .i64 x)) m rb n P x off cut t := by
  obtain ⟨c0, c1, c2, ⟨v3, c3⟩, c4, c5, ⟨v6, c6⟩, c7, c8, fz⟩ := h
  exact ⟨cell_oth c0 (by decide), cell_oth c1 (by decide), cell_oth c2 (by decide), ⟨v3, cell_oth c3 (by decide)⟩, World.cell?_setCell_same _ _ _ c4, cell_oth c5 (by decide), ⟨v6, cell_oth c6 (by decide)⟩, cell_oth c7 (by decide), cell_oth c8 (by decide), fun o => (World.frozen?_setCell _ _ _ _).trans (fz o)⟩
set_option maxRecDepth 100000 in
theorem MHd.setOff (h : MHd w m rb n P left off cut t) (x : Bool) : MHd (w.setCell ⟨m, 5, none⟩ (.bool x)) m rb n P left x cut t := by
  obtain ⟨c0, c1, c2, ⟨v3, c3⟩, c4, c5, ⟨v6, c6⟩, c7, c8, fz⟩ := h
  exact ⟨cell_oth c0 (by decide), cell_oth c1 (by decide), cell_oth c2 (by decide), ⟨v3, cell_oth c3 (by decide)⟩, cell_oth c4 (by decide), World.cell?_setCell_same _ _ _ c5, ⟨v6, cell_oth c6 (by decide)⟩, cell_oth c7 (by decide), cell_oth c8 (by decide), fun o => (World.frozen?_setCell _ _ _ _).trans (fz o)⟩
set_option maxRecDepth 100000 in
theorem MHd.setCut (h : MHd w m rb n P left off cut t) (x : Int) : MHd (w.setCell ⟨m, 7, none⟩ (.int .i64 x)) m rb n P left off x t := by
  obtain ⟨c0, c1, c2, ⟨v3, c3⟩, c4, c5, ⟨v6, c6⟩, c7, c8, fz⟩ := h
  exact ⟨cell_oth c0 (by decide), cell_oth c1 (by decide), cell_oth c2 (by decide), ⟨v3, cell_oth c3 (by decide)⟩, cell_oth c4 (by decide), cell_oth c5 (by decide), ⟨v6, cell_oth c6 (by decide)⟩, World.cell?_setCell_same _ _ _ c7, cell_oth c8 (by decide), fun o => (World.frozen?_setCell _ _ _ _).trans (fz o)⟩
set_option maxRecDepth 100000 in
theorem MHd.setPage (h : MHd w m rb n P left off cut t) (x : ByteArray) : MHd (w.setCell ⟨m, 8, none⟩ (.string x)) m rb n P left off cut x := by
  obtain ⟨c0, c1, c2, ⟨v3, c3⟩, c4, c5, ⟨v6, c6⟩, c7, c8, fz⟩ := h
  exact ⟨cell_oth c0 (by decide), cell_oth c1 (by decide), cell_oth c2 (by decide), ⟨v3, cell_oth c3 (by decide)⟩, cell_oth c4 (by decide), cell_oth c5 (by decide), ⟨v6, cell_oth c6 (by decide)⟩, cell_oth c7 (by decide), World.cell?_setCell_same _ _ _ c8, fun o => (World.frozen?_setCell _ _ _ _).trans (fz o)⟩
end
/-- Its blocks: the row rb, and the rows of their pages; G: all of its memory. -/
structure MRw (w : World) (G : Nat → Prop) (m rb n : Nat) (rows : Nat → Value) (b : Nat → Blk) : Prop where
  b0 : ∀ i, i < n → w.cell? ⟨rb, i * 6, none⟩ = some (rows i)
  b1 : ∀ i, i < n → ∃ v, w.cell? ⟨rb, i * 6 + 1, none⟩ = some (.int .i64 v)
  b2 : ∀ i, i < n → w.cell? ⟨rb, i * 6 + 2, none⟩ = some (.bool (b i).torn)
  b3 : ∀ i, i < n → w.cell? ⟨rb, i * 6 + 3, none⟩ = some (.bool (b i).fails)
  b4 : ∀ i, i < n → ∃ v, w.cell? ⟨rb, i * 6 + 4, none⟩ = some (.bool v)
  b5 : ∀ i, i < n → w.cell? ⟨rb, i * 6 + 5, none⟩ = some (.int .i64 0)
  fz : ∀ o, w.frozen? ⟨rb, o, none⟩ = false
  row : ∀ i, i < n → w.ownsRow 0 9 1 (rows i) (b i).pages.length (strs (b i).pages)
  gm : G m
  grb : G rb
  grow : ∀ i, i < n → ∀ d, (rows i).ownBlock = some d → G d ∧ d ≠ m ∧ d ≠ rb
  rr : ∀ i j, i < n → j < n → i ≠ j → ∀ d, (rows i).ownBlock = some d → (rows j).ownBlock ≠ some d
  ne : m ≠ rb
  bound : ∀ d, G d → d < w.heap.size
set_option maxRecDepth 100000 in
theorem MRw.keep {w w' : World} {G G' : Nat → Prop} {m rb n : Nat} {rows : Nat → Value} {b : Nat → Blk} (h : MRw w G m rb n rows b) (hG : ∀ d, G d → G' d) (hb : ∀ d, G' d → d < w'.heap.size)
    (e : ∀ d, G d → d ≠ m → w'.heap[d]? = w.heap[d]?) : MRw w' G' m rb n rows b := by
  have er := e rb h.grb (Ne.symm h.ne)
  refine ⟨fun i hi => (World.cell?_of_block (a := ⟨rb, _, none⟩) er).trans (h.b0 i hi), fun i hi => ?_, fun i hi => (World.cell?_of_block (a := ⟨rb, _, none⟩) er).trans (h.b2 i hi), fun i hi => (World.cell?_of_block (a := ⟨rb, _, none⟩) er).trans (h.b3 i hi), fun i hi => ?_,
    fun i hi => (World.cell?_of_block (a := ⟨rb, _, none⟩) er).trans (h.b5 i hi), fun o => (World.frozen?_of_block (a := ⟨rb, o, none⟩) er).trans (h.fz o), fun i hi => ownsRow_keep (h.row i hi) fun d hd => e d (h.grow i hi d hd).1 (h.grow i hi d hd).2.1, hG _ h.gm, hG _ h.grb,
    fun i hi d hd => ⟨hG _ (h.grow i hi d hd).1, (h.grow i hi d hd).2⟩, h.rr, h.ne, hb⟩
  · obtain ⟨v, hv⟩ := h.b1 i hi; exact ⟨v, (World.cell?_of_block (a := ⟨rb, _, none⟩) er).trans hv⟩
  · obtain ⟨v, hv⟩ := h.b4 i hi; exact ⟨v, (World.cell?_of_block (a := ⟨rb, _, none⟩) er).trans hv⟩
/-- The array in memory. -/
structure MAt (w : World) (G : Nat → Prop) (m n P : Nat) (b : Nat → Blk) (left : Nat) (off : Bool) (cut : Int) (t : ByteArray) : Prop where
  all : ∃ rb rows, MHd w m rb n P left off cut t ∧ MRw w G m rb n rows b
  n64 : n ≤ 64
  p32 : P ≤ 32
  len : ∀ i, i < n → (b i).pages.length ≤ P
set_option maxRecDepth 100000 in
theorem MAt.keep {w w' : World} {G G' : Nat → Prop} {m n P : Nat} {b : Nat → Blk} {left : Nat} {off : Bool} {cut : Int} {t : ByteArray} (h : MAt w G m n P b left off cut t) (hG : ∀ d, G d → G' d) (hb : ∀ d, G' d → d < w'.heap.size) (e : ∀ d, G d → w'.heap[d]? = w.heap[d]?) :
    MAt w' G' m n P b left off cut t := by
  obtain ⟨⟨rb, rows, h1, h2⟩, h3, h4, h5⟩ := h
  exact ⟨⟨rb, rows, h1.keep (e m h2.gm), h2.keep hG hb fun d hd _ => e d hd⟩, h3, h4, h5⟩
set_option maxRecDepth 100000 in
theorem MAt.bound {w : World} {G : Nat → Prop} {m n P : Nat} {b : Nat → Blk} {left : Nat} {off : Bool} {cut : Int} {t : ByteArray} (h : MAt w G m n P b left off cut t) : ∀ d, G d → d < w.heap.size := by
  obtain ⟨⟨rb, rows, h1, h2⟩, h3⟩ := h; exact h2.bound
set_option maxRecDepth 100000 in
theorem MAt.below {w w' : World} {G : Nat → Prop} {m n P : Nat} {b : Nat → Blk} {left : Nat} {off : Bool} {cut : Int} {t : ByteArray} (h : MAt w G m n P b left off cut t) (hw : Below w.heap.size w w') : MAt w' (ext G w w') m n P b left off cut t :=
  h.keep (fun _ => .inl) (fun d hd => by
    have := hw.size
    rcases hd with hd | hd
    · have := h.bound d hd; omega
    · omega) fun d hd => hw.block d (h.bound d hd)
/-- What a call of the document's array does. -/
def MDid (w : World) (G : Nat → Prop) (m n P : Nat) (b : Nat → Blk) (left : Nat) (off : Bool) (cut : Int) (t : ByteArray) (w' : World) : Prop := MAt w' (ext G w w') m n P b left off cut t ∧ Keep G w w'
end Go.Proofs.YtkapnpcolmhdbaaDoor.Sc
namespace Go.Proofs.YtkapnpcolmhdbaaDoor.Sc
open Go.RowKit
open Drawbar Drawbar.Nand Go.Proofs.YtkapnpcolmhdbaaDoor.Nd
section
variable {w : World} {G : Nat → Prop} {m n P : Nat} {b : Nat → Blk} {left : Nat} {off : Bool} {cut : Int} {t : ByteArray}
set_option maxRecDepth 100000 in
/-- A store into the array's own block. -/
theorem set_keep (w : World) (m k : Nat) (v : Value) : ∀ d, d ≠ m → (w.setCell ⟨m, k, none⟩ v).heap[d]? = w.heap[d]? := fun _ hd => Below.heap_setCell _ _ _ _ hd
set_option maxRecDepth 100000 in
theorem set_size (w : World) (p : Addr) (v : Value) : (w.setCell p v).heap.size = w.heap.size := by simp [World.setCell]
set_option maxRecDepth 100000 in
theorem MAt.head {left' : Nat} {off' : Bool} {cut' : Int} {t' : ByteArray} (h : MAt w G m n P b left off cut t) (k : Nat) (v : Value)
    (hh : ∀ rb, MHd w m rb n P left off cut t → MHd (w.setCell ⟨m, k, none⟩ v) m rb n P left' off' cut' t') : MAt (w.setCell ⟨m, k, none⟩ v) G m n P b left' off' cut' t' := by
  obtain ⟨⟨rb, rows, h1, h2⟩, h3, h4, h5⟩ := h
  exact ⟨⟨rb, rows, hh rb h1, h2.keep (fun _ h => h) (fun d hd => by rw [set_size]; exact h2.bound d hd) fun d _ hd => set_keep w m k v d hd⟩, h3, h4, h5⟩
/-- Nothing but the block m turned. -/
def MOnly (m : Nat) (w w' : World) : Prop := Keep (fun d => d = m) w w' ∧ w'.heap.size = w.heap.size
set_option maxRecDepth 100000 in
theorem MOnly.refl (m : Nat) (w : World) : MOnly m w w := ⟨Keep.refl _ _, rfl⟩
set_option maxRecDepth 100000 in
theorem MOnly.set {m : Nat} {w w' : World} (h : MOnly m w w') (k : Nat) (v : Value) : MOnly m w (w'.setCell ⟨m, k, none⟩ v) := ⟨h.1.setCell rfl v, (set_size _ _ _).trans h.2⟩
set_option maxRecDepth 100000 in
theorem MHd.left0 {rb : Nat} (h : MHd w m rb n P left off cut t) : MHd (w.setCell ⟨m, 4, none⟩ (.int .i64 0)) m rb n P 0 off cut t := h.setLeft 0
set_option maxRecDepth 100000 in
theorem MAt.blk (h : MAt w G m n P b left off cut t) : ∃ rb rows, MHd w m rb n P left off cut t ∧ MRw w G m rb n rows b := h.all
set_option maxRecDepth 100000 in
theorem MRw.set {rb : Nat} {rows : Nat → Value} (h : MRw w G m rb n rows b) (k : Nat) (v : Value) : MRw (w.setCell ⟨m, k, none⟩ v) G m rb n rows b :=
  h.keep (fun _ h => h) (fun d hd => by rw [set_size]; exact h.bound d hd) fun d _ hd => set_keep w m k v d hd
set_option maxRecDepth 100000 in
set_option maxHeartbeats 1000000 in
theorem begin_ok (h : MAt w G m n P b 0 false cut t) (i : Nat) (hi : i < n) (hf : (b i).fails = false) :
    Calls Tryd.prog 58 #[.pointer (some ⟨m, 0, none⟩), .int .i64 i] w fun e w' => e = .returned (.int .i64 0) ∧ MAt w' G m n P b 0 false cut t ∧ MOnly m w w' := by
  have HF := Lib.hid (fun x => And.intro (h.head 6 (.int .i64 x) fun rb h => h.setOps x) ((MOnly.refl m w).set 6 (.int .i64 x)))
  obtain ⟨⟨rb, rows, h1, h2⟩, -⟩ := h
  obtain ⟨v6, c6⟩ := h1.c6
  have f6 := h1.fz 6
  have hx := fun x => h1.setOps x
  have hb := fun x => h2.set 6 (.int .i64 x)
  have d0 := fun x => (hx x).c0
  have d4 := fun x => (hx x).c4
  have d5 := fun x => (hx x).c5
  have e3 := fun x => (hb x).b3 i hi
  have e5 := fun x => (hb x).b5 i hi
  rw [hf] at e3
  have hin : (i : Int) < (n : Int) := by omega
  clear h1 h2 hx hb
  go_enter Tryd.func58, Tryd.ntmps58
  go_wp2
  go_ret
  exact ⟨rfl, HF.out _⟩
set_option maxRecDepth 100000 in
set_option maxHeartbeats 1000000 in
theorem begin_cut (h : MAt w G m n P b 1 false cut t) (i : Nat) (hi : i < n) :
    Calls Tryd.prog 58 #[.pointer (some ⟨m, 0, none⟩), .int .i64 i] w fun e w' => e = .returned (.int .i64 9) ∧ MAt w' G m n P b 0 true i t ∧ MOnly m w w' := by
  have HF := Lib.hid (fun x => And.intro ((((h.head 6 (.int .i64 x) fun rb h => h.setOps x).head 5 (.bool true) fun rb h => h.setOff true).head 4 (.int .i64 0) fun rb h => h.left0).head 7 (.int .i64 i) fun rb h => h.setCut i) (((((MOnly.refl m w).set 6 (.int .i64 x)).set 5 (.bool true)).set 4 (.int .i64 0)).set 7 (.int .i64 i)))
  obtain ⟨⟨rb, rows, h1, h2⟩, -⟩ := h
  obtain ⟨v6, c6⟩ := h1.c6
  have f6 := h1.fz 6
  have hx := fun x => h1.setOps x
  have hb := fun x => h2.set 6 (.int .i64 x)
  have d0 := fun x => (hx x).c0
  have d4 := fun x => (hx x).c4
  have d5 := fun x => (hx x).c5
  have g5 := fun x => (hx x).fz 5
  have e5 := fun x => (hb x).b5 i hi
  have hy := fun x => (hx x).setOff true
  have k4 := fun x => (hy x).c4
  have g4 := fun x => (hy x).fz 4
  have hz := fun x => (hy x).left0
  have l5 := fun x => (hz x).c5
  have l7 := fun x => (hz x).c7
  have g7 := fun x => (hz x).fz 7
  have hin : (i : Int) < (n : Int) := by omega
  clear h1 h2 hx hb hy hz
  go_enter Tryd.func58, Tryd.ntmps58
  go_wp2
  go_ret
  exact ⟨rfl, HF.out _⟩
end
end Go.Proofs.YtkapnpcolmhdbaaDoor.Sc
namespace Go.Proofs.YtkapnpcolmhdbaaDoor.Sc
open Go.RowKit
open Drawbar Drawbar.Nand Go.Proofs.YtkapnpcolmhdbaaDoor.Nd
section
variable {w : World} {G : Nat → Prop} {m rb n P : Nat} {rows : Nat → Value} {b : Nat → Blk} {left : Nat} {off : Bool} {cut : Int} {t : ByteArray}
def setV (rows : Nat → Value) (i : Nat) (v : Value) : Nat → Value := fun j => if j = i then v else rows j
set_option maxRecDepth 100000 in
theorem setV_same (rows : Nat → Value) (i : Nat) (v : Value) : setV rows i v i = v := if_pos rfl
set_option maxRecDepth 100000 in
theorem setV_other (rows : Nat → Value) (i j : Nat) (v : Value) (h : j ≠ i) : setV rows i v j = rows j := if_neg h
set_option maxRecDepth 100000 in
theorem off_ne {i j k l : Nat} (hk : k < 6) (hl : l < 6) (h : ¬ (i = j ∧ k = l)) : i * 6 + k ≠ j * 6 + l := by omega
set_option maxRecDepth 100000 in
/-- Its pages are others. -/
theorem MRw.setRow (h : MRw w G m rb n rows b) (i : Nat) (hi : i < n) {w1 : World} (hg : w.grownBy w1 (rows i).ownBlock) (v : Value) (b' : Blk) (hrow : w1.ownsRow 0 9 1 v b'.pages.length (strs b'.pages))
    (hv : ∀ d, v.ownBlock = some d → (rows i).ownBlock = some d ∨ w.heap.size ≤ d) (h1 : b'.torn = (b i).torn) (h2 : b'.fails = (b i).fails) :
    MRw (w1.setCell ⟨rb, i * 6, none⟩ v) (ext G w w1) m rb n (setV rows i v) (upd b i b') ∧ ∀ d, d ≠ rb → some d ≠ (rows i).ownBlock → d < w.heap.size → (w1.setCell ⟨rb, i * 6, none⟩ v).heap[d]? = w.heap[d]? := by
  have hrbl := h.bound rb h.grb
  have hne : some rb ≠ (rows i).ownBlock := fun e => (h.grow i hi rb e.symm).2.2 rfl
  have erb : w1.heap[rb]? = w.heap[rb]? := hg.block rb hrbl hne
  have hoth : ∀ d, d ≠ rb → (w1.setCell ⟨rb, i * 6, none⟩ v).heap[d]? = w1.heap[d]? := fun d hd => set_keep w1 rb _ v d hd
  have hkeep : ∀ d, d ≠ rb → some d ≠ (rows i).ownBlock → d < w.heap.size → (w1.setCell ⟨rb, i * 6, none⟩ v).heap[d]? = w.heap[d]? := fun d h1 h2 h3 => (hoth d h1).trans (hg.block d h3 h2)
  have hcell : ∀ j k u, k < 6 → ¬ (j = i ∧ k = 0) → w.cell? ⟨rb, j * 6 + k, none⟩ = some u → (w1.setCell ⟨rb, i * 6, none⟩ v).cell? ⟨rb, j * 6 + k, none⟩ = some u := fun j k u hk hn hu =>
    cell_oth ((World.cell?_of_block (a := ⟨rb, j * 6 + k, none⟩) erb).trans hu) (by omega)
  have hfld : ∀ j, (upd b i b' j).torn = (b j).torn ∧ (upd b i b' j).fails = (b j).fails := fun j => by
    unfold upd; by_cases e : j = i
    · subst e; rw [if_pos rfl]; exact ⟨h1, h2⟩
    · rw [if_neg e]; exact ⟨rfl, rfl⟩
  have hvlt : ∀ d, v.ownBlock = some d → d < w1.heap.size := fun d hd => (hrow.lt d hd).2
  have hvg : ∀ d, v.ownBlock = some d → ext G w w1 d := fun d hd => by
    rcases hv d hd with h3 | h3
    · exact .inl (h.grow i hi d h3).1
    · exact .inr ⟨h3, hvlt d hd⟩
  have hml := h.bound m h.gm
  refine ⟨⟨fun j hj => ?_, fun j hj => ?_, fun j hj => ?_, fun j hj => ?_, fun j hj => ?_, fun j hj => hcell j 5 _ (by omega) (by omega) (h.b5 j hj), fun o => ?_, fun j hj => ?_, .inl h.gm, .inl h.grb, fun j hj d hd => ?_, fun j k hj hk hjk d hd => ?_, h.ne, fun d hd => ?_⟩, hkeep⟩
  · by_cases e : j = i
    · subst e; rw [setV_same]; exact World.cell?_setCell_same _ _ _ ((World.cell?_of_block (a := ⟨rb, j * 6, none⟩) erb).trans (h.b0 j hj))
    · rw [setV_other _ _ _ _ e]; exact hcell j 0 _ (by omega) (by omega) (h.b0 j hj)
  · obtain ⟨u, hu⟩ := h.b1 j hj; exact ⟨u, hcell j 1 _ (by omega) (by omega) hu⟩
  · rw [(hfld j).1]; exact hcell j 2 _ (by omega) (by omega) (h.b2 j hj)
  · rw [(hfld j).2]; exact hcell j 3 _ (by omega) (by omega) (h.b3 j hj)
  · obtain ⟨u, hu⟩ := h.b4 j hj; exact ⟨u, hcell j 4 _ (by omega) (by omega) hu⟩
  · rw [World.frozen?_setCell]; exact (World.frozen?_of_block (a := ⟨rb, o, none⟩) erb).trans (h.fz o)
  · by_cases e : j = i
    · subst e
      rw [setV_same, upd_same]
      exact ownsRow_keep hrow fun d hd => hoth d fun e2 => by
        subst e2
        rcases hv d hd with h3 | h3
        · exact hne h3.symm
        · omega
    · rw [setV_other _ _ _ _ e, upd_other _ _ _ _ e]
      exact ownsRow_keep (h.row j hj) fun d hd => hkeep d (h.grow j hj d hd).2.2 (fun e2 => h.rr j i hj hi e d hd e2.symm) (h.bound d (h.grow j hj d hd).1)
  · by_cases e : j = i
    · subst e
      rw [setV_same] at hd
      refine ⟨hvg d hd, ?_⟩
      rcases hv d hd with h3 | h3
      · exact (h.grow j hj d h3).2
      · exact ⟨by omega, by omega⟩
    · rw [setV_other _ _ _ _ e] at hd
      exact ⟨.inl (h.grow j hj d hd).1, (h.grow j hj d hd).2⟩
  · by_cases e1 : j = i
    · subst e1
      have e2 : k ≠ j := Ne.symm hjk
      rw [setV_same] at hd
      rw [setV_other _ _ _ _ e2]
      intro h4
      rcases hv d hd with h3 | h3
      · exact h.rr j k hj hk hjk d h3 h4
      · have := h.bound d (h.grow k hk d h4).1; omega
    · rw [setV_other _ _ _ _ e1] at hd
      by_cases e2 : k = i
      · subst e2
        rw [setV_same]
        intro h4
        rcases hv d h4 with h3 | h3
        · exact h.rr j k hj hk hjk d hd h3
        · have := h.bound d (h.grow j hj d hd).1; omega
      · rw [setV_other _ _ _ _ e2]
        exact h.rr j k hj hk hjk d hd
  · rw [set_size]
    rcases hd with hd | hd
    · have := h.bound d hd; have := hg.size; omega
    · omega
set_option maxRecDepth 100000 in
/-- Another number of a block's. -/
theorem MRw.setNum (h : MRw w G m rb n rows b) (i k : Nat) (hi : i < n) (v : Value) (b' : Blk) (hp : b'.pages = (b i).pages) (hk : (k = 1 ∧ (∃ x, v = .int .i64 x) ∧ b'.torn = (b i).torn ∧ b'.fails = (b i).fails) ∨ (k = 2 ∧ v = .bool b'.torn ∧ b'.fails = (b i).fails)) :
    MRw (w.setCell ⟨rb, i * 6 + k, none⟩ v) G m rb n rows (upd b i b') := by
  have hk6 : k < 6 := by rcases hk with h | h <;> omega
  have hoth : ∀ d, d ≠ rb → (w.setCell ⟨rb, i * 6 + k, none⟩ v).heap[d]? = w.heap[d]? := fun d hd => set_keep w rb _ v d hd
  have hcell : ∀ j l u, l < 6 → ¬ (j = i ∧ l = k) → w.cell? ⟨rb, j * 6 + l, none⟩ = some u → (w.setCell ⟨rb, i * 6 + k, none⟩ v).cell? ⟨rb, j * 6 + l, none⟩ = some u := fun j l u hl hn hu => cell_oth hu (by omega)
  have hpg : ∀ j, (upd b i b' j).pages = (b j).pages := fun j => by
    unfold upd; by_cases e : j = i
    · subst e; rw [if_pos rfl]; exact hp
    · rw [if_neg e]
  have hfl : ∀ j, (upd b i b' j).fails = (b j).fails := fun j => by
    unfold upd; by_cases e : j = i
    · subst e; rw [if_pos rfl]; rcases hk with h | h
      · exact h.2.2.2
      · exact h.2.2
    · rw [if_neg e]
  refine ⟨fun j hj => hcell j 0 _ (by omega) (by rcases hk with h | h <;> omega) (h.b0 j hj), fun j hj => ?_, fun j hj => ?_, fun j hj => ?_, fun j hj => ?_, fun j hj => hcell j 5 _ (by omega) (by rcases hk with h | h <;> omega) (h.b5 j hj), fun o => by rw [World.frozen?_setCell]; exact h.fz o,
    fun j hj => by rw [hpg]; exact ownsRow_keep (h.row j hj) fun d hd => hoth d (h.grow j hj d hd).2.2, h.gm, h.grb, h.grow, h.rr, h.ne, fun d hd => by rw [set_size]; exact h.bound d hd⟩
  · obtain ⟨u, hu⟩ := h.b1 j hj
    by_cases e : j = i ∧ 1 = k
    · obtain ⟨rfl, rfl⟩ := e
      rcases hk with ⟨_, ⟨x, rfl⟩, _⟩ | h2
      · exact ⟨x, World.cell?_setCell_same _ _ _ hu⟩
      · omega
    · exact ⟨u, hcell j 1 _ (by omega) e hu⟩
  · have hu := h.b2 j hj
    by_cases e : j = i ∧ 2 = k
    · obtain ⟨rfl, rfl⟩ := e
      rcases hk with h2 | ⟨_, rfl, _⟩
      · omega
      · rw [upd_same]; exact World.cell?_setCell_same _ _ _ hu
    · have e3 : (upd b i b' j).torn = (b j).torn := by
        unfold upd; by_cases e2 : j = i
        · subst e2; rw [if_pos rfl]; rcases hk with h2 | h2
          · exact h2.2.2.1
          · exact absurd ⟨rfl, h2.1.symm⟩ e
        · rw [if_neg e2]
      rw [e3]
      exact hcell j 2 _ (by omega) e hu
  · rw [hfl]; exact hcell j 3 _ (by omega) (by rcases hk with h | h <;> omega) (h.b3 j hj)
  · obtain ⟨u, hu⟩ := h.b4 j hj; exact ⟨u, hcell j 4 _ (by omega) (by rcases hk with h | h <;> omega) hu⟩
end
end Go.Proofs.YtkapnpcolmhdbaaDoor.Sc
namespace Go.Proofs.YtkapnpcolmhdbaaDoor.Sc
open Go.RowKit
open Drawbar Drawbar.Nand
set_option maxRecDepth 100000 in
theorem str_size (l : List Nat) : (strOf l).size = l.length := by unfold strOf; simp [ByteArray.size]
set_option maxRecDepth 100000 in
theorem str_app2 (a b : List Nat) : strOf a ++ strOf b = strOf (a ++ b) := by
  unfold strOf
  apply ByteArray.ext
  simp [ByteArray.data_append]
set_option maxRecDepth 100000 in
theorem str_take (l : List Nat) (n : Nat) : (strOf l).extract 0 n = strOf (l.take n) := by
  unfold strOf
  apply ByteArray.ext
  simp [ByteArray.data_extract]
set_option maxRecDepth 100000 in
set_option maxHeartbeats 1000000 in
theorem mlaid_any (l : List Nat) (hl : l.length ≤ 96) (c : Nat) (w : World) :
    Calls Tryd.prog 59 #[.string (strOf l), .int .i64 c] w fun e w' => e = .returned (.string (strOf (l.take c ++ List.replicate (l.length - c) 255))) ∧ w = w' := by
  have hsz := str_size l
  by_cases hc : l.length ≤ c
  · have e1 : l.take c ++ List.replicate (l.length - c) 255 = l := by rw [List.take_of_length_le hc, Nat.sub_eq_zero_of_le hc]; simp
    rw [e1]
    have h2 : (l.length : Int) ≤ (c : Int) := by omega
    go_enter Tryd.func59, Tryd.ntmps59
    go_wp2
    go_ret
    exact ⟨rfl, rfl⟩
  · have h2 : ¬ (l.length : Int) ≤ (c : Int) := by omega
    have h3 : (c : Int) ≤ (l.length : Int) := by omega
    have htk := str_take l c
    have hs2 : ∀ k, (strOf (l.take c ++ List.replicate k 255)).size = c + k := fun k => by rw [str_size, List.length_append, List.length_take, List.length_replicate]; omega
    have happ : ∀ k, strOf (l.take c ++ List.replicate k 255) ++ { data := #[255] } = strOf (l.take c ++ List.replicate (k + 1) 255) := fun k => by
      rw [show ({ data := #[255] } : ByteArray) = strOf [255] from rfl, str_app2, List.append_assoc, ← List.replicate_succ']
    have h0 : strOf (l.take c) = strOf (l.take c ++ List.replicate 0 255) := by simp
    rw [h0] at htk
    obtain ⟨f, hf⟩ : ∃ f : Nat → ByteArray, ∀ k, f k = strOf (l.take c ++ List.replicate k 255) := ⟨_, fun _ => rfl⟩
    rw [← hf] at htk
    rw [← hf]
    have hs3 : ∀ k, (f k).size = c + k := fun k => by rw [hf]; exact hs2 k
    have happ2 : ∀ k, f k ++ { data := #[255] } = f (k + 1) := fun k => by rw [hf, hf]; exact happ k
    obtain ⟨S, hS⟩ : ∃ S, strOf l = S := ⟨_, rfl⟩
    rw [hS] at hsz htk ⊢
    obtain ⟨N, hN⟩ : ∃ N, l.length = N := ⟨_, rfl⟩
    rw [hN] at hsz h2 h3 hc hl ⊢
    have HS3 := Lib.hid hs3
    have HA := Lib.hid happ2
    clear hf hs2 happ h0 hS hN hs3 happ2
    go_enter Tryd.func59, Tryd.ntmps59
    go_wp2
    go_loop [5] (fun s => ∃ k : Nat, c + k ≤ N ∧ s = .string (f k)) (fun s => match s with | .string x => N - x.size | _ => 0)
    case atStart => exact ⟨0, by omega, rfl⟩
    case round =>
      obtain ⟨k, hk, rfl⟩ := hrel
      have hsk := HS3.out k
      have hap := HA.out k
      by_cases hlt : c + k < N
      · have i1 : ((c + k : Nat) : Int) < (N : Int) := by omega
        go_wp2
        go_round
        case rel => exact ⟨k + 1, by omega, rfl⟩
        case measure => have := HS3.out (k + 1); simp [this, hsk]; omega
      · obtain rfl : k = N - c := by omega
        have i1 : ¬ ((c + (N - c) : Nat) : Int) < (N : Int) := by omega
        go_wp2
        go_ret
        exact ⟨rfl, rfl⟩
end Go.Proofs.YtkapnpcolmhdbaaDoor.Sc
namespace Go.Proofs.YtkapnpcolmhdbaaDoor.Sc
open Go.RowKit
open Drawbar Drawbar.Nand Go.Proofs.YtkapnpcolmhdbaaDoor.Nd
section
variable {w : World} {G : Nat → Prop} {m n P : Nat} {b : Nat → Blk} {left : Nat} {off : Bool} {cut : Int} {t : ByteArray}
set_option maxRecDepth 100000 in
theorem own_shp {w : World} {B : Nat} {e : TypeId} {size n : Nat} {v : Value} {xs : List Value} (h : w.ownsRow B e size v n xs) : ∃ a c, v = .slice a n c := by
  rcases h.2 with ⟨rfl, rfl⟩ | ⟨g, cap, cur, rfl, _⟩
  · exact ⟨none, 0, rfl⟩
  · exact ⟨_, _, rfl⟩
set_option maxRecDepth 100000 in
set_option maxHeartbeats 1000000 in
theorem mread_len (h : MAt w G m n P b left false cut t) (i : Nat) (hi : i < n) (z : Int) (hz : z = if (b i).pages.length < P then 5 else 1) :
    Calls Tryd.prog 57 #[.pointer (some ⟨m, 0, none⟩), .int .i64 i, .int .i64 (b i).pages.length] w fun e w' => e = .returned (.tuple #[.string { data := #[] }, .int .i64 z]) ∧ w = w' := by
  obtain ⟨⟨rb, rows, h1, h2⟩, -⟩ := h
  have c0 := h1.c0
  have c1 := h1.c1
  have c5 := h1.c5
  have b0 := h2.b0 i hi
  obtain ⟨ra, rc, hr⟩ := own_shp (h2.row i hi)
  rw [hr] at b0
  have hin : ¬ (n : Int) ≤ (i : Int) := by omega
  have hi0 : (0 : Int) ≤ (i : Int) := by omega
  have hi1 : (i : Int) < (n : Int) := by omega
  clear h1 h2 hr
  generalize (b i).pages.length = L at *
  by_cases hl : L < P
  · rw [if_pos hl] at hz
    subst hz
    have hin2 : ¬ (P : Int) ≤ (L : Int) := by omega
    go_enter Tryd.func57, Tryd.ntmps57
    go_wp2
    go_ret2
    exact ⟨rfl, rfl⟩
  · rw [if_neg hl] at hz
    subst hz
    have hin2 : (P : Int) ≤ (L : Int) := by omega
    go_enter Tryd.func57, Tryd.ntmps57
    go_wp2
    go_ret2
    exact ⟨rfl, rfl⟩
set_option maxRecDepth 100000 in
set_option maxHeartbeats 1000000 in
/-- Of the first page: its answer is none of 1 and 9. -/
theorem mread_zero (h : MAt w G m n P b left false cut t) (i : Nat) (hi : i < n) (hP : 0 < P) :
    Calls Tryd.prog 57 #[.pointer (some ⟨m, 0, none⟩), .int .i64 i, .int .i64 0] w fun e w' => (∃ s z, e = .returned (.tuple #[.string s, .int .i64 z]) ∧ z ≠ 1 ∧ z ≠ 9) ∧ w = w' := by
  obtain ⟨⟨rb, rows, h1, h2⟩, -⟩ := h
  have c0 := h1.c0
  have c1 := h1.c1
  have c5 := h1.c5
  have b0 := h2.b0 i hi
  have b2 := h2.b2 i hi
  obtain ⟨ra, rc, hr⟩ := own_shp (h2.row i hi)
  have hrow := h2.row i hi
  rw [hr] at b0 hrow
  have hin : ¬ (n : Int) ≤ (i : Int) := by omega
  have hi0 : (0 : Int) ≤ (i : Int) := by omega
  have hi1 : (i : Int) < (n : Int) := by omega
  have hin2 : (0 : Int) < (P : Int) := by omega
  have hst : 0 < (b i).pages.length → ∃ x s, ra = some ⟨x, 0, none⟩ ∧ w.cell? ⟨x, 0, none⟩ = some (.string s) := fun h0 => by
    rcases hrow.2 with ⟨h3, h4⟩ | ⟨g, cap, cur, h3, -⟩
    · omega
    · injection h3 with h4 _ _
      subst h4
      have := hrow.cellAt 0 (by omega)
      unfold strs at this
      rw [List.getElem?_map, List.getElem?_eq_getElem h0] at this
      exact ⟨g, _, rfl, this⟩
  clear h1 h2 hr hrow
  generalize (b i).pages.length = L at *
  by_cases hl : 0 < L
  · obtain ⟨x, s, rfl, hc⟩ := hst hl
    have hl2 : (0 : Int) < (L : Int) := by omega
    have hl3 : ¬ (L : Int) ≤ 0 := by omega
    clear hst
    cases htn : (b i).torn with
    | true =>
      rw [htn] at b2
      clear htn
      go_enter Tryd.func57, Tryd.ntmps57
      go_wp2
      go_ret2
      exact ⟨⟨_, _, rfl, by decide, by decide⟩, rfl⟩
    | false =>
      rw [htn] at b2
      clear htn
      go_enter Tryd.func57, Tryd.ntmps57
      go_wp2
      go_ret2
      exact ⟨⟨_, _, rfl, by decide, by decide⟩, rfl⟩
  · obtain rfl : L = 0 := by omega
    go_enter Tryd.func57, Tryd.ntmps57
    go_wp2
    go_ret2
    exact ⟨⟨_, _, rfl, by decide, by decide⟩, rfl⟩
set_option maxRecDepth 100000 in
set_option maxHeartbeats 1000000 in
theorem mprog_no (h : MAt w G m n P b left false cut t) (i : Nat) (hi : i < n) (hno : P ≤ (b i).pages.length ∨ (b i).torn = true) (a : Option Addr) (c : Nat) :
    Calls Tryd.prog 22 #[.pointer (some ⟨m, 0, none⟩), .int .i64 i, .int .i64 (b i).pages.length, .slice a 96 c, .int .u64 1] w fun e w' => (∃ z, e = .returned (.int .i64 z)) ∧ w = w' := by
  have HR := Lib.hid (mread_len h i hi _ rfl)
  obtain ⟨⟨rb, rows, h1, h2⟩, -⟩ := h
  have c0 := h1.c0
  have c2 := h1.c2
  have b0 := h2.b0 i hi
  have b2 := h2.b2 i hi
  obtain ⟨ra, rc, hr⟩ := own_shp (h2.row i hi)
  rw [hr] at b0
  have hi1 : (i : Int) < (n : Int) := by omega
  have hi0 : (0 : Int) ≤ (i : Int) := by omega
  clear h1 h2 hr
  generalize (b i).pages.length = L at *
  by_cases hl : L < P
  · rw [if_pos hl] at HR
    obtain ht : (b i).torn = true := hno.resolve_left (by omega)
    rw [ht] at b2
    clear hno ht
    go_enter Tryd.func22, Tryd.ntmps22
    go_wp2_with fail
    (with_reducible refine HR.out.mono ?_)
    rintro e w1 ⟨rfl, rfl⟩
    go_wp2
    go_ret
    exact ⟨⟨_, rfl⟩, rfl⟩
  · rw [if_neg hl] at HR
    clear hno
    go_enter Tryd.func22, Tryd.ntmps22
    go_wp2_with fail
    (with_reducible refine HR.out.mono ?_)
    rintro e w1 ⟨rfl, rfl⟩
    go_wp2
    go_ret
    exact ⟨⟨_, rfl⟩, rfl⟩
end
end Go.Proofs.YtkapnpcolmhdbaaDoor.Sc
namespace Go.Proofs.YtkapnpcolmhdbaaDoor.Sc
open Go.RowKit
open Drawbar Drawbar.Nand Go.Proofs.YtkapnpcolmhdbaaDoor.Nd
section
variable {w : World} {G : Nat → Prop} {m n P : Nat} {b : Nat → Blk} {left : Nat} {off : Bool} {cut : Int} {t : ByteArray}
set_option maxRecDepth 100000 in
theorem MAt.gm (h : MAt w G m n P b left off cut t) : G m := by obtain ⟨⟨rb, rows, h1, h2⟩, -⟩ := h; exact h2.gm
set_option maxRecDepth 100000 in
theorem ext_id (G : Nat → Prop) (w : World) : ext G w w = G := ext_same G rfl
set_option maxRecDepth 100000 in
theorem grown_refl (w : World) (r : Option Nat) : w.grownBy w r := ⟨rfl, rfl, rfl, Nat.le_refl _, fun _ _ _ => rfl⟩
set_option maxRecDepth 100000 in
/-- A block of which the pages are taken away. -/
theorem MRw.wipe {rb : Nat} {rows : Nat → Value} (h : MRw w G m rb n rows b) (i : Nat) (hi : i < n) (e : Int) (x : Int) :
    MRw (w.setCell ⟨rb, i * 6, none⟩ (.slice none 0 0)) G m rb n (setV rows i (.slice none 0 0)) (upd b i { b i with pages := [], erases := e }) ∧
    MRw ((w.setCell ⟨rb, i * 6, none⟩ (.slice none 0 0)).setCell ⟨rb, i * 6 + 2, none⟩ (.bool false)) G m rb n (setV rows i (.slice none 0 0)) (upd b i { b i with pages := [], torn := false, erases := e }) ∧
    MRw (((w.setCell ⟨rb, i * 6, none⟩ (.slice none 0 0)).setCell ⟨rb, i * 6 + 2, none⟩ (.bool false)).setCell ⟨rb, i * 6 + 1, none⟩ (.int .i64 x)) G m rb n (setV rows i (.slice none 0 0)) (upd b i { b i with pages := [], torn := false, erases := e }) := by
  have h1 := (h.setRow i hi (grown_refl w _) (.slice none 0 0) { b i with pages := [], erases := e } (World.ownsRow_nil _ _ _ 1) (fun d hd => by cases hd) rfl rfl).1
  rw [ext_id] at h1
  have h2 := h1.setNum i 2 hi (.bool false) { b i with pages := [], torn := false, erases := e } (by rw [upd_same]) (.inr ⟨rfl, rfl, by rw [upd_same]⟩)
  rw [upd_upd] at h2
  have h3 := h2.setNum i 1 hi (.int .i64 x) { b i with pages := [], torn := false, erases := e } (by rw [upd_same]) (.inl ⟨rfl, ⟨x, rfl⟩, by rw [upd_same], by rw [upd_same]⟩)
  rw [upd_upd] at h3
  exact ⟨h1, h2, h3⟩
/-- Nothing but the array's own memory turned. -/
def MKeep (G : Nat → Prop) (w w' : World) : Prop := Keep G w w' ∧ w'.heap.size = w.heap.size
set_option maxRecDepth 100000 in
theorem MKeep.set {w w' : World} (h : MKeep G w w') {d : Nat} (hd : G d) (k : Nat) (v : Value) : MKeep G w (w'.setCell ⟨d, k, none⟩ v) := ⟨h.1.setCell hd v, (set_size _ _ _).trans h.2⟩
set_option maxRecDepth 100000 in
theorem MOnly.keep {w w' : World} (h : MOnly m w w') (hm : G m) : MKeep G w w' := ⟨⟨h.1.os, h.1.tape, h.1.output, h.1.size, fun k hk hG => h.1.block k hk fun e => hG (e ▸ hm)⟩, h.2⟩
set_option maxRecDepth 100000 in
theorem MKeep.did {w' : World} (h : MKeep G w w') (hM : MAt w' G m n P b left off cut t) : MDid w G m n P b left off cut t w' := by
  unfold MDid
  rw [ext_same G h.2]
  exact ⟨hM, h.1⟩
set_option maxRecDepth 100000 in
theorem upd_len {P : Nat} {b : Nat → Blk} {n i : Nat} {x : Blk} (h : ∀ i, i < n → (b i).pages.length ≤ P) (hx : x.pages.length ≤ P) : ∀ j, j < n → (upd b i x j).pages.length ≤ P := fun j hj => by
  unfold upd; split
  · exact hx
  · exact h j hj
set_option maxRecDepth 100000 in
set_option maxHeartbeats 2000000 in
theorem merase_ok (h : MAt w G m n P b 0 false cut t) (i : Nat) (hi : i < n) (hP : 0 < P) (hf : (b i).fails = false) (er : Int) :
    Calls Tryd.prog 24 #[.pointer (some ⟨m, 0, none⟩), .int .i64 i, .int .u64 1] w fun e w' => e = .returned (.int .i64 0) ∧ MDid w G m n P (upd b i { b i with pages := [], torn := false, erases := er }) 0 false cut t w' := by
  have HR := Lib.hid (mread_zero h i hi hP)
  have HBG := Lib.hid (begin_ok h i hi hf)
  have hi1 : (i : Int) < (n : Int) := by omega
  have hi0 : (0 : Int) ≤ (i : Int) := by omega
  have hgen : ∀ W, MAt W G m n P b 0 false cut t → MOnly m w W → ∃ rb rows, MHd W m rb n P 0 false cut t ∧ MRw W G m rb n rows b ∧
      ∀ x, MDid w G m n P (upd b i { b i with pages := [], torn := false, erases := er }) 0 false cut t (((W.setCell ⟨rb, i * 6, none⟩ (.slice none 0 0)).setCell ⟨rb, i * 6 + 2, none⟩ (.bool false)).setCell ⟨rb, i * 6 + 1, none⟩ (.int .i64 x)) := by
    intro W hM hO
    obtain ⟨⟨rb, rows, h1, h2⟩, h3, h4, h5⟩ := hM
    refine ⟨rb, rows, h1, h2, fun x => ?_⟩
    have hk := (((hO.keep h2.gm).set h2.grb (i * 6) (.slice none 0 0)).set h2.grb (i * 6 + 2) (.bool false)).set h2.grb (i * 6 + 1) (.int .i64 x)
    refine hk.did ⟨⟨rb, _, ((h1.keep (set_keep _ _ _ _ m h2.ne)).keep (set_keep _ _ _ _ m h2.ne)).keep (set_keep _ _ _ _ m h2.ne), (h2.wipe i hi er x).2.2⟩, h3, h4, upd_len h5 (Nat.zero_le _)⟩
  have HG := Lib.hid hgen
  obtain ⟨⟨rb, rows, h1, h2⟩, -⟩ := h
  have c2 := h1.c2
  clear hgen h1 h2 hf
  go_enter Tryd.func24, Tryd.ntmps24
  go_wp2_with fail
  (with_reducible refine HR.out.mono ?_)
  rintro e w1 ⟨⟨s, z, rfl, hz1, hz2⟩, rfl⟩
  have hq1 : (z == 1) = false := by simpa using hz1
  have hq2 : (z == 9) = false := by simpa using hz2
  clear hz1 hz2
  go_wp2_with fail
  (with_reducible refine HBG.out.mono ?_)
  rintro e W ⟨rfl, hM, hO⟩
  obtain ⟨rb2, rows2, g1, g2, hend⟩ := HG.out W hM hO
  have HE := Lib.hid hend
  obtain ⟨v1, d1⟩ := (g2.wipe i hi er 0).2.1.b1 i hi
  have d2 := (g2.wipe i hi er 0).1.b2 i hi
  have d0 := g2.b0 i hi
  have f0 := g2.fz (i * 6)
  have f2 := (g2.wipe i hi er 0).1.fz (i * 6 + 2)
  have f1 := (g2.wipe i hi er 0).2.1.fz (i * 6 + 1)
  have k0 := g1.c0
  have k1 := (g1.keep (set_keep W rb2 (i * 6) (.slice none 0 0) m g2.ne)).c0
  have k2 := ((g1.keep (set_keep W rb2 (i * 6) (.slice none 0 0) m g2.ne)).keep (set_keep _ rb2 (i * 6 + 2) (.bool false) m g2.ne)).c0
  clear hend g1 g2 hM hO c2 HG
  go_wp2
  go_ret
  exact ⟨rfl, HE.out _⟩
set_option maxRecDepth 100000 in
set_option maxHeartbeats 2000000 in
theorem merase_cut (h : MAt w G m n P b 1 false cut t) (i : Nat) (hi : i < n) (hP : 0 < P) :
    Calls Tryd.prog 24 #[.pointer (some ⟨m, 0, none⟩), .int .i64 i, .int .u64 1] w fun e w' => e = .returned (.int .i64 9) ∧ MAt w' G m n P b 0 true i { data := #[] } ∧ MOnly m w w' := by
  have HR := Lib.hid (mread_zero h i hi hP)
  have HBG := Lib.hid (begin_cut h i hi)
  have hi1 : (i : Int) < (n : Int) := by omega
  have hi0 : (0 : Int) ≤ (i : Int) := by omega
  obtain ⟨⟨rb, rows, h1, h2⟩, -⟩ := h
  have c2 := h1.c2
  clear h1 h2
  go_enter Tryd.func24, Tryd.ntmps24
  go_wp2_with fail
  (with_reducible refine HR.out.mono ?_)
  rintro e w1 ⟨⟨s, z, rfl, hz1, hz2⟩, rfl⟩
  have hq1 : (z == 1) = false := by simpa using hz1
  have hq2 : (z == 9) = false := by simpa using hz2
  clear hz1 hz2
  go_wp2_with fail
  (with_reducible refine HBG.out.mono ?_)
  rintro e W ⟨rfl, hM, hO⟩
  have HF := Lib.hid (And.intro (hM.head 8 (.string { data := #[] }) fun rb h => h.setPage _) (hO.set 8 (.string { data := #[] })))
  obtain ⟨⟨rb2, rows2, g1, g2⟩, -⟩ := hM
  have c8 := g1.c8
  have f8 := g1.fz 8
  clear g1 g2 hO c2
  go_wp2
  go_ret
  exact ⟨rfl, HF.out⟩
end
end Go.Proofs.YtkapnpcolmhdbaaDoor.Sc
