/- A geometry among a law's arguments, opened: its numbers, and what its slice reads as. -/
import Derived.Test.YtmhmmemmdekjhaaDoorZEr
import Derived.Test.YtmhmmemmdekjhaaDoorZAr
import Derived.ProofKit
import Derived.OpenShut
import Derived.Carry
namespace Go.Proofs.YtmhmmemmdekjhaaDoor.Sc
open Go.ChangeShapes Go.WideShapes Go.ChangeAt Go.RowKit Go.WideMaps Go.WideElems
open Drawbar Drawbar.Plan Go.Proofs.YtmhmmemmdekjhaaDoor.Pn
set_option maxRecDepth 100000 in
theorem cells_geo : Tryd.prog.cellsOf 26 = 4 := by kernel_rfl
set_option maxRecDepth 100000 in
theorem cells_int : Tryd.prog.cellsOf 3 = 1 := by kernel_rfl
set_option maxRecDepth 100000 in
theorem cells_ints : Tryd.prog.cellsOf 24 = 1 := by kernel_rfl

set_option maxRecDepth 100000 in
theorem rdI_of_trod {H : Type} {enc : TypeId × Value → H} {W : World} {fuel : Nat} {v : Value} {x : DataW H × List MemPlace}
    (hf : DataW.trod enc Tryd.prog W 0 (fun _ => true) true fuel 24 [v] = some x) : ∃ (B : List Int) (a : Option Addr) (c : Nat), v = .slice a B.length c ∧ B.length ≤ c ∧ RdI W a B ∧ (a = none → c = 0) := by
  rcases open_ints Tryd.underlying24 Tryd.underlying3 cells_int hf with ⟨hcs, _⟩ | ⟨ad, n', c', zs, hcs, _, hl, _, hz, hx, hcell, hwz⟩
  · simp only [List.cons.injEq] at hcs
    exact ⟨[], none, 0, hcs.1, by simp, rdI_nil W none, fun _ => rfl⟩
  · simp only [List.cons.injEq] at hcs
    simp only [if_true] at hz
    have hlen : (zs.take n').length = n' := by rw [List.length_take]; omega
    refine ⟨zs.take n', some ad, c', by rw [hlen]; exact hcs.1, by rw [hlen]; exact hl, fun h0 => ?_, fun h => by cases h⟩
    rw [hlen] at h0
    obtain ⟨b, off, rfl, hc⟩ := ints_at hcell (by omega)
    refine ⟨b, off, rfl, fun i hi => ?_⟩
    rw [hlen] at hi
    rw [hc i (by omega), List.getD_eq_getElem?_getD, List.getD_eq_getElem?_getD, List.getElem?_take_of_lt (by omega)]

set_option maxRecDepth 100000 in
theorem geo_of_trod {H : Type} {enc : TypeId × Value → H} {W : World} {r : Reach} {base : Nat} {v : Value} {d : DataW H} {p : List MemPlace} (hv : Value.okWide Tryd.prog W r base 26 v)
    (h : DataW.Trod enc Tryd.prog W 0 (fun _ => true) true 26 v d p) : ∃ (b q s : Int) (B : List Int) (a : Option Addr) (c : Nat), v = Pn.geo b q s a B.length c ∧ B.length ≤ c ∧ RdI W a B ∧ (a = none → c = 0) := by
  obtain ⟨cs, rfl, hsz⟩ := okWide_struct Tryd.underlying26 hv
  obtain ⟨fuel, hf⟩ := h
  obtain ⟨xs, n, _, _, hlen, hxs, hg⟩ := DataW.trod_struct Tryd.underlying26 hf
  have hcs : (Value.agg cs).cells.toList = cs.toList := rfl
  rw [hcs] at hlen hg
  rw [cells_geo] at hlen
  have hx4 : xs.length = 4 := hxs
  obtain ⟨L, hL⟩ : ∃ L, cs.toList = L := ⟨_, rfl⟩
  rw [hL] at hlen hg
  match L, hlen, hL with
  | [c0, c1, c2, c3], _, hL =>
    have e0 : xs[0]? = some (xs[0]'(by omega)) := List.getElem?_eq_getElem _
    have h0 : DataW.trod enc Tryd.prog W 0 (fun _ => true) true n 3 (([c0, c1, c2, c3].drop 0).take (Tryd.prog.cellsOf 3)) = some (xs[0]'(by omega)) := (hg 0 _ rfl).trans e0
    rw [cells_int] at h0
    obtain ⟨z0, k0, -, w0⟩ := DataW.trod_int Tryd.underlying3 h0
    have e1 : xs[1]? = some (xs[1]'(by omega)) := List.getElem?_eq_getElem _
    have h1 : DataW.trod enc Tryd.prog W 0 (fun _ => true) true n 3 (([c0, c1, c2, c3].drop 1).take (Tryd.prog.cellsOf 3)) = some (xs[1]'(by omega)) := (hg 1 _ rfl).trans e1
    rw [cells_int] at h1
    obtain ⟨z1, k1, -, w1⟩ := DataW.trod_int Tryd.underlying3 h1
    have e2 : xs[2]? = some (xs[2]'(by omega)) := List.getElem?_eq_getElem _
    have h2 : DataW.trod enc Tryd.prog W 0 (fun _ => true) true n 3 (([c0, c1, c2, c3].drop 2).take (Tryd.prog.cellsOf 3)) = some (xs[2]'(by omega)) := (hg 2 _ rfl).trans e2
    rw [cells_int] at h2
    obtain ⟨z2, k2, -, w2⟩ := DataW.trod_int Tryd.underlying3 h2
    have e3 : xs[3]? = some (xs[3]'(by omega)) := List.getElem?_eq_getElem _
    have h3 : DataW.trod enc Tryd.prog W 0 (fun _ => true) true n 24 (([c0, c1, c2, c3].drop 3).take (Tryd.prog.cellsOf 24)) = some (xs[3]'(by omega)) := (hg 3 _ rfl).trans e3
    rw [cells_ints] at h3
    obtain ⟨B, a, c, hc3, hBc, hR, hnil⟩ := rdI_of_trod (v := c3) h3
    have g0 : c0 = _ := List.head_eq_of_cons_eq k0
    have g1 : c1 = _ := List.head_eq_of_cons_eq k1
    have g2 : c2 = _ := List.head_eq_of_cons_eq k2
    refine ⟨z0, z1, z2, B, a, c, ?_, hBc, hR, hnil⟩
    have : cs = #[c0, c1, c2, c3] := Array.toList_inj.1 hL
    rw [this, g0, g1, g2, hc3]
    rfl
end Go.Proofs.YtmhmmemmdekjhaaDoor.Sc
