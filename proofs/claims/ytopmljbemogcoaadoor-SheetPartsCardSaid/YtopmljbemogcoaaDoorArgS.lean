/- A sheet among a law's arguments, opened: its parts in their bounds, what its bytes read as. -/
import Derived.Test.YtopmljbemogcoaaDoorArg
import Derived.Test.YtopmljbemogcoaaDoorNear
namespace Go.Proofs.YtopmljbemogcoaaDoor
open Go.ChangeShapes Go.WideShapes Go.ChangeAt Go.RowKit Go.WideMaps Go.WideElems
open Drawbar Drawbar.Sheet
theorem cells_sheet : Tryd.prog.cellsOf 25 = 6 := by kernel_rfl
theorem cells_i64 : Tryd.prog.cellsOf 3 = 1 := by kernel_rfl
theorem cells_u64 : Tryd.prog.cellsOf 22 = 1 := by kernel_rfl
theorem cells_bytes1 : Tryd.prog.cellsOf 23 = 1 := by kernel_rfl

theorem bytes_of_trod {H : Type} {enc : TypeId × Value → H} {W : World} {fuel : Nat} {v : Value} {x : DataW H × List MemPlace}
    (hf : DataW.trod enc Tryd.prog W 0 (fun _ => true) true fuel 23 [v] = some x) :
    ∃ (l : List Nat) (a : Option Addr) (c : Nat), v = .slice a l.length c ∧ l.length ≤ c ∧ (l.length ≤ 64 → Rd W a l) ∧ (a = none → c = 0) := by
  rcases open_ints Tryd.underlying23 Tryd.underlying5 cells_u8 hf with ⟨hcs, _⟩ | ⟨ad, n', c', zs, hcs, _, hl, _, hz, hx, hcell, hwz⟩
  · simp only [List.cons.injEq] at hcs
    exact ⟨[], none, 0, hcs.1, by simp, fun _ => rd_nil W, fun _ => rfl⟩
  · simp only [List.cons.injEq] at hcs
    simp only [if_true] at hz
    have hlen : ((zs.take n').map Int.toNat).length = n' := by rw [List.length_map, List.length_take]; omega
    refine ⟨(zs.take n').map Int.toNat, some ad, c', by rw [hlen]; exact hcs.1, by rw [hlen]; exact hl, fun h64 => ⟨?_, by omega, fun h0 => ?_⟩, fun h => by cases h⟩
    · intro x hx
      obtain ⟨z, hz1, rfl⟩ := List.mem_map.1 hx
      have := bounds_u8 (hwz z (List.mem_of_mem_take hz1))
      omega
    · rw [hlen] at h0
      obtain ⟨b, off, rfl, hc⟩ := ints_at hcell (by omega)
      refine ⟨b, off, rfl, fun i hi => ?_⟩
      rw [hlen] at hi
      rw [hc i (by omega)]
      have hb := bounds_u8 (hwz (zs[i]'(by omega)) (List.getElem_mem _))
      rw [List.getD_eq_getElem?_getD, List.getD_eq_getElem?_getD, List.getElem?_map, List.getElem?_take_of_lt (by omega), List.getElem?_eq_getElem (by omega)]
      simp only [Option.map_some, Option.getD_some]
      congr 2
      omega

theorem sheet_of_trod {H : Type} {enc : TypeId × Value → H} {W : World} {r : Reach} {base : Nat} {v : Value} {d : DataW H} {p : List MemPlace} (hv : Value.okWide Tryd.prog W r base 25 v)
    (h : DataW.Trod enc Tryd.prog W 0 (fun _ => true) true 25 v d p) :
    ∃ (s : Sh) (a : Option Addr) (c : Nat), v = sv s a c ∧ Sh.In s ∧ (s.da.length ≤ 64 → Rd W a s.da) ∧ s.da.length ≤ c ∧ (a = none → c = 0) := by
  obtain ⟨cs, rfl, hsz⟩ := okWide_struct Tryd.underlying25 hv
  obtain ⟨fuel, hf⟩ := h
  obtain ⟨xs, n, _, _, hlen, hxs, hg⟩ := DataW.trod_struct Tryd.underlying25 hf
  have hcs : (Value.agg cs).cells.toList = cs.toList := rfl
  rw [hcs] at hlen hg
  rw [cells_sheet] at hlen
  have hx6 : xs.length = 6 := hxs
  obtain ⟨L, hL⟩ : ∃ L, cs.toList = L := ⟨_, rfl⟩
  rw [hL] at hlen hg
  match L, hlen, hL with
  | [c0, c1, c2, c3, c4, c5], _, hL =>
    have e0 : xs[0]? = some (xs[0]'(by omega)) := List.getElem?_eq_getElem _
    have h0 : DataW.trod enc Tryd.prog W 0 (fun _ => true) true n 5 (([c0, c1, c2, c3, c4, c5].drop 0).take (Tryd.prog.cellsOf 5)) = some (xs[0]'(by omega)) := (hg 0 _ rfl).trans e0
    rw [cells_u8] at h0
    obtain ⟨z0, k0, -, w0⟩ := DataW.trod_int Tryd.underlying5 h0
    have e1 : xs[1]? = some (xs[1]'(by omega)) := List.getElem?_eq_getElem _
    have h1 : DataW.trod enc Tryd.prog W 0 (fun _ => true) true n 22 (([c0, c1, c2, c3, c4, c5].drop 1).take (Tryd.prog.cellsOf 22)) = some (xs[1]'(by omega)) := (hg 1 _ rfl).trans e1
    rw [cells_u64] at h1
    obtain ⟨z1, k1, -, w1⟩ := DataW.trod_int Tryd.underlying22 h1
    have e2 : xs[2]? = some (xs[2]'(by omega)) := List.getElem?_eq_getElem _
    have h2 : DataW.trod enc Tryd.prog W 0 (fun _ => true) true n 22 (([c0, c1, c2, c3, c4, c5].drop 2).take (Tryd.prog.cellsOf 22)) = some (xs[2]'(by omega)) := (hg 2 _ rfl).trans e2
    rw [cells_u64] at h2
    obtain ⟨z2, k2, -, w2⟩ := DataW.trod_int Tryd.underlying22 h2
    have e3 : xs[3]? = some (xs[3]'(by omega)) := List.getElem?_eq_getElem _
    have h3 : DataW.trod enc Tryd.prog W 0 (fun _ => true) true n 3 (([c0, c1, c2, c3, c4, c5].drop 3).take (Tryd.prog.cellsOf 3)) = some (xs[3]'(by omega)) := (hg 3 _ rfl).trans e3
    rw [cells_i64] at h3
    obtain ⟨z3, k3, -, w3⟩ := DataW.trod_int Tryd.underlying3 h3
    have e4 : xs[4]? = some (xs[4]'(by omega)) := List.getElem?_eq_getElem _
    have h4 : DataW.trod enc Tryd.prog W 0 (fun _ => true) true n 3 (([c0, c1, c2, c3, c4, c5].drop 4).take (Tryd.prog.cellsOf 3)) = some (xs[4]'(by omega)) := (hg 4 _ rfl).trans e4
    rw [cells_i64] at h4
    obtain ⟨z4, k4, -, w4⟩ := DataW.trod_int Tryd.underlying3 h4
    have e5 : xs[5]? = some (xs[5]'(by omega)) := List.getElem?_eq_getElem _
    have h5 : DataW.trod enc Tryd.prog W 0 (fun _ => true) true n 23 (([c0, c1, c2, c3, c4, c5].drop 5).take (Tryd.prog.cellsOf 23)) = some (xs[5]'(by omega)) := (hg 5 _ rfl).trans e5
    rw [cells_bytes1] at h5
    obtain ⟨l, a, c, hc5, hlc, hR, hnil⟩ := bytes_of_trod (v := c5) h5
    have g0 : c0 = _ := List.head_eq_of_cons_eq k0
    have g1 : c1 = _ := List.head_eq_of_cons_eq k1
    have g2 : c2 = _ := List.head_eq_of_cons_eq k2
    have g3 : c3 = _ := List.head_eq_of_cons_eq k3
    have g4 : c4 = _ := List.head_eq_of_cons_eq k4
    have b0 := bounds_u8 w0
    have b1 := bounds_u64 w1
    have b2 := bounds_u64 w2
    have b3 := bounds_i64 w3
    have b4 := bounds_i64 w4
    refine ⟨⟨z0.toNat, z1.toNat, z2.toNat, z3, z4, l⟩, a, c, ?_, ⟨?_, ?_, ?_, ?_, ?_⟩, hR, hlc, hnil⟩
    · have : cs = #[c0, c1, c2, c3, c4, c5] := Array.toList_inj.1 hL
      rw [this, g0, g1, g2, g3, g4, hc5]
      show Value.agg #[.int .u8 z0, .int .u64 z1, .int .u64 z2, .int .i64 z3, .int .i64 z4, .slice a l.length c] = .agg #[.int .u8 (z0.toNat : Int), .int .u64 (z1.toNat : Int), .int .u64 (z2.toNat : Int), .int .i64 z3, .int .i64 z4, .slice a l.length c]
      rw [show (z0.toNat : Int) = z0 by omega, show (z1.toNat : Int) = z1 by omega, show (z2.toNat : Int) = z2 by omega]
    · show z0.toNat < 256; omega
    · show z1.toNat < 2 ^ 64; omega
    · show z2.toNat < 2 ^ 64; omega
    · show -9223372036854775808 ≤ z3 ∧ z3 ≤ 9223372036854775807; omega
    · show -9223372036854775808 ≤ z4 ∧ z4 ≤ 9223372036854775807; omega
end Go.Proofs.YtopmljbemogcoaaDoor
