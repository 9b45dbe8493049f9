/- A slice of bytes, or of strings, among a law's arguments, opened. -/
import Derived.Test.YthldbcngbkemnaaBackW
import Derived.ProofKit
import Derived.OpenShut
import Derived.SizedLaws
import Derived.Carry
import Derived.SliceStrings
namespace Go.Proofs.Ythldbcngbkemnaa
open Go.ChangeShapes Go.WideShapes Go.ChangeAt Go.RowKit Go.WideMaps Go.WideElems
open Drawbar

theorem cells_u8 : Try.prog.cellsOf 5 = 1 := by kernel_rfl
theorem bytes_u8 : Try.prog.bytesOf 5 = 1 := by kernel_rfl
theorem cells_str : Try.prog.cellsOf 9 = 1 := by kernel_rfl
theorem bytes_str : Try.prog.bytesOf 9 = 16 := by kernel_rfl
theorem addr_lit {w : World} {p : Addr} {v : Value} (h : w.cell? p = some v) : p = ⟨p.block, p.off, none⟩ := by
  obtain ⟨b, o, s⟩ := p
  have : s = none := by simpa using World.cell?_spot h
  rw [this]

theorem rd_of_trod {H : Type} {enc : TypeId × Value → H} {W : World} {fuel : Nat} {a : Option Addr} {n c : Nat} {d : DataW H} {p : List MemPlace}
    (hf : DataW.trod enc Try.prog W 0 (fun _ => true) true fuel 23 [.slice a n c] = some (d, p))
    {ts : List TypeId} {ds : List (DataW H)} (hsz : (DataW.weightsEach Try.prog ts ds).all (· ≤ reachBytes) = true) {j : Nat} (ht : ts[j]? = some 23) (hd : ds[j]? = some d) :
    ∃ l : List Nat, n = l.length ∧ l.length ≤ c ∧ Rd W a l ∧ (a = none → c = 0) := by
  rcases open_ints Try.underlying23 Try.underlying5 cells_u8 hf with ⟨hcs, _⟩ | ⟨ad, n', c', zs, hcs, _, hl, _, hz, hx, hcell, hwz⟩
  · simp only [List.cons.injEq, Value.slice.injEq] at hcs
    obtain ⟨⟨rfl, rfl, rfl⟩, _⟩ := hcs
    exact ⟨[], rfl, by simp, ⟨fun _ h => absurd h List.not_mem_nil, by simp, fun h => absurd h (by simp)⟩, fun _ => rfl⟩
  · simp only [List.cons.injEq, Value.slice.injEq] at hcs
    obtain ⟨⟨rfl, rfl, rfl⟩, _⟩ := hcs
    simp only [if_true] at hz
    simp only [Prod.mk.injEq] at hx
    have hs := sized_slice hsz ht (hd.trans (congrArg some hx.1)) Try.underlying23
    rw [bytes_u8] at hs
    simp only [lits, List.length_map, List.length_take, List.length_drop, reachBytes, Nat.mul_one] at hs
    refine ⟨(zs.take n).map Int.toNat, by rw [List.length_map, List.length_take]; omega, by rw [List.length_map, List.length_take]; omega, ⟨?_, by rw [List.length_map, List.length_take]; omega, fun h0 => ?_⟩, fun h => by cases h⟩
    · intro x hx
      obtain ⟨z, hz1, rfl⟩ := List.mem_map.1 hx
      have := bounds_u8 (hwz z (List.mem_of_mem_take hz1))
      omega
    · rw [List.length_map, List.length_take] at h0
      obtain ⟨b, off, rfl, hc⟩ := ints_at hcell (by omega)
      refine ⟨b, off, rfl, fun i hi => ?_⟩
      rw [List.length_map, List.length_take] at hi
      rw [hc i (by omega)]
      have hb := bounds_u8 (hwz (zs[i]'(by omega)) (List.getElem_mem _))
      rw [List.getD_eq_getElem?_getD, List.getD_eq_getElem?_getD, List.getElem?_map, List.getElem?_take_of_lt (by omega), List.getElem?_eq_getElem (by omega)]
      simp only [Option.map_some, Option.getD_some]
      congr 2
      omega

theorem mem_all {H : Type} (P : Program) (e : TypeId) : ∀ (ss : List ByteArray) (s : ByteArray), s ∈ ss → s.data.toList.length ∈ DataW.weightsAll P e (strs ss : List (DataW H)) := by
  intro ss
  induction ss with
  | nil => intro s hs; exact absurd hs List.not_mem_nil
  | cons a ss ih =>
    intro s hs
    have e1 : (strs (a :: ss) : List (DataW H)) = .lit (.string a.data.toList) :: strs ss := rfl
    rw [e1]
    unfold DataW.weightsAll DataW.weights
    rcases List.mem_cons.1 hs with rfl | h
    · simp
    · exact List.mem_append_right _ (ih s h)
theorem strs_of_trod {H : Type} {enc : TypeId × Value → H} {W : World} {fuel : Nat} {a : Option Addr} {n c : Nat} {d : DataW H} {p : List MemPlace}
    (hf : DataW.trod enc Try.prog W 0 (fun _ => true) true fuel 22 [.slice a n c] = some (d, p))
    {ts : List TypeId} {ds : List (DataW H)} (hsz : (DataW.weightsEach Try.prog ts ds).all (· ≤ reachBytes) = true) {j : Nat} (ht : ts[j]? = some 22) (hd : ds[j]? = some d) :
    ∃ l : List ByteArray, n = l.length ∧ RdS W a l ∧ l.length < 281474976710656 ∧ ∀ s ∈ l, s.size < 281474976710656 := by
  rcases open_strings Try.underlying22 Try.underlying9 cells_str hf with ⟨hcs, _⟩ | ⟨ad, n', c', ss, hcs, _, hl, _, hz, hx, hcell, _⟩
  · simp only [List.cons.injEq, Value.slice.injEq] at hcs
    obtain ⟨⟨rfl, rfl, rfl⟩, _⟩ := hcs
    exact ⟨[], rfl, RdS.nil W _, by simp, fun _ h => absurd h List.not_mem_nil⟩
  · simp only [List.cons.injEq, Value.slice.injEq] at hcs
    obtain ⟨⟨rfl, rfl, rfl⟩, _⟩ := hcs
    simp only [if_true] at hz
    simp only [Prod.mk.injEq] at hx
    have hs := sized_slice hsz ht (hd.trans (congrArg some hx.1)) Try.underlying22
    rw [bytes_str] at hs
    simp only [strs, List.length_map, List.length_take, List.length_drop, reachBytes] at hs
    have hlt : (ss.take n).length = n := by rw [List.length_take]; omega
    refine ⟨ss.take n, hlt.symm, fun h0 => ?_, by rw [hlt]; omega, fun s hs2 => ?_⟩
    · rw [hlt] at h0
      have e := addr_lit (hcell 0 (by omega))
      have hspot : ad.spot = none := by
        have := congrArg Addr.spot e
        simpa [Addr.add] using this
      have ead : ad = ⟨ad.block, ad.off, none⟩ := by
        obtain ⟨b, o, s⟩ := ad
        simp at hspot; rw [hspot]
      refine ⟨ad.block, ad.off, by rw [← ead], fun i hi => ?_⟩
      rw [hlt] at hi
      have h2 := hcell i (by omega)
      rw [ead, Addr.add_lit] at h2
      rw [h2, List.getD_eq_getElem?_getD, List.getD_eq_getElem?_getD, List.getElem?_take_of_lt hi]
      rfl
    · have hm := List.all_eq_true.1 hsz _ (DataW.weights_mem_each ht hd s.data.toList.length (by
        rw [hx.1]
        simp only [DataW.weights, Try.underlying22, List.mem_cons, List.mem_append]
        exact .inr (.inl (mem_all _ _ _ _ hs2))))
      have hr := reachBytes_lt
      have e : s.data.toList.length = s.size := by rw [Array.length_toList]; rfl
      have hm2 : s.data.toList.length ≤ reachBytes := by simpa using hm
      rw [e] at hm2
      omega
end Go.Proofs.Ythldbcngbkemnaa
