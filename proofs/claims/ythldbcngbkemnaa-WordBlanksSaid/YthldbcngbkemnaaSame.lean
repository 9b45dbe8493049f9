/- drawbarlaw02.same: are two lists of strings one? -/
import Derived.Test.YthldbcngbkemnaaWords
import Derived.BigQuiet
namespace Go.Proofs.Ythldbcngbkemnaa
open Go.RowKit
open Drawbar Drawbar.Line Drawbar.Sign

/-- A list of strings that lies behind an address. -/
def RdS (w : World) (a : Option Addr) (l : List ByteArray) : Prop :=
  0 < l.length → ∃ b off, a = some ⟨b, off, none⟩ ∧ ∀ i, i < l.length → w.cell? ⟨b, off + i, none⟩ = some (.string (l.getD i ⟨#[]⟩))

theorem RdS.nil (w : World) (a : Option Addr) : RdS w a [] := fun h => absurd h (by simp)
theorem RdS.below {w w' : World} {a : Option Addr} {l : List ByteArray} (h : RdS w a l) (hb : Below w.heap.size w w') : RdS w' a l := fun h0 => by
  obtain ⟨b, off, rfl, hc⟩ := h h0
  exact ⟨b, off, rfl, fun i hi => by rw [hb.cell (p := ⟨b, off + i, none⟩) (World.block_lt_of_cell? w _ (hc i hi))]; exact hc i hi⟩
theorem rdS_of_own {w : World} {base : Nat} {a : Option Addr} {n cap : Nat} {l : List ByteArray} (h : w.ownsRow base 9 1 (.slice a n cap) n (l.map Value.string)) : RdS w a l := fun h0 => by
  rcases h.2 with ⟨e, rfl⟩ | ⟨g, cap', cur, e, _⟩
  · have := h.1
    rw [List.length_map] at this
    omega
  · cases e
    refine ⟨g, 0, rfl, fun i hi => ?_⟩
    have := h.cells (g := g) rfl i (.string (l.getD i ⟨#[]⟩)) (by
      rw [List.getElem?_map, List.getElem?_eq_getElem hi, List.getD_eq_getElem?_getD, List.getElem?_eq_getElem hi]; rfl)
    rw [Addr.add_lit] at this
    exact this

theorem str_ext {a b : ByteArray} (h : a.data.toList = b.data.toList) : a = b := by
  cases a
  cases b
  congr 1
  exact Array.toList_inj.1 h

theorem list_eq_of {l m : List ByteArray} (hl : l.length = m.length) (h : ∀ i, i < l.length → l.getD i ⟨#[]⟩ = m.getD i ⟨#[]⟩) : l = m := by
  refine List.ext_getElem hl fun i h1 h2 => ?_
  have := h i h1
  rw [List.getD_eq_getElem?_getD, List.getD_eq_getElem?_getD, List.getElem?_eq_getElem h1, List.getElem?_eq_getElem h2] at this
  exact this

set_option maxHeartbeats 1000000 in
theorem same_any (l m : List ByteArray) (a1 a2 : Option Addr) (c1 c2 : Nat) (w : World) (h1 : RdS w a1 l) (h2 : RdS w a2 m) (hl : l.length ≤ 1000000) (hm : m.length ≤ 1000000) :
    Calls Try.prog 10 #[.slice a1 l.length c1, .slice a2 m.length c2] w fun e w' => e = .returned (.bool (decide (l = m))) ∧ Below w.heap.size w w' := by
  by_cases hlen : l.length = m.length
  · have hi : ((l.length : Int) != (m.length : Int)) = false := by simp; omega
    have HL := Lib.hid hlen
    generalize hD : decide (l = m) = D
    have HD := Lib.hid hD
    generalize hn : l.length = n at *
    have hmn : m.length = n := hlen.symm
    rw [hmn] at hi ⊢
    clear hlen hD hm
    go_enter Try.func10, Try.ntmps10
    go_wp2
    go_loopw [5] (fun i wq => ∃ j : Nat, j ≤ n ∧ i = .int .i64 j ∧ Below w.heap.size w wq ∧ ∀ k, k < j → l.getD k ⟨#[]⟩ = m.getD k ⟨#[]⟩) (fun i _ => n - (intOf i).toNat)
    case atStart => exact ⟨0, Nat.zero_le _, rfl, Below.refl _ _, fun k hk => absurd hk (Nat.not_lt_zero k)⟩
    case round =>
      obtain ⟨j, hj, rfl, hb, heq⟩ := hrel
      by_cases hlt : j < n
      · obtain ⟨b1, o1, rfl, hc1⟩ := h1.below hb (by omega)
        obtain ⟨b2, o2, rfl, hc2⟩ := h2.below hb (by omega)
        have e1 := hc1 j (by omega)
        have e2 := hc2 j (by omega)
        have i1 : (j : Int) < (n : Int) := by omega
        by_cases hs : l.getD j ⟨#[]⟩ = m.getD j ⟨#[]⟩
        · have HQ := Lib.hid (show ∀ k, k < j + 1 → l.getD k ⟨#[]⟩ = m.getD k ⟨#[]⟩ from fun k hk => by
            by_cases e : k = j
            · rw [e]; exact hs
            · exact heq k (by omega))
          rw [← hs] at e2
          generalize l.getD j ⟨#[]⟩ = x at e1 e2
          have hx : (x.toList != x.toList) = false := by simp
          clear hs heq hc1 hc2 h1 h2
          go_wp2_with fail
          go_quiet (fail)
          go_wp2
          go_roundw
          case rel => exact ⟨j + 1, by omega, by go_num, below_drewN hb _, HQ.out⟩
          case measure => simp [intOf]; omega
        · have hD : D = false := by
            rw [← HD.out]
            simp only [decide_eq_false_iff_not]
            rintro rfl
            exact hs rfl
          subst hD
          have hx : ((l.getD j ⟨#[]⟩).toList == (m.getD j ⟨#[]⟩).toList) = false := by
            rw [ByteArray.toList_eq, ByteArray.toList_eq, beq_eq_false_iff_ne]
            exact fun e => hs (str_ext e)
          generalize l.getD j ⟨#[]⟩ = x at *
          generalize m.getD j ⟨#[]⟩ = y at *
          clear hs heq hc1 hc2 h1 h2
          go_wp2_with fail
          go_quiet (fail)
          go_wp2
          go_ret
          exact ⟨rfl, below_drewN hb _⟩
      · have i1 : ¬ (j : Int) < (n : Int) := by omega
        have hD : D = true := by
          rw [← HD.out]
          simp only [decide_eq_true_eq]
          exact list_eq_of (by omega) fun i hi => heq i (by omega)
        subst hD
        clear h1 h2
        go_wp2
        go_ret
        exact ⟨rfl, hb⟩
  · have hi : ((l.length : Int) != (m.length : Int)) = true := by simp; omega
    have hne : decide (l = m) = false := by
      simp only [decide_eq_false_iff_not]
      rintro rfl
      exact hlen rfl
    rw [hne]
    clear h1 h2 hlen hne
    go_enter Try.func10, Try.ntmps10
    go_wp2
    go_ret
    exact ⟨rfl, Below.refl _ _⟩
end Go.Proofs.Ythldbcngbkemnaa
