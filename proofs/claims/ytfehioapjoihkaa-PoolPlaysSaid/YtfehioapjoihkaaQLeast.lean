/- The contract of Least (package pool). -/
import Derived.Test.YtfehioapjoihkaaQNew
namespace Drawbar.Pl
/-- One step of the look for the least. -/
def stepL (wt : List Int) (acc : Int × Bool) (b : Int) : Int × Bool := if b < wt.length ∧ (acc.2 = false ∨ wt.getD b.toNat 0 < wt.getD acc.1.toNat 0) then (b, true) else acc
def leastIn (wt : List Int) (l : List Int) : Int × Bool := l.foldl (stepL wt) (0, false)
theorem leastIn_snoc (wt l : List Int) (b : Int) : leastIn wt (l ++ [b]) = stepL wt (leastIn wt l) b := by unfold leastIn; rw [List.foldl_append]; rfl
theorem leastIn_take (wt l : List Int) (k : Nat) (hk : k < l.length) : leastIn wt (l.take (k + 1)) = stepL wt (leastIn wt (l.take k)) (l.getD k 0) := by
  rw [← leastIn_snoc, List.take_add_one, List.getElem?_eq_getElem hk, List.getD_eq_getElem?_getD, List.getElem?_eq_getElem hk]
  rfl
theorem leastIn_in (wt : List Int) : ∀ l : List Int, (∀ b ∈ l, 0 ≤ b) → (leastIn wt l).2 = true → 0 ≤ (leastIn wt l).1 ∧ (leastIn wt l).1 < wt.length := by
  have go : ∀ (l : List Int) (acc : Int × Bool), (∀ b ∈ l, 0 ≤ b) → (acc.2 = true → 0 ≤ acc.1 ∧ acc.1 < wt.length) → (l.foldl (stepL wt) acc).2 = true → 0 ≤ (l.foldl (stepL wt) acc).1 ∧ (l.foldl (stepL wt) acc).1 < wt.length := by
    intro l
    induction l with
    | nil => intro acc _ h; exact h
    | cons b l ih =>
      intro acc hb h
      refine ih _ (fun x hx => hb x (by simp [hx])) fun h2 => ?_
      have h0 := hb b (by simp)
      unfold stepL at h2 ⊢
      split
      · rename_i hc; exact ⟨h0, hc.1⟩
      · rename_i hc; rw [if_neg hc] at h2; exact h h2
  intro l hb
  exact go l (0, false) hb fun h => by cases h
end Drawbar.Pl
namespace Go.Proofs.Ytfehioapjoihkaa
open Go.RowKit Go.Sort
open Drawbar Drawbar.Pl

/-- As Least tells. -/
def leastV (r : Int × Bool) : Value := .tuple #[.int .i64 r.1, .bool r.2]
set_option maxHeartbeats 2000000 in
set_option maxRecDepth 100000 in
theorem least_of (p : Value) (v : Nat) (l wt : List Int) (wa : Option Addr) (wc : Nat) (w : World) (hw : RdI w wa wt) (hl : ∀ b ∈ l, 0 ≤ b ∧ b < 64) (hn : l.length ≤ 64)
    (ht : Calls Try.prog 37 #[p, .int .u8 v] w fun e w' => ∃ a c, e = .returned (.slice a l.length c) ∧ RdI w' a l ∧ Below w.heap.size w w') :
    Calls Try.prog 25 #[p, .int .u8 v, .slice wa wt.length wc] w fun e w' => e = .returned (leastV (leastIn wt l)) ∧ Below w.heap.size w w' := by
  have HT := Lib.hid ht
  have HL := Lib.hid hl
  have HW := Lib.hid hw
  clear ht hl hw
  go_enter Try.func25, Try.ntmps25
  go_wp2_with fail
  refine HT.out.mono ?_
  rintro e w1 ⟨a, c, rfl, hrd, hb⟩
  have HR := Lib.hid hrd
  have HB := Lib.hid hb
  clear hrd hb HT
  go_wp2_with fail
  go_loopw [8, 9, 16] (fun mv fv iv wr => ∃ k : Nat, iv = .int .i64 k ∧ k ≤ l.length ∧ mv = .int .i64 (leastIn wt (l.take k)).1 ∧ fv = .bool (leastIn wt (l.take k)).2 ∧ Hid (Below w.heap.size w wr) ∧ Hid (Below w1.heap.size w1 wr)) (fun _ _ iv _ => l.length - (intOf iv).toNat)
  case atStart => exact ⟨0, rfl, Nat.zero_le _, rfl, rfl, HB, Lib.hid (Below.refl _ _)⟩
  case round =>
    obtain ⟨k, rfl, hk, rfl, rfl, HB2, HB3⟩ := hrel
    by_cases hlt : k < l.length
    · have i1 : (k : Int) < l.length := by omega
      have hin := HL.out (l.getD k 0) (by rw [List.getD_eq_getElem?_getD, List.getElem?_eq_getElem hlt]; exact List.getElem_mem hlt)
      have hst := leastIn_take wt l k hlt
      have hgood := leastIn_in wt (l.take k) (fun b hb => (HL.out b (List.mem_of_mem_take hb)).1)
      have hcell := fun (j : Nat) (hj : j < wt.length) => HW.out (by omega)
      obtain ⟨bb, off, rfl, hc⟩ := HR.out (by omega)
      have c0 := hc k hlt
      have hbb : bb < w1.heap.size := World.block_lt_of_cell? w1 _ c0
      have c1 := (HB3.out.cell (p := ⟨bb, off + k, none⟩) hbb).trans c0
      obtain ⟨b, hbn⟩ : ∃ b : Nat, l.getD k 0 = b := ⟨(l.getD k 0).toNat, by omega⟩
      rw [hbn] at c1 hst hin
      clear hc c0 hbb hcell
      unfold stepL at hst
      simp only [Int.toNat_natCast] at hst
      generalize leastIn wt (l.take k) = acc at *
      obtain ⟨m, f⟩ := acc
      dsimp only at hst hgood ⊢
      clear hbn
      by_cases hb1 : b < wt.length
      · have b1 : (b : Int) < wt.length := by omega
        cases f with
        | false =>
          rw [if_pos ⟨b1, .inl rfl⟩] at hst
          have HS := Lib.hid hst
          clear hst hgood
          go_wp2_with fail
          go_region
          go_wp2_with fail
          go_roundw
          case rel => exact ⟨k + 1, by go_num, by omega, by rw [HS.out], by rw [HS.out], Lib.hid HB2.out.drew, Lib.hid HB3.out.drew⟩
          case measure => simp [intOf]; omega
        | true =>
          obtain ⟨g1, g2⟩ := hgood rfl
          obtain ⟨m, rfl⟩ : ∃ n : Nat, m = n := ⟨m.toNat, by omega⟩
          have g3 : m < wt.length := by omega
          obtain ⟨ab, ao, rfl, hwc⟩ := HW.out (by omega)
          have d1 := hwc b hb1
          have d2 := hwc m g3
          have hab : ab < w.heap.size := World.block_lt_of_cell? w _ d1
          have e1 := (HB2.out.cell (p := ⟨ab, ao + b, none⟩) hab).trans d1
          have e2 := (HB2.out.cell (p := ⟨ab, ao + m, none⟩) hab).trans d2
          simp only [Int.toNat_natCast] at hst
          clear hwc d1 d2 hgood
          by_cases hlt2 : wt.getD b 0 < wt.getD m 0
          · rw [if_pos ⟨b1, .inr hlt2⟩] at hst
            have HS := Lib.hid hst
            clear hst
            generalize wt.getD b 0 = wb at *
            generalize wt.getD m 0 = wm at *
            go_wp2_with fail
            go_region
            go_wp2_with fail
            go_roundw
            case rel => exact ⟨k + 1, by go_num, by omega, by rw [HS.out], by rw [HS.out], Lib.hid HB2.out.drew, Lib.hid HB3.out.drew⟩
            case measure => simp [intOf]; omega
          · rw [if_neg (by rintro ⟨_, h | h⟩; cases h; exact hlt2 h)] at hst
            have HS := Lib.hid hst
            clear hst
            generalize wt.getD b 0 = wb at *
            generalize wt.getD m 0 = wm at *
            go_wp2_with fail
            go_region
            go_wp2_with fail
            go_roundw
            case rel => exact ⟨k + 1, by go_num, by omega, by rw [HS.out], by rw [HS.out], Lib.hid HB2.out.drew, Lib.hid HB3.out.drew⟩
            case measure => simp [intOf]; omega
      · have b1 : ¬ (b : Int) < wt.length := by omega
        rw [if_neg (fun h => b1 h.1)] at hst
        have HS := Lib.hid hst
        clear hst hgood
        go_wp2_with fail
        go_region
        go_wp2_with fail
        go_roundw
        case rel => exact ⟨k + 1, by go_num, by omega, by rw [HS.out], by rw [HS.out], Lib.hid HB2.out.drew, Lib.hid HB3.out.drew⟩
        case measure => simp [intOf]; omega
    · obtain rfl : l.length = k := by omega
      have i1 : ¬ (l.length : Int) < l.length := by omega
      rw [List.take_length]
      obtain ⟨⟨m, f⟩, hacc⟩ : ∃ r, leastIn wt l = r := ⟨_, rfl⟩
      have HA := Lib.hid hacc
      rw [hacc]
      dsimp only
      clear HL HW HR HB hacc
      go_wp2
      exact bodyPost_ret (v := .tuple #[.int .i64 m, .bool f]) (by simp [results, Try.results25, go_sem]) rfl ⟨by rw [HA.out]; rfl, HB2.out⟩
end Go.Proofs.Ytfehioapjoihkaa
