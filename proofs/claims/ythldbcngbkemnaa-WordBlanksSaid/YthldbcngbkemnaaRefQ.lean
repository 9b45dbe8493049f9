/- The contract of the document's Quote. -/
import Derived.Test.YthldbcngbkemnaaQuoted
namespace Drawbar.Esc
/-- May the byte at place i stand in a bare word? -/
def badB (L : List Nat) (i : Nat) : Prop := L.getD i 0 ≤ 32 ∨ L.getD i 0 = 34 ∨ L.getD i 0 = 92 ∨ L.getD i 0 = 127
def wide (L : List Nat) (i : Nat) : Prop := i + 3 ≤ L.length ∧ (L.drop i).take 3 = [227, 128, 128]
instance (L : List Nat) (i : Nat) : Decidable (badB L i) := by unfold badB; exact inferInstance
instance (L : List Nat) (i : Nat) : Decidable (wide L i) := by unfold wide; exact inferInstance
def plB (L : List Nat) : Nat → Bool
  | 0 => decide (L ≠ [])
  | k + 1 => if badB L k ∨ wide L k then false else plB L k
/-- A text as a word, as the document has it. -/
def refQ (L : List Nat) : List Nat := if plB L L.length = true then L else 34 :: esc L ++ [34]
end Drawbar.Esc
namespace Go.Proofs.Ythldbcngbkemnaa
open Go.RowKit
open Drawbar Drawbar.Sign Drawbar.Esc

theorem ext_str (L : List Nat) (i j : Nat) : (strOf L).extract i j = strOf ((L.drop i).take (j - i)) := by
  apply str_ext
  rw [ByteArray.data_extract]
  show ((L.map UInt8.ofNat).toArray.extract i j).toList = ((L.drop i).take (j - i)).map UInt8.ofNat
  rw [List.extract_toArray, List.toList_toArray, List.extract_eq_take_drop, List.map_take, List.map_drop]

theorem toList_str (M : List Nat) : (strOf M).toList = M.map UInt8.ofNat := by
  rw [Lib.toList_data]
  show ((M.map UInt8.ofNat).toArray).toList = _
  rw [List.toList_toArray]
theorem map_back (M : List Nat) (hM : ∀ x ∈ M, x < 256) : (M.map UInt8.ofNat).map UInt8.toNat = M := by
  induction M with
  | nil => rfl
  | cons a M ih =>
    have ha := hM a List.mem_cons_self
    rw [List.map_cons, List.map_cons, ih (fun x hx => hM x (List.mem_cons_of_mem _ hx))]
    congr 1
    exact Nat.mod_eq_of_lt ha
theorem is_wide (M : List Nat) (hM : ∀ x ∈ M, x < 256) : ((strOf M).toList == [227, 128, 128]) = true ↔ M = [227, 128, 128] := by
  rw [toList_str, beq_iff_eq]
  constructor
  · intro h
    have := congrArg (List.map UInt8.toNat) h
    rw [map_back M hM] at this
    exact this
  · rintro rfl; rfl

set_option maxRecDepth 100000 in
set_option maxHeartbeats 8000000 in
theorem refquote_any (L : List Nat) (w : World) (hL : ∀ x ∈ L, x < 256) (hn : L.length ≤ 100) :
    Calls Try.prog 8 #[.string (strOf L)] w fun e w' => e = .returned (.string (strOf (refQ L))) ∧ w = w' := by
  have hsz := size_str L
  have hget := fun k hk h => at_str L hL k hk h
  have hempty : (!(strOf L).toList.isEmpty) = plB L 0 := by
    rw [toList_str]
    cases L <;> rfl
  obtain ⟨S, hS⟩ : ∃ S, S = strOf L := ⟨_, rfl⟩
  have hext := fun i j => ext_str L i j
  rw [← hS] at hsz hget hext hempty ⊢
  have HG := Lib.hid hget
  have HX := Lib.hid hext
  have HS := Lib.hid hS
  have HL := Lib.hid hL
  clear hget hext hS hL
  go_enter Try.func8, Try.ntmps8
  go_wp2
  go_loop [3, 4, 5] (fun pv tv iv => ∃ (k : Nat) (T : ByteArray), k ≤ L.length ∧ iv = .int .i64 k ∧ tv = .string T ∧ T = strOf (34 :: esc (L.take k)) ∧ pv = .bool (plB L k)) (fun _ _ iv => L.length - (intOf iv).toNat)
  case atStart => exact ⟨0, ⟨#[34]⟩, by omega, rfl, rfl, rfl, by first | rfl | (rw [hempty])⟩
  case round =>
    obtain ⟨k, T, hk, rfl, rfl, hT, rfl⟩ := hrel
    by_cases hlt : k < L.length
    · have hg := HG.out k hlt (by rw [hsz]; exact hlt)
      have het := esc_take L k hlt
      have hxl : L.getD k 0 < 256 := HL.out _ (getD_mem L k hlt)
      have hTs : T.size ≤ 300 := by
        have := cnt_le (L.take k)
        rw [hT, size_str, List.length_cons, esc_length, List.length_take]
        rw [List.length_take] at this
        omega
      have hd1 : (L.drop k).take 1 = [L.getD k 0] := by
        rw [List.drop_eq_getElem_cons hlt, List.getD_eq_getElem?_getD, List.getElem?_eq_getElem hlt]; rfl
      have hw : wide L k ↔ (k + 3 ≤ L.length ∧ ((S.extract k (k + 3)).toList == [227, 128, 128]) = true) := by
        rw [HX.out, is_wide _ (fun x hx => HL.out x (List.mem_of_mem_drop (List.mem_of_mem_take hx))), show k + 3 - k = 3 by omega]
        exact Iff.rfl
      have HW := Lib.hid hw
      clear hw
      have hps : plB L (k + 1) = if badB L k ∨ wide L k then false else plB L k := rfl
      have hb : badB L k ↔ (L.getD k 0 ≤ 32 ∨ L.getD k 0 = 34 ∨ L.getD k 0 = 92 ∨ L.getD k 0 = 127) := Iff.rfl
      obtain ⟨p, hp⟩ : ∃ p, plB L k = p := ⟨_, rfl⟩
      rw [hp] at hps ⊢
      generalize L.getD k 0 = x at *
      have HT2 := Lib.hid (show ∀ ys, escB x = ys → T ++ strOf ys = strOf (34 :: esc (L.take (k + 1))) from fun ys hy => by
        rw [het, hy, hT, ← str_app]; rfl)
      clear het hT hp
      by_cases h34 : x = 34
      · subst h34
        have hq := HT2.out [92, 34] rfl
        have hps2 := hps.trans (if_pos (.inl (hb.2 (.inr (.inl rfl)))))
        have HQ := Lib.hid hq
        have HP := Lib.hid hps2
        clear hps hps2 hq hb HT2 HG HX HL HS hempty HW hd1
        go_wp2
        all_goals
          go_round
          case rel => exact ⟨k + 1, _, by omega, by go_num, rfl, HQ.out, by rw [HP.out]⟩
          case measure => simp [intOf]; omega
      by_cases h92 : x = 92
      · subst h92
        have hq := HT2.out [92, 92] rfl
        have hps2 := hps.trans (if_pos (.inl (hb.2 (.inr (.inr (.inl rfl))))))
        have HQ := Lib.hid hq
        have HP := Lib.hid hps2
        clear hps hps2 hq hb HT2 HG HX HL HS hempty HW hd1
        go_wp2
        all_goals
          go_round
          case rel => exact ⟨k + 1, _, by omega, by go_num, rfl, HQ.out, by rw [HP.out]⟩
          case measure => simp [intOf]; omega
      by_cases h10 : x = 10
      · subst h10
        have hq := HT2.out [92, 110] rfl
        have hps2 := hps.trans (if_pos (.inl (hb.2 (.inl (by decide)))))
        have HQ := Lib.hid hq
        have HP := Lib.hid hps2
        clear hps hps2 hq hb HT2 HG HX HL HS hempty HW hd1
        go_wp2
        all_goals
          go_round
          case rel => exact ⟨k + 1, _, by omega, by go_num, rfl, HQ.out, by rw [HP.out]⟩
          case measure => simp [intOf]; omega
      by_cases h9 : x = 9
      · subst h9
        have hq := HT2.out [92, 116] rfl
        have hps2 := hps.trans (if_pos (.inl (hb.2 (.inl (by decide)))))
        have HQ := Lib.hid hq
        have HP := Lib.hid hps2
        clear hps hps2 hq hb HT2 HG HX HL HS hempty HW hd1
        go_wp2
        all_goals
          go_round
          case rel => exact ⟨k + 1, _, by omega, by go_num, rfl, HQ.out, by rw [HP.out]⟩
          case measure => simp [intOf]; omega
      have hy := HX.out k (k + 1)
      have hq := HT2.out [x] (by unfold escB isE; simp [h34, h92, h10, h9])
      have hy1 : S.extract k (k + 1) = strOf [x] := by
        rw [hy, show k + 1 - k = 1 by omega, hd1]
      rw [← hy1] at hq
      generalize hY : S.extract k (k + 1) = Y at *
      have hYs : Y.size ≤ 1 := by rw [hy1, size_str]; exact Nat.le_refl _
      have HQ := Lib.hid hq
      have HPS := Lib.hid hps
      have HBD := Lib.hid hb
      clear hps hq hb HT2 HG HL HS hempty hy hy1 HX hd1
      by_cases hbad : x ≤ 32 ∨ x = 127
      · have hp0 := HPS.out.trans (if_pos (.inl (HBD.out.2 (by omega))))
        have HP := Lib.hid hp0
        clear hp0 HPS HBD HW
        by_cases h127 : x = 127
        · subst h127
          clear hbad
          go_wp2
          all_goals
            go_round
            case rel => exact ⟨k + 1, _, by omega, by go_num, rfl, HQ.out, by rw [HP.out]⟩
            case measure => simp [intOf]; omega
        · have i1 : x ≤ 32 := by omega
          clear hbad
          go_wp2
          all_goals
            go_round
            case rel => exact ⟨k + 1, _, by omega, by go_num, rfl, HQ.out, by rw [HP.out]⟩
            case measure => simp [intOf]; omega
      · have i1 : 32 < x := by omega
        have i2 : x ≠ 127 := by omega
        have hno : ¬ ((x : Int) ≤ 32 ∨ ((x : Int) == 127) = true) := by
          rw [beq_iff_eq]; omega
        have HNO := Lib.hid hno
        clear hbad hno
        go_wp2
        all_goals
          go_round
          case rel =>
            refine ⟨k + 1, _, by omega, by go_num, rfl, HQ.out, ?_⟩
            first
              | (exfalso; apply HNO.out; assumption)
              | (rw [HPS.out, if_pos (.inr (HW.out.2 ⟨by omega, by assumption⟩))])
              | (rw [HPS.out, if_neg (fun h => h.elim (fun h => by have := HBD.out.1 h; omega) (fun h => by
                  have h2 := HW.out.1 h
                  first
                    | omega
                    | exact absurd (h2.2.symm.trans ‹_ = false›) (by decide)))])
          case measure => simp [intOf]; omega
    · have hk2 : k = L.length := by omega
      subst hk2
      rw [List.take_length] at hT
      have hTs : T.size ≤ 300 := by
        have := cnt_le L
        rw [hT, size_str, List.length_cons, esc_length]
        omega
      obtain ⟨p, hp⟩ : ∃ p, plB L L.length = p := ⟨_, rfl⟩
      have hR : refQ L = if p = true then L else 34 :: esc L ++ [34] := by unfold refQ; rw [hp]
      rw [hp]
      have hq : T ++ ⟨#[34]⟩ = strOf (34 :: esc L ++ [34]) := by rw [str_app (34 :: esc L) [34], ← hT]; rfl
      have HQ := Lib.hid hq
      cases p with
      | true =>
        rw [if_pos rfl] at hR
        have HR := Lib.hid (show S = strOf (refQ L) by rw [hR]; exact HS.out)
        clear hq hT HQ hR hp hempty HG HX HL HS
        go_wp2
        go_ret
        exact ⟨congrArg (fun s => Ending.returned (Value.string s)) HR.out, rfl⟩
      | false =>
        rw [if_neg Bool.false_ne_true] at hR
        have HR := Lib.hid (show T ++ ⟨#[34]⟩ = strOf (refQ L) by rw [hR]; exact hq)
        clear hq hT HQ hR hp hempty HG HX HL HS
        go_wp2
        go_ret
        exact ⟨congrArg (fun s => Ending.returned (Value.string s)) HR.out, rfl⟩
end Go.Proofs.Ythldbcngbkemnaa
