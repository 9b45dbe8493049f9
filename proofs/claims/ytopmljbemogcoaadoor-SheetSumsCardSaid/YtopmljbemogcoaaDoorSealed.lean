/- The contract of drawbarlaw04.sealed: CRC-32 bit by bit, and what a page ends with. -/
import Derived.Test.YtopmljbemogcoaaDoorRefLay
import Derived.Test.YtopmljbemogcoaaDoorRefSum
namespace Go.Proofs.YtopmljbemogcoaaDoor
open Go.RowKit
open Drawbar Drawbar.Sheet

theorem At.five (w : World) (x0 x1 x2 x3 x4 : Value) (t : TypeId) : At (w.alloc (.cells #[x0, x1, x2, x3, x4] t)) (some ⟨w.heap.size, 0, none⟩) [x0, x1, x2, x3, x4] := by
  intro b hb j u hj
  obtain rfl := Option.some.inj hb
  rcases j with _ | _ | _ | _ | _ | j
  · simp at hj; subst hj; rw [Addr.add_lit]; simp
  · simp at hj; subst hj; rw [Addr.add_lit]; simp
  · simp at hj; subst hj; rw [Addr.add_lit]; simp
  · simp at hj; subst hj; rw [Addr.add_lit]; simp
  · simp at hj; subst hj; rw [Addr.add_lit]; simp
  · simp at hj

theorem sealed_any (l : List Nat) (a : Option Addr) (cap : Nat) (w : World) (hr : Rd w a l) (hnil : a = none → cap = 0) :
    Calls Tryd.prog 20 #[.slice a l.length cap] w (NewBytes w ((l ++ put (Crc.sum l) 4) ++ [90])) := by
  obtain ⟨i0, hi, hz0, hz1, hz2⟩ := info_parts info_u8
  have hx0 : a = none → l.length = 0 ∧ cap = 0 := fun h => ⟨hr.ofNil h, hnil h⟩
  have HX0 := Lib.hid hx0
  have HA := Lib.hid hr.at
  obtain ⟨P, hP⟩ : ∃ P, NewBytes w ((l ++ put (Crc.sum l) 4) ++ [90]) = P := ⟨_, rfl⟩
  rw [hP]
  have HPP := Lib.hid hP
  clear hx0 hnil hP
  obtain ⟨hl, hlen, hc⟩ := hr
  go_enter Tryd.func20, Tryd.ntmps20
  go_wp2
  go_loop [3, 4] (fun c i => ∃ k : Nat, k ≤ l.length ∧ i = .int .i64 k ∧ c = .int .u32 (Crc.crc Crc.full (l.take k) : Nat)) (fun _ i => l.length - (intOf i).toNat)
  case atStart => exact ⟨0, Nat.zero_le _, rfl, rfl⟩
  case round =>
    obtain ⟨k, hk, rfl, rfl⟩ := hrel
    by_cases hlt : k < l.length
    · obtain ⟨b, off, rfl, hcell⟩ := hc (by omega)
      have h1 := hcell k hlt
      have hb : l.getD k 0 < 256 := hl _ (getD_mem l k hlt)
      have hc0 : Crc.crc Crc.full (l.take k) < 2 ^ 32 := Crc.crc_lt _ (fun x hx => hl x (List.mem_of_mem_take hx)) (by unfold Crc.full; omega)
      have hfin : Crc.crc Crc.full (l.take (k + 1)) = Crc.bits (Crc.crc Crc.full (l.take k)) (l.getD k 0) 8 := by
        rw [take_getD l k hlt, Crc.crc_append, ← Crc.byte_bits _ _ hb]; rfl
      have HF := Lib.hid hfin
      clear hcell hc hfin
      generalize l.getD k 0 = b0 at h1 hb HF
      generalize Crc.crc Crc.full (l.take k) = c0 at hc0 HF
      go_wp2
      go_loop [3, 5] (fun c i => ∃ j : Nat, j ≤ 8 ∧ i = .int .i64 j ∧ c = .int .u32 (Crc.bits c0 b0 j : Nat) ∧ Crc.bits c0 b0 j < 2 ^ 32) (fun _ i => 8 - (intOf i).toNat)
      case atStart => exact ⟨0, Nat.zero_le _, rfl, rfl, hc0⟩
      case round =>
        obtain ⟨j, hj, rfl, rfl, hbl⟩ := hrel
        have hs1 : (Crc.bits c0 b0 j ^^^ b0 / 2 ^ j) % 2 = 1 → Crc.bits c0 b0 (j + 1) = (Crc.bits c0 b0 j / 2) ^^^ Crc.poly := fun h => by
          show Crc.bitStep _ _ _ = _
          unfold Crc.bitStep; rw [if_pos h]
        have hs0 : ¬ (Crc.bits c0 b0 j ^^^ b0 / 2 ^ j) % 2 = 1 → Crc.bits c0 b0 (j + 1) = Crc.bits c0 b0 j / 2 := fun h => by
          show Crc.bitStep _ _ _ = _
          unfold Crc.bitStep; rw [if_neg h]
        have h8 : 8 ≤ j → Crc.bits c0 b0 j = Crc.crc Crc.full (l.take (k + 1)) := fun h => by rw [HF.out, show j = 8 by omega]
        have hq : b0 / 2 ^ j < 256 := Nat.lt_of_le_of_lt (Nat.div_le_self _ _) hb
        have hx : bits .xor .u32 ((Crc.bits c0 b0 j : Nat) : Int) ((b0 : Int) / 2 ^ j % 4294967296) = ((Crc.bits c0 b0 j ^^^ b0 / 2 ^ j : Nat) : Int) := by
          rw [shr_nat]
          generalize b0 / 2 ^ j = q at hq ⊢
          rw [show ((q : Nat) : Int) % 4294967296 = (q : Int) by omega, u32_xor_nat _ _ (by omega) (by omega)]
        have hp : bits .xor .u32 ((Crc.bits c0 b0 j : Nat) / 2 : Int) 3988292384 = (((Crc.bits c0 b0 j / 2) ^^^ Crc.poly : Nat) : Int) := by
          rw [show ((Crc.bits c0 b0 j : Nat) / 2 : Int) = ((Crc.bits c0 b0 j / 2 : Nat) : Int) by omega, show (3988292384 : Int) = ((3988292384 : Nat) : Int) by rfl, u32_xor_nat _ _ (by omega) (by omega)]; rfl
        have hpl : (Crc.bits c0 b0 j / 2) ^^^ Crc.poly < 2 ^ 32 := Nat.xor_lt_two_pow (by omega) (by unfold Crc.poly; omega)
        have hd : ((Crc.bits c0 b0 j : Nat) / 2 : Int) = ((Crc.bits c0 b0 j / 2 : Nat) : Int) := by omega
        generalize Crc.bits c0 b0 j ^^^ b0 / 2 ^ j = y at hx hs1 hs0
        have HP := Lib.hid hp
        have HD := Lib.hid hd
        have H1 := Lib.hid hs1
        have H0 := Lib.hid hs0
        have H8 := Lib.hid h8
        have HPL := Lib.hid hpl
        clear hp hd hs1 hs0 h8 hpl
        rcases Nat.mod_two_eq_zero_or_one y with hy | hy
        · have ht : ((y : Int) % 2 == 1) = false := by simp; omega
          have HY := Lib.hid hy
          clear hy
          go_wp2
          · go_round
            case rel => exact ⟨j + 1, by omega, by go_num, by rw [HD.out, H0.out (by have := HY.out; omega)], by rw [H0.out (by have := HY.out; omega)]; omega⟩
            case measure => simp [intOf]; omega
          · go_round
            case rel => exact ⟨k + 1, by omega, by go_num, by rw [H8.out (by omega)]⟩
            case measure => simp [intOf]; omega
        · have ht : ((y : Int) % 2 == 1) = true := by simp; omega
          have HY := Lib.hid hy
          clear hy
          go_wp2
          · go_round
            case rel => exact ⟨j + 1, by omega, by go_num, by rw [HP.out, H1.out HY.out], by rw [H1.out HY.out]; exact HPL.out⟩
            case measure => simp [intOf]; omega
          · go_round
            case rel => exact ⟨k + 1, by omega, by go_num, by rw [H8.out (by omega)]⟩
            case measure => simp [intOf]; omega
    · have hkl : k = l.length := by omega
      have H := Lib.hid hkl
      have hc0 : Crc.crc Crc.full (l.take k) < 2 ^ 32 := Crc.crc_lt _ (fun x hx => hl x (List.mem_of_mem_take hx)) (by unfold Crc.full; omega)
      have hx : bits .xor .u32 ((Crc.crc Crc.full (l.take k) : Nat) : Int) 4294967295 = ((Crc.crc Crc.full (l.take k) ^^^ Crc.full : Nat) : Int) := by
        rw [show (4294967295 : Int) = ((4294967295 : Nat) : Int) by rfl, u32_xor_nat _ _ (by omega) (by omega)]; rfl
      obtain ⟨s, hs⟩ : ∃ s, Crc.sum l = s := ⟨_, rfl⟩
      have hs32 : s < 2 ^ 32 := by rw [← hs]; exact Crc.sum_lt l hl
      have hxs : bits .xor .u32 ((Crc.crc Crc.full (l.take k) : Nat) : Int) 4294967295 = (s : Int) := by
        rw [hx, ← hs, hkl, List.take_length]; rfl
      generalize Crc.crc Crc.full (l.take k) = c9 at *
      have HS := Lib.hid hs
      clear hc hkl hx hs
      go_wp2_with (first
        | (at_builtin; refine wpList_append_ownz rfl (.tmp 36) (.tmp 37) 23 rfl w.heap.size 5 i0 (.int .u8 0) 1 1 Tryd.underlying23 hi hz0 hz1 hz2 rfl (by decide) _ 0 [] rfl (World.ownsRow_nil _ _ _ 1) a l.length cap (l.map bv) rfl HX0.out (by simp) HA.out (bv_one _) (by unfold maxLen; omega) (by omega) (Nat.le_refl _) ?_; intro v2 w2 hown2 hb2; rw [List.nil_append, Nat.zero_add] at hown2)
        | (at_builtin; refine wpList_append_ownz rfl (.tmp 39) (.tmp 51) 23 rfl w.heap.size 5 i0 (.int .u8 0) 1 1 Tryd.underlying23 hi hz0 hz1 hz2 rfl (by decide) _ l.length (l.map bv) rfl (hown2.alloc _) (some ⟨w2.heap.size, 0, none⟩) 5 5 [_, _, _, _, .int .u8 90] rfl (fun h => by cases h) rfl (At.five _ _ _ _ _ _ _) (by simp [Value.oneCell']) (by unfold maxLen; omega) (by omega) (by have := hb2.size; simp; omega) ?_; intro v5 w5 hown5 hb5))
      have hm : ((l ++ put s 4) ++ [90]).map bv = l.map bv ++ [Value.int IntKind.u8 ((s : Int) % 256), Value.int IntKind.u8 ((s : Int) / 256 % 256), Value.int IntKind.u8 ((s : Int) / 65536 % 256), Value.int IntKind.u8 ((s : Int) / 16777216), Value.int IntKind.u8 90] := by
        rw [List.append_assoc, List.map_append]
        congr 1
        have hp : put s 4 = [s % 256, s / 256 % 256, s / 65536 % 256, s / 16777216 % 256] := by simp [put, List.range_succ]
        rw [hp, show s / 16777216 % 256 = s / 16777216 by omega]
        simp [bv]
      rw [← hm] at hown5
      have hfin : NewBytes w ((l ++ put s 4) ++ [90]) (.returned v5) w5 := ⟨v5, rfl, by rw [List.length_append, List.length_append, put_length]; exact hown5, (hb2.alloc hb2.size _).trans hb5⟩
      rw [← HPP.out, HS.out]
      exact hfin
end Go.Proofs.YtopmljbemogcoaaDoor
