/- The contracts of the document's Sum and Seal (drawbarref01): CRC-32 bit by bit. -/
import Derived.Test.YtopmljbemogcoaaDoorRefPut
namespace Go.Proofs.YtopmljbemogcoaaDoor
open Go.RowKit
open Drawbar

theorem shr_nat (b k : Nat) : ((b : Int) / 2 ^ k) = ((b / 2 ^ k : Nat) : Int) := by simp

theorem refsum_any (l : List Nat) (a : Option Addr) (cap : Nat) (w : World) (hr : Rd w a l) :
    Calls Tryd.prog 39 #[.slice a l.length cap] w fun e w' => e = .returned (.int .u32 (Crc.sum l : Nat)) ∧ w = w' := by
  obtain ⟨hl, hlen, hc⟩ := hr
  go_enter Tryd.func39, Tryd.ntmps39
  go_wp2
  go_loop [3, 4] (fun c i => ∃ k : Nat, k ≤ l.length ∧ i = .int .i64 k ∧ c = .int .u32 (Crc.crc Crc.full (l.take k) : Nat)) (fun _ i => l.length - (intOf i).toNat)
  case atStart => exact ⟨0, Nat.zero_le _, rfl, rfl⟩
  case round =>
    obtain ⟨k, hk, rfl, rfl⟩ := hrel
    by_cases hlt : k < l.length
    · obtain ⟨b, off, rfl, hcell⟩ := hc (by omega)
      have h1 := hcell k hlt
      have hb : l.getD k 0 < 256 := hl _ (getD_mem l k hlt)
      have hc0 : Crc.crc Crc.full (l.take k) < 2 ^ 32 := Crc.crc_lt _ (fun x hx => hl x (List.mem_of_mem_take hx)) (by unfold Crc.full; omega)
      have hfin : Crc.crc Crc.full (l.take (k + 1)) = Crc.bits (Crc.crc Crc.full (l.take k)) (l.getD k 0) 8 := by
        rw [take_getD l k hlt, Crc.crc_append, ← Crc.byte_bits _ _ hb]; rfl
      have HF := Lib.hid hfin
      clear hcell hc hfin
      generalize l.getD k 0 = b0 at h1 hb HF
      generalize Crc.crc Crc.full (l.take k) = c0 at hc0 HF
      go_wp2
      go_loop [3, 5] (fun c i => ∃ j : Nat, j ≤ 8 ∧ i = .int .i64 j ∧ c = .int .u32 (Crc.bits c0 b0 j : Nat) ∧ Crc.bits c0 b0 j < 2 ^ 32) (fun _ i => 8 - (intOf i).toNat)
      case atStart => exact ⟨0, Nat.zero_le _, rfl, rfl, hc0⟩
      case round =>
        obtain ⟨j, hj, rfl, rfl, hbl⟩ := hrel
        have hs1 : (Crc.bits c0 b0 j ^^^ b0 / 2 ^ j) % 2 = 1 → Crc.bits c0 b0 (j + 1) = (Crc.bits c0 b0 j / 2) ^^^ Crc.poly := fun h => by
          show Crc.bitStep _ _ _ = _
          unfold Crc.bitStep; rw [if_pos h]
        have hs0 : ¬ (Crc.bits c0 b0 j ^^^ b0 / 2 ^ j) % 2 = 1 → Crc.bits c0 b0 (j + 1) = Crc.bits c0 b0 j / 2 := fun h => by
          show Crc.bitStep _ _ _ = _
          unfold Crc.bitStep; rw [if_neg h]
        have h8 : 8 ≤ j → Crc.bits c0 b0 j = Crc.crc Crc.full (l.take (k + 1)) := fun h => by rw [HF.out, show j = 8 by omega]
        have hq : b0 / 2 ^ j < 256 := Nat.lt_of_le_of_lt (Nat.div_le_self _ _) hb
        have hx : bits .xor .u32 ((Crc.bits c0 b0 j : Nat) : Int) ((b0 : Int) / 2 ^ j % 4294967296) = ((Crc.bits c0 b0 j ^^^ b0 / 2 ^ j : Nat) : Int) := by
          rw [shr_nat]
          generalize b0 / 2 ^ j = q at hq ⊢
          rw [show ((q : Nat) : Int) % 4294967296 = (q : Int) by omega, u32_xor_nat _ _ (by omega) (by omega)]
        have hp : bits .xor .u32 ((Crc.bits c0 b0 j : Nat) / 2 : Int) 3988292384 = (((Crc.bits c0 b0 j / 2) ^^^ Crc.poly : Nat) : Int) := by
          rw [show ((Crc.bits c0 b0 j : Nat) / 2 : Int) = ((Crc.bits c0 b0 j / 2 : Nat) : Int) by omega, show (3988292384 : Int) = ((3988292384 : Nat) : Int) by rfl, u32_xor_nat _ _ (by omega) (by omega)]; rfl
        have hpl : (Crc.bits c0 b0 j / 2) ^^^ Crc.poly < 2 ^ 32 := Nat.xor_lt_two_pow (by omega) (by unfold Crc.poly; omega)
        have hd : ((Crc.bits c0 b0 j : Nat) / 2 : Int) = ((Crc.bits c0 b0 j / 2 : Nat) : Int) := by omega
        generalize Crc.bits c0 b0 j ^^^ b0 / 2 ^ j = y at hx hs1 hs0
        have HP := Lib.hid hp
        have HD := Lib.hid hd
        have H1 := Lib.hid hs1
        have H0 := Lib.hid hs0
        have H8 := Lib.hid h8
        have HPL := Lib.hid hpl
        clear hp hd hs1 hs0 h8 hpl
        rcases Nat.mod_two_eq_zero_or_one y with hy | hy
        · have ht : ((y : Int) % 2 == 1) = false := by simp; omega
          have HY := Lib.hid hy
          clear hy
          go_wp2
          · go_round
            case rel => exact ⟨j + 1, by omega, by go_num, by rw [HD.out, H0.out (by have := HY.out; omega)], by rw [H0.out (by have := HY.out; omega)]; omega⟩
            case measure => simp [intOf]; omega
          · go_round
            case rel => exact ⟨k + 1, by omega, by go_num, by rw [H8.out (by omega)]⟩
            case measure => simp [intOf]; omega
        · have ht : ((y : Int) % 2 == 1) = true := by simp; omega
          have HY := Lib.hid hy
          clear hy
          go_wp2
          · go_round
            case rel => exact ⟨j + 1, by omega, by go_num, by rw [HP.out, H1.out HY.out], by rw [H1.out HY.out]; exact HPL.out⟩
            case measure => simp [intOf]; omega
          · go_round
            case rel => exact ⟨k + 1, by omega, by go_num, by rw [H8.out (by omega)]⟩
            case measure => simp [intOf]; omega
    · have hkl : k = l.length := by omega
      have H := Lib.hid hkl
      have hc0 : Crc.crc Crc.full (l.take k) < 2 ^ 32 := Crc.crc_lt _ (fun x hx => hl x (List.mem_of_mem_take hx)) (by unfold Crc.full; omega)
      have hx : bits .xor .u32 ((Crc.crc Crc.full (l.take k) : Nat) : Int) 4294967295 = ((Crc.crc Crc.full (l.take k) ^^^ Crc.full : Nat) : Int) := by
        rw [show (4294967295 : Int) = ((4294967295 : Nat) : Int) by rfl, u32_xor_nat _ _ (by omega) (by omega)]; rfl
      have HX := Lib.hid hx
      clear hc hkl hx
      go_wp2
      go_ret
      exact ⟨ret_int (by rw [HX.out, H.out, List.take_length]; rfl), rfl⟩

theorem At.below {w w' : World} {ao : Option Addr} {xs : List Value} (h : At w ao xs) (hb : Below w.heap.size w w') : At w' ao xs :=
  h.mono fun p _ hp => (hb.cell (World.block_lt_of_cell? w p hp)).trans hp
theorem Tail.below {w w' : World} {base : Nat} {e : TypeId} {size : Nat} {v : Value} {n : Nat} {xs : List Value} (h : Tail w base e size v n xs) (hb : Below w.heap.size w w') : Tail w' base e size v n xs :=
  h.imp (fun h => h.kept (row := none) ⟨hb.os, hb.tape, hb.output, hb.size, fun k hk _ => hb.block k hk⟩ (by cases v.ownBlock <;> simp)) fun ⟨ao, h1, h2, h3, h4⟩ => ⟨ao, h1, h2, h3, At.below h4 hb⟩

/-- The document's Seal. -/
theorem refseal_any (l : List Nat) (a : Option Addr) (cap : Nat) (w : World) (hr : Rd w a l) (hnil : a = none → cap = 0) :
    Calls Tryd.prog 29 #[.slice a l.length cap] w (NewBytes w (l ++ put (Crc.sum l) 4)) := by
  obtain ⟨i0, hi, hz0, hz1, hz2⟩ := info_parts info_u8
  have hat := hr.at
  have hx0 : a = none → l.length = 0 ∧ cap = 0 := fun h => ⟨hr.ofNil h, hnil h⟩
  have hlen := hr.2.1
  have hsum := fun w2 (hb : Below w.heap.size w w2) => refsum_any l a cap w2 (hr.below hb)
  have hs := Crc.sum_lt l hr.1
  have HA := Lib.hid hat
  have HX0 := Lib.hid hx0
  have HSum := Lib.hid hsum
  obtain ⟨P, hP⟩ : ∃ P, NewBytes w (l ++ put (Crc.sum l) 4) = P := ⟨_, rfl⟩
  rw [hP]
  have HPP := Lib.hid hP
  clear hat hx0 hnil hr hsum hP
  generalize hss : Crc.sum l = s at hs HSum HPP
  clear hss
  have hput : ∀ w2, Calls Tryd.prog 27 #[.int .u64 s, .int .i64 4] w2 (NewBytes w2 (put s 4)) := fun w2 => refput_any s 4 w2 (by omega) (by decide)
  have HPut := Lib.hid hput
  clear hput
  go_enter Tryd.func29, Tryd.ntmps29
  go_wp2_with (at_builtin; refine wpList_append_tail rfl (.tmp 4) (.tmp 5) 23 rfl w.heap.size 5 i0 (.int .u8 0) 1 1 Tryd.underlying23 hi hz0 hz1 hz2 rfl (by decide) _ 0 [] rfl (.inl (World.ownsRow_nil _ _ _ _)) a l.length cap (l.map bv) rfl HX0.out (by simp) HA.out (bv_one l) ?c2 ?c3 ?c4 ?_)
  case c2 => unfold maxLen; omega
  case c3 => omega
  case c4 => exact Nat.le_refl _
  intro v' w2 h1 _ hb2
  have HT := Lib.hid h1
  clear h1
  go_wp2_with fail
  refine (HSum.out _ hb2).mono ?_
  rintro e w3 ⟨rfl, rfl⟩
  go_wp2_with fail
  refine (HPut.out w2).mono ?_
  rintro e w3 ⟨v3, rfl, hown3, hb3⟩
  rw [put_length] at hown3
  obtain ⟨g3, c3, rfl, _, hrd3, _⟩ := rd_of_own' (l := put s 4) (n := 4) hown3 (put_lt s 4) (by rw [put_length]; omega) (by rw [put_length]; omega)
  have hat3 := hrd3.at
  rw [put_length]
  have ht3 : Tail w3 w.heap.size 5 1 v' l.length (l.map bv) := Tail.below (Tail.below HT.out (Below.refl _ _)) hb3
  have hb4 : Below w.heap.size w w3 := hb2.trans (hb3.mono hb2.size)
  have hsz := hb4.size
  have HT3 := Lib.hid ht3
  have HA3 := Lib.hid hat3
  clear HT hown3 hrd3 hat3 ht3 hb2 hb3
  go_wp2_with (at_builtin; refine wpList_append_tail rfl (.tmp 7) (.tmp 11) 23 rfl w.heap.size 5 i0 (.int .u8 0) 1 1 Tryd.underlying23 hi hz0 hz1 hz2 rfl (by decide) _ _ _ rfl HT3.out _ 4 c3 ((put s 4).map bv) rfl (by simp) (by rw [List.length_map, put_length]) HA3.out (bv_one _) ?d2 ?d3 ?d4 ?_)
  case d2 => unfold maxLen; omega
  case d3 => omega
  case d4 => exact hsz
  intro v5 w5 _ h2 hb5
  have hfin : NewBytes w (l ++ put s 4) (.returned v5) w5 := ⟨v5, rfl, by
    have := h2
    rw [List.length_append, put_length, List.map_append]
    simpa using this, hb4.trans hb5⟩
  rw [HPP.out] at hfin
  have HF := Lib.hid hfin
  clear h2 hb5 hfin HT3 HA3
  go_wp2
  exact HF.out
end Go.Proofs.YtopmljbemogcoaaDoor
