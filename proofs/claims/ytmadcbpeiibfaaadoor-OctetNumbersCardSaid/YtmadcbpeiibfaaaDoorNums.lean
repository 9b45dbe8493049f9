/- The walk of the law OctetNumbers: any number as bytes, behind any bytes, and back. -/
import Derived.Test.YtmadcbpeiibfaaaDoorRefPut
import Derived.Test.YtmadcbpeiibfaaaDoorNil
import Derived.Deep.RegionWith
import Derived.Deep.RegionHeld
import Derived.Laws.Concat
namespace Go.Proofs.YtmadcbpeiibfaaaDoor
open Go.RowKit
open Drawbar

theorem nums_long (l : List Nat) (a : Option Addr) (cap n s : Nat) (w : World) (hT : Tab w) (h : 500 < l.length) (hl : l.length ≤ 140737488351232) :
    Calls Tryd.prog 3 #[.slice a l.length cap, .int .u64 n, .int .u8 s] w (Yes w) := by
  go_enter Tryd.func3, Tryd.ntmps3
  go_wp2_with fail
  refine (awake_any w hT).mono ?_
  rintro e w1 ⟨rfl, hb1⟩
  have hT1 := hT.below hb1 hT.pos
  go_wp2_with fail
  refine (awake_any w1 hT1).mono ?_
  rintro e w2 ⟨rfl, hb2⟩
  go_wp2
  go_ret
  exact ⟨rfl, hb1.trans (hb2.mono hb1.size)⟩

theorem tail_rd {w : World} {base : Nat} {v : Value} {l : List Nat} (h1 : Tail w base 5 1 v l.length (l.map bv)) (h2 : 0 < l.length → w.ownsRow base 5 1 v l.length (l.map bv)) (hl : ∀ x ∈ l, x < 256) (hn : l.length ≤ 140737488351232) :
    ∃ a c, v = .slice a l.length c ∧ l.length ≤ c ∧ Rd w a l := by
  rcases Nat.eq_zero_or_pos l.length with h0 | h0
  · obtain rfl : l = [] := List.eq_nil_of_length_eq_zero h0
    rcases h1 with h1 | ⟨ao, e, _⟩
    · obtain ⟨a, c, rfl, hc, hrd, _⟩ := rd_of_own (l := []) (by simpa using h1) (by simp) (by simp)
      exact ⟨a, c, rfl, hc, hrd⟩
    · exact ⟨ao, 0, by simpa using e, by simp, rd_empty _ _⟩
  · obtain ⟨a, c, rfl, hc, hrd, _⟩ := rd_of_own (h2 h0) hl hn
    exact ⟨a, c, rfl, hc, hrd⟩

theorem strOf_append (l m : List Nat) : strOf (l ++ m) = strOf l ++ strOf m := by
  unfold strOf
  apply ByteArray.ext
  simp [ByteArray.data_append]
theorem strOf_size (l : List Nat) : (strOf l).size = l.length := by simp [strOf, ByteArray.size]

set_option maxHeartbeats 2000000 in
theorem nums_short (l : List Nat) (a : Option Addr) (cap n s : Nat) (w : World) (hr : Rd w a l) (hnil : a = none → cap = 0) (hT : Tab w) (h : l.length ≤ 500) (hn : n < 2 ^ 64) (hs : s < 256) :
    Calls Tryd.prog 3 #[.slice a l.length cap, .int .u64 n, .int .u8 s] w (Yes w) := by
  obtain ⟨i0, hi, hz0, hz1, hz2⟩ := info_parts info_u8
  obtain ⟨k, hk1, hk8, hk⟩ : ∃ k : Nat, 1 ≤ k ∧ k ≤ 8 ∧ 1 + (s : Int) % 8 = k := ⟨1 + s % 8, by omega, by omega, by omega⟩
  go_enter Tryd.func3, Tryd.ntmps3
  go_wp2_with fail
  refine (awake_any w hT).mono ?_
  rintro e w1 ⟨rfl, hb1⟩
  have hr1 := hr.below hb1
  have hgt : ¬ (500 < (l.length : Int)) := by omega
  have hat := hr1.at
  have hx0 : a = none → l.length = 0 ∧ cap = 0 := fun h => ⟨hr.ofNil h, hnil h⟩
  have HR := Lib.hid hr1
  have HA := Lib.hid hat
  have HX0 := Lib.hid hx0
  have hll := hr.1
  have HL := Lib.hid hll
  clear hr1 hr hat hx0 hnil hll
  go_wp2_with (at_builtin; refine wpList_append_tail rfl _ _ 22 rfl w1.heap.size 5 i0 (.int .u8 0) 1 1 Tryd.underlying22 hi hz0 hz1 hz2 rfl (by decide) _ 0 [] rfl (.inl (World.ownsRow_nil _ _ _ _)) a l.length cap (l.map bv) rfl HX0.out (by simp) HA.out (bv_one l) ?c2 ?c3 ?c4 ?_)
  case c2 => unfold maxLen; omega
  case c3 => omega
  case c4 => simp
  intro v' w2 h1 h2 hb2
  obtain ⟨a2, c2, rfl, hc2, hrd2⟩ := tail_rd h1 h2 HL.out (by omega)
  have hput := put_any l a2 c2 n k w2 hrd2 hc2 hk1 hk8
  have hrp := HR.out.below hb2
  have hB2 : Below w.heap.size w w2 := hb1.trans (hb2.mono hb1.size)
  have HP := Lib.hid hput
  have HRP := Lib.hid hrp
  clear h1 h2 hrd2 hput hrp HA HX0 HR hb1 hb2
  go_wp2_with fail
  refine HP.out.mono ?_
  rintro e w3 ⟨v, rfl, hown, hb3⟩
  have hsl : ∀ x ∈ l ++ put n k, x < 256 := fun x hx => (List.mem_append.1 hx).elim (HL.out x) (put_lt _ _ x)
  have hsn : (l ++ put n k).length = l.length + k := by rw [List.length_append, put_length]
  obtain ⟨g, cap3, rfl, hcap3, hrd3, hg, hg2⟩ := rd_of_own' (l := l ++ put n k) hown hsl (by omega) (by omega)
  have hrp3 := HRP.out.below hb3
  have hB3 : Below w.heap.size w w3 := hB2.trans (hb3.mono hB2.size)
  rw [hsn] at hcap3 ⊢
  have HD3 := Lib.hid hrd3
  have HP3 := Lib.hid hrp3
  clear hown hsl HP HRP hrd3 hrp3 hb3 hB2
  have hrefput := refput_any n k w3.drew hn hk8
  have hq : ∀ W, Below w3.heap.size w3 W → (convert 22 9 (.slice (some ⟨g, 0, none⟩) (l.length + k) cap3)).run Tryd.prog W = .ok (.string (strOf (l ++ put n k))) W := fun W hb => by
    have := conv_str W (some ⟨g, 0, none⟩) (l ++ put n k) cap3 (HD3.out.below hb)
    rwa [hsn] at this
  have hp : ∀ W, Below w3.heap.size w3 W → (convert 22 9 (.slice a l.length cap)).run Tryd.prog W = .ok (.string (strOf l)) W := fun W hb => conv_str W a l cap (HP3.out.below hb)
  have hgt : ∀ W, Below w3.heap.size w3 W → Calls Tryd.prog 15 #[.slice (some ⟨g, l.length, none⟩) k (cap3 - l.length)] W fun e w' => e = .returned (.int .u64 (n % 2 ^ (8 * k) : Nat)) ∧ W = w' := fun W hb => by
    have h := (HD3.out.below hb).drop l.length
    rw [List.drop_left, Nat.zero_add] at h
    have h2 := get_any (put n k) _ (cap3 - l.length) W h
    rwa [List.take_of_length_le (by rw [put_length]; omega), le_put, put_length] at h2
  have hq0 := hq w3.drew (below_drewN (Below.refl _ _) 1)
  have hp0 := hp w3.drew (below_drewN (Below.refl _ _) 1)
  have HQ := Lib.hid hq
  have HPP := Lib.hid hp
  have HGT := Lib.hid hgt
  have HRef := Lib.hid hrefput
  clear hq hp hgt hrefput
  have hstep : ∀ e w', NewBytes w3.drew (put n k) e w' → ∃ g4 c4, e = .returned (.slice (some ⟨g4, 0, none⟩) k c4) ∧ Below w3.heap.size w3 w' ∧
      (convert 22 9 (.slice (some ⟨g4, 0, none⟩) k c4)).run Tryd.prog w' = .ok (.string (strOf (put n k))) w' := by
    intro e w' ⟨v, he, hown, hb⟩
    obtain ⟨g4, c4, rfl, _, hrd, _⟩ := rd_of_own' (l := put n k) hown (put_lt n k) (by rw [put_length]; omega) (by rw [put_length]; omega)
    have hc := conv_str w' _ (put n k) c4 hrd
    rw [put_length] at hc he
    exact ⟨g4, c4, he, (below_drewN (Below.refl _ _) 1).trans hb, hc⟩
  have HStep := Lib.hid hstep
  clear hstep
  have hS : strOf (l ++ put n k) = strOf l ++ strOf (put n k) := strOf_append _ _
  have hsize : (strOf l).size + (strOf (put n k)).size ≤ 9223372036854775807 := by rw [strOf_size, strOf_size, put_length]; omega
  generalize strOf (l ++ put n k) = S1 at hq0 HQ hS
  generalize strOf l = S2 at hp0 HPP hS hsize
  generalize strOf (put n k) = S3 at HStep hS hsize
  have hE : (S1.toList == (S2 ++ S3).toList) = true := by rw [hS]; simp
  have HS := Lib.hid hS
  clear hS
  have hx : n % 2 ^ (8 * k) < 2 ^ 64 := Nat.lt_of_le_of_lt (Nat.mod_le _ _) hn
  have hand : k < 8 → bits .and .u64 (n : Int) (IntKind.u64.wrap (IntKind.u64.wrap (2 ^ (8 * k)) - 1)) = ((n % 2 ^ (8 * k) : Nat) : Int) := fun hk => by
    have h1 : 2 ^ (8 * k) ≤ 2 ^ 56 := Nat.pow_le_pow_right (by omega) (by omega)
    have h0 : 1 ≤ 2 ^ (8 * k) := Nat.one_le_two_pow
    have e1 : IntKind.u64.wrap ((2 : Int) ^ (8 * k)) = ((2 ^ (8 * k) : Nat) : Int) := by
      rw [show ((2 : Int) ^ (8 * k)) = ((2 ^ (8 * k) : Nat) : Int) by simp, IntKind.wrap_u64]; omega
    have e2 : IntKind.u64.wrap (((2 ^ (8 * k) : Nat) : Int) - 1) = ((2 ^ (8 * k) - 1 : Nat) : Int) := by
      rw [IntKind.wrap_u64]; omega
    rw [e1, e2, u64_and_nat _ _ hn (by omega), Nat.and_two_pow_sub_one_eq_mod]
  have hall : ¬ k < 8 → n % 2 ^ (8 * k) = n := fun h => by rw [show k = 8 by omega]; exact Nat.mod_eq_of_lt hn
  generalize n % 2 ^ (8 * k) = x at HGT hx hand hall
  have hxx : ((x : Int) == (x : Int)) = true := by simp
  have HAnd := Lib.hid hand
  have HAll := Lib.hid hall
  clear hand hall
  have hb0 : Below w3.heap.size w3 w3.drew := below_drewN (Below.refl _ _) 1
  by_cases hk7 : k < 8
  · have hand := HAnd.out hk7
    clear hb0
    go_wp2
    go_region_held (fun W => (convert 22 9 (.slice (some ⟨g, 0, none⟩) (l.length + k) cap3)).run Tryd.prog W = .ok (.string S1) W ∧ (convert 22 9 (.slice a l.length cap)).run Tryd.prog W = .ok (.string S2) W) (first | exact ⟨hq0, hp0⟩ | exact ⟨hq4, hp4⟩) (first | (go_at_call 14; ((with_reducible refine HRef.out.mono ?_); intro e w4 hnb; obtain ⟨g4, c4, rfl, hb4, hc4⟩ := HStep.out _ _ hnb; have hq4 := HQ.out _ hb4; have hp4 := HPP.out _ hb4; clear hnb)) | (go_at_call 15; ((with_reducible refine (HGT.out _ (by assumption)).mono ?_); rintro e w5 ⟨rfl, rfl⟩)) | (go_at_call 15; ((with_reducible refine (get_nil _).mono ?_); rintro e w5 ⟨rfl, rfl⟩)))
    all_goals
      go_wp2
      go_ret
      exact ⟨rfl, hB3.trans ((by assumption : Below w3.heap.size w3 _).mono hB3.size)⟩
  · have hall : ((x : Int) == (n : Int)) = true := by rw [HAll.out hk7]; simp
    clear hb0
    go_wp2
    go_region_held (fun W => (convert 22 9 (.slice (some ⟨g, 0, none⟩) (l.length + k) cap3)).run Tryd.prog W = .ok (.string S1) W ∧ (convert 22 9 (.slice a l.length cap)).run Tryd.prog W = .ok (.string S2) W) (first | exact ⟨hq0, hp0⟩ | exact ⟨hq4, hp4⟩) (first | (go_at_call 14; ((with_reducible refine HRef.out.mono ?_); intro e w4 hnb; obtain ⟨g4, c4, rfl, hb4, hc4⟩ := HStep.out _ _ hnb; have hq4 := HQ.out _ hb4; have hp4 := HPP.out _ hb4; clear hnb)) | (go_at_call 15; ((with_reducible refine (HGT.out _ (by assumption)).mono ?_); rintro e w5 ⟨rfl, rfl⟩)) | (go_at_call 15; ((with_reducible refine (get_nil _).mono ?_); rintro e w5 ⟨rfl, rfl⟩)))
    all_goals
      go_wp2
      go_ret
      exact ⟨rfl, hB3.trans ((by assumption : Below w3.heap.size w3 _).mono hB3.size)⟩

theorem nums_any (l : List Nat) (a : Option Addr) (cap n s : Nat) (w : World) (hr : Rd w a l) (hnil : a = none → cap = 0) (hT : Tab w) (hn : n < 2 ^ 64) (hs : s < 256) :
    Calls Tryd.prog 3 #[.slice a l.length cap, .int .u64 n, .int .u8 s] w (Yes w) := by
  rcases Nat.lt_or_ge 500 l.length with h | h
  · exact nums_long l a cap n s w hT h hr.2.1
  · exact nums_short l a cap n s w hr hnil hT h hn hs
end Go.Proofs.YtmadcbpeiibfaaaDoor
