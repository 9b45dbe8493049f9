/- The walk of the law OctetGets: the number of a number's bytes is that of the first ones, and that of the others. -/
import Derived.Test.YtmadcbpeiibfaaaDoorAwake
namespace Go.Proofs.YtmadcbpeiibfaaaDoor
open Go.RowKit
open Drawbar

theorem Rd.take {w : World} {a : Option Addr} {l : List Nat} (h : Rd w a l) (c : Nat) : Rd w a (l.take c) := by
  obtain ⟨hl, hlen, hc⟩ := h
  refine ⟨fun x hx => hl x (List.mem_of_mem_take hx), by rw [List.length_take]; omega, fun h0 => ?_⟩
  rw [List.length_take] at h0
  obtain ⟨b, off, rfl, hcell⟩ := hc (by omega)
  refine ⟨b, off, rfl, fun i hi => ?_⟩
  rw [List.length_take] at hi
  rw [hcell i (by omega), List.getD_eq_getElem?_getD, List.getD_eq_getElem?_getD, List.getElem?_take_of_lt (by omega)]

theorem Rd.drop {w : World} {b off : Nat} {l : List Nat} (h : Rd w (some ⟨b, off, none⟩) l) (c : Nat) : Rd w (some ⟨b, off + c, none⟩) (l.drop c) := by
  obtain ⟨hl, hlen, hc⟩ := h
  refine ⟨fun x hx => hl x (List.mem_of_mem_drop hx), by rw [List.length_drop]; omega, fun h0 => ?_⟩
  rw [List.length_drop] at h0
  obtain ⟨b', off', e, hcell⟩ := hc (by omega)
  cases e
  refine ⟨b, off + c, rfl, fun i hi => ?_⟩
  rw [List.length_drop] at hi
  rw [Nat.add_assoc, hcell (c + i) (by omega), List.getD_eq_getElem?_getD, List.getD_eq_getElem?_getD, List.getElem?_drop]

theorem rd_empty (w : World) (a : Option Addr) : Rd w a [] := ⟨by simp, by simp, fun h => absurd h (by simp)⟩

/-- A row that isn't empty, opened. -/
theorem rd_of_own' {w : World} {base : Nat} {v : Value} {n : Nat} {l : List Nat} (h : w.ownsRow base 5 1 v n (l.map bv)) (hl : ∀ x ∈ l, x < 256) (hn : l.length ≤ 140737488351232) (h0 : 0 < l.length) :
    ∃ g cap, v = .slice (some ⟨g, 0, none⟩) l.length cap ∧ l.length ≤ cap ∧ Rd w (some ⟨g, 0, none⟩) l ∧ base ≤ g ∧ g < w.heap.size := by
  obtain ⟨a, cap, rfl, h1, h2, _, h3⟩ := rd_of_own h hl hn
  rcases h.2 with ⟨e, _⟩ | ⟨g, cap', cur, e, _⟩
  · simp at e; omega
  · simp only [Value.slice.injEq] at e
    obtain ⟨rfl, _, rfl⟩ := e
    exact ⟨g, cap, rfl, h1, h2, h3 _ rfl⟩

theorem gets_any (n s cut : Nat) (w : World) (hT : Tab w) (_hn : n < 2 ^ 64) (hs : s < 256) (hcut : cut < 256) :
    Calls Tryd.prog 10 #[.int .u64 n, .int .u8 s, .int .u8 cut] w (Yes w) := by
  obtain ⟨k, hk1, hk8, hk⟩ : ∃ k : Nat, 1 ≤ k ∧ k ≤ 8 ∧ 1 + (s : Int) % 8 = k := ⟨1 + s % 8, by omega, by omega, by omega⟩
  obtain ⟨c, hck, hc⟩ : ∃ c : Nat, c ≤ k ∧ (cut : Int) % (k + 1) = c := ⟨cut % (k + 1), by have := Nat.mod_lt cut (show 0 < k + 1 by omega); omega, by simp⟩
  go_enter Tryd.func10, Tryd.ntmps10
  go_wp2_with (go_at_call 12; refine (awake_any w hT).mono ?_; rintro e w1 ⟨rfl, hb1⟩)
  refine (put_any [] none 0 n k _ (rd_nil _) (by simp) hk1 hk8).mono ?_
  rintro e w2 ⟨v, rfl, hown, hbel⟩
  rw [List.nil_append] at hown
  obtain ⟨g, cap, rfl, hcap, hrd, hg, _⟩ := rd_of_own' hown (put_lt n k) (by rw [put_length]; omega) (by rw [put_length]; omega)
  rw [put_length] at hcap
  have hB : Below w.heap.size w w2 := hb1.trans (hbel.mono hb1.size)
  have hget := get_any (put n k) (some ⟨g, 0, none⟩) cap w2 hrd
  have hlow := get_any ((put n k).take c) (some ⟨g, 0, none⟩) cap w2 (hrd.take c)
  have hsum : Crc.le ((put n k).take c) + Crc.le ((put n k).drop c) * 2 ^ (8 * c) = Crc.le (put n k) := by
    conv => rhs; rw [← List.take_append_drop c (put n k)]
    rw [Crc.le_append, List.length_take, put_length, Nat.min_eq_left hck, Nat.mul_comm]
  have hmax : Crc.le (put n k) < 2 ^ 64 := by
    have := Crc.le_lt (put n k) (put_lt n k)
    rw [put_length] at this
    exact Nat.lt_of_lt_of_le this (Nat.pow_le_pow_right (by omega) (by omega))
  have hc8 : 8 ≤ c → Crc.le ((put n k).drop c) = 0 := fun h => by
    rw [List.drop_of_length_le (by rw [put_length]; omega)]; rfl
  rw [List.take_of_length_le (by rw [put_length]; omega)] at hget
  rw [List.take_of_length_le (i := 8) (l := (put n k).take c) (by rw [List.length_take, put_length]; omega), List.length_take, put_length, Nat.min_eq_left hck] at hlow
  rw [put_length] at hget
  have hhigh : ∀ ad : Option Addr, ∀ cp, (c < cap → ad = some ⟨g, c, none⟩) → Calls Tryd.prog 15 #[.slice ad (k - c) cp] w2 fun e w' => e = .returned (.int .u64 (Crc.le ((put n k).drop c) : Nat)) ∧ w2 = w' := by
    intro ad cp had
    have hrd2 : Rd w2 ad ((put n k).drop c) := by
      rcases Nat.lt_or_ge c cap with h | h
      · rw [had h]; simpa using hrd.drop c
      · rw [List.drop_of_length_le (by rw [put_length]; omega)]; exact rd_empty _ _
    have := get_any ((put n k).drop c) ad cp w2 hrd2
    rw [List.take_of_length_le (i := 8) (l := (put n k).drop c) (by rw [List.length_drop, put_length]; omega), List.length_drop, put_length] at this
    exact this
  generalize Crc.le ((put n k).take c) = lo at hlow hsum
  generalize Crc.le ((put n k).drop c) = hi at hhigh hsum hc8
  generalize Crc.le (put n k) = tot at hget hsum hmax
  have HG := Lib.hid hget
  have HL := Lib.hid hlow
  have HH := Lib.hid hhigh
  have HS := Lib.hid hsum
  simp only [hc, put_length]
  clear hget hlow hhigh hsum hown hbel hrd hb1 hc hk
  have fin1 : hi * 2 ^ (8 * c) < 2 ^ 64 := by have := HS.out; omega
  have hw : IntKind.u64.wrap ((hi : Int) * 2 ^ (8 * c)) = ((hi * 2 ^ (8 * c) : Nat) : Int) := by
    rw [IntKind.wrap_u64, show ((hi : Int) * 2 ^ (8 * c)) = ((hi * 2 ^ (8 * c) : Nat) : Int) by simp]; omega
  have HW := Lib.hid hw
  clear hw
  have hcase : (c < 8 ∧ decide ((c : Int) < 8) = true) ∨ (8 ≤ c ∧ hi = 0 ∧ decide ((c : Int) < 8) = false) := by
    rcases Nat.lt_or_ge c 8 with h | h
    · exact .inl ⟨h, by simp; omega⟩
    · exact .inr ⟨h, hc8 h, by simp; omega⟩
  clear hc8
  go_wp2_with fail
  refine HL.out.mono ?_
  rintro e w3 ⟨rfl, rfl⟩
  have hcc : (c < cap ∧ (cap = c) = False) ∨ cap = c := by
    rcases Nat.lt_or_ge c cap with h | h
    · exact .inl ⟨h, by simp; omega⟩
    · exact .inr (by omega)
  have key : ∀ ad, (c < cap → ad = some ⟨g, c, none⟩) → ∀ cp, Calls Tryd.prog 15 #[.slice ad (k - c) cp] w2 fun e w' => e = .returned (.int .u64 (hi : Nat)) ∧ w2 = w' := fun ad h cp => HH.out ad cp h
  have HKey := Lib.hid key
  clear key HH
  have hend : IntKind.u64.wrap ((lo : Int) + (hi : Int) * 2 ^ (8 * c)) = (lo : Int) + (hi : Int) * 2 ^ (8 * c) := by
    rw [show ((lo : Int) + (hi : Int) * 2 ^ (8 * c)) = ((lo + hi * 2 ^ (8 * c) : Nat) : Int) by simp, HS.out, IntKind.wrap_u64]; omega
  have HE := Lib.hid hend
  clear hend
  have key0 : cap = c → ∀ ad cp, Calls Tryd.prog 15 #[.slice ad 0 cp] w2 fun e w' => e = .returned (.int .u64 (hi : Nat)) ∧ w2 = w' := fun h ad cp => by
    have := HKey.out ad (fun h' => by omega) cp
    rwa [show k - c = 0 by omega] at this
  have HKey0 := Lib.hid key0
  clear key0
  rcases hcc with ⟨h1, h2⟩ | h1
  · clear HKey0
    go_wp2_with fail
    refine (HKey.out _ (fun _ => rfl) _).mono ?_
    rintro e w3 ⟨rfl, rfl⟩
    rcases hcase with ⟨h3, h4⟩ | ⟨h3, h4, h5⟩
    · go_wp2_with fail
      refine HG.out.mono ?_
      rintro e w3 ⟨rfl, rfl⟩
      rw [HW.out, ← HS.out]
      go_wp2
      go_ret
      exact ⟨by simp [HE.out], hB⟩
    · have h6 : lo = tot := by have := HS.out; subst h4; simpa using this
      subst h6
      clear h4 HS HW fin1 HE
      go_wp2_with fail
      refine HG.out.mono ?_
      rintro e w3 ⟨rfl, rfl⟩
      go_wp2
      go_ret
      exact ⟨by simp, hB⟩
  · have HK1 := Lib.hid (HKey0.out h1)
    subst h1
    clear HKey HKey0
    go_wp2_with fail
    refine (HK1.out _ _).mono ?_
    rintro e w3 ⟨rfl, rfl⟩
    rcases hcase with ⟨h3, h4⟩ | ⟨h3, h4, h5⟩
    · go_wp2_with fail
      refine HG.out.mono ?_
      rintro e w3 ⟨rfl, rfl⟩
      rw [HW.out, ← HS.out]
      go_wp2
      go_ret
      exact ⟨by simp [HE.out], hB⟩
    · have h6 : lo = tot := by have := HS.out; subst h4; simpa using this
      subst h6
      clear h4 HS HW fin1 HE
      go_wp2_with fail
      refine HG.out.mono ?_
      rintro e w3 ⟨rfl, rfl⟩
      go_wp2
      go_ret
      exact ⟨by simp, hB⟩
end Go.Proofs.YtmadcbpeiibfaaaDoor
