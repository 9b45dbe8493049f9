/- The law PmapFull answers true. -/
import Derived.Test.YtfehioapjoihkaaPMoves
import Derived.Deep.QuietTactic
import Derived.BigQuiet
namespace Drawbar.Pm
/-- Addresses below n are on block 1, the greater ones ahead. -/
structure Full (n : Nat) (s : St) : Prop where
  a : s.addrs = 40
  b : s.blocks = 3
  at_ : ∀ k v, s.at_ k = some v → k < n ∧ v = (1, n - 1 - k)
theorem Full.new (n : Nat) : Full n (St.new 40 3) := ⟨rfl, rfl, fun k v h => by cases h⟩
theorem Full.put {n : Nat} {s : St} (h : Full n s) (k : Nat) (hk : k < n) : Full n (s.put k (some (1, n - 1 - k))) := ⟨h.a, h.b, fun j v hj => by
  by_cases e : j = k
  · subst e; rw [put_same] at hj; cases hj; exact ⟨hk, rfl⟩
  · rw [put_other _ _ _ _ e] at hj; exact h.at_ j v hj⟩
theorem Full.apart {n : Nat} {s : St} (h : Full n s) : Apart s := fun j k v hj hk => by
  obtain ⟨h1, h2⟩ := h.at_ j v hj
  obtain ⟨h3, h4⟩ := h.at_ k v hk
  rw [h2] at h4
  simp only [Prod.mk.injEq, true_and] at h4
  omega
theorem Full.none_on {n : Nat} {s : St} (h : Full n s) (b : Nat) (hb : b ≠ 1) : s.cnt b = 0 := cntTo_none _ fun k _ => by
  cases e : s.at_ k with
  | none => rfl
  | some v =>
    obtain ⟨_, rfl⟩ := h.at_ k v e
    simp [on]; omega
/-- What On tells of it: each below n, falling. -/
theorem Full.told {n : Nat} {s : St} (h : Full n s) {l : List Nat} (hp : l.Perm (s.ons 1)) (hb : l.Pairwise fun x y => pgOf (s.at_ x) ≤ pgOf (s.at_ y)) :
    (∀ i, i < l.length → l.getD i 0 < n ∧ l.getD i 0 < 40 ∧ s.at_ (l.getD i 0) = some (1, n - 1 - l.getD i 0)) ∧ ∀ i, i + 1 < l.length → l.getD (i + 1) 0 < l.getD i 0 := by
  have hat : ∀ i, i < l.length → l.getD i 0 < n ∧ l.getD i 0 < 40 ∧ s.at_ (l.getD i 0) = some (1, n - 1 - l.getD i 0) := fun i hi => by
    have hm : l.getD i 0 ∈ s.ons 1 := hp.mem_iff.1 (by rw [List.getD_eq_getElem?_getD, List.getElem?_eq_getElem hi]; exact List.getElem_mem hi)
    obtain ⟨h1, h2⟩ := mem_ons.1 hm
    obtain ⟨p, hp⟩ := on_iff.1 h2
    obtain ⟨h3, h4⟩ := h.at_ _ _ hp
    rw [h.a] at h1
    exact ⟨h3, h1, by rw [hp, h4]⟩
  refine ⟨hat, fun i hi => ?_⟩
  have hnd : l.Nodup := hp.nodup_iff.2 (List.nodup_range.filter _)
  have e1 : l.getD i 0 = l[i]'(by omega) := by rw [List.getD_eq_getElem?_getD, List.getElem?_eq_getElem (by omega)]; rfl
  have e2 : l.getD (i + 1) 0 = l[i + 1]'hi := by rw [List.getD_eq_getElem?_getD, List.getElem?_eq_getElem hi]; rfl
  have h1 := (List.pairwise_iff_getElem.1 hb) i (i + 1) (by omega) hi (by omega)
  have h2 := (List.pairwise_iff_getElem.1 hnd) i (i + 1) (by omega) hi (by omega)
  rw [← e1, ← e2] at h1 h2
  obtain ⟨a1, -, a2⟩ := hat i (by omega)
  obtain ⟨b1, -, b2⟩ := hat (i + 1) hi
  rw [a2, b2] at h1
  simp only [pgOf] at h1
  omega
end Drawbar.Pm
namespace Go.Proofs.Ytfehioapjoihkaa
open Go.RowKit
open Drawbar Drawbar.Pm

set_option maxHeartbeats 2000000 in
theorem full_any (y z : Nat) (hy : y < 256) (hz : z < 256) (w : World) : Calls Try.prog 6 #[.int .u8 y, .int .u8 z] w (Yes w) := by
  obtain ⟨n, hn⟩ : ∃ n, n = 1 + y % 32 := ⟨_, rfl⟩
  have hn1 : 1 ≤ n := by omega
  have hn9 : n ≤ 32 := by omega
  have e1 : 1 + (y : Int) % 32 = (n : Int) := by omega
  have y0 : (0 : Int) ≤ y := by omega
  have y9 : (y : Int) ≤ 255 := by omega
  have z0 : (0 : Int) ≤ z := by omega
  have z9 : (z : Int) ≤ 255 := by omega
  have n0 : (1 : Int) ≤ n := by omega
  have n9 : (n : Int) ≤ 32 := by omega
  clear hn
  go_enter Try.func6, Try.ntmps6
  go_wp2_with fail
  refine (awake_any _).mono ?_
  rintro e w1 ⟨rfl, b1⟩
  have hnw : Calls Try.prog 12 #[.int .i64 40, .int .i64 3] w1 (Made w1 (St.new 40 3)) := new_any 40 3 w1 (by omega) (by omega) (by omega) (by omega)
  have HN := Lib.hid hnw
  have B1 := Lib.hid b1
  clear hnw b1
  go_wp2_with fail
  refine HN.out.mono ?_
  intro e w2 hm
  obtain ⟨g, pb, cb, rfl, h2, b2⟩ := hm.mine
  have H2 : Hid (Mine w.heap.size w2 g pb cb (St.new 40 3)) := Lib.hid ⟨h2.at_, Nat.le_trans B1.out.size h2.g9, Nat.le_trans B1.out.size h2.p9, Nat.le_trans B1.out.size h2.c9⟩
  have B2 : Hid (Below w.heap.size w w2) := Lib.hid (B1.out.trans (b2.mono B1.out.size))
  have F2 := Lib.hid (Full.new n)
  clear hm HN h2 b2
  go_wp2
  go_loopw [8] (fun iv wr => ∃ (i : Nat) (s : St), iv = .int .i64 i ∧ i ≤ n ∧ Hid (Mine w.heap.size wr g pb cb s) ∧ Hid (Full n s) ∧ Hid (Below w.heap.size w wr)) (fun iv _ => n - (intOf iv).toNat)
  case atStart => exact ⟨0, _, rfl, Nat.zero_le _, H2, F2, B2⟩
  case round =>
    obtain ⟨i, s, rfl, hi, HR, FR, BR⟩ := hrel
    clear H2 B2 B1 F2
    have ha := FR.out.a
    have hbk := FR.out.b
    by_cases hlt : i < n
    · have i2 : (i : Int) < (n : Int) := by omega
      obtain ⟨q, hq⟩ : ∃ q, q = i * (2 * z + 1) := ⟨_, rfl⟩
      have hq9 : q ≤ 32 * 511 := by rw [hq]; exact Nat.mul_le_mul (by omega) (by omega)
      have e3 : (i : Int) * (2 * (z : Int) + 1) = (q : Int) := by rw [hq]; simp
      obtain ⟨k, hk⟩ : ∃ k, k = (q + z) % n := ⟨_, rfl⟩
      have hkn : k < n := by rw [hk]; exact Nat.mod_lt _ hn1
      have e4 : ((q : Int) + (z : Int)) % (n : Int) = (k : Int) := by rw [hk]; simp
      have q0 : (0 : Int) ≤ q := by omega
      have q9 : (q : Int) ≤ 16352 := by omega
      have hget := get_in HR.out.at_ k (by omega)
      have HG := Lib.hid hget
      have HK := Lib.hid hkn
      obtain ⟨pg, hpg⟩ : ∃ pg, pg = n - 1 - k := ⟨_, rfl⟩
      have e5 : (n : Int) - 1 - (k : Int) = (pg : Int) := by omega
      have HPG := Lib.hid hpg
      have k0 : (0 : Int) ≤ k := by omega
      have k9 : (k : Int) < n := by omega
      have hka : k < s.addrs := by omega
      have HA := Lib.hid hka
      have HBK := Lib.hid hbk
      clear hq hk hget ha hbk hpg hka
      cases hv : s.at_ k with
      | none =>
        rw [hv] at HG
        have HG2 : Hid (Calls Try.prog 16 #[.pointer (some ⟨g, 0, none⟩), .int .i64 k] wr fun e w' => e = .returned (.tuple #[.agg #[.int .i64 0, .int .i64 0], .bool false]) ∧ Below wr.heap.size wr w') := HG
        clear HG hv
        go_wp2_with fail
        refine HG2.out.mono ?_
        rintro e W1 ⟨rfl, hb1⟩
        have M1 := (HR.out.below hb1).below ((Below.refl _ _).alloc (Nat.le_refl _) (.cells #[.int .i64 0, .int .i64 0] 34))
        have L1 := (BR.out.trans (hb1.mono BR.out.size)).alloc (Nat.le_trans BR.out.size hb1.size) (.cells #[.int .i64 0, .int .i64 0] 34)
        have hset : Calls Try.prog 14 #[.pointer (some ⟨g, 0, none⟩), .int .i64 k, .agg #[.int .i64 1, .int .i64 pg]] _ fun e w' => e = .returned (.int .i64 0) ∧ Become _ g pb cb (s.put k (some (1, pg))) w' := set_in M1.at_ k 1 pg HA.out (by have := HBK.out; omega) (by have := HPG.out; omega)
        have HS := Lib.hid hset
        have HM1 := Lib.hid M1
        have HL1 := Lib.hid L1
        have HF : Hid (Full n (s.put k (some (1, pg)))) := Lib.hid (by rw [HPG.out]; exact FR.out.put k HK.out)
        clear M1 L1 hb1 HG2 HR BR FR hset
        go_wp2_with fail
        refine HS.out.mono ?_
        rintro e W2 ⟨rfl, hbc⟩
        have HM2 := Lib.hid (HM1.out.become hbc)
        have HL2 := Lib.hid (HL1.out.trans (HM1.out.low hbc HL1.out.size))
        clear hbc HS HM1 HL1
        go_wp2_with fail
        go_roundw
        case rel => exact ⟨i + 1, _, by go_num, by omega, HM2, HF, HL2⟩
        case measure => simp [intOf]; omega
      | some v =>
        obtain ⟨b, p⟩ := v
        rw [hv] at HG
        have HG2 : Hid (Calls Try.prog 16 #[.pointer (some ⟨g, 0, none⟩), .int .i64 k] wr fun e w' => e = .returned (.tuple #[.agg #[.int .i64 b, .int .i64 p], .bool true]) ∧ Below wr.heap.size wr w') := HG
        clear HG hv
        go_wp2_with fail
        refine HG2.out.mono ?_
        rintro e W1 ⟨rfl, hb1⟩
        have HM1 := Lib.hid ((HR.out.below hb1).below ((Below.refl _ _).alloc (Nat.le_refl _) (.cells #[.int .i64 b, .int .i64 p] 34)))
        have HL1 := Lib.hid ((BR.out.trans (hb1.mono BR.out.size)).alloc (Nat.le_trans BR.out.size hb1.size) (.cells #[.int .i64 b, .int .i64 p] 34))
        clear hb1 HG2 HR BR
        go_wp2_with fail
        go_roundw
        case rel => exact ⟨i + 1, s, by go_num, by omega, HM1, FR, HL1⟩
        case measure => simp [intOf]; omega
    · have i2 : ¬ (i : Int) < (n : Int) := by omega
      have hon := on_in HR.out.at_ FR.out.apart 1 (by omega)
      have hon2 : Calls Try.prog 19 #[.pointer (some ⟨g, 0, none⟩), .int .i64 1] wr (Ons s 1 wr) := hon
      have HON := Lib.hid hon2
      have HBK := Lib.hid hbk
      have HAK := Lib.hid ha
      clear hon hon2 ha hbk
      go_wp2_with fail
      refine HON.out.mono ?_
      rintro e w4 ⟨a4, l4, c4, rfl, hrd, hperm, hby, hb4⟩
      have HT := Lib.hid (FR.out.told hperm hby)
      have HLN := Lib.hid (hperm.length_eq.trans (ons_length s 1))
      have HM4 := Lib.hid (HR.out.below hb4)
      have HL4 := Lib.hid (BR.out.trans (hb4.mono BR.out.size))
      have HRD := Lib.hid hrd
      have l9 : (l4.length : Int) ≤ 40 := by
        have h1 := hperm.length_eq.trans (ons_length s 1)
        have h2 := cnt_le s 1
        have := HAK.out
        omega
      clear hrd hperm hby hb4 HON HR BR
      go_wp2
      go_loopw [13] (fun iv wr => ∃ j : Nat, iv = .int .i64 j ∧ j ≤ l4.length ∧ Hid (Mine w.heap.size wr g pb cb s) ∧ Hid (Below w.heap.size w wr) ∧ Hid (RdN wr a4 l4)) (fun iv _ => l4.length - (intOf iv).toNat)
      case atStart => exact ⟨0, rfl, Nat.zero_le _, HM4, HL4, HRD⟩
      case round =>
        obtain ⟨j, rfl, hj, HR, BR, RD⟩ := hrel
        clear HM4 HL4 HRD
        by_cases hlt2 : j < l4.length
        · have j2 : (j : Int) < (l4.length : Int) := by omega
          obtain ⟨lb, lo, rfl, hcl⟩ := RD.out (by omega)
          have c0 := hcl j hlt2
          obtain ⟨hx1, hx3, hx2⟩ := HT.out.1 j hlt2
          have hget := get_in HR.out.at_ (l4.getD j 0) (by have := HAK.out; omega)
          rw [hx2] at hget
          have hpv : 0 < j → wr.cell? ⟨lb, lo + (j - 1), none⟩ = some (.int .i64 (l4.getD (j - 1) 0 : Nat)) ∧ l4.getD j 0 < l4.getD (j - 1) 0 := fun h0 => ⟨hcl (j - 1) (by omega), by
            have := HT.out.2 (j - 1) (by omega)
            rwa [show j - 1 + 1 = j by omega] at this⟩
          have HPV := Lib.hid hpv
          have hlbl : lb < wr.heap.size := World.block_lt_of_cell? wr _ c0
          generalize l4.getD j 0 = x at c0 hx1 hx3 hget HPV
          obtain ⟨pg, hpg⟩ : ∃ pg, pg = n - 1 - x := ⟨_, rfl⟩
          have e5 : (n : Int) - 1 - (x : Int) = (pg : Int) := by omega
          rw [← hpg] at hget
          have HG2 : Hid (Calls Try.prog 16 #[.pointer (some ⟨g, 0, none⟩), .int .i64 x] wr fun e w' => e = .returned (.tuple #[.agg #[.int .i64 1, .int .i64 pg], .bool true]) ∧ Below wr.heap.size wr w') := Lib.hid hget
          have x0 : (0 : Int) ≤ x := by omega
          have x9 : (x : Int) < n := by omega
          have j0 : (0 : Int) ≤ j := by omega
          have hx2' := hx2
          clear hcl hx2 hx2' hget hpg hpv
          go_wp2_with fail
          refine HG2.out.mono ?_
          rintro e W1 ⟨rfl, hb1⟩
          have HM1 := Lib.hid (((HR.out.below hb1).below ((Below.refl _ _).alloc (Nat.le_refl _) (.cells #[.int .i64 1, .int .i64 pg] 34))).below (Below.drewB (Below.refl _ _)))
          have HL1 := Lib.hid (Below.drewB ((BR.out.trans (hb1.mono BR.out.size)).alloc (Nat.le_trans BR.out.size hb1.size) (.cells #[.int .i64 1, .int .i64 pg] 34)))
          have HRD1 := Lib.hid (((RD.out.below hb1).alloc (.cells #[.int .i64 1, .int .i64 pg] 34)).below (Below.drewB (Below.refl _ _)))
          have d0 : W1.cell? ⟨lb, lo + j, none⟩ = some (.int .i64 x) := (hb1.cell (p := ⟨lb, lo + j, none⟩) hlbl).trans c0
          have hlb1 : lb < W1.heap.size := World.block_lt_of_cell? W1 _ d0
          by_cases hj0 : 0 < j
          · obtain ⟨c1, hx4⟩ := HPV.out hj0
            have d1 := (hb1.cell (p := ⟨lb, lo + (j - 1), none⟩) hlbl).trans c1
            generalize l4.getD (j - 1) 0 = u at d1 hx4
            obtain ⟨jp, rfl⟩ : ∃ jp, j = jp + 1 := ⟨j - 1, by omega⟩
            rw [show jp + 1 - 1 = jp by omega] at d1
            have u0 : ¬ ((u : Int) ≤ (x : Int)) := by omega
            have u1 : decide ((u : Int) ≤ (x : Int)) = false := decide_eq_false u0
            have j3 : (0 : Int) < (jp : Int) + 1 := by omega
            clear hb1 HG2 HR BR RD c0 c1 hlbl HPV
            go_wp2_with fail
            go_region
            go_wp2_with fail
            go_roundw
            case rel => exact ⟨jp + 1 + 1, by go_num, by omega, HM1, HL1, HRD1⟩
            case measure => simp [intOf]; omega
          · have j3 : ¬ (0 : Int) < (j : Int) := by omega
            have j4 : decide (0 < j) = false := decide_eq_false hj0
            have j5 : decide ((0 : Int) < (j : Int)) = false := decide_eq_false j3
            clear hb1 HG2 HR BR RD c0 hlbl HPV hj0
            go_wp2_with fail
            go_region
            go_wp2_with fail
            go_roundw
            case rel => exact ⟨j + 1, by go_num, by omega, HM1, HL1, HRD1⟩
            case measure => simp [intOf]; omega
        · obtain rfl : j = l4.length := by omega
          have i3 : ¬ (l4.length : Int) < (l4.length : Int) := by omega
          have h1 : Calls Try.prog 17 #[.pointer (some ⟨g, 0, none⟩), .int .i64 1] wr fun e w' => e = .returned (.int .i64 l4.length) ∧ wr = w' := by
            rw [HLN.out]; exact count_in HR.out.at_ 1 (by have := HBK.out; omega)
          have h0 : Calls Try.prog 17 #[.pointer (some ⟨g, 0, none⟩), .int .i64 0] wr fun e w' => e = .returned (.int .i64 0) ∧ wr = w' := by
            have := count_in HR.out.at_ 0 (by have := HBK.out; omega)
            rw [FR.out.none_on 0 (by omega)] at this
            exact this
          have h2 : Calls Try.prog 17 #[.pointer (some ⟨g, 0, none⟩), .int .i64 2] wr fun e w' => e = .returned (.int .i64 0) ∧ wr = w' := by
            have := count_in HR.out.at_ 2 (by have := HBK.out; omega)
            rw [FR.out.none_on 2 (by omega)] at this
            exact this
          have H0 := Lib.hid h0
          have H1 := Lib.hid h1
          have H2 := Lib.hid h2
          clear h0 h1 h2
          go_wp2_with fail
          refine H1.out.mono ?_
          rintro e w' ⟨rfl, rfl⟩
          go_wp2_with fail
          refine H0.out.mono ?_
          rintro e w' ⟨rfl, rfl⟩
          go_wp2_with fail
          refine H2.out.mono ?_
          rintro e w' ⟨rfl, rfl⟩
          go_wp2
          go_ret
          exact ⟨by simp, BR.out⟩
end Go.Proofs.Ytfehioapjoihkaa
