/- The walk of the law LogbookFenced. -/
import Derived.Test.YtcbgccmoeleanaaDoorUse
namespace Drawbar.Log
open Go.RowKit
open Go.Proofs.YtcbgccmoeleanaaDoor Drawbar Drawbar.Sheet Drawbar.Nand

theorem erase_fenced {s : Arr} {n p f m : Nat} (h : Nm s n p f m) (i : Nat) (hi : i < n) (e : Nat) (he : e < f) : s.erase i e = (7, s) := by
  unfold Arr.erase
  rw [if_neg (fun hh => hh (inB_nat (by rw [h.n]; exact hi))), if_neg (by rw [h.off]; simp), if_pos (by rw [h.f]; exact he)]
theorem begin_fenced {s : Arr} {n p f m : Nat} (h : Nm s n p f m) (h2 : 2 ≤ n) (q : Nat) (hq : q < 2) (y : En) (he : y.e < f) : beginS s (1 - (q : Int)) y = (7, s) := by
  rw [oth_cast _ hq]
  unfold beginS
  have ho := oth_lt q
  rw [erase_fenced h (oth q) (by omega) y.e he]
  exact if_neg (show ¬ (7 : Int) = 0 by decide)
/-- In the name of an epoch below the fence nothing is claimed. -/
theorem Inv.claim_fence {s : Arr} {n p f m : Nat} {x : En} (h : Inv s n p f m x) (y : En) (hy : okE y = true) (hxy : x.e < y.e) (he : y.e < f) : claimS s y = (7, s) := by
  have hq := hom_lt s.b
  have hx := h.ehom
  have h2 := h.n2
  unfold claimS
  rw [if_neg (by rw [hy]; decide), h.open]
  dsimp only
  rw [if_neg (fun h => h rfl), home_hom, get_hom _ _ hq, if_neg (by show ¬ y.e ≤ (eB _).e; rw [hx]; omega)]
  by_cases ht : (heldB (s.b (hom s.b))).torn = true
  · rw [if_pos ht]
    exact begin_fenced h.nm h2 _ hq y he
  · rw [if_neg ht, h.nm.p]
    have ht2 : (s.b (hom s.b)).torn = false := by
      have e : ¬ (s.b (hom s.b)).torn = true := ht
      simpa using e
    rcases hk : p - (s.b (hom s.b)).pages.length with _ | k
    · exact begin_fenced h.nm h2 _ hq y he
    · have e7 : s.program (hom s.b) (s.b (hom s.b)).pages.length (pgE y) y.e = (7, s) := by
        unfold Arr.program
        rw [if_neg (fun hh => hh (inB_nat (by rw [h.nm.n]; omega))), if_neg (by rw [h.nm.off]; simp), if_neg (fun hh => hh (inB_nat (by rw [h.nm.p]; omega))), if_neg (by simp [pgE_length])]
        simp only [Int.toNat_natCast]
        rw [if_neg (by simp [ht2]), if_pos (by rw [h.nm.f]; exact he)]
      show (if _ then _ else _) = _
      rw [e7]
      exact if_neg (show ¬ (7 : Int) = 8 by decide)
end Drawbar.Log
namespace Go.Proofs.YtcbgccmoeleanaaDoor.Lg
open Go.RowKit
open Drawbar Drawbar.Sheet Drawbar.Nand Drawbar.Log Go.Proofs.YtcbgccmoeleanaaDoor.Nd

theorem claim_fenced {B : Nat} {w : World} {g n p f m : Nat} {x : En} (h : Has B w g n p f m x) (e0 : Nat) (w0 a b : Int) (ha : a = e0) (hb : b = w0) (hy : okE ⟨e0, w0⟩ = true) (hxy : x.e < e0) (he : e0 < f) :
    Calls Tryd.prog 12 #[.pointer (some ⟨g, 0, none⟩), .agg #[.int .u64 a, .int .i64 b]] w (fun e w' => e = .returned (.int .i64 7) ∧ Has B w' g n p f m x ∧ Below B w w') := by
  subst ha hb
  obtain ⟨s, hi, hc⟩ := claims h ⟨e0, b⟩
  rw [hi.claim_fence ⟨e0, b⟩ hy hxy he] at hc
  refine hc.mono ?_
  rintro e w' ⟨he, hm, hb, hs, hT⟩
  exact ⟨he, ⟨h.1, hs, hT, s, hm, hi⟩, hb⟩
theorem raise_has {B : Nat} {w : World} {g n p f m : Nat} {x : En} (h : Has B w g n p f m x) (k : Nat) (a : Int) (ha : a = k) (hk : f < k) (hk2 : k < 18446744073709551616) :
    Calls Tryd.prog 19 #[.pointer (some ⟨g, 0, none⟩), .int .u64 a] w (fun e w' => e = .returned (.int .i64 0) ∧ Has B w' g n p k m x ∧ Below B w w') := by
  subst ha
  obtain ⟨h0, hB, hT, s, hm, hi⟩ := h
  have e1 : s.raise k = (0, { s with fence := k }) := by
    unfold Arr.raise
    rw [if_neg (by rw [hi.nm.off]; simp), if_neg (by rw [hi.nm.f]; omega)]
  have hr := raise_m hm hB k hk2
  rw [e1] at hr
  refine hr.mono ?_
  rintro e w' ⟨he, hm', hb⟩
  exact ⟨he, ⟨h0, Nat.le_trans hB hb.size, Tab.low hT hb h0, _, hm', ⟨⟨hi.nm.n, hi.nm.p, rfl, hi.nm.m, hi.nm.off⟩, hi.n2, hi.p1, hi.fit, hi.rest, hi.last⟩⟩, hb⟩

set_option maxHeartbeats 1000000 in
theorem fenced_any (ep bb : Nat) (w : World) (h1 : ep < 4294967296) (h2 : bb < 65536) (hT : Tab w) : Calls Tryd.prog 6 #[.int .u32 ep, .int .u16 bb] w (Yes w) := by
  have HA := Lib.hid (awake_any w hT)
  have HT := Lib.hid hT
  clear hT
  go_enter Tryd.func6, Tryd.ntmps6
  go_wp2_with fail
  refine HA.out.mono ?_
  rintro e w1 ⟨rfl, hB1⟩
  have HN := Lib.hid (new_has' 2 3 2 3 rfl rfl w1 (HT.out.below hB1 HT.out.pos) (by omega) (by omega) (by omega) (by omega))
  clear HA
  go_wp2_with fail
  refine HN.out.mono ?_
  rintro e w2 ⟨g, rfl, hh2, hb2⟩
  have hB2 := hB1.trans (hb2.mono hB1.size)
  replace hh2 := hh2.base hB1.size HT.out.pos
  have HR := Lib.hid (raise_has hh2 (ep + 2 + bb) (1 + (ep : Int) + 1 + (bb : Int)) (by omega) (by omega) (by omega))
  clear hh2 hb2 HN hB1
  go_wp2_with fail
  refine HR.out.mono ?_
  rintro e w3 ⟨rfl, hh3, hb3⟩
  have hB3 := hB2.trans hb3
  have hok1 : okE ⟨1 + ep, 0⟩ = true := ok_of (by omega) (by omega) (by omega) (by omega)
  have hok2 : okE ⟨ep + 2 + bb, 1⟩ = true := ok_of (by omega) (by omega) (by omega) (by omega)
  have HC := Lib.hid (claim_fenced hh3 (1 + ep) 0 (1 + (ep : Int)) 0 (by omega) rfl hok1 (show 0 < 1 + ep by omega) (by omega))
  clear hh3 HR hb3 hB2
  go_wp2_with fail
  refine HC.out.mono ?_
  rintro e w4 ⟨rfl, hh4, hb4⟩
  have hB4 := hB3.trans hb4
  have HC2 := Lib.hid (claim_yes' hh4 (ep + 2 + bb) 1 (1 + (ep : Int) + 1 + (bb : Int)) 1 (by omega) rfl hok2 (show 0 < ep + 2 + bb by omega) (Nat.le_refl _))
  clear hh4 HC hb4 hB3 hok1 hok2
  go_wp2_with fail
  refine HC2.out.mono ?_
  rintro e w5 ⟨rfl, hh5, hb5⟩
  have hB5 := hB4.trans hb5
  have HL := Lib.hid (last_m' (1 + (ep : Int) + 1 + (bb : Int)) 1 (by omega) rfl hh5)
  clear hh5 HC2 hb5 hB4
  go_wp2_with fail
  refine HL.out.mono ?_
  rintro e w6 ⟨rfl, -, hb6⟩
  have hA : Below w6.heap.size w6 (w6.alloc (.cells #[.int .u64 (1 + (ep : Int) + 1 + (bb : Int)), .int .i64 1] 30)) := (Below.refl _ _).alloc (Nat.le_refl _) _
  have hB6 := (hB5.trans (hb6.mono hB5.size)).trans (hA.mono (Nat.le_trans hB5.size hb6.size))
  clear HL hb6 hA hB5
  go_wp2
  go_ret
  exact ⟨rfl, hB6⟩
end Go.Proofs.YtcbgccmoeleanaaDoor.Lg
