/- The walk of the law NandHalves: a block whose erasing was cut tells no page, takes none, and is as new behind another erasing; or it was erased, or wasn't touched. -/
import Derived.Test.YtjibiehchfhjnaaCuts
import Derived.Test.YtjibiehchfhjnaaOrder
namespace Go.Proofs.Ytjibiehchfhjnaa
open Go.RowKit
open Drawbar Drawbar.Nand

/-- k pages, the i-th of which is page(i). -/
def pgs (k : Nat) : List (List Nat) := (List.range k).map pg
theorem pgs_length (k : Nat) : (pgs k).length = k := by simp [pgs]
theorem pgs_succ (k : Nat) : pgs (k + 1) = pgs k ++ [pg k] := by simp [pgs, List.range_succ]
theorem pgs_0 (k : Nat) (h : 0 < k) : (pgs k).getD 0 [] = pg 0 := by
  obtain ⟨m, rfl⟩ : ∃ m, k = m + 1 := ⟨k - 1, by omega⟩
  simp [pgs, List.range_succ_eq_map]

/-- The blocks that come from a cut. -/
def hblk (k : Nat) (cut : Int) : Blk := if cut ≤ 0 then { fresh with pages := pgs k } else if cut < 96 then { fresh with pages := pgs k, torn := true } else { fresh with erases := 1 }

theorem halves_facts (s : Arr) (k : Nat) (h : One s 8 { fresh with pages := pgs k }) (hc : Drawbar.Nand.Calm s) (hk : 0 < k) (cut : Int) : ∃ s2 s3 s4, s.arm 1 = (0, s2) ∧ s2.erase 0 0 = (9, s3) ∧ s3.restart cut = s4 ∧ One s4 8 (hblk k cut) ∧ Drawbar.Nand.Calm s4 := by
  have h2 : One { s with armed := 1 } 8 { fresh with pages := pgs k } := ⟨h.n, h.pages, h.fence, h.blk⟩
  obtain ⟨s3, e3, o3, f3, g3, b3⟩ := erase_crash h2 hc.off rfl 0
  obtain ⟨o4, c4, b4⟩ := restart_erase o3 g3 cut
  refine ⟨_, s3, _, rfl, e3, rfl, ?_, c4⟩
  have e : (({ fresh with pages := pgs k } : Blk).tick).erase cut = hblk k cut := by
    unfold hblk Blk.erase
    by_cases h0 : cut ≤ 0
    · rw [if_pos h0, if_pos h0]; rfl
    · rw [if_neg h0, if_neg h0]
      by_cases h1 : cut < 96
      · rw [if_pos (.inl h1), if_pos h1]
        show ({ fresh with pages := pgs k, torn := decide (0 < (pgs k).length) } : Blk) = _
        rw [pgs_length, decide_eq_true hk]
      · rw [if_neg (by rintro (h | h); · exact h1 h
                       · cases h), if_neg h1]
        show ({ fresh with erases := wrap64 (0 + 1) } : Blk) = _
        rw [show wrap64 (0 + 1) = 1 by unfold wrap64; omega]
  rw [← e]
  exact o4

/-- The program of the next page behind the cut. -/
theorem halves_kept {s : Arr} {k : Nat} (h : One s 8 { fresh with pages := pgs k }) (hc : Drawbar.Nand.Calm s) (hk : 0 < k) (hk8 : k ≤ 8) : s.read 0 0 = (0, pg 0) ∧ (s.program 0 (s.b 0).pages.length (pg 9) 0).1 = (if k = 8 then 1 else 0) ∧ (s.b 0).pages.length = k := by
  have hf := calm_fine h hc rfl rfl rfl
  have hlen : (s.b 0).pages.length = k := by rw [h.blk]; exact pgs_length k
  refine ⟨?_, ?_, hlen⟩
  · refine (read_one h hc.off 0 (by omega)).trans ?_
    rw [if_neg (by show ¬ (pgs k).length ≤ 0; rw [pgs_length]; omega), if_neg (by simp [fresh])]
    congr 1
    exact pgs_0 k hk
  · by_cases h8 : k = 8
    · rw [if_pos h8]
      rw [show s.program 0 (s.b 0).pages.length (pg 9) 0 = (1, s) from Drawbar.Nand.program_page hf _ (pg 9) 0 (by rw [h.pages, hlen]; omega)]
    · rw [if_neg h8]
      rw [show s.program 0 (s.b 0).pages.length (pg 9) 0 = (0, s.put 0 (pg 9)) from program_ok hf (pg 9) 0 (by rw [hlen, h.pages]; omega) (by rw [h.fence]; omega) (pg_length 9)]
theorem halves_erased {s : Arr} (h : One s 8 { fresh with erases := 1 }) (hc : Drawbar.Nand.Calm s) : s.read 0 0 = (5, []) ∧ ∃ s', s.program 0 0 (pg 9) 0 = (0, s') ∧ (s'.b 0).pages.length = 1 ∧ (s'.b 0).erases = 1 ∧ 0 < s'.n := by
  have hf := calm_fine h hc rfl rfl rfl
  have hlen : (s.b 0).pages.length = 0 := by rw [h.blk]; rfl
  refine ⟨?_, s.put 0 (pg 9), ?_, ?_, ?_, by show 0 < s.n; rw [h.n]; omega⟩
  · refine (read_one h hc.off 0 (by omega)).trans ?_
    rw [if_pos (by show ([] : List (List Nat)).length ≤ 0; simp)]
  · have := program_ok hf (pg 9) 0 (by rw [hlen, h.pages]; omega) (by rw [h.fence]; omega) (pg_length 9)
    rw [hlen] at this
    exact this
  · rw [(one_put h _).blk]; rfl
  · rw [(one_put h _).blk]
theorem halves_torn {s : Arr} {k : Nat} (h : One s 8 { fresh with pages := pgs k, torn := true }) (hc : Drawbar.Nand.Calm s) (hk : 0 < k) (hk8 : k ≤ 8) :
    s.read 0 0 = (4, []) ∧ s.program 0 k (pg 9) 0 = ((if k = 8 then 1 else 6), s) ∧ (s.b 0).pages.length = k ∧ ∃ s2 s3, s.erase 0 0 = (0, s2) ∧ s2.program 0 0 (pg 9) 0 = (0, s3) ∧ (s3.b 0).erases = 1 ∧ 0 < s3.n ∧ 0 < s.n := by
  have hlen : (s.b 0).pages.length = k := by rw [h.blk]; exact pgs_length k
  have e0 : (0 : Int).toNat = 0 := rfl
  have hn : 0 < s.n := by rw [h.n]; omega
  refine ⟨?_, ?_, hlen, ?_⟩
  · refine (read_one h hc.off 0 (by omega)).trans ?_
    rw [if_neg (by show ¬ (pgs k).length ≤ 0; rw [pgs_length]; omega), if_pos rfl]
  · unfold Arr.program
    rw [if_neg (fun hh => hh (one_in h)), if_neg (by rw [hc.off]; simp)]
    by_cases h8 : k = 8
    · rw [if_pos (by unfold inB; rw [h.pages]; omega), if_pos h8]
    · rw [if_neg (fun hh => hh (by rw [h.pages]; exact inB_nat (by omega))), if_neg (by simp [pg_length]), e0, h.blk, if_pos (.inr rfl), if_neg h8]
  · have hb : (s.b 0).erase 96 = { s.b 0 with pages := [], torn := false, erases := wrap64 ((s.b 0).erases + 1) } := by
      unfold Blk.erase
      rw [if_neg (by omega), if_neg (by rw [h.blk]; simp [fresh])]
    have hop : ∀ bg, s.operate 0 bg (fun b => b.erase 96) = (0, s.clear 0) := fun bg => by
      have ht : (s.b 0).tick = s.b 0 := by rw [h.blk]; rfl
      have e : upd s.b 0 (s.b 0) = s.b := by funext j; unfold upd; split <;> simp_all
      have ha : s.armed - 1 = s.armed := by rw [hc.armed]
      unfold Arr.operate
      rw [if_neg (by rw [hc.armed]; omega), ht, if_neg (by rw [h.blk]; simp [fresh])]
      dsimp only
      rw [hb]
      unfold Arr.tick Arr.clear
      rw [ht, e, ha]
    have h2 : One (s.clear 0) 8 { fresh with erases := 1 } := ⟨h.n, h.pages, h.fence, by
      unfold Arr.clear
      dsimp only
      rw [upd_same]
      simp only [h.blk]
      show ({ fresh with erases := wrap64 (0 + 1) } : Blk) = _
      rw [show wrap64 (0 + 1) = 1 by unfold wrap64; omega]⟩
    obtain ⟨-, s3, a1, a2, a3, a4⟩ := halves_erased h2 ⟨hc.off, hc.armed⟩
    refine ⟨s.clear 0, s3, ?_, a1, a3, a4, hn⟩
    unfold Arr.erase
    rw [if_neg (fun hh => hh (one_in h)), if_neg (by rw [hc.off]; simp), if_neg (by rw [h.fence]; omega), e0, hop]

theorem tells_fresh {w w' : World} {l : List Nat} {e : Ending} (h : Tells w (0, l) e w') (h96 : l.length = 96) : ∃ d o cap, e = .returned (.tuple #[.slice (some ⟨d, o, none⟩) 96 cap, .int .i64 0]) ∧ Rd w' (some ⟨d, o, none⟩) l ∧ Below w.heap.size w w' ∧ w.heap.size ≤ d ∧ d < w'.heap.size := by
  obtain ⟨a, cap, rfl, _, hr, hb, hf⟩ := h
  dsimp only at hr hf ⊢
  obtain ⟨d, o, rfl, hc⟩ := hr.2.2 (by omega)
  rw [h96]
  exact ⟨d, o, cap, rfl, hr, hb, hf (by omega) _ rfl, World.block_lt_of_cell? w' _ (hc 0 (by omega))⟩

set_option maxRecDepth 100000 in
set_option maxHeartbeats 4000000 in
theorem halves_any (many : Nat) (hmany : many < 256) (cut : Int) (w : World) : Calls Try.prog 9 #[.int .u8 many, .int .i64 cut] w (Yes w) := by
  obtain ⟨k, hk1, hk8, hk⟩ : ∃ k : Nat, 1 ≤ k ∧ k ≤ 8 ∧ 1 + (many : Int) % 8 = k := ⟨1 + many % 8, by omega, by omega, by omega⟩
  have hm2 : (many : Int) ≤ 255 := by omega
  have HN := Lib.hid (fun w1 => new_at 1 8 w1 (by omega) (by omega) (by omega) (by omega))
  go_enter Try.func9, Try.ntmps9
  go_wp2_with fail
  refine (awake_any w).mono ?_
  rintro e w1 ⟨rfl, hb1⟩
  go_wp2_with fail
  refine (HN.out w1).mono ?_
  intro e w2 hm
  obtain ⟨g, rfl, h2, hb2⟩ := hm.mine
  have hB2 := hb1.trans (hb2.mono hb1.size)
  replace h2 := h2.base hb1.size
  clear hm hb1 hb2 HN
  go_wp2
  go_loopw [8] (fun iv wr => ∃ (i : Nat) (s : Arr), i ≤ k ∧ iv = .int .i64 i ∧ Drawbar.Nand.One s 8 { fresh with pages := pgs i } ∧ Drawbar.Nand.Calm s ∧ Mine w.heap.size wr g s ∧ Below w.heap.size w wr) (fun iv _ => k - (intOf iv).toNat)
  case atStart => exact ⟨0, _, Nat.zero_le _, rfl, one_new 8, ⟨rfl, rfl⟩, h2, hB2⟩
  case round =>
    obtain ⟨i, s, hik, rfl, hone, hcalm, hmine, hB⟩ := hrel
    clear h2 hB2
    by_cases hlt : i < k
    · have hp := fun w1 (hb : Below wr.heap.size wr w1) d (hr : Rd w1 (some ⟨d, 0, none⟩) (pg i)) => program_m (hmine.keep hb) (Nat.le_trans hB.size hb.size) 0 i (pg i) (some ⟨d, 0, none⟩) 96 0 hr 96 (pg_length i)
      have hlen : (s.b 0).pages.length = i := by rw [hone.blk]; exact pgs_length i
      have e1 : s.program 0 i (pg i) 0 = (0, s.put 0 (pg i)) := by
        have := program_ok (calm_fine hone hcalm rfl rfl rfl) (pg i) 0 (by rw [hlen, hone.pages]; omega) (by rw [hone.fence]; omega) (pg_length i)
        rw [hlen] at this
        exact this
      simp only [e1] at hp
      have ho := one_put hone (pg i)
      have HO : Hid (Drawbar.Nand.One (s.put 0 (pg i)) 8 { fresh with pages := pgs (i + 1) }) := Lib.hid (by rw [pgs_succ]; exact ho)
      have HC : Hid (Drawbar.Nand.Calm (s.put 0 (pg i))) := Lib.hid ⟨hcalm.off, hcalm.armed⟩
      have HP := Lib.hid hp
      clear hp e1 hlen ho hone hcalm hmine
      go_wp2_with fail
      refine (page_m i wr).mono ?_
      rintro e w3 ⟨d, rfl, hr, hb3, -⟩
      have HPP := Lib.hid (HP.out w3 hb3 d hr)
      have hB3 := hB.trans (hb3.mono hB.size)
      clear hr hb3 HP hB
      go_wp2_with fail
      refine HPP.out.mono ?_
      rintro e w5 ⟨rfl, h5, hb5⟩
      have hB5 := hB3.trans hb5
      dsimp only at h5
      clear HPP hb5 hB3
      go_wp2
      go_roundw
      case rel => exact ⟨i + 1, _, by omega, by go_num, HO.out, HC.out, h5, hB5⟩
      case measure => simp [intOf]; omega
    · obtain rfl : i = k := by omega
      obtain ⟨s2, s3, s4, e2, e3, e4, o4, c4⟩ := halves_facts s i hone hcalm (by omega) cut
      have ha := arm_m hmine hB.size 1 (by omega)
      rw [e2] at ha
      have HA := Lib.hid ha
      have E3 := Lib.hid e3
      have E4 := Lib.hid e4
      have O4 := Lib.hid o4
      have C4 := Lib.hid c4
      clear ha e2 e3 e4 o4 c4 hone hcalm hmine
      go_wp2_with fail
      refine HA.out.mono ?_
      rintro e w5 ⟨rfl, h5, hb5⟩
      dsimp only at h5
      have hB5 := hB.trans hb5
      have he := erase_m h5 hB5.size 0 0
      rw [E3.out] at he
      have HE := Lib.hid he
      clear he h5 hb5 hB HA
      go_wp2_with fail
      refine HE.out.mono ?_
      rintro e w6 ⟨rfl, h6, hb6⟩
      dsimp only at h6
      have hB6 := hB5.trans hb6
      have hre := restart_m h6 hB6.size cut
      rw [E4.out] at hre
      have HRE := Lib.hid hre
      clear hre h6 hb6 hB5 HE
      go_wp2_with fail
      refine HRE.out.mono ?_
      rintro e w7 ⟨rfl, h7, hb7⟩
      dsimp only at h7
      have hB7 := hB6.trans hb7
      have hn4 : 0 < s4.n := by rw [O4.out.n]; omega
      obtain ⟨F, hA7, hF⟩ := h7.arr
      have HRD := Lib.hid (read_at hA7 0 0)
      have HFB := Lib.hid hF
      have HA7 := Lib.hid hA7
      clear hb7 hB6 HRE h7 hF hA7
      by_cases h0 : cut ≤ 0
      · have ho : Drawbar.Nand.One s4 8 { fresh with pages := pgs i } := by have := O4.out; unfold hblk at this; rw [if_pos h0] at this; exact this
        obtain ⟨f1, f2, f3⟩ := halves_kept ho C4.out (by omega) hk8
        have hrd := HRD.out
        rw [f1] at hrd
        replace HRD := Lib.hid hrd
        have F2 := Lib.hid f2
        have F3 := Lib.hid f3
        clear f1 f2 f3 hrd ho
        go_wp2_with fail
        refine HRD.out.mono ?_
        rintro e w8 ⟨ht, h8⟩
        obtain ⟨dp, op, cp, rfl, hrp, hb8, hd1, hd2⟩ := tells_fresh ht (pg_length 0)
        have hB8 := hB7.trans (hb8.mono hB7.size)
        have hdF : ¬ F dp := fun h => absurd (HA7.out.bound dp h) (Nat.not_lt.2 hd1)
        have hnx := next_at h8 0 hn4
        have HNX := Lib.hid hnx
        clear ht hb8 hnx hB7 HRD hd1
        go_wp2_with fail
        refine HNX.out.mono ?_
        rintro e w' ⟨rfl, rfl⟩
        go_wp2_with fail
        refine (page_m 9 w8).mono ?_
        rintro e w9 ⟨d9, rfl, hr9, hb9, -⟩
        have hB9 := hB8.trans (hb9.mono hB8.size)
        have hd9 : dp < w9.heap.size := Nat.lt_of_lt_of_le hd2 hb9.size
        have hp := program_at (h8.keep hb9) 0 (s4.b 0).pages.length (pg 9) (some ⟨d9, 0, none⟩) 96 0 hr9 96 (pg_length 9)
        have f2 := F2.out
        generalize hrr : s4.program 0 (s4.b 0).pages.length (pg 9) 0 = r at hp f2
        obtain ⟨re, sr⟩ := r
        dsimp only at hp f2
        have HP := Lib.hid hp
        have hrp9 := hrp.below hb9
        clear hp hrr F2 hr9 hb9 hB8 hrp HNX h8
        by_cases h8' : i = 8
        · rw [if_pos h8'] at f2
          subst f2
          have k8 : ((i : Int) == 8) = true := by rw [h8']; rfl
          clear h8'
          go_wp2_with fail
          refine HP.out.mono ?_
          rintro e w10 ⟨rfl, -, hk10⟩
          have hB10 := hB9.trans (hk10.toBelow HFB.out hB9.size)
          have hrp10 : Rd w10 (some ⟨dp, op, none⟩) (pg 0) := hrp9.keep (hk10.block dp hd9 hdF)
          have hq0 := conv_any w10.drew _ cp (pg 0) hrp10 (pg_length 0)
          have HQ := Lib.hid (fun W (hW : Below w10.heap.size w10 W) => conv_any W _ cp (pg 0) (hrp10.below hW) (pg_length 0))
          have HPG := Lib.hid (page_drew_at 0 0 rfl w10)
          generalize strOf (pg 0) = S1 at hq0 HQ HPG
          clear hk10 hrp9 hrp10 HP hB9 hdF hd2 hd9 hn4
          dsimp only
          go_wp2
          first
            | (go_region_held (fun W => (convert 30 9 (.slice (some ⟨dp, op, none⟩) 96 cp)).run Try.prog W = .ok (.string S1) W) (first | exact hq0 | exact hq4) (first | (go_at_call 14; ((with_reducible refine HPG.out.mono ?_); rintro e w11 ⟨dz, rfl, hb11, hc11⟩; have hq4 := HQ.out _ hb11))))
            | fail
          all_goals
            go_wp2
            go_ret
            exact ⟨rfl, hB10.trans ((by assumption : Below w10.heap.size w10 _).mono hB10.size)⟩

        · rw [if_neg h8'] at f2
          subst f2
          have k8 : ((i : Int) == 8) = false := by simpa using (by omega : ¬ (i : Int) = 8)
          clear h8'
          go_wp2_with fail
          refine HP.out.mono ?_
          rintro e w10 ⟨rfl, -, hk10⟩
          have hB10 := hB9.trans (hk10.toBelow HFB.out hB9.size)
          have hrp10 : Rd w10 (some ⟨dp, op, none⟩) (pg 0) := hrp9.keep (hk10.block dp hd9 hdF)
          have hq0 := conv_any w10.drew _ cp (pg 0) hrp10 (pg_length 0)
          have HQ := Lib.hid (fun W (hW : Below w10.heap.size w10 W) => conv_any W _ cp (pg 0) (hrp10.below hW) (pg_length 0))
          have HPG := Lib.hid (page_drew_at 0 0 rfl w10)
          generalize strOf (pg 0) = S1 at hq0 HQ HPG
          clear hk10 hrp9 hrp10 HP hB9 hdF hd2 hd9 hn4
          dsimp only
          go_wp2
          go_region_held (fun W => (convert 30 9 (.slice (some ⟨dp, op, none⟩) 96 cp)).run Try.prog W = .ok (.string S1) W) (first | exact hq0 | exact hq4) (first | (go_at_call 14; ((with_reducible refine HPG.out.mono ?_); rintro e w11 ⟨dz, rfl, hb11, hc11⟩; have hq4 := HQ.out _ hb11)))
          all_goals
            go_wp2
            go_ret
            exact ⟨rfl, hB10.trans ((by assumption : Below w10.heap.size w10 _).mono hB10.size)⟩

      · by_cases h96 : cut < 96
        · have ho : Drawbar.Nand.One s4 8 { fresh with pages := pgs i, torn := true } := by have := O4.out; unfold hblk at this; rw [if_neg h0, if_pos h96] at this; exact this
          obtain ⟨f1, f2, f3, s5, s6, f4, f5, f6, f7, f8⟩ := halves_torn ho C4.out (by omega) hk8
          have hrd := HRD.out
          rw [f1] at hrd
          replace HRD := Lib.hid hrd
          have F2 := Lib.hid f2
          have F3 := Lib.hid f3
          have F4 := Lib.hid f4
          have F5 := Lib.hid f5
          have F6 := Lib.hid f6
          clear f1 f2 f3 f4 f5 f6 hrd ho
          go_wp2_with fail
          refine HRD.out.mono ?_
          rintro e w8 ⟨ht, h8⟩
          obtain ⟨ap, cp, rfl, hb8⟩ := tells_err ht
          have hB8 := hB7.trans (hb8.mono hB7.size)
          have hm8 : Mine w.heap.size w8 g s4 := ⟨F, h8, HFB.out⟩
          have hnx := next_m hm8 0 hn4
          rw [F3.out] at hnx
          have HNX := Lib.hid hnx
          clear ht hb8 hnx hB7 HRD h8
          go_wp2_with fail
          refine HNX.out.mono ?_
          rintro e w' ⟨rfl, rfl⟩
          go_wp2_with fail
          refine (page_m 9 w8).mono ?_
          rintro e w9 ⟨d9, rfl, hr9, hb9, -⟩
          have hB9 := hB8.trans (hb9.mono hB8.size)
          have hp := program_m (hm8.keep hb9) hB9.size 0 i (pg 9) (some ⟨d9, 0, none⟩) 96 0 hr9 96 (pg_length 9)
          rw [F2.out] at hp
          have hx : (if i = 8 then (1 : Int) else 6) = 1 ∨ (if i = 8 then (1 : Int) else 6) = 6 := by split <;> simp
          obtain ⟨x, hxe⟩ : ∃ x, x = (if i = 8 then (1 : Int) else 6) := ⟨_, rfl⟩
          rw [← hxe] at hp hx
          have HP := Lib.hid hp
          clear hp hr9 hb9 hB8 hm8 HNX hxe F2
          rcases hx with rfl | rfl
          · go_wp2_with fail
            refine HP.out.mono ?_
            rintro e w10 ⟨rfl, h10, hb10⟩
            dsimp only at h10
            have hB10 := hB9.trans hb10
            have hnx := next_m h10 0 f8
            rw [F3.out] at hnx
            have HNX := Lib.hid hnx
            have he := erase_m h10 hB10.size 0 0
            rw [F4.out] at he
            have HE := Lib.hid he
            clear hnx he h10 hb10 hB9 HP
            dsimp only
            go_wp2_with fail
            refine HNX.out.mono ?_
            rintro e w' ⟨rfl, rfl⟩
            go_wp2_with fail
            refine HE.out.mono ?_
            rintro e w11 ⟨rfl, h11, hb11⟩
            dsimp only at h11
            have hB11 := hB10.trans hb11
            clear hb11 hB10 HE HNX
            go_wp2_with fail
            refine (page_m 9 w11).mono ?_
            rintro e w12 ⟨d12, rfl, hr12, hb12, -⟩
            have hB12 := hB11.trans (hb12.mono hB11.size)
            have hp := program_m (h11.keep hb12) hB12.size 0 0 (pg 9) (some ⟨d12, 0, none⟩) 96 0 hr12 96 (pg_length 9)
            rw [F5.out] at hp
            have HP := Lib.hid hp
            clear hp hr12 hb12 hB11 h11
            go_wp2_with fail
            refine HP.out.mono ?_
            rintro e w13 ⟨rfl, h13, hb13⟩
            dsimp only at h13
            have hB13 := hB12.trans hb13
            have her := erases_m h13 0 f7
            rw [F6.out] at her
            have HER := Lib.hid her
            clear her h13 hb13 hB12 HP
            dsimp only
            go_wp2_with (go_at_call 29; refine HER.out.mono ?_; rintro e w' ⟨rfl, rfl⟩)
            go_ret
            exact ⟨rfl, hB13⟩
          · go_wp2_with fail
            refine HP.out.mono ?_
            rintro e w10 ⟨rfl, h10, hb10⟩
            dsimp only at h10
            have hB10 := hB9.trans hb10
            have hnx := next_m h10 0 f8
            rw [F3.out] at hnx
            have HNX := Lib.hid hnx
            have he := erase_m h10 hB10.size 0 0
            rw [F4.out] at he
            have HE := Lib.hid he
            clear hnx he h10 hb10 hB9 HP
            dsimp only
            go_wp2_with fail
            refine HNX.out.mono ?_
            rintro e w' ⟨rfl, rfl⟩
            go_wp2_with fail
            refine HE.out.mono ?_
            rintro e w11 ⟨rfl, h11, hb11⟩
            dsimp only at h11
            have hB11 := hB10.trans hb11
            clear hb11 hB10 HE HNX
            go_wp2_with fail
            refine (page_m 9 w11).mono ?_
            rintro e w12 ⟨d12, rfl, hr12, hb12, -⟩
            have hB12 := hB11.trans (hb12.mono hB11.size)
            have hp := program_m (h11.keep hb12) hB12.size 0 0 (pg 9) (some ⟨d12, 0, none⟩) 96 0 hr12 96 (pg_length 9)
            rw [F5.out] at hp
            have HP := Lib.hid hp
            clear hp hr12 hb12 hB11 h11
            go_wp2_with fail
            refine HP.out.mono ?_
            rintro e w13 ⟨rfl, h13, hb13⟩
            dsimp only at h13
            have hB13 := hB12.trans hb13
            have her := erases_m h13 0 f7
            rw [F6.out] at her
            have HER := Lib.hid her
            clear her h13 hb13 hB12 HP
            dsimp only
            go_wp2_with (go_at_call 29; refine HER.out.mono ?_; rintro e w' ⟨rfl, rfl⟩)
            go_ret
            exact ⟨rfl, hB13⟩
        · have ho : Drawbar.Nand.One s4 8 { fresh with erases := 1 } := by have := O4.out; unfold hblk at this; rw [if_neg h0, if_neg h96] at this; exact this
          obtain ⟨f1, s5, f4, f5, f6, f7⟩ := halves_erased ho C4.out
          have f3 : (s4.b 0).pages.length = 0 := by rw [ho.blk]; rfl
          have hrd := HRD.out
          rw [f1] at hrd
          replace HRD := Lib.hid hrd
          have F3 := Lib.hid f3
          have F4 := Lib.hid f4
          have F5 := Lib.hid f5
          have F6 := Lib.hid f6
          clear f1 f3 f4 f5 f6 hrd ho
          go_wp2_with fail
          refine HRD.out.mono ?_
          rintro e w8 ⟨ht, h8⟩
          obtain ⟨ap, cp, rfl, hb8⟩ := tells_err ht
          have hB8 := hB7.trans (hb8.mono hB7.size)
          have hm8 : Mine w.heap.size w8 g s4 := ⟨F, h8, HFB.out⟩
          have hnx := next_m hm8 0 hn4
          rw [F3.out] at hnx
          have HNX := Lib.hid hnx
          clear ht hb8 hnx hB7 HRD h8
          go_wp2_with fail
          refine HNX.out.mono ?_
          rintro e w' ⟨rfl, rfl⟩
          go_wp2_with fail
          refine (page_m 9 w8).mono ?_
          rintro e w9 ⟨d9, rfl, hr9, hb9, -⟩
          have hB9 := hB8.trans (hb9.mono hB8.size)
          have hp := program_m (hm8.keep hb9) hB9.size 0 0 (pg 9) (some ⟨d9, 0, none⟩) 96 0 hr9 96 (pg_length 9)
          rw [F4.out] at hp
          have HP := Lib.hid hp
          clear hp hr9 hb9 hB8 hm8 HNX
          go_wp2_with fail
          refine HP.out.mono ?_
          rintro e w10 ⟨rfl, h10, hb10⟩
          dsimp only at h10
          have hB10 := hB9.trans hb10
          have hnx := next_m h10 0 f7
          rw [F5.out] at hnx
          have her := erases_m h10 0 f7
          rw [F6.out] at her
          have HNX := Lib.hid hnx
          have HER := Lib.hid her
          clear hnx her h10 hb10 hB9 HP
          dsimp only
          go_wp2_with (first
            | (go_at_call 17; refine HNX.out.mono ?_; rintro e w' ⟨rfl, rfl⟩)
            | (go_at_call 29; refine HER.out.mono ?_; rintro e w' ⟨rfl, rfl⟩))
          go_ret
          exact ⟨rfl, hB10⟩
end Go.Proofs.Ytjibiehchfhjnaa
