/- The walk of the law NandCuts: of a page whose programming was cut the first bytes are there, and no others. -/
import Derived.Test.YtjibiehchfhjnaaKeeps
import Derived.Test.YtjibiehchfhjnaaOne
namespace Go.Proofs.Ytjibiehchfhjnaa
open Go.RowKit
open Drawbar Drawbar.Nand

/-- What the law NandCuts comes to. -/
theorem cut_facts (b : Nat) (cut : Int) : ∃ s1 s2 s3 s4, (Arr.new 1 4 (fun _ => fresh)).program 0 0 (pg 1) 1 = (0, s1) ∧ s1.arm 1 = (0, s2) ∧ s2.program 0 1 (pg b) 1 = (9, s3) ∧ s3.off = true ∧ s3.read 0 0 = (9, []) ∧ s3.restart cut = s4 ∧
    s4.read 0 0 = (0, pg 1) ∧ s4.read 0 1 = (if cut ≤ 0 then (5, []) else (0, pad (pg b) cut)) ∧ s4.boots = 1 ∧ 0 < s4.n ∧ (s4.b 0).pages.length = if cut ≤ 0 then 1 else 2 := by
  have h1 := one_put (one_new 4) (pg 1)
  have h2 : One { (Arr.new 1 4 (fun _ => fresh)).put 0 (pg 1) with armed := 1 } 4 { fresh with pages := [pg 1] } := ⟨h1.n, h1.pages, h1.fence, h1.blk⟩
  obtain ⟨s3, e3, o3, f3, g3, b3⟩ := program_crash h2 rfl rfl (by show 1 < 4; omega) rfl (pg b) (pg_length b) 1
  obtain ⟨o4, c4, b4⟩ := restart_lay o3 (pg b) g3 cut
  refine ⟨_, _, s3, _, program_ok (fine_new 1 4 0 (by omega)) (pg 1) 1 (by show 0 < 4; omega) (by show 0 ≤ 1; omega) (pg_length 1), rfl, e3, f3, read_off o3 f3 0, rfl, ?_, ?_, ?_, by rw [o4.n]; omega, ?_⟩
  · refine (read_one o4 c4.off 0 (by omega)).trans ?_
    unfold Blk.lay
    split <;> rfl
  · refine (read_one o4 c4.off 1 (by omega)).trans ?_
    unfold Blk.lay
    split <;> rfl
  · rw [b4, b3]; show wrap64 (0 + 1) = 1; unfold wrap64; omega
  · rw [o4.blk]
    unfold Blk.lay
    split <;> rfl

theorem mix_set (f l : List Nat) (k : Nat) (hf : f.length = 96) (hl : l.length = 96) (hk : k < 96) : ((f.take k ++ l.drop k).map bv).set k (bv (f.getD k 0)) = (f.take (k + 1) ++ l.drop (k + 1)).map bv := by
  rw [← List.map_set, List.set_append_right _ _ (by rw [List.length_take]; omega)]
  congr 1
  rw [List.length_take, Nat.min_eq_left (by omega), Nat.sub_self, take_getD f k (by omega), List.append_assoc, List.drop_eq_getElem_cons (by omega : k < l.length)]
  rfl
theorem mix_same (f l : List Nat) (k : Nat) (hf : f.length = 96) (hl : l.length = 96) (hk : k < 96) (he : f.getD k 0 = l.getD k 0) : (f.take k ++ l.drop k) = (f.take (k + 1) ++ l.drop (k + 1)) := by
  rw [take_getD f k (by omega), List.append_assoc, List.drop_eq_getElem_cons (by omega : k < l.length), he, List.getD_eq_getElem?_getD, List.getElem?_eq_getElem (by omega)]
  rfl
theorem tells_page {w w' : World} {l : List Nat} {e : Ending} (h : Tells w (0, l) e w') (h96 : l.length = 96) : ∃ a cap, e = .returned (.tuple #[.slice a 96 cap, .int .i64 0]) ∧ Rd w' a l ∧ Below w.heap.size w w' := by
  obtain ⟨a, cap, rfl, _, hr, hb, _⟩ := h
  dsimp only
  rw [h96]
  exact ⟨a, cap, rfl, hr, hb⟩
theorem tells_err {w w' : World} {n : Int} {e : Ending} (h : Tells w (n, []) e w') : ∃ a cap, e = .returned (.tuple #[.slice a 0 cap, .int .i64 n]) ∧ Below w.heap.size w w' := by
  obtain ⟨a, cap, rfl, _, hr, hb, _⟩ := h
  exact ⟨a, cap, rfl, hb⟩
theorem conv_any (w : World) (a : Option Addr) (cap : Nat) (l : List Nat) (h : Rd w a l) (h96 : l.length = 96) : (convert 30 9 (.slice a 96 cap)).run Try.prog w = .ok (.string (strOf l)) w := by
  have := conv_str w a l cap h
  rw [h96] at this
  exact this
/-- The call of page in a region that has drawn its order. -/
theorem page_drew (n : Nat) (w : World) : Calls Try.prog 14 #[.int .u8 n] w.drew fun e w' => ∃ d, e = .returned (.slice (some ⟨d, 0, none⟩) 96 96) ∧ Below w.heap.size w w' ∧ (convert 30 9 (.slice (some ⟨d, 0, none⟩) 96 96)).run Try.prog w' = .ok (.string (strOf (pg n))) w' := by
  refine (page_m n w.drew).mono ?_
  rintro e w' ⟨d, rfl, hr, hb, -⟩
  exact ⟨d, rfl, (Below.refl _ _).drew.trans hb, conv_page w' d 96 (pg n) hr (pg_length n)⟩

theorem page_drew_at (n : Nat) (x : Int) (hx : x = n) (w : World) : Calls Try.prog 14 #[.int .u8 x] w.drew fun e w' => ∃ d, e = .returned (.slice (some ⟨d, 0, none⟩) 96 96) ∧ Below w.heap.size w w' ∧ (convert 30 9 (.slice (some ⟨d, 0, none⟩) 96 96)).run Try.prog w' = .ok (.string (strOf (pg n))) w' := by
  subst hx; exact page_drew n w

set_option maxRecDepth 100000 in
set_option maxHeartbeats 2000000 in
theorem cuts_any (b : Nat) (cut : Int) (w : World) : Calls Try.prog 4 #[.int .u8 b, .int .i64 cut] w (Yes w) := by
  obtain ⟨s1, s2, s3, s4, e1, e2, e3, e4, e5, e6, e7, e8, e9, e10, e11⟩ := cut_facts b cut
  have HN := Lib.hid (fun w1 => new_at 1 4 w1 (by omega) (by omega) (by omega) (by omega))
  have E1 := Lib.hid e1
  have E2 := Lib.hid e2
  have E3 := Lib.hid e3
  have E4 := Lib.hid e4
  have E5 := Lib.hid e5
  have E6 := Lib.hid e6
  have E7 := Lib.hid e7
  have E8 := Lib.hid e8
  have E9 := Lib.hid e9
  have E10 := Lib.hid e10
  have E11 := Lib.hid e11
  clear e1 e2 e3 e4 e5 e6 e7 e8 e9 e10 e11
  go_enter Try.func4, Try.ntmps4
  go_wp2_with fail
  refine (awake_any w).mono ?_
  rintro e w1 ⟨rfl, hb1⟩
  go_wp2_with fail
  refine (HN.out w1).mono ?_
  intro e w2 hm
  obtain ⟨g, rfl, h2, hb2⟩ := hm.mine
  have hB2 := hb1.trans (hb2.mono hb1.size)
  replace h2 := h2.base hb1.size
  clear hm hb1 hb2 HN
  go_wp2_with fail
  refine (page_m 1 w2).mono ?_
  rintro e w3 ⟨d, rfl, hr3, hb3, -⟩
  have hB3 := hB2.trans (hb3.mono hB2.size)
  have hp := program_m (h2.keep hb3) hB3.size 0 0 (pg 1) (some ⟨d, 0, none⟩) 96 1 hr3 96 (pg_length 1)
  rw [E1.out] at hp
  have HP := Lib.hid hp
  clear hp hr3 hb3 hB2 h2
  go_wp2_with fail
  refine HP.out.mono ?_
  rintro e w4 ⟨rfl, h4, hb4⟩
  dsimp only at h4
  have hB4 := hB3.trans hb4
  have ha := arm_m h4 hB4.size 1 (by omega)
  rw [E2.out] at ha
  have HA := Lib.hid ha
  clear ha h4 hb4 hB3 HP
  go_wp2_with fail
  refine HA.out.mono ?_
  rintro e w5 ⟨rfl, h5, hb5⟩
  dsimp only at h5
  have hB5 := hB4.trans hb5
  clear HA hb5 hB4
  go_wp2_with fail
  refine (page_m b w5).mono ?_
  rintro e w6 ⟨d6, rfl, hr6, hb6, -⟩
  have hB6 := hB5.trans (hb6.mono hB5.size)
  have hp := program_m (h5.keep hb6) hB6.size 0 1 (pg b) (some ⟨d6, 0, none⟩) 96 1 hr6 96 (pg_length b)
  rw [E3.out] at hp
  have HP := Lib.hid hp
  clear hp hr6 hb6 hB5 h5
  go_wp2_with fail
  refine HP.out.mono ?_
  rintro e w7 ⟨rfl, h7, hb7⟩
  dsimp only at h7
  have hB7 := hB6.trans hb7
  have hon := on_m h7
  rw [E4.out] at hon
  have HON := Lib.hid hon
  have hrd := read_m h7 0 0
  rw [E5.out] at hrd
  have HRD := Lib.hid hrd
  clear hon hrd h7 hb7 hB6 HP
  go_wp2_with fail
  refine HON.out.mono ?_
  rintro e w' ⟨rfl, rfl⟩
  go_wp2_with fail
  refine HRD.out.mono ?_
  rintro e w8 ⟨ht, h8⟩
  obtain ⟨a8, c8, rfl, hb8⟩ := tells_err ht
  have hB8 := hB7.trans (hb8.mono hB7.size)
  have hre := restart_m h8 hB8.size cut
  rw [E6.out] at hre
  have HRE := Lib.hid hre
  clear ht h8 hb8 hre hB7 HRD HON
  go_wp2_with fail
  refine HRE.out.mono ?_
  rintro e w9 ⟨rfl, h9, hb9⟩
  dsimp only at h9
  have hB9 := hB8.trans hb9
  have hrd := read_m h9 0 0
  rw [E7.out] at hrd
  have HRD := Lib.hid hrd
  clear h9 hb9 hB8 HRE hrd
  go_wp2_with fail
  refine HRD.out.mono ?_
  rintro e w10 ⟨ht, h10⟩
  obtain ⟨ap, cp, rfl, hrp, hb10⟩ := tells_page ht (pg_length 1)
  have hB10 := hB9.trans (hb10.mono hB9.size)
  have hrd := read_m h10 0 1
  rw [E8.out] at hrd
  clear ht hb10 hB9 HRD h10
  by_cases h0 : cut ≤ 0
  · rw [if_pos h0] at hrd
    have HRD := Lib.hid hrd
    have HRP := Lib.hid hrp
    have e11 := E11.out
    rw [if_pos h0] at e11
    replace E11 := Lib.hid e11
    clear hrd hrp e11
    go_wp2_with fail
    refine HRD.out.mono ?_
    rintro e w11 ⟨ht, h11⟩
    obtain ⟨aq, cq, rfl, hb11⟩ := tells_err ht
    have hB11 := hB10.trans (hb11.mono hB10.size)
    have hrp := HRP.out.below hb11
    have hq0 := conv_any w11.drew ap cp (pg 1) hrp (pg_length 1)
    have HQ := Lib.hid (fun W (hW : Below w11.heap.size w11 W) => conv_any W ap cp (pg 1) (hrp.below hW) (pg_length 1))
    have HPG := Lib.hid (page_drew_at 1 1 rfl w11)
    have HBO := Lib.hid (fun W (hW : Below w11.heap.size w11 W) => E9.out ▸ boots_m (h11.keep hW))
    have HNX := Lib.hid (fun W (hW : Below w11.heap.size w11 W) => (show Calls Try.prog 17 #[.pointer (some ⟨g, 0, none⟩), .int .i64 0] W fun e w' => e = .returned (.int .i64 1) ∧ W = w' by have h := next_m (h11.keep hW) 0 E10.out; rw [E11.out] at h; exact h))
    generalize strOf (pg 1) = S1 at hq0 HQ HPG
    clear ht hb11 hrp h11 HRP HRD hB10
    go_wp2
    go_region_held (fun W => (convert 30 9 (.slice ap 96 cp)).run Try.prog W = .ok (.string S1) W) (first | exact hq0 | exact hq4) (first | (go_at_call 14; ((with_reducible refine HPG.out.mono ?_); rintro e w9 ⟨dz, rfl, hb9, hc9⟩; have hq4 := HQ.out _ hb9; have hbo := HBO.out _ hb9)) | (go_at_call 24; ((with_reducible refine hbo.mono ?_); rintro e w10 ⟨rfl, rfl⟩)))
    have hnx := HNX.out _ hb9
    have hBz := hB11.trans (hb9.mono hB11.size)
    have HNX2 := Lib.hid hnx
    have HBz := Lib.hid hBz
    clear hnx hBz hb9 hB11 HNX HBO HQ HPG hq0 hq4 hc9 hbo
    go_wp2_with (go_at_call 17; refine HNX2.out.mono ?_; rintro e w' ⟨rfl, rfl⟩)
    go_ret
    exact ⟨rfl, HBz.out⟩
  · rw [if_neg h0] at hrd
    have HRD := Lib.hid hrd
    have HRP := Lib.hid hrp
    have e11 := E11.out
    rw [if_neg h0] at e11
    replace E11 := Lib.hid e11
    clear hrd hrp e11
    go_wp2_with fail
    refine HRD.out.mono ?_
    rintro e w11 ⟨ht, h11⟩
    obtain ⟨aq, cq, rfl, hrq, hb11⟩ := tells_page ht (pad_length _ _ (by rw [pg_length]; omega))
    have hB11 := hB10.trans (hb11.mono hB10.size)
    have hrp := HRP.out.below hb11
    have hq0 := conv_any w11.drew ap cp (pg 1) hrp (pg_length 1)
    have HQ := Lib.hid (fun W (hW : Below w11.heap.size w11 W) => conv_any W ap cp (pg 1) (hrp.below hW) (pg_length 1))
    have HQQ := Lib.hid (fun W (hW : Below w11.heap.size w11 W) => conv_any W aq cq (pad (pg b) cut) (hrq.below hW) (pad_length _ _ (by rw [pg_length]; omega)))
    have HPG := Lib.hid (page_drew_at 1 1 rfl w11)
    have HBO := Lib.hid (fun W (hW : Below w11.heap.size w11 W) => E9.out ▸ boots_m (h11.keep hW))
    have HNX := Lib.hid (fun W (hW : Below w11.heap.size w11 W) => (show Calls Try.prog 17 #[.pointer (some ⟨g, 0, none⟩), .int .i64 0] W fun e w' => e = .returned (.int .i64 2) ∧ W = w' by have h := next_m (h11.keep hW) 0 E10.out; rw [E11.out] at h; exact h))
    generalize strOf (pg 1) = S1 at hq0 HQ HPG
    clear ht hb11 hrp h11 HRP HRD hB10 hrq
    go_wp2
    go_region_held (fun W => (convert 30 9 (.slice ap 96 cp)).run Try.prog W = .ok (.string S1) W) (first | exact hq0 | exact hq4) (first | (go_at_call 14; ((with_reducible refine HPG.out.mono ?_); rintro e w9 ⟨dz, rfl, hb9, hc9⟩; have hq4 := HQ.out _ hb9; have hbo := HBO.out _ hb9)) | (go_at_call 24; ((with_reducible refine hbo.mono ?_); rintro e w10 ⟨rfl, rfl⟩)))
    clear HBO HQ HPG hq0 hq4 hc9 hbo
    go_wp2_with fail
    refine (page_m b _).mono ?_
    rintro e w12 ⟨dw, rfl, -, hb12, hdw1, hdw2, hown12⟩
    have hbz := hb9.trans (hb12.mono hb9.size)
    have hge : w11.heap.size ≤ dw := Nat.le_trans hb9.size hdw1
    have hmix : OwnsPage w12 0 dw (((pad (pg b) cut).take 0 ++ (pg b).drop 0).map bv) := by rw [List.take_zero, List.drop_zero, List.nil_append]; exact owns_base0 hown12
    have hfl : (pad (pg b) cut).length = 96 := pad_length _ _ (by rw [pg_length]; omega)
    have hlow := fun (k : Nat) => pad_low (pg b) cut (pg_length b) k
    have hhigh := fun (k : Nat) (hk : (cut : Int) ≤ k) => pad_getD (pg b) cut k (by rw [List.length_take, pg_length]; omega)
    have hflt := pad_lt (pg b) cut (pg_lt b)
    have hll := pg_length b
    generalize pad (pg b) cut = f at *
    generalize pg b = l at *
    have HLOW := Lib.hid hlow
    have HHIGH := Lib.hid hhigh
    have HFL := Lib.hid hfl
    have HFLT := Lib.hid hflt
    have HLL := Lib.hid hll
    clear hlow hhigh hfl hflt hll hb9 hb12 hown12 hdw1 hdw2
    go_wp2
    go_loopw [14] (fun iv wr => ∃ k : Nat, k ≤ 96 ∧ iv = .int .i64 k ∧ OwnsPage wr 0 dw ((f.take k ++ l.drop k).map bv) ∧ Below w11.heap.size w11 wr) (fun iv _ => 96 - (intOf iv).toNat)
    case atStart => exact ⟨0, by omega, rfl, hmix, hbz⟩
    case round =>
      obtain ⟨k, hk, rfl, hown, hbr⟩ := hrel
      clear hmix hbz
      by_cases hlt : k < 96
      · by_cases hc : (k : Int) < cut
        · have hc2 : ¬ (cut ≤ (k : Int)) := by omega
          have he := HLOW.out k hc hlt
          have hs := mix_same f l k HFL.out HLL.out hlt he
          rw [hs] at hown
          have HO := Lib.hid hown
          clear hown hs he
          go_wp2
          go_roundw
          case rel => exact ⟨k + 1, by omega, by go_num, HO.out, hbr⟩
          case measure => simp [intOf]; omega
        · have hc2 : (cut ≤ (k : Int)) := by omega
          have hcl := World.ownsRow.cellAt hown k (by omega)
          have hf3 := World.ownsRow.frozenAt hown k
          obtain ⟨u, hu⟩ : ∃ u, ((f.take k ++ l.drop k).map bv)[k]? = some u := ⟨_, List.getElem?_eq_getElem (by rw [List.length_map, List.length_append, List.length_take, List.length_drop, HFL.out, HLL.out]; omega)⟩
          rw [hu] at hcl
          obtain ⟨hst, -⟩ := World.ownsRow.stored hown k (bv (f.getD k 0))
          rw [mix_set _ _ _ HFL.out HLL.out hlt, HHIGH.out k hc2 hlt] at hst
          have hb3 := hbr.setCell (p := ⟨dw, k, none⟩) hge (bv 255)
          have HSS := Lib.hid hst
          have HBB := Lib.hid hb3
          clear hst hb3 hown hbr hu
          go_wp2
          go_roundw
          case rel => exact ⟨k + 1, by omega, by go_num, HSS.out, HBB.out⟩
          case measure => simp [intOf]; omega
      · obtain rfl : k = 96 := by omega
        rw [List.take_of_length_le (Nat.le_of_eq HFL.out), List.drop_of_length_le (Nat.le_of_eq HLL.out), List.append_nil] at hown
        obtain ⟨hrw, -, -⟩ := rd_own96 hown HFLT.out HFL.out
        have hcw := conv_page wr dw 96 f hrw HFL.out
        have hcq := HQQ.out wr hbr
        have hnx := HNX.out wr hbr
        have HNX2 := Lib.hid hnx
        have HBz := Lib.hid (hB11.trans (hbr.mono hB11.size))
        generalize strOf f = S2 at hcw hcq
        clear hown hrw hbr hnx hB11 HNX HQQ HLOW HHIGH
        go_wp2_with (go_at_call 17; refine HNX2.out.mono ?_; rintro e w' ⟨rfl, rfl⟩)
        go_ret
        exact ⟨rfl, HBz.out⟩
end Go.Proofs.Ytjibiehchfhjnaa
