/- The walk of the law NandFails: a block fails from its n-th operation on, and in all behind; what is there can be read. -/
import Derived.Test.YtjibiehchfhjnaaCuts
import Derived.Test.YtjibiehchfhjnaaAsks
namespace Drawbar.Nand
open Go.RowKit
/-- Behind i operations, counted from 1, of a block that fails from the k-th on. -/
structure Fl (s : Arr) (i k : Nat) : Prop where
  n : s.n = 2
  pages : s.pages = 32
  fence : s.fence = 0
  off : s.off = false
  armed : s.armed = 0
  torn : (s.b 0).torn = false
  len : (s.b 0).pages.length = i
  first : (s.b 0).pages[0]? = some ((List.range 96).map fun i => (3 + i * 7) % 256)
  good : i ≤ k → (s.b 0).fails = false ∧ (s.b 0).doom = k - i + 1
  bad : k < i → (s.b 0).fails = true ∧ (s.b 0).doom = 0 ∧ (s.b 0).failed = true

theorem fl_mk {s : Arr} {i k : Nat} {B : Blk} (hb : s.b 0 = B) (h1 : s.n = 2) (h2 : s.pages = 32) (h3 : s.fence = 0) (h4 : s.off = false) (h5 : s.armed = 0) (h6 : B.torn = false) (h7 : B.pages.length = i) (h8 : B.pages[0]? = some ((List.range 96).map fun i => (3 + i * 7) % 256))
    (h9 : i ≤ k → B.fails = false ∧ B.doom = k - i + 1) (h10 : k < i → B.fails = true ∧ B.doom = 0 ∧ B.failed = true) : Fl s i k := by
  subst hb; exact ⟨h1, h2, h3, h4, h5, h6, h7, h8, h9, h10⟩
theorem first_app {l : List (List Nat)} {x y : List Nat} (h : l[0]? = some x) : (l ++ [y])[0]? = some x := by
  cases l with
  | nil => simp at h
  | cons a r => simpa using h

theorem fl_in {s : Arr} {i k : Nat} (h : Fl s i k) : inB 0 s.n := by unfold inB; rw [h.n]; omega

theorem fl_program {s : Arr} {i k : Nat} (h : Fl s i k) (hi : i < 32) (l : List Nat) (h96 : l.length = 96) :
    ∃ s', s.program 0 i l 1 = ((if i < k then 0 else 8), s') ∧ Fl s' (i + 1) k := by
  have e0 : (0 : Int).toNat = 0 := rfl
  have hop : s.program 0 i l 1 = (let r := s.operate 0 (.lay 0 l) (fun b => b.lay l 96); if r.1 = 8 then (8, { r.2 with b := upd r.2.b 0 ((r.2.b 0).lay [] 96) }) else r) := by
    unfold Arr.program
    rw [if_neg (fun hh => hh (fl_in h)), if_neg (by rw [h.off]; simp), if_neg (fun hh => hh (by rw [h.pages]; exact inB_nat hi)), if_neg (by simp [h96]), e0, if_neg (by rw [h.len, h.torn]; simp), if_neg (by rw [h.fence]; omega)]
  have htb : (s.tick 0).b 0 = (s.b 0).tick := upd_same s.b 0 (s.b 0).tick
  have ha : s.armed - 1 = 0 := by rw [h.armed]
  rcases Nat.lt_or_ge i k with hik | hik
  · obtain ⟨g1, g2⟩ := h.good (by omega)
    have ht : (s.b 0).tick.fails = false := by unfold Blk.tick; simp only [g1, g2]; simp; omega
    have e : s.operate 0 (.lay 0 l) (fun b => b.lay l 96) = (0, { s.tick 0 with b := upd s.b 0 ((s.b 0).tick.lay l 96) }) := by
      unfold Arr.operate
      rw [if_neg (by rw [h.armed]; omega), if_neg (by rw [ht]; simp)]
    refine ⟨{ s.tick 0 with b := upd s.b 0 ((s.b 0).tick.lay l 96) }, ?_, ?_⟩
    · rw [hop, e, if_pos hik]
      dsimp only
      rw [if_neg (by omega)]
    · have hl : (s.b 0).tick.lay l 96 = { (s.b 0).tick with pages := (s.b 0).pages ++ [pad l 96] } := by unfold Blk.lay; rw [if_neg (by omega)]; rfl
      refine fl_mk (B := { (s.b 0).tick with pages := (s.b 0).pages ++ [pad l 96] }) ((upd_same s.b 0 ((s.b 0).tick.lay l 96)).trans hl) h.n h.pages h.fence h.off ha h.torn (by simp [h.len]) (first_app h.first) (fun _ => ⟨ht, ?_⟩) (fun hh => by omega)
      show (s.b 0).doom - 1 = _
      rw [g2]; omega
  · have ht : (s.b 0).tick.fails = true ∧ (s.b 0).tick.doom = 0 := by
      unfold Blk.tick
      rcases Nat.lt_or_ge k i with h1 | h1
      · obtain ⟨g1, g2, g3⟩ := h.bad h1
        simp [g1, g2]
      · obtain ⟨g1, g2⟩ := h.good h1
        have : (s.b 0).doom = 1 := by omega
        simp [this]
    have e : s.operate 0 (.lay 0 l) (fun b => b.lay l 96) = (8, { s.tick 0 with b := upd s.b 0 { (s.b 0).tick with failed := true } }) := by
      unfold Arr.operate
      rw [if_neg (by rw [h.armed]; omega), if_pos ht.1]
    refine ⟨{ s.tick 0 with b := upd (upd s.b 0 { (s.b 0).tick with failed := true }) 0 (({ (s.b 0).tick with failed := true } : Blk).lay [] 96) }, ?_, ?_⟩
    · rw [hop, e, if_neg (show ¬ i < k by omega)]
      dsimp only
      rw [if_pos rfl, upd_same]
    · have hl : ({ (s.b 0).tick with failed := true } : Blk).lay [] 96 = { (s.b 0).tick with pages := (s.b 0).pages ++ [pad [] 96], failed := true } := by unfold Blk.lay; rw [if_neg (by omega)]; rfl
      exact fl_mk (B := { (s.b 0).tick with pages := (s.b 0).pages ++ [pad [] 96], failed := true }) ((upd_same (upd s.b 0 { (s.b 0).tick with failed := true }) 0 (({ (s.b 0).tick with failed := true } : Blk).lay [] 96)).trans hl) h.n h.pages h.fence h.off ha h.torn (by simp [h.len]) (first_app h.first) (fun hh => by omega) (fun _ => ⟨ht.1, ht.2, rfl⟩)

theorem fl_erase {s : Arr} {i k : Nat} (h : Fl s i k) (hik : k < i) : ∃ s', s.erase 0 1 = (8, s') ∧ Fl s' i k := by
  have e0 : (0 : Int).toNat = 0 := rfl
  obtain ⟨g1, g2, g3⟩ := h.bad hik
  have ht : (s.b 0).tick.fails = true ∧ (s.b 0).tick.doom = 0 := by unfold Blk.tick; simp [g1, g2]
  refine ⟨{ s.tick 0 with b := upd s.b 0 { (s.b 0).tick with failed := true } }, ?_, ?_⟩
  · unfold Arr.erase
    rw [if_neg (fun hh => hh (fl_in h)), if_neg (by rw [h.off]; simp), if_neg (by rw [h.fence]; omega), e0]
    unfold Arr.operate
    rw [if_neg (by rw [h.armed]; omega), if_pos ht.1]
  · exact fl_mk (B := { (s.b 0).tick with failed := true }) (upd_same s.b 0 { (s.b 0).tick with failed := true }) h.n h.pages h.fence h.off (by show s.armed - 1 = 0; rw [h.armed]) h.torn h.len h.first (fun hh => by omega) (fun _ => ⟨ht.1, ht.2, rfl⟩)
theorem fl_read {s : Arr} {i k : Nat} (h : Fl s i k) (hi : 0 < i) : s.read 0 0 = (0, (List.range 96).map fun i => (3 + i * 7) % 256) := by
  have e0 : (0 : Int).toNat = 0 := rfl
  unfold Arr.read
  rw [if_neg (fun hh => hh (fl_in h)), if_neg (by rw [h.off]; simp), if_neg (fun hh => hh (by unfold inB; rw [h.pages]; omega)), e0, if_neg (by rw [h.len]; omega), if_neg (by rw [h.torn]; simp), List.getD_eq_getElem?_getD, h.first]
  rfl
end Drawbar.Nand
namespace Go.Proofs.Ytjibiehchfhjnaa
open Go.RowKit
open Drawbar Drawbar.Nand

theorem fails_start (k : Nat) (hk : 0 < k) : ∃ s1 s3, (newS 2 32 [1] 1).program 0 0 (pg 3) 1 = (0, s1) ∧ 0 < s1.n ∧ ({ s1 with b := upd s1.b 0 { s1.b 0 with doom := k } } : Arr).erase 1 1 = (8, s3) ∧ (s3.b 1).failed = true ∧ (s3.b 0).failed = false ∧ Fl s3 1 k := by
  have hf : Fine (newS 2 32 [1] 1) 0 := ⟨by show 0 < 2; omega, rfl, rfl, rfl, rfl, rfl⟩
  have e1 := program_ok hf (pg 3) 1 (by show 0 < 32; omega) (by show 0 ≤ 1; omega) (pg_length 3)
  refine ⟨_, { ({ (newS 2 32 [1] 1).put 0 (pg 3) with b := upd ((newS 2 32 [1] 1).put 0 (pg 3)).b 0 { ((newS 2 32 [1] 1).put 0 (pg 3)).b 0 with doom := k } } : Arr).tick 1 with b := upd (upd ((newS 2 32 [1] 1).put 0 (pg 3)).b 0 { ((newS 2 32 [1] 1).put 0 (pg 3)).b 0 with doom := k }) 1 badBlk }, e1, by show 0 < 2; omega, ?_, rfl, rfl, ?_⟩
  · rfl
  · refine fl_mk (B := { fresh with pages := [pg 3], doom := k }) rfl rfl rfl rfl rfl rfl rfl rfl rfl (fun _ => ⟨rfl, ?_⟩) (fun h => by omega)
    show k = k - 1 + 1
    omega

set_option maxRecDepth 100000 in
set_option maxHeartbeats 4000000 in
theorem fails_any (n : Nat) (hn : n < 256) (l : List Nat) (a : Option Addr) (cap : Nat) (w : World) (hs : Seen w a l) : Calls Try.prog 5 #[.int .u8 n, .slice a l.length cap] w (Yes w) := by
  obtain ⟨k, hk1, hk20, hk⟩ : ∃ k : Nat, 1 ≤ k ∧ k ≤ 20 ∧ 1 + (n : Int) % 20 = k := ⟨1 + n % 20, by omega, by omega, by omega⟩
  have hn2 : (n : Int) ≤ 255 := by omega
  obtain ⟨s1, s3, e1, e2, e3, e4, e5, e6⟩ := fails_start k (by omega)
  have E1 := Lib.hid e1
  have E3 := Lib.hid e3
  have E4 := Lib.hid e4
  have E5 := Lib.hid e5
  have E6 := Lib.hid e6
  have HS := Lib.hid hs
  clear e1 e3 e4 e5 e6 hs
  go_enter Try.func5, Try.ntmps5
  go_wp2_with fail
  refine (awake_any w).mono ?_
  rintro e w1 ⟨rfl, hb1⟩
  have hnew := new_any 2 32 [1] (some ⟨w1.heap.size, 0, none⟩) 1 (w1.alloc (.cells #[.int .i64 1] 3)) (by omega) (by omega) (by omega) (by omega) (by simp) (by simp) (fun _ => ⟨_, rfl, fun j hj => by
    obtain rfl : j = 0 := by simp at hj; omega
    unfold World.cell?
    rw [heap_alloc_new]
    rfl⟩)
  have HN := Lib.hid hnew
  have hb1a : Below w.heap.size w (w1.alloc (.cells #[.int .i64 1] 3)) := hb1.alloc hb1.size _
  clear hnew hb1
  go_wp2_with fail
  refine HN.out.mono ?_
  intro e w2 hm
  obtain ⟨g, rfl, h2, hb2⟩ := hm.mine
  have hB2 := hb1a.trans (hb2.mono hb1a.size)
  replace h2 := h2.base hb1a.size
  clear hm hb1a hb2 HN
  go_wp2_with fail
  refine (page_m 3 w2).mono ?_
  rintro e w3 ⟨d, rfl, hr3, hb3, -⟩
  have hB3 := hB2.trans (hb3.mono hB2.size)
  have hp := program_m (h2.keep hb3) hB3.size 0 0 (pg 3) (some ⟨d, 0, none⟩) 96 1 hr3 96 (pg_length 3)
  rw [show newS 2 32 [1] [1].length = newS 2 32 [1] 1 from rfl, E1.out] at hp
  have HP := Lib.hid hp
  clear hp hr3 hb3 hB2 h2
  go_wp2_with fail
  refine HP.out.mono ?_
  rintro e w4 ⟨rfl, h4, hb4⟩
  dsimp only at h4
  have hB4 := hB3.trans hb4
  have hdo := doom_m h4 hB4.size 0 k e2 (by omega)
  have HD := Lib.hid hdo
  clear hdo h4 hb4 hB3 HP
  go_wp2_with fail
  refine HD.out.mono ?_
  rintro e w5 ⟨rfl, h5, hb5⟩
  dsimp only at h5
  have hB5 := hB4.trans hb5
  have he := erase_m h5 hB5.size 1 1
  rw [E3.out] at he
  have HE := Lib.hid he
  clear he h5 hb5 hB4 HD
  go_wp2_with fail
  refine HE.out.mono ?_
  rintro e w6 ⟨rfl, h6, hb6⟩
  dsimp only at h6
  have hB6 := hB5.trans hb6
  have hf1 := failed_m h6 1 (by rw [E6.out.n]; omega)
  rw [E4.out] at hf1
  have hf0 := failed_m h6 0 (by rw [E6.out.n]; omega)
  rw [E5.out] at hf0
  have HF1 := Lib.hid hf1
  have HF0 := Lib.hid hf0
  clear hf1 hf0 hb6 hB5 HE
  go_wp2_with fail
  refine HF1.out.mono ?_
  rintro e w' ⟨rfl, rfl⟩
  go_wp2_with fail
  refine HF0.out.mono ?_
  rintro e w' ⟨rfl, rfl⟩
  clear HF1 HF0
  go_wp2
  go_loopw [8] (fun iv wr => ∃ (i : Nat) (s : Arr), 1 ≤ i ∧ i ≤ k + 3 ∧ iv = .int .i64 i ∧ Fl s i k ∧ Mine w.heap.size wr g s ∧ Below w.heap.size w wr) (fun iv _ => k + 3 - (intOf iv).toNat)
  case atStart => exact ⟨1, s3, by omega, by omega, rfl, E6.out, h6, hB6⟩
  case round =>
    obtain ⟨i, s, hi1, hi3, rfl, hfl, hmine, hB⟩ := hrel
    clear h6 hB6
    by_cases hle : i ≤ k + 2
    · have hnx := next_m hmine 0 (by rw [hfl.n]; omega)
      rw [hfl.len] at hnx
      obtain ⟨s', ep, hfl'⟩ := fl_program hfl (by omega) (pg 4) (pg_length 4)
      have hp := fun w1 (hb : Below wr.heap.size wr w1) d (hr : Rd w1 (some ⟨d, 0, none⟩) (pg 4)) => program_m (hmine.keep hb) (Nat.le_trans hB.size hb.size) 0 i (pg 4) (some ⟨d, 0, none⟩) 96 1 hr 96 (pg_length 4)
      simp only [ep] at hp
      have HNX := Lib.hid hnx
      have HO := Lib.hid hfl'
      clear hnx ep hfl hfl' hmine
      by_cases hik : i < k
      · simp only [if_pos hik] at hp
        have HP := Lib.hid hp
        clear hp
        go_wp2_with (go_at_call 17; refine HNX.out.mono ?_; rintro e w' ⟨rfl, rfl⟩)
        refine (page_m 4 wr).mono ?_
        rintro e w3 ⟨d, rfl, hr, hb3, -⟩
        have HPP := Lib.hid (HP.out w3 hb3 d hr)
        have hB3 := hB.trans (hb3.mono hB.size)
        clear hr hb3 HP hB HNX
        go_wp2_with fail
        refine HPP.out.mono ?_
        rintro e w5 ⟨rfl, h5, hb5⟩
        have hB5 := hB3.trans hb5
        dsimp only at h5
        clear HPP hb5 hB3
        have hik2 : ¬ ((k : Int) ≤ (i : Int)) := by omega
        have hik3 : decide ((i : Int) < (k : Int)) = true := by simpa using hik
        go_wp2
        go_roundw
        case rel => exact ⟨i + 1, _, by omega, by omega, by go_num, HO.out, h5, hB5⟩
        case measure => simp [intOf]; omega
      · simp only [if_neg hik] at hp
        have HP := Lib.hid hp
        clear hp
        go_wp2_with (go_at_call 17; refine HNX.out.mono ?_; rintro e w' ⟨rfl, rfl⟩)
        refine (page_m 4 wr).mono ?_
        rintro e w3 ⟨d, rfl, hr, hb3, -⟩
        have HPP := Lib.hid (HP.out w3 hb3 d hr)
        have hB3 := hB.trans (hb3.mono hB.size)
        clear hr hb3 HP hB HNX
        go_wp2_with fail
        refine HPP.out.mono ?_
        rintro e w5 ⟨rfl, h5, hb5⟩
        have hB5 := hB3.trans hb5
        dsimp only at h5
        clear HPP hb5 hB3
        have hik2 : ((k : Int) ≤ (i : Int)) := by omega
        have hik3 : decide ((i : Int) < (k : Int)) = false := by simpa using hik
        by_cases hlen : i ≤ l.length
        · obtain ⟨hl, hc⟩ := HS.out
          obtain ⟨b, off, rfl, hcell⟩ := hc (by omega)
          have hcw := (hB5.cell (p := ⟨b, off + (i - 1), none⟩) (World.block_lt_of_cell? w _ (hcell (i - 1) (by omega)))).trans (hcell (i - 1) (by omega))
          have hx := hl _ (getD_mem l (i - 1) (by omega))
          clear hl hc hcell
          generalize l.getD (i - 1) 0 = x at hcw hx
          obtain ⟨q, hq⟩ : ∃ q : Nat, (x : Int) % 2 = q := ⟨x % 2, by omega⟩
          by_cases hq1 : q = 1
          · subst hq1
            obtain ⟨s'', ee, hfl''⟩ := fl_erase HO.out (by omega)
            have he := erase_m h5 hB5.size 0 1
            rw [ee] at he
            have HE := Lib.hid he
            replace HO := Lib.hid hfl''
            clear he ee hfl'' h5
            go_wp2_with fail
            refine HE.out.mono ?_
            rintro e w6 ⟨rfl, h6, hb6⟩
            dsimp only at h6
            have hB6 := hB5.trans hb6
            clear HE hb6 hB5
            dsimp only
            go_wp2
            go_roundw
            case rel => exact ⟨i + 1, _, by omega, by omega, by go_num, HO.out, h6, hB6⟩
            case measure => simp [intOf]; omega
          · have hq2 : ¬ ((q : Int) = 1) := by omega
            go_wp2
            go_roundw
            case rel => exact ⟨i + 1, _, by omega, by omega, by go_num, HO.out, h5, hB5⟩
            case measure => simp [intOf]; omega
        · have hlen2 : ¬ ((i : Int) ≤ (l.length : Int)) := by omega
          go_wp2
          go_roundw
          case rel => exact ⟨i + 1, _, by omega, by omega, by go_num, HO.out, h5, hB5⟩
          case measure => simp [intOf]; omega
    · have hle2 : ¬ ((i : Int) ≤ (k : Int) + 2) := by omega
      have hrd := read_m hmine 0 0
      rw [show s.read 0 0 = (0, pg 3) from fl_read hfl (by omega)] at hrd
      have HRD := Lib.hid hrd
      have hfa := (hfl.bad (by omega)).2.2
      have hsn : 0 < s.n := by rw [hfl.n]; omega
      have HFA := Lib.hid hfa
      clear hrd hfa hfl hmine
      go_wp2_with fail
      refine HRD.out.mono ?_
      rintro e w11 ⟨ht, h11⟩
      obtain ⟨ap, cp, rfl, hrp, hb11⟩ := tells_page ht (pg_length 3)
      have hB11 := hB.trans (hb11.mono hB.size)
      have hq0 := conv_any w11.drew ap cp (pg 3) hrp (pg_length 3)
      have HQ := Lib.hid (fun W (hW : Below w11.heap.size w11 W) => conv_any W ap cp (pg 3) (hrp.below hW) (pg_length 3))
      have HPG := Lib.hid (page_drew_at 3 3 rfl w11)
      have HFD := Lib.hid (fun W (hW : Below w11.heap.size w11 W) => (show Calls Try.prog 26 #[.pointer (some ⟨g, 0, none⟩), .int .i64 0] W fun e w' => e = .returned (.bool true) ∧ W = w' by have h := failed_m (h11.keep hW) 0 hsn; rw [HFA.out] at h; exact h))
      generalize strOf (pg 3) = S1 at hq0 HQ HPG
      clear ht hb11 hrp h11 HRD hB HS
      go_wp2
      go_region_held (fun W => (convert 30 9 (.slice ap 96 cp)).run Try.prog W = .ok (.string S1) W) (first | exact hq0 | exact hq4) (first | (go_at_call 14; ((with_reducible refine HPG.out.mono ?_); rintro e w9 ⟨dz, rfl, hb9, hc9⟩; have hq4 := HQ.out _ hb9; have hfd := HFD.out _ hb9)) | (go_at_call 26; ((with_reducible refine hfd.mono ?_); rintro e w10 ⟨rfl, rfl⟩)))
      all_goals
        go_wp2
        go_ret
        exact ⟨rfl, hB11.trans ((by assumption : Below w11.heap.size w11 _).mono hB11.size)⟩
end Go.Proofs.Ytjibiehchfhjnaa
