/- The walk of the law NandOrder: pages of a block are programmed one behind the other, each once; behind an erasing anew. -/
import Derived.Test.YtjibiehchfhjnaaAwake
import Derived.Test.YtjibiehchfhjnaaAsks
import Derived.Outline
namespace Drawbar.Nand
open Go.RowKit
theorem program_page {s : Arr} {i : Nat} (h : Fine s i) (p : Nat) (l : List Nat) (epoch : Nat) (hp : s.pages ≤ p) : s.program i p l epoch = (1, s) := by
  unfold Arr.program
  rw [if_neg (fun hh => hh (inB_nat h.hi)), if_neg (by rw [h.off]; simp), if_pos (by unfold inB; omega)]
theorem program_order {s : Arr} {i : Nat} (h : Fine s i) (p : Nat) (l : List Nat) (epoch : Nat) (hp : p < s.pages) (h96 : l.length = 96) (ho : p ≠ (s.b i).pages.length) : s.program i p l epoch = (6, s) := by
  unfold Arr.program
  rw [if_neg (fun hh => hh (inB_nat h.hi)), if_neg (by rw [h.off]; simp), if_neg (fun hh => hh (inB_nat hp)), if_neg (by simp [h96])]
  simp only [Int.toNat_natCast]
  rw [if_pos (.inl (by omega))]
/-- A block anew. -/
def Arr.clear (s : Arr) (i : Nat) : Arr := { s with b := upd s.b i { s.b i with pages := [], torn := false, erases := wrap64 ((s.b i).erases + 1) }, ops := wrap64 (s.ops + 1) }
theorem erase_ok {s : Arr} {i : Nat} (h : Fine s i) (epoch : Nat) (hf : s.fence ≤ epoch) : s.erase i epoch = (0, s.clear i) := by
  unfold Arr.erase
  rw [if_neg (fun hh => hh (inB_nat h.hi)), if_neg (by rw [h.off]; simp), if_neg (by omega), Int.toNat_natCast, operate_fine h]
  unfold Blk.erase
  rw [if_neg (by omega), if_neg (by rw [h.fails]; simp)]
  rfl
/-- An array of one block of eight pages: m are programmed, it was erased r times. -/
structure Ord (s : Arr) (m r : Nat) : Prop where
  fine : Fine s 0
  pages : s.pages = 8
  fence : s.fence = 0
  len : (s.b 0).pages.length = m
  erases : (s.b 0).erases = r
theorem ord_new : Ord (Arr.new 1 8 (fun _ => fresh)) 0 0 := ⟨⟨by decide, rfl, rfl, rfl, rfl, rfl⟩, rfl, rfl, rfl, rfl⟩
theorem ord_put {s : Arr} {m r : Nat} (h : Ord s m r) (l : List Nat) : Ord (s.put 0 l) (m + 1) r := by
  obtain ⟨⟨a1, a2, a3, a4, a5, a6⟩, a7, a8, a9, a10⟩ := h
  exact ⟨⟨a1, a2, a3, by simpa [Arr.put] using a4, by simpa [Arr.put] using a5, by simpa [Arr.put] using a6⟩, a7, a8, by simp [Arr.put, a9], by simpa [Arr.put] using a10⟩
theorem ord_clear {s : Arr} {m r : Nat} (h : Ord s m r) (hr : r < 1000) : Ord (s.clear 0) 0 (r + 1) := by
  obtain ⟨⟨a1, a2, a3, a4, a5, a6⟩, a7, a8, a9, a10⟩ := h
  exact ⟨⟨a1, a2, a3, by simp [Arr.clear], by simpa [Arr.clear] using a5, by simpa [Arr.clear] using a6⟩, a7, a8, by simp [Arr.clear], by simp [Arr.clear, a10, wrap64]; omega⟩
end Drawbar.Nand
namespace Go.Proofs.Ytjibiehchfhjnaa
open Go.RowKit
open Drawbar Drawbar.Nand

set_option maxHeartbeats 2000000 in
theorem order_any (l : List Nat) (a : Option Addr) (cap : Nat) (w : World) (hs : Seen w a l) : Calls Try.prog 8 #[.slice a l.length cap] w (Yes w) := by
  have HN := Lib.hid (fun w1 => new_at 1 8 w1 (by omega) (by omega) (by omega) (by omega))
  have HS := Lib.hid hs
  clear hs
  go_enter Try.func8, Try.ntmps8
  go_wp2_with fail
  refine (awake_any w).mono ?_
  rintro e w1 ⟨rfl, hb1⟩
  go_wp2_with fail
  refine (HN.out w1).mono ?_
  intro e w2 hm
  obtain ⟨g, rfl, h2, hb2⟩ := hm.mine
  have hB2 := hb1.trans (hb2.mono hb1.size)
  have h2' := h2.base hb1.size
  clear hm h2 hb2 hb1 HN
  go_wp2
  go_loopw [5, 6, 7] (fun nx er iv wr => ∃ (k m r : Nat) (s : Arr), k ≤ l.length ∧ k ≤ 80 ∧ iv = .int .i64 k ∧ nx = .int .i64 m ∧ er = .int .i64 r ∧ r ≤ k ∧ m ≤ 8 ∧ Ord s m r ∧ Mine w.heap.size wr g s ∧ Below w.heap.size w wr) (fun _ _ iv _ => l.length - (intOf iv).toNat)
  case atStart => exact ⟨0, 0, 0, _, Nat.zero_le _, by omega, rfl, rfl, rfl, Nat.le_refl _, by omega, ord_new, h2', hB2⟩
  case round =>
    obtain ⟨k, m, r, s, hk, hk80, rfl, rfl, rfl, hrk, hm8, hord, hmine, hB⟩ := hrel
    clear h2' hB2
    by_cases hlt : k < l.length
    · by_cases h80 : k < 80
      · obtain ⟨hl, hc⟩ := HS.out
        obtain ⟨b, off, rfl, hcell⟩ := hc (by omega)
        have hcw := (hB.cell (p := ⟨b, off + k, none⟩) (World.block_lt_of_cell? w _ (hcell k hlt))).trans (hcell k hlt)
        have hx := hl _ (getD_mem l k hlt)
        clear hl hc hcell
        generalize l.getD k 0 = x at hcw hx
        obtain ⟨q, hq, hq2⟩ : ∃ q : Nat, (x : Int) % 16 = q ∧ q = x % 16 := ⟨x % 16, by omega, rfl⟩
        obtain ⟨p, hp, hp2⟩ : ∃ p : Nat, (x : Int) % 10 = p ∧ p < 10 := ⟨x % 10, by omega, by omega⟩
        clear hq2
        by_cases h15 : q = 15
        · have he := erase_m hmine hB.size 0 0
          rw [show s.erase 0 0 = (0, s.clear 0) from erase_ok hord.fine 0 (by rw [hord.fence]; omega)] at he
          have HE := Lib.hid he
          have HO := Lib.hid (ord_clear hord (by omega))
          subst h15
          clear he hord hmine
          go_wp2_with fail
          refine HE.out.mono ?_
          rintro e w5 ⟨rfl, h5, hb5⟩
          have hB5 := hB.trans hb5
          dsimp only at h5
          clear HE hb5 hB
          go_wp2
          go_roundw
          case rel => exact ⟨k + 1, 0, r + 1, _, by omega, by omega, by go_num, rfl, by go_num, by omega, by omega, HO.out, h5, hB5⟩
          case measure => simp [intOf]; omega
        · have h15' : ¬ ((q : Int) = 15) := by omega
          have hpage := fun w1 (hb : Below wr.heap.size wr w1) d (hr : Rd w1 (some ⟨d, 0, none⟩) (pg x)) => program_m (hmine.keep hb) (Nat.le_trans hB.size hb.size) 0 p (pg x) (some ⟨d, 0, none⟩) 96 0 hr 96 (pg_length x)
          rcases Nat.lt_or_ge p 8 with hp8 | hp8
          · by_cases hpm : p = m
            · subst hpm
              have e1 : s.program 0 p (pg x) 0 = (0, s.put 0 (pg x)) := by
                have := program_ok hord.fine (pg x) 0 (by rw [hord.len, hord.pages]; exact hp8) (by rw [hord.fence]; omega) (pg_length x)
                rw [hord.len] at this
                exact this
              simp only [e1] at hpage
              have HO := Lib.hid (ord_put hord (pg x))
              have HP := Lib.hid hpage
              clear hpage e1 hord hmine
              go_wp2_with fail
              refine (page_m x wr).mono ?_
              rintro e w3 ⟨d, rfl, hr, hb3, -⟩
              have HPP := Lib.hid (HP.out w3 hb3 d hr)
              have hB3 := hB.trans (hb3.mono hB.size)
              clear hr hb3 HP hB
              go_wp2_with fail
              refine HPP.out.mono ?_
              rintro e w5 ⟨rfl, h5, hb5⟩
              have hB5 := hB3.trans hb5
              dsimp only at h5
              have hnx := next_m h5 0 HO.out.fine.hi
              have her := erases_m h5 0 HO.out.fine.hi
              rw [HO.out.len] at hnx
              rw [HO.out.erases] at her
              have HNX := Lib.hid hnx
              have HER := Lib.hid her
              clear HPP hb5 hB3 hnx her
              have hcast : ((p + 1 : Nat) : Int) = (p : Int) + 1 := by omega
              go_wp2_with (first
                | (go_at_call 17; refine HNX.out.mono ?_; rintro e w' ⟨rfl, rfl⟩)
                | (go_at_call 29; refine HER.out.mono ?_; rintro e w' ⟨rfl, rfl⟩))
              go_roundw
              case rel => exact ⟨k + 1, p + 1, r, _, by omega, by omega, by go_num, by go_num, rfl, by omega, by omega, HO.out, h5, hB5⟩
              case measure => simp [intOf]; omega
            · have e1 : s.program 0 p (pg x) 0 = (6, s) := Drawbar.Nand.program_order hord.fine p (pg x) 0 (by rw [hord.pages]; exact hp8) (pg_length x) (by rw [hord.len]; exact hpm)
              have hpm2 : ¬ ((p : Int) = (m : Int)) := by omega
              simp only [e1] at hpage
              have HO := Lib.hid hord
              have HP := Lib.hid hpage
              clear hpage e1 hord hmine
              go_wp2_with fail
              refine (page_m x wr).mono ?_
              rintro e w3 ⟨d, rfl, hr, hb3, -⟩
              have HPP := Lib.hid (HP.out w3 hb3 d hr)
              have hB3 := hB.trans (hb3.mono hB.size)
              clear hr hb3 HP hB
              go_wp2_with fail
              refine HPP.out.mono ?_
              rintro e w5 ⟨rfl, h5, hb5⟩
              have hB5 := hB3.trans hb5
              dsimp only at h5
              have hnx := next_m h5 0 HO.out.fine.hi
              have her := erases_m h5 0 HO.out.fine.hi
              rw [HO.out.len] at hnx
              rw [HO.out.erases] at her
              have HNX := Lib.hid hnx
              have HER := Lib.hid her
              clear HPP hb5 hB3 hnx her
              go_wp2_with (first
                | (go_at_call 17; refine HNX.out.mono ?_; rintro e w' ⟨rfl, rfl⟩)
                | (go_at_call 29; refine HER.out.mono ?_; rintro e w' ⟨rfl, rfl⟩))
              go_roundw
              case rel => exact ⟨k + 1, m, r, _, by omega, by omega, by go_num, rfl, rfl, by omega, by omega, HO.out, h5, hB5⟩
              case measure => simp [intOf]; omega
          · have e1 : s.program 0 p (pg x) 0 = (1, s) := Drawbar.Nand.program_page hord.fine p (pg x) 0 (by rw [hord.pages]; exact hp8)
            have hp82 : (8 : Int) ≤ p := by omega
            simp only [e1] at hpage
            have HO := Lib.hid hord
            have HP := Lib.hid hpage
            clear hpage e1 hord hmine
            go_wp2_with fail
            refine (page_m x wr).mono ?_
            rintro e w3 ⟨d, rfl, hr, hb3, -⟩
            have HPP := Lib.hid (HP.out w3 hb3 d hr)
            have hB3 := hB.trans (hb3.mono hB.size)
            clear hr hb3 HP hB
            go_wp2_with fail
            refine HPP.out.mono ?_
            rintro e w5 ⟨rfl, h5, hb5⟩
            have hB5 := hB3.trans hb5
            dsimp only at h5
            have hnx := next_m h5 0 HO.out.fine.hi
            have her := erases_m h5 0 HO.out.fine.hi
            rw [HO.out.len] at hnx
            rw [HO.out.erases] at her
            have HNX := Lib.hid hnx
            have HER := Lib.hid her
            clear HPP hb5 hB3 hnx her
            go_wp2_with (first
              | (go_at_call 17; refine HNX.out.mono ?_; rintro e w' ⟨rfl, rfl⟩)
              | (go_at_call 29; refine HER.out.mono ?_; rintro e w' ⟨rfl, rfl⟩))
            go_roundw
            case rel => exact ⟨k + 1, m, r, _, by omega, by omega, by go_num, rfl, rfl, by omega, by omega, HO.out, h5, hB5⟩
            case measure => simp [intOf]; omega
      · have h80' : ¬ ((k : Int) < 80) := by omega
        clear hord hmine
        go_wp2
        go_ret
        exact ⟨rfl, hB⟩
    · have hlt' : ¬ ((k : Int) < (l.length : Int)) := by omega
      clear hord hmine
      go_wp2
      go_ret
      exact ⟨rfl, hB⟩
end Go.Proofs.Ytjibiehchfhjnaa
