/- The contract of drawbarlaw03.awake: it answers true, and lays nothing but new memory. -/
import Derived.Test.YtjibiehchfhjnaaApi
import Derived.Outline
namespace Drawbar.Nand
open Go.RowKit
theorem pad_whole (l : List Nat) (h : l.length = 96) (cut : Int) (hc : 96 ≤ cut) : pad l cut = l := by
  unfold pad
  rw [List.take_of_length_le (by omega), h]
  simp
/-- A page more in a block. -/
def Arr.put (s : Arr) (i : Nat) (l : List Nat) : Arr := { s with b := upd s.b i { s.b i with pages := (s.b i).pages ++ [l] }, ops := wrap64 (s.ops + 1) }
/-- A block that isn't failing, in an array whose power is on and not armed. -/
structure Fine (s : Arr) (i : Nat) : Prop where
  hi : i < s.n
  off : s.off = false
  armed : s.armed = 0
  torn : (s.b i).torn = false
  doom : (s.b i).doom = 0
  fails : (s.b i).fails = false
theorem tick_fine {s : Arr} {i : Nat} (h : Fine s i) : (s.b i).tick = s.b i := by
  unfold Blk.tick
  have h1 := h.doom
  have h2 := h.fails
  generalize s.b i = b at *
  obtain ⟨b1, b2, b3, b4, b5, b6⟩ := b
  dsimp only at h1 h2
  subst h1 h2
  rfl
theorem tick_ops {s : Arr} {i : Nat} (h : Fine s i) : s.tick i = { s with ops := wrap64 (s.ops + 1) } := by
  unfold Arr.tick
  rw [tick_fine h]
  have e : upd s.b i (s.b i) = s.b := by funext j; unfold upd; split <;> simp_all
  rw [e, h.armed, show (0 - 1 : Nat) = 0 from rfl, ← h.armed]
theorem operate_fine {s : Arr} {i : Nat} (h : Fine s i) (bg : Begun) (what : Blk → Blk) : s.operate i bg what = (0, { s with b := upd s.b i (what (s.b i)), ops := wrap64 (s.ops + 1) }) := by
  unfold Arr.operate
  rw [if_neg (by rw [h.armed]; omega), if_neg (by rw [tick_fine h, h.fails]; simp), tick_fine h, tick_ops h]
theorem inB_nat {i n : Nat} (h : i < n) : inB (i : Int) n := ⟨by omega, by omega⟩
theorem program_ok {s : Arr} {i : Nat} (h : Fine s i) (l : List Nat) (epoch : Nat) (hlt : (s.b i).pages.length < s.pages) (hf : s.fence ≤ epoch) (h96 : l.length = 96) : s.program i (s.b i).pages.length l epoch = (0, s.put i l) := by
  unfold Arr.program
  rw [if_neg (fun hh => hh (inB_nat h.hi)), if_neg (by rw [h.off]; simp), if_neg (fun hh => hh (inB_nat hlt)), if_neg (by simp [h96])]
  simp only [Int.toNat_natCast]
  rw [if_neg (by simp [h.torn]), if_neg (by omega), operate_fine h]
  dsimp only
  rw [if_neg (by omega)]
  unfold Blk.lay
  rw [if_neg (by omega), pad_whole l h96 96 (by omega)]
  rfl
theorem program_fence {s : Arr} {i : Nat} (h : Fine s i) (l : List Nat) (epoch : Nat) (hlt : (s.b i).pages.length < s.pages) (hf : epoch < s.fence) (h96 : l.length = 96) : s.program i (s.b i).pages.length l epoch = (7, s) := by
  unfold Arr.program
  rw [if_neg (fun hh => hh (inB_nat h.hi)), if_neg (by rw [h.off]; simp), if_neg (fun hh => hh (inB_nat hlt)), if_neg (by simp [h96])]
  simp only [Int.toNat_natCast]
  rw [if_neg (by simp [h.torn]), if_pos (by omega)]
end Drawbar.Nand
namespace Go.Proofs.Ytjibiehchfhjnaa
open Go.RowKit
open Drawbar Drawbar.Nand

theorem page_m (n : Nat) (w : World) : Calls Try.prog 14 #[.int .u8 n] w fun e w' => ∃ d, e = .returned (.slice (some ⟨d, 0, none⟩) 96 96) ∧ Rd w' (some ⟨d, 0, none⟩) (pg n) ∧ Below w.heap.size w w' ∧ w.heap.size ≤ d ∧ d < w'.heap.size ∧ OwnsPage w' w.heap.size d ((pg n).map bv) := by
  refine (page_any n w).mono ?_
  rintro e w' ⟨d, rfl, hd, hown, hb⟩
  obtain ⟨d2, o, cap, e2, _, _, hr⟩ := hown.page (pg_lt n) (pg_length n)
  cases e2
  exact ⟨d, rfl, hr, hb, hd, (hown.lt d rfl).2, hown⟩

theorem fine_new (n pages i : Nat) (h : i < n) : Fine (Arr.new n pages (fun _ => fresh)) i := ⟨h, rfl, rfl, rfl, rfl, rfl⟩

set_option maxHeartbeats 1000000 in
theorem awake_any (w : World) : Calls Try.prog 11 #[] w (Yes w) := by
  obtain ⟨s0, hs0⟩ : ∃ s0, s0 = Arr.new 2 3 (fun _ => fresh) := ⟨_, rfl⟩
  have e1 : s0.program 0 0 (pg 1) 5 = (0, s0.put 0 (pg 1)) := by subst hs0; exact program_ok (fine_new 2 3 0 (by omega)) (pg 1) 5 (by decide) (by decide) (pg_length 1)
  have e2 : (s0.put 0 (pg 1)).raise 6 = (0, { s0.put 0 (pg 1) with fence := 6 }) := by subst hs0; rfl
  have e3 : ({ s0.put 0 (pg 1) with fence := 6 } : Arr).program 0 1 (pg 2) 5 = (7, { s0.put 0 (pg 1) with fence := 6 }) := by
    subst hs0
    exact Drawbar.Nand.program_fence (s := { (Arr.new 2 3 (fun _ => fresh)).put 0 (pg 1) with fence := 6 }) (i := 0) ⟨by decide, rfl, rfl, rfl, rfl, rfl⟩ (pg 2) 5 (by decide) (by decide) (pg_length 2)
  have e4 : (({ s0.put 0 (pg 1) with fence := 6 } : Arr).b 0).pages.length = 1 := by subst hs0; rfl
  have e5 : 0 < ({ s0.put 0 (pg 1) with fence := 6 } : Arr).n := by subst hs0; decide
  have hnew := new_at 2 3 w (by omega) (by omega) (by omega) (by omega)
  rw [← hs0] at hnew
  have HN := Lib.hid hnew
  generalize s0.put 0 (pg 1) = s1 at *
  have E1 := Lib.hid e1
  have E2 := Lib.hid e2
  have E3 := Lib.hid e3
  have E4 := Lib.hid e4
  have E5 := Lib.hid e5
  clear e1 e2 e3 e4 e5 hs0 hnew
  go_enter Try.func11, Try.ntmps11
  go_wp2_with fail
  refine HN.out.mono ?_
  intro e w1 hm
  obtain ⟨g, rfl, h1, b1⟩ := hm.mine
  clear hm
  go_wp2_with fail
  refine (page_m 1 w1).mono ?_
  rintro e w2 ⟨d, rfl, hr, hb2, -⟩
  have h2 := h1.keep hb2
  have b2 := b1.trans (hb2.mono b1.size)
  have hp := program_m h2 b2.size 0 0 (pg 1) _ 96 5 hr 96 (pg_length 1)
  rw [E1.out] at hp
  have HP := Lib.hid hp
  clear hp hr h1 h2 hb2 b1
  go_wp2_with fail
  refine HP.out.mono ?_
  rintro e w3 ⟨rfl, h3, hb3⟩
  dsimp only at h3
  have b3 := b2.trans hb3
  have hra := raise_m h3 b3.size 6 (by omega)
  rw [E2.out] at hra
  have HR := Lib.hid hra
  clear HP hra h3 hb3 b2
  go_wp2_with fail
  refine HR.out.mono ?_
  rintro e w4 ⟨rfl, h4, hb4⟩
  dsimp only at h4
  have b4 := b3.trans hb4
  clear HR hb4 b3
  go_wp2_with fail
  refine (page_m 2 w4).mono ?_
  rintro e w5 ⟨d, rfl, hr, hb5, -⟩
  have h5 := h4.keep hb5
  have b5 := b4.trans (hb5.mono b4.size)
  have hp := program_m h5 b5.size 0 1 (pg 2) _ 96 5 hr 96 (pg_length 2)
  rw [E3.out] at hp
  have HP := Lib.hid hp
  clear hp hr h4 h5 hb5 b4
  go_wp2_with fail
  refine HP.out.mono ?_
  rintro e w6 ⟨rfl, h6, hb6⟩
  dsimp only at h6
  have b6 := b5.trans hb6
  have hnx := next_m h6 0 E5.out
  rw [E4.out] at hnx
  have HX := Lib.hid hnx
  clear HP hnx h6 hb6 b5
  go_wp2_with fail
  refine HX.out.mono ?_
  rintro e w7 ⟨rfl, rfl⟩
  clear HX
  go_wp2
  go_ret
  exact ⟨rfl, b6⟩
end Go.Proofs.Ytjibiehchfhjnaa
