/- An array of one block: what a cut of its power does, as plain mathematics. -/
import Derived.Test.YtjibiehchfhjnaaAwake
namespace Drawbar.Nand
open Go.RowKit
theorem pad_low (l : List Nat) (cut : Int) (h96 : l.length = 96) (k : Nat) (hk : (k : Int) < cut) (h : k < 96) : (pad l cut).getD k 0 = l.getD k 0 := by
  unfold pad
  rw [List.getD_eq_getElem?_getD, List.getElem?_append_left (by rw [List.length_take]; omega), List.getElem?_take_of_lt (by omega), List.getD_eq_getElem?_getD]

/-- An array of one block. -/
structure One (s : Arr) (np : Nat) (b : Blk) : Prop where
  n : s.n = 1
  pages : s.pages = np
  fence : s.fence = 0
  blk : s.b 0 = b
theorem one_new (np : Nat) : One (Arr.new 1 np (fun _ => fresh)) np fresh := ⟨rfl, rfl, rfl, rfl⟩
theorem one_put {s : Arr} {np : Nat} {b : Blk} (h : One s np b) (l : List Nat) : One (s.put 0 l) np { b with pages := b.pages ++ [l] } := by
  obtain ⟨h1, h2, h3, rfl⟩ := h
  exact ⟨h1, h2, h3, by simp [Arr.put]⟩
theorem one_in {s : Arr} {np : Nat} {b : Blk} (h : One s np b) : inB 0 s.n := by unfold inB; rw [h.n]; omega
theorem operate_crash {s : Arr} {i : Nat} (h : s.armed = 1) (bg : Begun) (what : Blk → Blk) : s.operate i bg what = (9, { s.tick i with off := true, begun := bg }) := by
  unfold Arr.operate
  rw [if_pos h]
theorem program_crash {s : Arr} {np : Nat} {b : Blk} (h : One s np b) (hoff : s.off = false) (ha : s.armed = 1) (hlt : b.pages.length < np) (ht : b.torn = false) (l : List Nat) (h96 : l.length = 96) (epoch : Nat) :
    ∃ s', s.program 0 b.pages.length l epoch = (9, s') ∧ One s' np b.tick ∧ s'.off = true ∧ s'.begun = .lay 0 l ∧ s'.boots = s.boots := by
  refine ⟨{ s.tick 0 with off := true, begun := .lay 0 l }, ?_, ⟨h.n, h.pages, h.fence, by rw [← h.blk]; exact upd_same s.b 0 (s.b 0).tick⟩, rfl, rfl, rfl⟩
  unfold Arr.program
  have e0 : (0 : Int).toNat = 0 := rfl
  rw [if_neg (fun hh => hh (one_in h)), if_neg (by rw [hoff]; simp), if_neg (fun hh => hh (by rw [h.pages]; exact inB_nat hlt)), if_neg (by simp [h96]), e0, h.blk, if_neg (by simp [ht]), if_neg (by rw [h.fence]; omega), operate_crash ha]
  dsimp only
  rw [if_neg (by omega)]
theorem erase_crash {s : Arr} {np : Nat} {b : Blk} (h : One s np b) (hoff : s.off = false) (ha : s.armed = 1) (epoch : Nat) :
    ∃ s', s.erase 0 epoch = (9, s') ∧ One s' np b.tick ∧ s'.off = true ∧ s'.begun = .erase 0 ∧ s'.boots = s.boots := by
  refine ⟨{ s.tick 0 with off := true, begun := .erase 0 }, ?_, ⟨h.n, h.pages, h.fence, by rw [← h.blk]; exact upd_same s.b 0 (s.b 0).tick⟩, rfl, rfl, rfl⟩
  unfold Arr.erase
  have e0 : (0 : Int).toNat = 0 := rfl
  rw [if_neg (fun hh => hh (one_in h)), if_neg (by rw [hoff]; simp), if_neg (by rw [h.fence]; omega), e0, operate_crash ha]
/-- An array the power of which is on, and isn't armed. -/
structure Calm (s : Arr) : Prop where
  off : s.off = false
  armed : s.armed = 0
theorem calm_fine {s : Arr} {np : Nat} {b : Blk} (h : One s np b) (hc : Calm s) (ht : b.torn = false) (hd : b.doom = 0) (hf : b.fails = false) : Fine s 0 :=
  ⟨by rw [h.n]; omega, hc.off, hc.armed, by rw [h.blk]; exact ht, by rw [h.blk]; exact hd, by rw [h.blk]; exact hf⟩
theorem restart_lay {s : Arr} {np : Nat} {b : Blk} (h : One s np b) (l : List Nat) (hb : s.begun = .lay 0 l) (cut : Int) : One (s.restart cut) np (b.lay l cut) ∧ Calm (s.restart cut) ∧ (s.restart cut).boots = wrap64 (s.boots + 1) := by
  unfold Arr.restart Arr.resume
  rw [hb]
  exact ⟨⟨h.n, h.pages, rfl, by rw [← h.blk]; exact upd_same s.b 0 ((s.b 0).lay l cut)⟩, ⟨rfl, rfl⟩, rfl⟩
theorem restart_erase {s : Arr} {np : Nat} {b : Blk} (h : One s np b) (hb : s.begun = .erase 0) (cut : Int) : One (s.restart cut) np (b.erase cut) ∧ Calm (s.restart cut) ∧ (s.restart cut).boots = wrap64 (s.boots + 1) := by
  unfold Arr.restart Arr.resume
  rw [hb]
  exact ⟨⟨h.n, h.pages, rfl, by rw [← h.blk]; exact upd_same s.b 0 ((s.b 0).erase cut)⟩, ⟨rfl, rfl⟩, rfl⟩
theorem read_off {s : Arr} {np : Nat} {b : Blk} (h : One s np b) (ho : s.off = true) (p : Int) : s.read 0 p = (9, []) := by
  unfold Arr.read
  rw [if_neg (fun hh => hh (one_in h)), if_pos ho]
theorem read_one {s : Arr} {np : Nat} {b : Blk} (h : One s np b) (ho : s.off = false) (p : Nat) (hp : p < np) :
    s.read 0 p = if b.pages.length ≤ p then (5, []) else if b.torn = true then (4, []) else (0, b.pages.getD p []) := by
  unfold Arr.read
  have e0 : (0 : Int).toNat = 0 := rfl
  rw [if_neg (fun hh => hh (one_in h)), if_neg (by rw [ho]; simp), if_neg (fun hh => hh (by rw [h.pages]; exact inB_nat hp)), e0, h.blk]
  by_cases h1 : b.pages.length ≤ p
  · rw [if_pos (by omega), if_pos h1]
  · rw [if_neg (by omega), if_neg h1, Int.toNat_natCast]
end Drawbar.Nand
