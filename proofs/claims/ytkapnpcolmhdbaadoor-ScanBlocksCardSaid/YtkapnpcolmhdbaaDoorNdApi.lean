/- The contracts of an array's calls, as the state says them. -/
import Derived.Test.YtkapnpcolmhdbaaDoorNdWrite
import Derived.Test.YtkapnpcolmhdbaaDoorNdEraseM
import Derived.Test.YtkapnpcolmhdbaaDoorNdRead
import Derived.Test.YtkapnpcolmhdbaaDoorNdRestart
import Derived.Test.YtkapnpcolmhdbaaDoorNdNew
namespace Go.Proofs.YtkapnpcolmhdbaaDoor.Nd
open Go.RowKit
open Drawbar Drawbar.Nand

set_option maxRecDepth 100000 in
theorem ArrAt.keep {w w' : World} {F : Nat → Prop} {g : Nat} {s : Arr} (h : ArrAt w F g s) (hb : Below w.heap.size w w') : ArrAt w' F g s := by
  obtain ⟨hid, R, hbk, rows, pv, bv, h⟩ := h
  exact ⟨hid, R, hbk, rows, pv, bv, h.keep (fun d hd => hb.block d (h.bound d hd)) (fun _ h => h) (fun d hd => Nat.lt_of_lt_of_le (h.bound d hd) hb.size)⟩
set_option maxRecDepth 100000 in
theorem ArrAt.bound {w : World} {F : Nat → Prop} {g : Nat} {s : Arr} (h : ArrAt w F g s) (d : Nat) (hd : F d) : d < w.heap.size := by
  obtain ⟨hid, R, hbk, rows, pv, bv, h⟩ := h
  exact h.bound d hd

section
variable {w : World} {F : Nat → Prop} {g : Nat} {s : Arr}

set_option maxRecDepth 100000 in
theorem program_at (h : ArrAt w F g s) (i page : Int) (l : List Nat) (a : Option Addr) (cap epoch : Nat) (hr : Rd w a l) (n : Nat) (hn : l.length = n) :
    Calls Tryd.prog 16 #[.pointer (some ⟨g, 0, none⟩), .int .i64 i, .int .i64 page, .slice a n cap, .int .u64 epoch] w (Did w F g (s.program i page l epoch)) := by
  obtain ⟨hid, R, hbk, rows, pv, bv, h⟩ := h
  subst hn
  unfold Arr.program
  by_cases hi : inB i s.n
  · rw [if_neg (fun h => h hi)]
    obtain ⟨i, rfl⟩ : ∃ j : Nat, i = j := ⟨i.toNat, by have := hi.1; omega⟩
    have hi2 : i < s.n := by have := hi.2; omega
    simp only [Int.toNat_natCast]
    by_cases hoff : s.off = true
    · rw [if_pos hoff]
      exact program_off h hid i page a _ cap epoch hi2 hoff
    · rw [if_neg hoff]
      have hoff2 : s.off = false := by simpa using hoff
      by_cases hp : inB page s.pages
      · rw [if_neg (fun h => h hp)]
        have hp1 := hp.1
        have hp2 : page ≤ (s.pages : Int) - 1 := by have := hp.2; omega
        by_cases h96 : l.length = 96
        · rw [if_neg (fun h => h h96)]
          have main := program_main h hid i l a cap epoch hi2 hoff2
          have hfence := fun x1 x2 x3 => program_fence h hid i a cap epoch hi2 hoff2 x1 x2 x3
          have htorn := fun x1 x2 => program_torn h hid i a cap epoch hi2 hoff2 x1 x2
          have horder := fun x1 => program_order h hid i page a cap epoch hi2 hoff2 hp1 hp2 x1
          rw [h96]
          by_cases ho : page = (s.b i).pages.length
          · subst ho
            have hlt : (s.b i).pages.length < s.pages := by omega
            by_cases ht : (s.b i).torn = true
            · rw [if_pos (.inr ht)]
              exact htorn hlt ht
            · rw [if_neg (by simpa using ht)]
              have ht2 : (s.b i).torn = false := by simpa using ht
              by_cases hf : epoch < s.fence
              · rw [if_pos hf]
                exact hfence hlt ht2 hf
              · rw [if_neg hf]
                exact main hlt ht2 (by omega) hr h96
          · rw [if_pos (.inl ho)]
            exact horder ho
        · rw [if_pos h96]
          exact program_form h hid i page a _ cap epoch hi2 hoff2 hp1 hp2 h96
      · rw [if_pos hp]
        exact program_page h hid i page a _ cap epoch hi2 hoff2 (by unfold inB at hp; omega)
  · rw [if_pos hi]
    exact program_out h hid i page a _ cap epoch hi

set_option maxRecDepth 100000 in
theorem erase_at (h : ArrAt w F g s) (i : Int) (epoch : Nat) : Calls Tryd.prog 23 #[.pointer (some ⟨g, 0, none⟩), .int .i64 i, .int .u64 epoch] w (Did w F g (s.erase i epoch)) := by
  obtain ⟨hid, R, hbk, rows, pv, bv, h⟩ := h
  unfold Arr.erase
  by_cases hi : inB i s.n
  · rw [if_neg (fun h => h hi)]
    obtain ⟨i, rfl⟩ : ∃ j : Nat, i = j := ⟨i.toNat, by have := hi.1; omega⟩
    have hi2 : i < s.n := by have := hi.2; omega
    simp only [Int.toNat_natCast]
    by_cases hoff : s.off = true
    · rw [if_pos hoff]
      exact erasem_off h hid i epoch hi2 hoff
    · rw [if_neg hoff]
      have hoff2 : s.off = false := by simpa using hoff
      by_cases hf : epoch < s.fence
      · rw [if_pos hf]
        exact erasem_fence h hid i epoch hi2 hoff2 hf
      · rw [if_neg hf]
        exact erasem_main h hid i epoch hi2 hoff2 (by omega)
  · rw [if_pos hi]
    exact erasem_out h hid i epoch hi

set_option maxRecDepth 100000 in
theorem read_at (h : ArrAt w F g s) (i page : Int) : Calls Tryd.prog 68 #[.pointer (some ⟨g, 0, none⟩), .int .i64 i, .int .i64 page] w fun e w' => Tells w (s.read i page) e w' ∧ ArrAt w' F g s := by
  have h0 := h
  obtain ⟨hid, R, hbk, rows, pv, bv, h⟩ := h
  refine (read_any h i page).mono fun e w' ht => ⟨ht, ?_⟩
  obtain ⟨_, _, _, _, _, hb, _⟩ := ht
  exact h0.keep hb

set_option maxRecDepth 100000 in
theorem restart_at (h : ArrAt w F g s) (cut : Int) : Calls Tryd.prog 26 #[.pointer (some ⟨g, 0, none⟩), .int .i64 cut] w (Did w F g (0, s.restart cut)) := by
  obtain ⟨hid, R, hbk, rows, pv, bv, h⟩ := h
  exact restart_any h hid cut
set_option maxRecDepth 100000 in
theorem arm_at (h : ArrAt w F g s) (n : Int) (hn : n ≤ 9223372036854775807) : Calls Tryd.prog 25 #[.pointer (some ⟨g, 0, none⟩), .int .i64 n] w (Did w F g (s.arm n)) := by
  obtain ⟨hid, R, hbk, rows, pv, bv, h⟩ := h
  exact arm_any h hid n hn
set_option maxRecDepth 100000 in
theorem new_at (n pages : Nat) (w : World) (h1 : 0 < n) (h2 : n ≤ 64) (h3 : 0 < pages) (h4 : pages ≤ 32) :
    Calls Tryd.prog 15 #[.int .i64 n, .int .i64 pages, .slice none 0 0] w (Made w (Arr.new n pages (fun _ => fresh))) := by
  have := new_any n pages [] none 0 w h1 h2 h3 h4 (fun x hx => by cases hx) (by simp) (fun h => by simp at h)
  have e : newS n pages [] 0 = Arr.new n pages (fun _ => fresh) := by unfold newS; simp
  rw [List.length_nil, e] at this
  exact this
end

/-- A law's array: its memory lies from B on. -/
structure Mine (B : Nat) (w : World) (g : Nat) (s : Arr) : Prop where
  arr : ∃ F, ArrAt w F g s ∧ ∀ k, F k → B ≤ k
/-- A call of a law's. -/
def Does (B : Nat) (w : World) (g : Nat) (r : Int × Arr) (e : Ending) (w' : World) : Prop := e = .returned (.int .i64 r.1) ∧ Mine B w' g r.2 ∧ Below B w w'
set_option maxRecDepth 100000 in
theorem Did.does {B : Nat} {w w' : World} {F : Nat → Prop} {g : Nat} {r : Int × Arr} {e : Ending} (h : Did w F g r e w') (hF : ∀ k, F k → B ≤ k) (hB : B ≤ w.heap.size) : Does B w g r e w' :=
  ⟨h.1, ⟨_, h.2.1, fun k hk => hk.elim (hF k) fun h3 => Nat.le_trans hB h3.1⟩, h.2.2.toBelow hF hB⟩
section
variable {B : Nat} {w : World} {g : Nat} {s : Arr}
set_option maxRecDepth 100000 in
theorem program_m (h : Mine B w g s) (hB : B ≤ w.heap.size) (i page : Int) (l : List Nat) (a : Option Addr) (cap epoch : Nat) (hr : Rd w a l) (n : Nat) (hn : l.length = n) :
    Calls Tryd.prog 16 #[.pointer (some ⟨g, 0, none⟩), .int .i64 i, .int .i64 page, .slice a n cap, .int .u64 epoch] w (Does B w g (s.program i page l epoch)) := by
  obtain ⟨F, h, hF⟩ := h.arr
  exact (program_at h i page l a cap epoch hr n hn).mono fun e w' hd => hd.does hF hB
set_option maxRecDepth 100000 in
theorem erase_m (h : Mine B w g s) (hB : B ≤ w.heap.size) (i : Int) (epoch : Nat) : Calls Tryd.prog 23 #[.pointer (some ⟨g, 0, none⟩), .int .i64 i, .int .u64 epoch] w (Does B w g (s.erase i epoch)) := by
  obtain ⟨F, h, hF⟩ := h.arr
  exact (erase_at h i epoch).mono fun e w' hd => hd.does hF hB
set_option maxRecDepth 100000 in
theorem restart_m (h : Mine B w g s) (hB : B ≤ w.heap.size) (cut : Int) : Calls Tryd.prog 26 #[.pointer (some ⟨g, 0, none⟩), .int .i64 cut] w (Does B w g (0, s.restart cut)) := by
  obtain ⟨F, h, hF⟩ := h.arr
  exact (restart_at h cut).mono fun e w' hd => hd.does hF hB
set_option maxRecDepth 100000 in
theorem arm_m (h : Mine B w g s) (hB : B ≤ w.heap.size) (n : Int) (hn : n ≤ 9223372036854775807) : Calls Tryd.prog 25 #[.pointer (some ⟨g, 0, none⟩), .int .i64 n] w (Does B w g (s.arm n)) := by
  obtain ⟨F, h, hF⟩ := h.arr
  exact (arm_at h n hn).mono fun e w' hd => hd.does hF hB
set_option maxRecDepth 100000 in
theorem read_m (h : Mine B w g s) (i page : Int) : Calls Tryd.prog 68 #[.pointer (some ⟨g, 0, none⟩), .int .i64 i, .int .i64 page] w fun e w' => Tells w (s.read i page) e w' ∧ Mine B w' g s := by
  obtain ⟨F, h, hF⟩ := h.arr
  exact (read_at h i page).mono fun e w' hd => ⟨hd.1, ⟨F, hd.2, hF⟩⟩
set_option maxRecDepth 100000 in
theorem Mine.keep (h : Mine B w g s) {w' : World} (hb : Below w.heap.size w w') : Mine B w' g s := by
  obtain ⟨F, h, hF⟩ := h.arr
  exact ⟨F, h.keep hb, hF⟩
set_option maxRecDepth 100000 in
theorem Mine.base (h : Mine B w g s) {B' : Nat} (hb : B' ≤ B) : Mine B' w g s := by
  obtain ⟨F, h, hF⟩ := h.arr
  exact ⟨F, h, fun k hk => Nat.le_trans hb (hF k hk)⟩
end
set_option maxRecDepth 100000 in
/-- What New makes. -/
theorem Made.mine {w w' : World} {s : Arr} {e : Ending} (h : Made w s e w') : ∃ g, e = .returned (.tuple #[.pointer (some ⟨g, 0, none⟩), .int .i64 0]) ∧ Mine w.heap.size w' g s ∧ Below w.heap.size w w' := by
  obtain ⟨g, he, h1, h2⟩ := h
  exact ⟨g, he, ⟨_, h1, fun k hk => hk.1⟩, h2⟩
end Go.Proofs.YtkapnpcolmhdbaaDoor.Nd
