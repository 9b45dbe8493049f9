/- The contract of the document's New: its array in memory. The contracts of the document's array's Restart. The contract of the document's array's Program: of what is done, and of what is cut. The contract of the document's array's Restart: of a programming that was cut. -/
import Derived.Test.YtkapnpcolmhdbaaDoorZSe
import Derived.Test.YtkapnpcolmhdbaaDoorZMa
import Derived.Deep.RegionLaw
import Derived.Deep.CutRange
import Derived.Deep.QuietTactic
import Derived.BigQuiet
import Derived.Deep.RegionHeld3
namespace Go.Proofs.YtkapnpcolmhdbaaDoor.Sc
open Go.RowKit
open Drawbar Drawbar.Sheet Drawbar.Nand Drawbar.Scan Drawbar.Gm Go.Proofs.YtkapnpcolmhdbaaDoor.Nd
/-- A row of the document's blocks: none has pages; which are dead. -/
structure Row1 (w : World) (rb N : Nat) (f : Nat → Bool) : Prop where
  b0 : ∀ i, i < N → w.cell? ⟨rb, i * 6, none⟩ = some (.slice none 0 0)
  b1 : ∀ i, i < N → ∃ v, w.cell? ⟨rb, i * 6 + 1, none⟩ = some (.int .i64 v)
  b2 : ∀ i, i < N → w.cell? ⟨rb, i * 6 + 2, none⟩ = some (.bool false)
  b3 : ∀ i, i < N → w.cell? ⟨rb, i * 6 + 3, none⟩ = some (.bool (f i))
  b4 : ∀ i, i < N → ∃ v, w.cell? ⟨rb, i * 6 + 4, none⟩ = some (.bool v)
  b5 : ∀ i, i < N → w.cell? ⟨rb, i * 6 + 5, none⟩ = some (.int .i64 0)
  fz : ∀ o, w.frozen? ⟨rb, o, none⟩ = false
set_option maxRecDepth 100000 in
theorem Row1.keep {w w' : World} {rb N : Nat} {f : Nat → Bool} (h : Row1 w rb N f) (e : w'.heap[rb]? = w.heap[rb]?) : Row1 w' rb N f := by
  refine ⟨fun j hj => (World.cell?_of_block (a := ⟨rb, _, none⟩) e).trans (h.b0 j hj), fun j hj => ?_, fun j hj => (World.cell?_of_block (a := ⟨rb, _, none⟩) e).trans (h.b2 j hj), fun j hj => (World.cell?_of_block (a := ⟨rb, _, none⟩) e).trans (h.b3 j hj), fun j hj => ?_, fun j hj => (World.cell?_of_block (a := ⟨rb, _, none⟩) e).trans (h.b5 j hj), fun o => (World.frozen?_of_block (w := w) (w' := w') (a := ⟨rb, o, none⟩) e).trans (h.fz o)⟩
  · obtain ⟨v, hv⟩ := h.b1 j hj; exact ⟨v, (World.cell?_of_block (a := ⟨rb, _, none⟩) e).trans hv⟩
  · obtain ⟨v, hv⟩ := h.b4 j hj; exact ⟨v, (World.cell?_of_block (a := ⟨rb, _, none⟩) e).trans hv⟩
set_option maxRecDepth 100000 in
theorem Row1.die {w : World} {rb N : Nat} {f : Nat → Bool} (h : Row1 w rb N f) (i : Nat) : Row1 (w.setCell ⟨rb, i * 6 + 3, none⟩ (.bool true)) rb N (fun k => if k = i then true else f k) := by
  have hc : ∀ j k u, k < 6 → ¬ (j = i ∧ k = 3) → w.cell? ⟨rb, j * 6 + k, none⟩ = some u → (w.setCell ⟨rb, i * 6 + 3, none⟩ (.bool true)).cell? ⟨rb, j * 6 + k, none⟩ = some u := fun j k u hk hn hu => cell_oth hu (by omega)
  refine ⟨fun j hj => hc j 0 _ (by omega) (by omega) (h.b0 j hj), fun j hj => ?_, fun j hj => hc j 2 _ (by omega) (by omega) (h.b2 j hj), fun j hj => ?_, fun j hj => ?_, fun j hj => hc j 5 _ (by omega) (by omega) (h.b5 j hj), fun o => by rw [World.frozen?_setCell]; exact h.fz o⟩
  · obtain ⟨v, hv⟩ := h.b1 j hj; exact ⟨v, hc j 1 _ (by omega) (by omega) hv⟩
  · by_cases e : j = i
    · subst e; rw [if_pos rfl]; exact World.cell?_setCell_same _ _ _ (h.b3 j hj)
    · rw [if_neg e]; exact hc j 3 _ (by omega) (by omega) (h.b3 j hj)
  · obtain ⟨v, hv⟩ := h.b4 j hj; exact ⟨v, hc j 4 _ (by omega) (by omega) hv⟩
set_option maxRecDepth 100000 in
theorem Row1.fail {w : World} {rb N : Nat} {f : Nat → Bool} (h : Row1 w rb N f) (i : Nat) (z : Bool) : Row1 (w.setCell ⟨rb, i * 6 + 4, none⟩ (.bool z)) rb N f := by
  have hc : ∀ j k u, k < 6 → ¬ (j = i ∧ k = 4) → w.cell? ⟨rb, j * 6 + k, none⟩ = some u → (w.setCell ⟨rb, i * 6 + 4, none⟩ (.bool z)).cell? ⟨rb, j * 6 + k, none⟩ = some u := fun j k u hk hn hu => cell_oth hu (by omega)
  refine ⟨fun j hj => hc j 0 _ (by omega) (by omega) (h.b0 j hj), fun j hj => ?_, fun j hj => hc j 2 _ (by omega) (by omega) (h.b2 j hj), fun j hj => hc j 3 _ (by omega) (by omega) (h.b3 j hj), fun j hj => ?_, fun j hj => hc j 5 _ (by omega) (by omega) (h.b5 j hj), fun o => by rw [World.frozen?_setCell]; exact h.fz o⟩
  · obtain ⟨v, hv⟩ := h.b1 j hj; exact ⟨v, hc j 1 _ (by omega) (by omega) hv⟩
  · obtain ⟨v, hv⟩ := h.b4 j hj
    by_cases e : j = i
    · subst e; exact ⟨z, World.cell?_setCell_same _ _ _ hv⟩
    · exact ⟨v, hc j 4 _ (by omega) (by omega) hv⟩
def deadTo (B : List Int) (j i : Nat) : Bool := decide ((i : Int) ∈ B.take j)
set_option maxRecDepth 100000 in
theorem MHd.oth {w : World} {m rb n P left : Nat} {off : Bool} {cut : Int} {t : ByteArray} (h : MHd w m rb n P left off cut t) (g k : Nat) (v : Value) (hg : g ≠ m) : MHd (w.setCell ⟨g, k, none⟩ v) m rb n P left off cut t := h.keep (set_keep _ _ _ _ m (Ne.symm hg))
/-- What the document's New makes. -/
def NewM1 (w : World) (N P : Nat) (B : List Int) (e : Ending) (w' : World) : Prop :=
  ∃ m rb, e = .returned (.tuple #[.pointer (some ⟨m, 0, none⟩), .int .i64 0]) ∧ Row1 w' rb N (deadTo B B.length) ∧ MHd w' m rb N P 0 false (-1) { data := #[] } ∧ Below w.heap.size w w' ∧ w.heap.size ≤ rb ∧ rb < m ∧ m < w'.heap.size
set_option maxRecDepth 100000 in
set_option maxHeartbeats 4000000 in
theorem refnew_full (N P : Nat) (B : List Int) (a : Option Addr) (c : Nat) (w : World) (h1 : 0 < N) (h2 : N ≤ 64) (h3 : 0 < P) (h4 : P ≤ 32) (hB : B = [] ∨ (B = [3] ∧ 3 < N)) (hr : Pn.RdI w a B) :
    Calls Tryd.prog 18 #[.int .i64 N, .int .i64 P, .slice a B.length c] w (NewM1 w N P B) := by
  obtain ⟨i0, hi0, hz0, hz1, hz2⟩ := info_parts info_rb
  have hn1 : (1 : Int) ≤ N ∧ (N : Int) ≤ 64 := by omega
  have hn2 : (1 : Int) ≤ P ∧ (P : Int) ≤ 32 := by omega
  have HR := Lib.hid hr
  have HBB := Lib.hid hB
  have hl1 : B.length ≤ 1 := by rcases hB with rfl | ⟨rfl, -⟩ <;> simp
  clear hr hB
  go_enter Tryd.func18, Tryd.ntmps18
  go_wp2_with (at_make; refine wpList_make_full _ rfl _ _ 77 rfl w.heap.size 76 i0 (.agg #[Value.slice none 0 0, .int .i64 0, .bool false, .bool false, .bool false, .int .i64 0]) 6 Tryd.underlying77 hi0 hz0 hz1 .i64 .i64 N N N rfl rfl rfl rfl ?c1 ?c2 (Nat.le_refl _) ?_)
  case c1 => rw [hz2]; omega
  case c2 => unfold maxLen; omega
  intro w1 hown hgr
  have hrow : Row1 w1 w.heap.size N (deadTo B 0) := ⟨fun i hi => (hown.cellAt (i * 6) (by omega)).trans (made_rb N i 0 hi (by omega) _ rfl), fun i hi => ⟨_, (hown.cellAt (i * 6 + 1) (by omega)).trans (made_rb N i 1 hi (by omega) _ rfl)⟩, fun i hi => (hown.cellAt (i * 6 + 2) (by omega)).trans (made_rb N i 2 hi (by omega) _ rfl), fun i hi => ((hown.cellAt (i * 6 + 3) (by omega)).trans (made_rb N i 3 hi (by omega) (.bool false) rfl)).trans (by unfold deadTo; simp), fun i hi => ⟨_, (hown.cellAt (i * 6 + 4) (by omega)).trans (made_rb N i 4 hi (by omega) _ rfl)⟩, fun i hi => (hown.cellAt (i * 6 + 5) (by omega)).trans (made_rb N i 5 hi (by omega) _ rfl), fun o => hown.frozenAt o⟩
  have hB1 : Below w.heap.size w w1 := (Below.refl _ _).grown hgr (Nat.le_refl _) (fun k hk => by cases hk)
  have hsz : w.heap.size < w1.heap.size := (hown.lt _ rfl).2
  have H1 := Lib.hid (And.intro hrow (And.intro hB1 hsz))
  clear hown hgr hi0 hz0 hz1 hz2 hrow hB1
  obtain ⟨w2, hw2⟩ : ∃ w2, w2 = w1.alloc (.cells #[.slice (some ⟨w.heap.size, 0, none⟩) N N, .int .i64 P, .int .u64 0, .int .i64 0, .int .i64 0, .bool false, .int .i64 0, .int .i64 (-1), .string { data := #[] }] 79) := ⟨_, rfl⟩
  have hb12 : Below w1.heap.size w1 w2 := by rw [hw2]; exact (Below.refl _ _).alloc (Nat.le_refl _) _
  have hblk2 : w2.heap[w1.heap.size]? = some (.cells #[.slice (some ⟨w.heap.size, 0, none⟩) N N, .int .i64 P, .int .u64 0, .int .i64 0, .int .i64 0, .bool false, .int .i64 0, .int .i64 (-1), .string { data := #[] }] 79) := by rw [hw2]; exact heap_alloc_new _ _
  have hcl2 : ∀ k v, (#[Value.slice (some ⟨w.heap.size, 0, none⟩) N N, .int .i64 P, .int .u64 0, .int .i64 0, .int .i64 0, .bool false, .int .i64 0, .int .i64 (-1), .string { data := #[] }] : Array Value)[k]? = some v → w2.cell? ⟨w1.heap.size, k, none⟩ = some v := fun k v hv => by unfold World.cell?; rw [hblk2]; exact hv
  have hm2 : MHd w2 w1.heap.size w.heap.size N P 0 false (-1) { data := #[] } := ⟨hcl2 0 _ rfl, hcl2 1 _ rfl, hcl2 2 _ rfl, ⟨_, hcl2 3 _ rfl⟩, hcl2 4 _ rfl, hcl2 5 _ rfl, ⟨_, hcl2 6 _ rfl⟩, hcl2 7 _ rfl, hcl2 8 _ rfl, fun o => by unfold World.frozen?; rw [hblk2]; simp⟩
  have hsz2 : w1.heap.size < w2.heap.size := by rw [hw2]; simp
  have H2 := Lib.hid (And.intro (H1.out.1.keep (hb12.block _ H1.out.2.2)) (And.intro hm2 (H1.out.2.1.trans (hb12.mono H1.out.2.1.size))))
  have HW2 := Lib.hid hw2
  have HSZ2 := Lib.hid hsz2
  clear hw2 hb12 hm2 hblk2 hcl2 hsz2
  go_wp2_with fail
  rw [← HW2.out]
  go_loopw [9] (fun iv wr => ∃ j : Nat, j ≤ B.length ∧ iv = .int .i64 j ∧ Row1 wr w.heap.size N (deadTo B j) ∧ MHd wr w1.heap.size w.heap.size N P 0 false (-1) { data := #[] } ∧ Below w.heap.size w wr ∧ w1.heap.size < wr.heap.size) (fun iv _ => B.length - (intOf iv).toNat)
  case atStart => exact ⟨0, Nat.zero_le _, rfl, H2.out.1, H2.out.2.1, H2.out.2.2, HSZ2.out⟩
  case round =>
    obtain ⟨j, hj, rfl, hrow, hmh, hb, hszr⟩ := hrel
    have hm := hmh.c0
    by_cases hjl : j < B.length
    · have hjl2 : (j : Int) < (B.length : Int) := by omega
      obtain ⟨hB3, hN3⟩ : B = [3] ∧ 3 < N := by
        rcases HBB.out with h | h
        · rw [h] at hjl; simp at hjl
        · exact h
      have hj0 : j = 0 := by omega
      have hg3 : B.getD j 0 = 3 := by rw [hB3, hj0]; rfl
      obtain ⟨ab, ao, rfl, hcell⟩ := HR.out (by omega)
      have hq0 := hcell j hjl
      rw [hg3] at hq0
      have hq : wr.cell? ⟨ab, ao + j, none⟩ = some (.int .i64 3) := (hb.cell (p := ⟨ab, ao + j, none⟩) (World.block_lt_of_cell? w _ hq0)).trans hq0
      have hab : ab < w.heap.size := World.block_lt_of_cell? w _ hq0
      have HJ0 := Lib.hid hj0
      have HB3 := Lib.hid hB3
      clear hB3 hg3 hj0
      have h3 := hrow.b3 3 hN3
      have hN3i : (3 : Int) < (N : Int) := by omega
      have hR1 := hrow.die 3
      have hf := hrow.fz
      have hd : w.heap.size ≠ w1.heap.size := by have := H1.out.2.2; omega
      have hdd : (fun k => if k = 3 then true else deadTo B j k) = deadTo B (j + 1) := by
        funext k
        unfold deadTo
        rw [HB3.out, HJ0.out]
        by_cases e : k = 3
        · subst e; simp
        · have e2 : ¬ (k : Int) = 3 := by omega
          simp [e, e2]
      rw [hdd] at hR1
      have hq1 := (World.cell?_setCell_far wr ⟨w.heap.size, 21, none⟩ ⟨ab, ao + j, none⟩ (.bool true) (by show w.heap.size ≠ ab; omega)).trans hq
      have hmh1 := hmh.oth w.heap.size 21 (.bool true) hd
      have hm1 := hmh1.c0
      have hf1 : wr.frozen? ⟨w.heap.size, 21, none⟩ = false := hf 21
      have hB1 := hb.setCell (p := ⟨w.heap.size, 21, none⟩) (Nat.le_refl _) (.bool true)
      have HK := Lib.hid (And.intro (hR1.keep (w' := (wr.setCell ⟨w.heap.size, 21, none⟩ (.bool true)).drew) rfl) (And.intro (hmh1.keep (w' := (wr.setCell ⟨w.heap.size, 21, none⟩ (.bool true)).drew) rfl) (And.intro (show (wr.setCell ⟨w.heap.size, 21, none⟩ (.bool true)).drew.cell? ⟨ab, ao + j, none⟩ = _ from hq1) (And.intro hB1.drew (show w1.heap.size < (wr.setCell ⟨w.heap.size, 21, none⟩ (.bool true)).drew.heap.size from (show w1.heap.size < (wr.setCell ⟨w.heap.size, 21, none⟩ (.bool true)).heap.size from (by rw [set_size]; exact hszr)))))))
      have hs0 := And.intro hm hq
      clear hR1 hcell hq0 hf hB1 hrow hb hmh hmh1 hdd hszr
      go_upto_region 9 with fail
      go_cut [] from 48 to 57 (fun wx => Row1 wx w.heap.size N (deadTo B (j + 1)) ∧ MHd wx w1.heap.size w.heap.size N P 0 false (-1) { data := #[] } ∧ wx.cell? ⟨ab, ao + j, none⟩ = some (.int .i64 3) ∧ Below w.heap.size w wx ∧ w1.heap.size < wx.heap.size)
      case first =>
        go_region_held (fun W => W.cell? ⟨w1.heap.size, 0, none⟩ = some (.slice (some ⟨w.heap.size, 0, none⟩) N N) ∧ W.cell? ⟨ab, ao + j, none⟩ = some (.int .i64 3)) (first | exact hs0 | exact And.intro hm1 hq1) (first | fail)
        all_goals
          go_wp2_with fail
          go_meet
          exact HK.out
      case rest =>
        obtain ⟨hR3, hmh3, hq3, hb3, hsz3⟩ := hcut
        have hm3 := hmh3.c0
        obtain ⟨v4', h4'⟩ := hR3.b4 3 hN3
        have hq4 := (World.cell?_setCell_far wc ⟨w.heap.size, 22, none⟩ ⟨ab, ao + j, none⟩ (.bool true) (by show w.heap.size ≠ ab; omega)).trans hq3
        have hmh4 := hmh3.oth w.heap.size 22 (.bool true) hd
        have hm4 := hmh4.c0
        have hf4 : wc.frozen? ⟨w.heap.size, 22, none⟩ = false := hR3.fz 22
        have hB4 := hb3.setCell (p := ⟨w.heap.size, 22, none⟩) (Nat.le_refl _) (.bool true)
        have hR4 := hR3.fail 3 true
        have hs3 := And.intro hm3 hq3
        have HK4 := Lib.hid (And.intro (hR4.keep (w' := (wc.setCell ⟨w.heap.size, 22, none⟩ (.bool true)).drew) rfl) (And.intro (hmh4.keep (w' := (wc.setCell ⟨w.heap.size, 22, none⟩ (.bool true)).drew) rfl) (And.intro hB4.drew (show w1.heap.size < (wc.setCell ⟨w.heap.size, 22, none⟩ (.bool true)).drew.heap.size from (show w1.heap.size < (wc.setCell ⟨w.heap.size, 22, none⟩ (.bool true)).heap.size from (by rw [set_size]; exact hsz3))))))
        clear hR3 hR4 hB4 hb3 hs0 hm1 hq1 hf1 hm hq h3 hmh3 hmh4 hsz3
        go_wp2_with fail
        go_region_held (fun W => W.cell? ⟨w1.heap.size, 0, none⟩ = some (.slice (some ⟨w.heap.size, 0, none⟩) N N) ∧ W.cell? ⟨ab, ao + j, none⟩ = some (.int .i64 3)) (first | exact hs3 | exact And.intro hm4 hq4) (first | fail)
        all_goals
          go_wp2_with fail
          go_roundw
          case rel => exact ⟨j + 1, by omega, by go_num, HK4.out⟩
          case measure => simp [intOf]; omega
    · obtain rfl : j = B.length := by omega
      have hjl2 : ¬ ((B.length : Int) < (B.length : Int)) := by omega
      have HF := Lib.hid (show NewM1 w N P B (.returned (.tuple #[.pointer (some ⟨w1.heap.size, 0, none⟩), .int .i64 0])) wr from ⟨_, _, rfl, hrow, hmh, hb, Nat.le_refl _, H1.out.2.2, hszr⟩)
      clear hm hrow hb hmh hszr
      go_wp2
      go_ret2
      exact HF.out
set_option maxRecDepth 100000 in
/-- As an array of the law's. -/
theorem NewM1.at {w w' : World} {N P : Nat} {B : List Int} {e : Ending} (h : NewM1 w N P B e w') (hN : N ≤ 64) (hP : P ≤ 32) (b : Nat → Blk) (hb : ∀ i, i < N → (b i).pages = [] ∧ (b i).torn = false ∧ (b i).fails = decide ((i : Int) ∈ B)) :
    ∃ m G, e = .returned (.tuple #[.pointer (some ⟨m, 0, none⟩), .int .i64 0]) ∧ MAt w' G m N P b 0 false (-1) { data := #[] } ∧ (∀ k, G k → w.heap.size ≤ k) ∧ Below w.heap.size w w' := by
  obtain ⟨m, rb, he, h1, h2, h3, h4, h5, h6⟩ := h
  refine ⟨m, fun k => k = m ∨ k = rb, he, ⟨⟨rb, fun _ => .slice none 0 0, h2, ⟨h1.b0, h1.b1, fun i hi => by rw [(hb i hi).2.1]; exact h1.b2 i hi, fun i hi => ?_, h1.b4, h1.b5, h1.fz, fun i hi => ?_, .inl rfl, .inr rfl, fun i hi d hd => (by cases hd), fun i j hi hj hij d hd => (by cases hd), by omega, fun d hd => by omega⟩⟩, hN, hP, fun i hi => by rw [(hb i hi).1]; exact Nat.zero_le _⟩, fun k hk => by omega, h3⟩
  · rw [(hb i hi).2.2, h1.b3 i hi]
    unfold deadTo
    rw [List.take_length]
  · rw [(hb i hi).1]; exact World.ownsRow_nil _ _ _ 1
end Go.Proofs.YtkapnpcolmhdbaaDoor.Sc
namespace Go.Proofs.YtkapnpcolmhdbaaDoor.Sc
open Go.RowKit
open Drawbar Drawbar.Nand Go.Proofs.YtkapnpcolmhdbaaDoor.Nd
section
variable {w : World} {G : Nat → Prop} {m n P : Nat} {b : Nat → Blk} {left : Nat} {off : Bool} {cut : Int} {t : ByteArray}
/-- The last five stores. -/
def five (w : World) (m : Nat) (x : Int) : World := ((((w.setCell ⟨m, 7, none⟩ (.int .i64 (-1))).setCell ⟨m, 5, none⟩ (.bool false)).setCell ⟨m, 4, none⟩ (.int .i64 0)).setCell ⟨m, 2, none⟩ (.int .u64 0)).setCell ⟨m, 3, none⟩ (.int .i64 x)
set_option maxRecDepth 100000 in
theorem MAt.five (h : MAt w G m n P b left off cut t) (x : Int) : MAt (five w m x) G m n P b 0 false (-1) t :=
  ((((h.head 7 (.int .i64 (-1)) fun _ h => h.setCut (-1)).head 5 (.bool false) fun _ h => h.setOff false).head 4 (.int .i64 0) fun _ h => h.left0).head 2 (.int .u64 0) fun _ h => h.setFence).head 3 (.int .i64 x) fun _ h => h.setBoots x
set_option maxRecDepth 100000 in
theorem five_keep {w0 : World} (h : MKeep G w0 w) (hm : G m) (x : Int) : MKeep G w0 (five w m x) := ((((h.set hm 7 _).set hm 5 _).set hm 4 _).set hm 2 _).set hm 3 _
set_option maxRecDepth 100000 in
/-- What the walk wants of them. -/
theorem MAt.facts (h : MAt w G m n P b left off cut t) : w.cell? ⟨m, 7, none⟩ = some (.int .i64 cut) ∧ w.frozen? ⟨m, 7, none⟩ = false ∧ (w.setCell ⟨m, 7, none⟩ (.int .i64 (-1))).cell? ⟨m, 5, none⟩ = some (.bool off) ∧ (w.setCell ⟨m, 7, none⟩ (.int .i64 (-1))).frozen? ⟨m, 5, none⟩ = false ∧
    ((w.setCell ⟨m, 7, none⟩ (.int .i64 (-1))).setCell ⟨m, 5, none⟩ (.bool false)).cell? ⟨m, 4, none⟩ = some (.int .i64 left) ∧ ((w.setCell ⟨m, 7, none⟩ (.int .i64 (-1))).setCell ⟨m, 5, none⟩ (.bool false)).frozen? ⟨m, 4, none⟩ = false ∧
    (((w.setCell ⟨m, 7, none⟩ (.int .i64 (-1))).setCell ⟨m, 5, none⟩ (.bool false)).setCell ⟨m, 4, none⟩ (.int .i64 0)).cell? ⟨m, 2, none⟩ = some (.int .u64 0) ∧ (((w.setCell ⟨m, 7, none⟩ (.int .i64 (-1))).setCell ⟨m, 5, none⟩ (.bool false)).setCell ⟨m, 4, none⟩ (.int .i64 0)).frozen? ⟨m, 2, none⟩ = false ∧
    (∃ v, ((((w.setCell ⟨m, 7, none⟩ (.int .i64 (-1))).setCell ⟨m, 5, none⟩ (.bool false)).setCell ⟨m, 4, none⟩ (.int .i64 0)).setCell ⟨m, 2, none⟩ (.int .u64 0)).cell? ⟨m, 3, none⟩ = some (.int .i64 v)) ∧ ((((w.setCell ⟨m, 7, none⟩ (.int .i64 (-1))).setCell ⟨m, 5, none⟩ (.bool false)).setCell ⟨m, 4, none⟩ (.int .i64 0)).setCell ⟨m, 2, none⟩ (.int .u64 0)).frozen? ⟨m, 3, none⟩ = false := by
  obtain ⟨⟨rb, rows, h1, h2⟩, -⟩ := h
  have a1 := h1.setCut (-1)
  have a2 := a1.setOff false
  have a3 := a2.left0
  have a4 := a3.setFence
  exact ⟨h1.c7, h1.fz 7, a1.c5, a1.fz 5, a2.c4, a2.fz 4, a3.c2, a3.fz 2, a4.c3, a4.fz 3⟩
set_option maxRecDepth 100000 in
set_option maxHeartbeats 2000000 in
theorem mrest_idle (h : MAt w G m n P b left off cut t) (c : Int) (hc : cut < 0 ∨ c ≤ 0) :
    Calls Tryd.prog 27 #[.pointer (some ⟨m, 0, none⟩), .int .i64 c] w fun e w' => e = .returned (.tuple #[]) ∧ MDid w G m n P b 0 false (-1) t w' := by
  have HF := Lib.hid (fun x => (five_keep (w0 := w) ⟨Keep.refl _ _, rfl⟩ h.gm x).did (h.five x))
  unfold five at HF
  obtain ⟨f7, g7, f5, g5, f4, g4, f2, g2, ⟨v3, f3⟩, g3⟩ := h.facts
  clear h
  by_cases h0 : cut < 0
  · have i0 : ¬ 0 ≤ cut := by omega
    clear hc h0
    go_enter Tryd.func27, Tryd.ntmps27
    go_wp2
    go_end0
    exact ⟨rfl, HF.out _⟩
  · have i0 : 0 ≤ cut := by omega
    have i1 : ¬ 0 < c := by omega
    clear hc h0
    go_enter Tryd.func27, Tryd.ntmps27
    go_wp2
    go_end0
    exact ⟨rfl, HF.out _⟩
set_option maxRecDepth 100000 in
theorem MDid.five {w' : World} (h : MDid w G m n P b left off cut t w') (hm : G m) (x : Int) : MDid w G m n P b 0 false (-1) t (five w' m x) := by
  obtain ⟨h1, h2⟩ := h
  have hk := five_keep (G := G) (w0 := w') (w := w') ⟨Keep.refl _ _, rfl⟩ hm x
  have e : ext G w (Sc.five w' m x) = ext G w w' := by unfold ext; rw [hk.2]
  refine ⟨by rw [e]; exact h1.five x, ?_⟩
  unfold Sc.five
  exact ((((h2.setCell hm _).setCell hm _).setCell hm _).setCell hm _).setCell hm _
set_option maxRecDepth 100000 in
/-- An erasing that was cut, done half. -/
theorem MRw.tear {rb : Nat} {rows : Nat → Value} (h : MRw w G m rb n rows b) (i : Nat) (hi : i < n) (z : Bool) : MRw (w.setCell ⟨rb, i * 6 + 2, none⟩ (.bool z)) G m rb n rows (upd b i { b i with torn := z }) :=
  h.setNum i 2 hi (.bool z) { b i with torn := z } rfl (.inr ⟨rfl, rfl, rfl⟩)
set_option maxRecDepth 100000 in
set_option maxHeartbeats 2000000 in
theorem mrest_tear (h : MAt w G m n P b left off cut { data := #[] }) (i : Nat) (hi : i < n) (hcut : cut = i) (c : Int) (hc : 0 < c) (hc2 : c < 96 ∨ (b i).fails = true) :
    Calls Tryd.prog 27 #[.pointer (some ⟨m, 0, none⟩), .int .i64 c] w fun e w' => e = .returned (.tuple #[]) ∧ MDid w G m n P (upd b i { b i with torn := decide (0 < (b i).pages.length) }) 0 false (-1) { data := #[] } w' := by
  subst hcut
  have hgm := h.gm
  obtain ⟨⟨rb, rows, h1, h2⟩, h3, h4, h5⟩ := h
  have hb0 := h2.b0 i hi
  have hb3 := h2.b3 i hi
  have hb2 := h2.b2 i hi
  have fb2 := h2.fz (i * 6 + 2)
  have c0 := h1.c0
  have c7 := h1.c7
  have c8 := h1.c8
  obtain ⟨ra, rc, hrr⟩ := own_shp (h2.row i hi)
  rw [hrr] at hb0
  have i0 : (0 : Int) ≤ (i : Int) := by omega
  have i1 : (i : Int) < (n : Int) := by omega
  have hm : ∀ w', (∃ k, w' = (w.drewN k).setCell ⟨rb, i * 6 + 2, none⟩ (.bool (decide (0 < (b i).pages.length)))) → MDid w G m n P (upd b i { b i with torn := decide (0 < (b i).pages.length) }) left off i { data := #[] } w' := by
    rintro w' ⟨k, rfl⟩
    have hw : MRw (w.drewN k) G m rb n rows b := h2.keep (fun _ h => h) (fun d hd => h2.bound d hd) fun _ _ _ => rfl
    have hk : MKeep G w ((w.drewN k).setCell ⟨rb, i * 6 + 2, none⟩ (.bool (decide (0 < (b i).pages.length)))) := (show MKeep G w (w.drewN k) from ⟨Keep.below (below_drewN (Below.refl _ _) k), rfl⟩).set h2.grb _ _
    exact hk.did ⟨⟨rb, rows, (h1.keep (w' := w.drewN k) rfl).keep (set_keep _ _ _ _ m h2.ne), hw.tear i hi _⟩, h3, h4, upd_len h5 (h5 i hi)⟩
  obtain ⟨CC, hCC⟩ : ∃ CC : World → Prop, CC = MDid w G m n P (upd b i { b i with torn := decide (0 < (b i).pages.length) }) left off i { data := #[] } := ⟨_, rfl⟩
  rw [← hCC] at hm
  have HC := Lib.hid (fun w' (h : CC w') => (by rw [hCC] at h; exact h : MDid w G m n P (upd b i { b i with torn := decide (0 < (b i).pages.length) }) left off i { data := #[] } w'))
  clear h1 h2 h3 h4 h5 hrr hCC
  obtain ⟨L, hL⟩ : ∃ L, (b i).pages.length = L := ⟨_, rfl⟩
  rw [hL] at HC hm hb0 ⊢
  have HM := Lib.hid (fun k => hm _ ⟨k, rfl⟩)
  clear hL hm
  by_cases h96 : (96 : Int) ≤ c
  · have hfl : (b i).fails = true := hc2.resolve_left (by omega)
    rw [hfl] at hb3
    clear hc2 hfl
    go_enter Tryd.func27, Tryd.ntmps27
    go_upto_if 13 with (fail)
    go_cut [] from 4 to 75 (fun wx => CC wx)
    case first =>
      go_wp2
      go_quiet (fail)
      go_wp2
      go_meet
      exact HM.out _
    case rest =>
      have hcc := HC.out _ hcut
      have HF := Lib.hid (fun x => hcc.five hgm x)
      unfold five at HF
      obtain ⟨f7, g7, f5, g5, f4, g4, f2, g2, ⟨v3, f3⟩, g3⟩ := hcc.1.facts
      clear hcc hb0 hb2 hb3 fb2 c0 c7 c8 hcut
      go_wp2
      go_end0
      exact ⟨rfl, HF.out _⟩
  · clear hc2
    go_enter Tryd.func27, Tryd.ntmps27
    go_upto_if 13 with (fail)
    go_cut [] from 4 to 75 (fun wx => CC wx)
    case first =>
      go_wp2
      go_quiet (fail)
      go_wp2
      go_meet
      exact HM.out _
    case rest =>
      have hcc := HC.out _ hcut
      have HF := Lib.hid (fun x => hcc.five hgm x)
      unfold five at HF
      obtain ⟨f7, g7, f5, g5, f4, g4, f2, g2, ⟨v3, f3⟩, g3⟩ := hcc.1.facts
      clear hcc hb0 hb2 hb3 fb2 c0 c7 c8 hcut
      go_wp2
      go_end0
      exact ⟨rfl, HF.out _⟩
set_option maxRecDepth 100000 in
set_option maxHeartbeats 2000000 in
theorem mrest_wipe (h : MAt w G m n P b left off cut { data := #[] }) (i : Nat) (hi : i < n) (hcut : cut = i) (c : Int) (h96 : 96 ≤ c) (hf : (b i).fails = false) (er : Int) :
    Calls Tryd.prog 27 #[.pointer (some ⟨m, 0, none⟩), .int .i64 c] w fun e w' => e = .returned (.tuple #[]) ∧ MDid w G m n P (upd b i { b i with pages := [], torn := false, erases := er }) 0 false (-1) { data := #[] } w' := by
  subst hcut
  have hgm := h.gm
  obtain ⟨⟨rb, rows, h1, h2⟩, h3, h4, h5⟩ := h
  have hb0 := h2.b0 i hi
  have hb3 := h2.b3 i hi
  rw [hf] at hb3
  have c0 := h1.c0
  have c7 := h1.c7
  have c8 := h1.c8
  have i0 : (0 : Int) ≤ (i : Int) := by omega
  have i1 : (i : Int) < (n : Int) := by omega
  have hc : 0 < c := by omega
  have hw : ∀ k, MRw (w.drewN k) G m rb n rows b := fun k => h2.keep (fun _ h => h) (fun d hd => h2.bound d hd) fun _ _ _ => rfl
  have hm : ∀ k x, MDid w G m n P (upd b i { b i with pages := [], torn := false, erases := er }) left off i { data := #[] } ((((w.drewN k).setCell ⟨rb, i * 6, none⟩ (.slice none 0 0)).setCell ⟨rb, i * 6 + 2, none⟩ (.bool false)).setCell ⟨rb, i * 6 + 1, none⟩ (.int .i64 x)) := by
    intro k x
    have hk := (((show MKeep G w (w.drewN k) from ⟨Keep.below (below_drewN (Below.refl _ _) k), rfl⟩).set h2.grb (i * 6) (.slice none 0 0)).set h2.grb (i * 6 + 2) (.bool false)).set h2.grb (i * 6 + 1) (.int .i64 x)
    exact hk.did ⟨⟨rb, _, (((h1.keep (w' := w.drewN k) rfl).keep (set_keep _ _ _ _ m h2.ne)).keep (set_keep _ _ _ _ m h2.ne)).keep (set_keep _ _ _ _ m h2.ne), ((hw k).wipe i hi er x).2.2⟩, h3, h4, upd_len h5 (Nat.zero_le _)⟩
  obtain ⟨v1, hv1⟩ : ∃ v1, ∀ k, (((w.drewN k).setCell ⟨rb, i * 6, none⟩ (.slice none 0 0)).setCell ⟨rb, i * 6 + 2, none⟩ (.bool false)).cell? ⟨rb, i * 6 + 1, none⟩ = some (.int .i64 v1) := by
    obtain ⟨v, hv⟩ := h2.b1 i hi
    exact ⟨v, fun k => cell_oth (cell_oth (show (w.drewN k).cell? ⟨rb, i * 6 + 1, none⟩ = some (.int .i64 v) from hv) (by omega)) (by omega)⟩
  have d2 := fun k => ((hw k).wipe i hi er 0).1.b2 i hi
  have f0 := fun k => (hw k).fz (i * 6)
  have f2 := fun k => ((hw k).wipe i hi er 0).1.fz (i * 6 + 2)
  have f1 := fun k => ((hw k).wipe i hi er 0).2.1.fz (i * 6 + 1)
  obtain ⟨CC, hCC⟩ : ∃ CC : World → Prop, CC = MDid w G m n P (upd b i { b i with pages := [], torn := false, erases := er }) left off i { data := #[] } := ⟨_, rfl⟩
  rw [← hCC] at hm
  have HC := Lib.hid (fun w' (h : CC w') => (by rw [hCC] at h; exact h : MDid w G m n P (upd b i { b i with pages := [], torn := false, erases := er }) left off i { data := #[] } w'))
  have HM := Lib.hid hm
  have HD := Lib.hid (And.intro hv1 (And.intro d2 (And.intro f0 (And.intro f2 f1))))
  clear h1 h2 h3 h4 h5 hCC hm hw hf hv1 d2 f0 f2 f1
  go_enter Tryd.func27, Tryd.ntmps27
  go_upto_if 13 with (fail)
  go_cut [] from 4 to 75 (fun wx => CC wx)
  case first =>
    go_wp2
    go_quiet (fail)
    have e1 := HD.out.1 nq
    have e2 := HD.out.2.1 nq
    have e3 := HD.out.2.2.1 nq
    have e4 := HD.out.2.2.2.1 nq
    have e5 := HD.out.2.2.2.2 nq
    go_wp2
    go_meet
    exact HM.out _ _
  case rest =>
    have hcc := HC.out _ hcut
    have HF := Lib.hid (fun x => hcc.five hgm x)
    unfold five at HF
    obtain ⟨f7, g7, f5, g5, f4, g4, f2, g2, ⟨v3, f3⟩, g3⟩ := hcc.1.facts
    clear hcc hb0 hb3 c0 c7 c8 hcut
    go_wp2
    go_end0
    exact ⟨rfl, HF.out _⟩
end
end Go.Proofs.YtkapnpcolmhdbaaDoor.Sc
namespace Go.Proofs.YtkapnpcolmhdbaaDoor.Sc
open Go.RowKit
open Drawbar Drawbar.Nand Go.Proofs.YtkapnpcolmhdbaaDoor.Nd
set_option maxRecDepth 100000 in
theorem info_string : (Tryd.prog.info? 9).map (fun i => (i.zero, i.size, i.bytes)) = some (some (.string { data := #[] }), 1, 16) := by kernel_rfl
section
variable {w : World} {G : Nat → Prop} {m n P : Nat} {b : Nat → Blk} {left : Nat} {off : Bool} {cut : Int} {t : ByteArray}
set_option maxRecDepth 100000 in
theorem Rd.only {w w' : World} {a : Option Addr} {l : List Nat} (h : Rd w a l) (ho : MOnly m w w') (ha : ∀ q, a = some q → q.block ≠ m) (hl : 0 < l.length) : Rd w' a l := by
  obtain ⟨d, o, rfl, hc⟩ := h.2.2 hl
  exact h.keep (ho.1.block d (World.block_lt_of_cell? w _ (hc 0 hl)) (fun e => ha _ rfl e))
set_option maxRecDepth 100000 in
set_option maxHeartbeats 1000000 in
theorem mprog_cut (h : MAt w G m n P b 1 false cut t) (i : Nat) (hi : i < n) (hl : (b i).pages.length < P) (ht : (b i).torn = false) (l : List Nat) (a : Option Addr) (c : Nat) (hr : Rd w a l) (h96 : l.length = 96) (ha : ∀ q, a = some q → q.block ≠ m) :
    Calls Tryd.prog 22 #[.pointer (some ⟨m, 0, none⟩), .int .i64 i, .int .i64 (b i).pages.length, .slice a 96 c, .int .u64 1] w fun e w' => e = .returned (.int .i64 9) ∧ MAt w' G m n P b 0 true i (strOf l) ∧ MOnly m w w' := by
  have HR := Lib.hid (mread_len h i hi 5 (by rw [if_pos hl]))
  have HBG := Lib.hid (begin_cut h i hi)
  have HRD := Lib.hid (fun w' ho => conv_str w' a l c (Rd.only hr ho ha (by omega)))
  have HL := Lib.hid h96
  obtain ⟨⟨rb, rows, h1, h2⟩, -⟩ := h
  have c0 := h1.c0
  have c2 := h1.c2
  have b0 := h2.b0 i hi
  have b2 := h2.b2 i hi
  obtain ⟨ra, rc, hrr⟩ := own_shp (h2.row i hi)
  rw [hrr] at b0
  rw [ht] at b2
  have hi1 : (i : Int) < (n : Int) := by omega
  have hi0 : (0 : Int) ≤ (i : Int) := by omega
  clear h1 h2 hrr hr ht h96 ha
  generalize (b i).pages.length = L at *
  go_enter Tryd.func22, Tryd.ntmps22
  go_wp2_with fail
  (with_reducible refine HR.out.mono ?_)
  rintro e w1 ⟨rfl, rfl⟩
  go_wp2_with fail
  (with_reducible refine HBG.out.mono ?_)
  rintro e w2 ⟨rfl, hM, hO⟩
  have hcv := HRD.out w2 hO
  rw [HL.out] at hcv
  have HF := Lib.hid (And.intro (hM.head 8 (.string (strOf l)) fun rb h => h.setPage _) (hO.set 8 (.string (strOf l))))
  obtain ⟨⟨rb2, rows2, g1, g2⟩, -⟩ := hM
  have c8 := g1.c8
  have f8 := g1.fz 8
  clear g1 g2 hO c0 c2 b0 b2
  go_wp2
  go_ret
  exact ⟨rfl, HF.out⟩
set_option maxRecDepth 100000 in
set_option maxHeartbeats 2000000 in
theorem mprog_ok (h : MAt w G m n P b 0 false cut t) (i : Nat) (hi : i < n) (hl : (b i).pages.length < P) (ht : (b i).torn = false) (hf : (b i).fails = false) (l : List Nat) (a : Option Addr) (c : Nat) (hr : Rd w a l) (h96 : l.length = 96) (ha : ∀ q, a = some q → ¬ G q.block) :
    Calls Tryd.prog 22 #[.pointer (some ⟨m, 0, none⟩), .int .i64 i, .int .i64 (b i).pages.length, .slice a 96 c, .int .u64 1] w fun e w' => e = .returned (.int .i64 0) ∧ MDid w G m n P (upd b i { b i with pages := (b i).pages ++ [l] }) 0 false cut t w' := by
  obtain ⟨i0, hi0, hz0, hz1, hz2⟩ := info_parts info_string
  have HR := Lib.hid (mread_len h i hi 5 (by rw [if_pos hl]))
  have HBG := Lib.hid (begin_ok h i hi hf)
  have hp32 : P ≤ 32 := h.p32
  have hgm := h.gm
  have hgen : ∀ W, MAt W G m n P b 0 false cut t → MOnly m w W → ∃ rb rows, MHd W m rb n P 0 false cut t ∧ MRw W G m rb n rows b ∧
      (∀ gg cap w1, w1.ownsRow 0 9 1 (.slice (some ⟨gg, 0, none⟩) ((b i).pages.length + 1) cap) ((b i).pages.length + 1) (strs (b i).pages ++ [.string (strOf l)]) → ((W.alloc (.cells #[.string (strOf l)] 9)).drew).grownBy w1 (rows i).ownBlock → ((rows i).ownBlock = some gg ∨ gg = W.heap.size + 1) →
        MDid w G m n P (upd b i { b i with pages := (b i).pages ++ [l] }) 0 false cut t (w1.setCell ⟨rb, i * 6, none⟩ (.slice (some ⟨gg, 0, none⟩) ((b i).pages.length + 1) cap)) ∧
        w1.cell? ⟨m, 0, none⟩ = some (.slice (some ⟨rb, 0, none⟩) n n) ∧ w1.cell? ⟨rb, i * 6, none⟩ = some (rows i) ∧ w1.frozen? ⟨rb, i * 6, none⟩ = false) := by
    intro W hM hO
    obtain ⟨⟨rb, rows, h1, h2⟩, h3, h4, h5⟩ := hM
    refine ⟨rb, rows, h1, h2, fun gg cap w1 hown hg hat => ?_⟩
    have hg0 : W.grownBy w1 (rows i).ownBlock := grownBy_trans (Below.grownBy (((Below.refl _ W).alloc (Nat.le_refl _) _).drew) _) hg
    have hs : (strs (b i).pages ++ [.string (strOf l)]) = strs ((b i).pages ++ [l]) := by unfold strs; simp
    rw [hs] at hown
    have hset := h2.setRow i hi hg0 (.slice (some ⟨gg, 0, none⟩) ((b i).pages.length + 1) cap) { b i with pages := (b i).pages ++ [l] } (by simpa using hown) (fun d hd => by
      obtain rfl : gg = d := by simpa [Value.ownBlock] using hd
      rcases hat with h6 | h6
      · exact .inl h6
      · exact .inr (by rw [h6]; exact Nat.le_succ _)) rfl rfl
    have hmne : some m ≠ (rows i).ownBlock := fun e => (h2.grow i hi m e.symm).2.1 rfl
    have hrbne : some rb ≠ (rows i).ownBlock := fun e => (h2.grow i hi rb e.symm).2.2 rfl
    have hml := h2.bound m h2.gm
    have hrl := h2.bound rb h2.grb
    have hsz : W.heap.size = w.heap.size := hO.2
    have hext : ext G W w1 = ext G w (w1.setCell ⟨rb, i * 6, none⟩ (.slice (some ⟨gg, 0, none⟩) ((b i).pages.length + 1) cap)) := by
      unfold ext; rw [set_size, hsz]
    unfold MDid
    rw [← hext]
    refine ⟨⟨⟨⟨rb, _, h1.keep (hset.2 m h2.ne hmne hml), hset.1⟩, h3, h4, fun j hj => ?_⟩, ?_⟩, ?_, ?_, ?_⟩
    · unfold upd
      split
      · simp; omega
      · exact h5 j hj
    · refine ⟨hg0.os.trans hO.1.os, hg0.tape.trans hO.1.tape, hg0.output.trans hO.1.output, ?_, fun k hk hG => ?_⟩
      · rw [set_size]; have := hg0.size; omega
      · have hkm : k ≠ m := fun e => hG (e ▸ h2.gm)
        refine (hset.2 k (fun e => hG (e ▸ h2.grb)) (fun e => hG (h2.grow i hi k e.symm).1) (by omega)).trans (hO.1.block k hk hkm)
    · exact (World.cell?_of_block (a := ⟨m, 0, none⟩) (hg0.block m hml hmne)).trans h1.c0
    · exact (World.cell?_of_block (a := ⟨rb, i * 6, none⟩) (hg0.block rb hrl hrbne)).trans (h2.b0 i hi)
    · exact (World.frozen?_of_block (a := ⟨rb, i * 6, none⟩) (hg0.block rb hrl hrbne)).trans (h2.fz _)
  have hkeep : ∀ W, MOnly m w W → ∀ W', Below W.heap.size W W' → (convert 42 9 (.slice a l.length c)).run Tryd.prog W' = .ok (.string (strOf l)) W' := fun W hO W' hb =>
    conv_str W' a l c ((Rd.only hr hO (fun q hq e => ha q hq (e ▸ hgm)) (by omega)).below hb)
  rw [h96] at hkeep
  obtain ⟨⟨rb, rows, h1, h2⟩, -⟩ := h
  have c0 := h1.c0
  have c2 := h1.c2
  have b0 := h2.b0 i hi
  have b2 := h2.b2 i hi
  obtain ⟨ra, rc, hrr⟩ := own_shp (h2.row i hi)
  rw [hrr] at b0
  rw [ht] at b2
  have hi1 : (i : Int) < (n : Int) := by omega
  have hi2 : (0 : Int) ≤ (i : Int) := by omega
  have HG := Lib.hid hgen
  have HK := Lib.hid hkeep
  have HL := Lib.hid h96
  have HLL := Lib.hid hl
  clear h1 h2 hrr hr ht h96 ha hgen hkeep hf hgm
  obtain ⟨L, hL⟩ : ∃ L, (b i).pages.length = L := ⟨_, rfl⟩
  obtain ⟨xs, hxs⟩ : ∃ xs, strs (b i).pages = xs := ⟨_, rfl⟩
  obtain ⟨st, hst⟩ : ∃ st, strOf l = st := ⟨_, rfl⟩
  have hxl : xs.length = L := by rw [← hxs, strs_length, hL]
  rw [hL] at hl HR b0 ⊢
  have HLE := Lib.hid hL
  have HXS := Lib.hid hxs
  have HST := Lib.hid hst
  rw [hst] at HK
  clear hL hxs hst
  go_enter Tryd.func22, Tryd.ntmps22
  go_wp2_with fail
  (with_reducible refine HR.out.mono ?_)
  rintro e w1 ⟨rfl, rfl⟩
  go_wp2_with fail
  (with_reducible refine HBG.out.mono ?_)
  rintro e W ⟨rfl, hM, hO⟩
  obtain ⟨rb2, rows2, g1, g2, hend⟩ := HG.out W hM hO
  have hcv := HK.out W hO
  have d0 := g1.c0
  have e0 := g2.b0 i hi
  have hown := g2.row i hi
  obtain ⟨ra2, rc2, hrr⟩ := own_shp hown
  have hBD : Below W.heap.size W W.drew := (Below.refl _ W).drew
  have hBA : ∀ o, Below W.heap.size W (W.alloc o).drew := fun o => ((Below.refl _ W).alloc (Nat.le_refl _) o).drew
  have q0 : W.cell? ⟨m, 0, none⟩ = some (.slice (some ⟨rb2, 0, none⟩) n n) := d0
  have q1 : W.cell? ⟨rb2, i * 6, none⟩ = some (.slice ra2 L rc2) := by rw [← HLE.out, ← hrr]; exact e0
  have q2 := hcv _ hBD
  have q3 : W.frozen? ⟨rb2, i * 6, none⟩ = false := g2.fz _
  have hmW : m < W.heap.size := g2.bound m g2.gm
  have hrW : rb2 < W.heap.size := g2.bound rb2 g2.grb
  rw [HLE.out, HXS.out] at hown
  rw [HLE.out] at hrr
  rw [hrr] at hown
  rw [HXS.out, HST.out, HLE.out, hrr] at hend
  have HO := Lib.hid hown
  have HE := Lib.hid hend
  have HRR := Lib.hid hrr
  clear hcv d0 e0 hown hrr hend hM hO hBD hBA g1 g2 c0 c2 b0 b2
  go_wp2_with fail
  go_region_law (first | (refine step_append_lies _ (by rfl) _ _ _ (by rfl) 0 9 i0 _ 1 16 Tryd.underlying74 hi0 hz0 hz1 hz2 rfl (by omega) _ L xs (by rfl) ((HO.out.alloc _).drew) ⟨W.heap.size, 0, none⟩ 1 1 [.string st] (by rfl) (by rfl) (World.news_of_block (cs := #[.string st]) (t := 9) (fr := (0, 0)) (heap_alloc_new W _)) (by simp [Value.oneCell']) (by omega) (by unfold maxLen; omega) (by omega) (Nat.zero_le _) (W.heap.size + 1) (by simp) ?_; intro gg cap w1 hown1 hgrow hat hlt; obtain ⟨hp, g0, g1, g2⟩ := HE.out _ _ _ hown1 hgrow hat; have HP := Lib.hid hp; clear hp hown1 hgrow hat))
  all_goals
    clear HO HE
    go_wp2
    go_ret
    exact ⟨rfl, HP.out⟩
end
end Go.Proofs.YtkapnpcolmhdbaaDoor.Sc
namespace Go.Proofs.YtkapnpcolmhdbaaDoor.Sc
open Go.RowKit
open Drawbar Drawbar.Nand Go.Proofs.YtkapnpcolmhdbaaDoor.Nd
section
variable {w : World} {G : Nat → Prop} {m n P : Nat} {b : Nat → Blk} {left : Nat} {off : Bool} {cut : Int} {t : ByteArray}
set_option maxRecDepth 100000 in
theorem pad_as (p : List Nat) (h : p.length = 96) (c : Nat) : p.take c ++ List.replicate (p.length - c) 255 = pad p c := by
  unfold pad
  rw [Int.toNat_natCast, List.length_take, h]
  congr 2
  omega
set_option maxRecDepth 100000 in
theorem str_toList {l : List Nat} (h : 0 < l.length) : (strOf l).toList ≠ [] := fun e => by
  have h1 := str_size l
  have : (strOf l).toList.length = (strOf l).size := by simp [ByteArray.toList_eq] 
  rw [e] at this
  simp at this
  omega
set_option maxRecDepth 100000 in
set_option maxHeartbeats 4000000 in
theorem mrest_lay (p : List Nat) (hp : p.length = 96) (h : MAt w G m n P b left off cut (strOf p)) (i : Nat) (hi : i < n) (hcut : cut = i) (c : Nat) (hc : 0 < c) (hl : (b i).pages.length < P) :
    Calls Tryd.prog 27 #[.pointer (some ⟨m, 0, none⟩), .int .i64 c] w fun e w' => e = .returned (.tuple #[]) ∧ MDid w G m n P (upd b i { b i with pages := (b i).pages ++ [pad p c] }) 0 false (-1) (strOf p) w' := by
  subst hcut
  obtain ⟨i0, hi0, hz0, hz1, hz2⟩ := info_parts info_string
  have hgm := h.gm
  have hp32 : P ≤ 32 := h.p32
  have HL := Lib.hid (fun W => mlaid_any p (by omega) c W)
  have hpl := str_toList (l := p) (by omega)
  have hpl2 : (strOf p).toList.isEmpty = false := by cases h : (strOf p).toList with | nil => exact absurd h hpl | cons x r => rfl
  obtain ⟨⟨rb, rows, h1, h2⟩, h3, h4, h5⟩ := h
  have hb0 := h2.b0 i hi
  have fb0 := h2.fz (i * 6)
  have c0 := h1.c0
  have c7 := h1.c7
  have c8 := h1.c8
  have hown := h2.row i hi
  obtain ⟨ra, rc, hrr⟩ := own_shp hown
  have ii0 : (0 : Int) ≤ (i : Int) := by omega
  have ii1 : (i : Int) < (n : Int) := by omega
  have ic : (0 : Int) < (c : Int) := by omega
  have hmW : m < w.heap.size := h2.bound m h2.gm
  have hrW : rb < w.heap.size := h2.bound rb h2.grb
  have hend : ∀ k gg cap w1, w1.ownsRow 0 9 1 (.slice (some ⟨gg, 0, none⟩) ((b i).pages.length + 1) cap) ((b i).pages.length + 1) (strs (b i).pages ++ [.string (strOf (pad p c))]) → (((w.drewN k).alloc (.cells #[.string (strOf (pad p c))] 9)).drew).grownBy w1 (rows i).ownBlock → ((rows i).ownBlock = some gg ∨ gg = w.heap.size + 1) →
        MDid w G m n P (upd b i { b i with pages := (b i).pages ++ [pad p c] }) left off i (strOf p) (w1.setCell ⟨rb, i * 6, none⟩ (.slice (some ⟨gg, 0, none⟩) ((b i).pages.length + 1) cap)) ∧ w1.cell? ⟨rb, i * 6, none⟩ = some (rows i) ∧ w1.frozen? ⟨rb, i * 6, none⟩ = false ∧ w1.cell? ⟨m, 8, none⟩ = some (.string (strOf p)) := by
    intro k gg cap w1 hown hg hat
    have hg0 : w.grownBy w1 (rows i).ownBlock := grownBy_trans (Below.grownBy (((below_drewN (Below.refl _ _) k).alloc (Nat.le_refl _) _).drew) _) hg
    have hs : (strs (b i).pages ++ [.string (strOf (pad p c))]) = strs ((b i).pages ++ [pad p c]) := by unfold strs; simp
    rw [hs] at hown
    have hset := h2.setRow i hi hg0 (.slice (some ⟨gg, 0, none⟩) ((b i).pages.length + 1) cap) { b i with pages := (b i).pages ++ [pad p c] } (by simpa using hown) (fun d hd => by
      obtain rfl : gg = d := by simpa [Value.ownBlock] using hd
      rcases hat with h6 | h6
      · exact .inl h6
      · exact .inr (by rw [h6]; exact Nat.le_succ _)) rfl rfl
    have hmne : some m ≠ (rows i).ownBlock := fun e => (h2.grow i hi m e.symm).2.1 rfl
    have hrbne : some rb ≠ (rows i).ownBlock := fun e => (h2.grow i hi rb e.symm).2.2 rfl
    have hext : ext G w w1 = ext G w (w1.setCell ⟨rb, i * 6, none⟩ (.slice (some ⟨gg, 0, none⟩) ((b i).pages.length + 1) cap)) := by
      unfold ext; rw [set_size]
    unfold MDid
    rw [← hext]
    refine ⟨⟨⟨⟨rb, _, h1.keep (hset.2 m h2.ne hmne hmW), hset.1⟩, h3, h4, upd_len h5 (by simp; omega)⟩, ?_⟩, ?_, ?_, ?_⟩
    · refine ⟨hg0.os, hg0.tape, hg0.output, ?_, fun k hk hG => ?_⟩
      · rw [set_size]; exact hg0.size
      · exact hset.2 k (fun e => hG (e ▸ h2.grb)) (fun e => hG (h2.grow i hi k e.symm).1) hk
    · exact (World.cell?_of_block (a := ⟨rb, i * 6, none⟩) (hg0.block rb hrW hrbne)).trans hb0
    · exact (World.frozen?_of_block (a := ⟨rb, i * 6, none⟩) (hg0.block rb hrW hrbne)).trans (h2.fz _)
    · exact (World.cell?_of_block (a := ⟨m, 8, none⟩) (hg0.block m hmW hmne)).trans c8
  obtain ⟨CC, hCC⟩ : ∃ CC : World → Prop, CC = MDid w G m n P (upd b i { b i with pages := (b i).pages ++ [pad p c] }) left off i (strOf p) := ⟨_, rfl⟩
  rw [← hCC] at hend
  have HC := Lib.hid (fun w' (h : CC w') => (by rw [hCC] at h; exact h : MDid w G m n P (upd b i { b i with pages := (b i).pages ++ [pad p c] }) left off i (strOf p) w'))
  rw [pad_as p hp c] at HL
  obtain ⟨L, hL⟩ : ∃ L, (b i).pages.length = L := ⟨_, rfl⟩
  obtain ⟨xs, hxs⟩ : ∃ xs, strs (b i).pages = xs := ⟨_, rfl⟩
  obtain ⟨st, hst⟩ : ∃ st, strOf (pad p c) = st := ⟨_, rfl⟩
  obtain ⟨sp, hsp⟩ : ∃ sp, strOf p = sp := ⟨_, rfl⟩
  have hxl : xs.length = L := by rw [← hxs, strs_length, hL]
  rw [hL] at hl hrr
  rw [hL, hrr, hxs] at hown
  rw [hL, hst, hxs, hrr] at hend
  rw [hst, hsp] at HL
  rw [hsp] at hpl hpl2 c8 HC hend
  rw [hrr] at hb0
  rw [hsp]
  have HO := Lib.hid hown
  have HE := Lib.hid hend
  have HLL := Lib.hid hl
  clear h1 h2 h3 h4 h5 hCC hown hend hp hL hxs hst hsp hrr hl hc
  go_enter Tryd.func27, Tryd.ntmps27
  go_upto_if 13 with (fail)
  go_cut [] from 4 to 75 (fun wx => CC wx)
  case first =>
    go_wp2
    go_quiet (fail)
    go_wp2
    have hl3 := HLL.out
    have hE2 := HE.out nq
    have hO2 : (w.drewN nq).ownsRow 0 9 1 (.slice ra L rc) L xs := ownsRow_keep HO.out fun _ _ => rfl
    have q8 : (w.drewN nq).cell? ⟨m, 8, none⟩ = some (.string sp) := c8
    have q0 : (w.drewN nq).cell? ⟨rb, i * 6, none⟩ = some (.slice ra L rc) := hb0
    have q3 : (w.drewN nq).frozen? ⟨rb, i * 6, none⟩ = false := fb0
    have q1 : m < (w.drewN nq).heap.size := hmW
    have q2 : rb < (w.drewN nq).heap.size := hrW
    have hsz : (w.drewN nq).heap.size = w.heap.size := rfl
    rw [← hsz] at hE2
    clear hsz
    generalize w.drewN nq = W at *
    have HE2 := Lib.hid hE2
    have HO2 := Lib.hid hO2
    clear hE2 hO2
    go_region_law (first | (refine step_append_lies _ (by rfl) _ _ _ (by rfl) 0 9 i0 _ 1 16 Tryd.underlying74 hi0 hz0 hz1 hz2 rfl (by omega) _ L xs (by rfl) ((HO2.out.alloc _).drew) ⟨W.heap.size, 0, none⟩ 1 1 [.string st] (by rfl) (by rfl) (World.news_of_block (cs := #[.string st]) (t := 9) (fr := (0, 0)) (heap_alloc_new W _)) (by simp [Value.oneCell']) (by omega) (by unfold maxLen; omega) (by omega) (Nat.zero_le _) (W.heap.size + 1) (by simp) ?_; intro gg cap w1 hown1 hgrow hat hlt; obtain ⟨hp, g1, g2, g8⟩ := HE2.out _ _ _ hown1 hgrow hat; have HP := Lib.hid hp; clear hp hown1 hgrow hat) | (go_simp; (with_reducible refine (HL.out _).mono ?_); rintro e w2 ⟨rfl, rfl⟩; dsimp only))
    all_goals
      go_wp2
      go_meet
      exact HP.out
  case rest =>
    have hcc := HC.out _ hcut
    have HF := Lib.hid (fun x => hcc.five hgm x)
    unfold five at HF
    obtain ⟨f7, g7, f5, g5, f4, g4, f2, g2, ⟨v3, f3⟩, g3⟩ := hcc.1.facts
    clear hcc hb0 c0 c7 c8 hcut
    go_wp2
    go_end0
    exact ⟨rfl, HF.out _⟩
end
end Go.Proofs.YtkapnpcolmhdbaaDoor.Sc
