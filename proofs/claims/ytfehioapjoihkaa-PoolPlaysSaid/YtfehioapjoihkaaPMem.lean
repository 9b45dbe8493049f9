/- What the memory of a map of pages (package pmap) holds, what keeps it, and the contracts of its small calls. -/
import Derived.Test.YtfehioapjoihkaaProg
import Derived.Test.YtfehioapjoihkaaPState
import Derived.WalkKit
import Derived.Handy
import Derived.OwnWalk
import Derived.Outline
import Derived.Lib.Hide
import Derived.Deep.LoopGhost
namespace Drawbar
open Go Go.RowKit
/-- What lies outside of F stands. -/
structure Only (F : Nat → Prop) (w w' : World) : Prop where
  os : w'.os = w.os
  tape : w'.tape = w.tape
  output : w'.output = w.output
  size : w.heap.size ≤ w'.heap.size
  block : ∀ k, k < w.heap.size → ¬ F k → w'.heap[k]? = w.heap[k]?
theorem Only.refl (F : Nat → Prop) (w : World) : Only F w w := ⟨rfl, rfl, rfl, Nat.le_refl _, fun _ _ _ => rfl⟩
theorem Only.trans {F : Nat → Prop} {w w1 w2 : World} (h : Only F w w1) (h2 : Only F w1 w2) : Only F w w2 :=
  ⟨h2.os.trans h.os, h2.tape.trans h.tape, h2.output.trans h.output, Nat.le_trans h.size h2.size, fun k hk hF => (h2.block k (Nat.lt_of_lt_of_le hk h.size) hF).trans (h.block k hk hF)⟩
theorem Only.below {F : Nat → Prop} {w w1 : World} (h : Below w.heap.size w w1) : Only F w w1 := ⟨h.os, h.tape, h.output, h.size, fun k hk _ => h.block k hk⟩
theorem Only.setCell {F : Nat → Prop} {w w1 : World} (h : Only F w w1) {g o : Nat} (hF : F g) (x : Value) : Only F w (w1.setCell ⟨g, o, none⟩ x) :=
  ⟨h.os, h.tape, h.output, by simpa [World.setCell] using h.size, fun k hk hn => (Below.heap_setCell w1 ⟨g, o, none⟩ x k (fun e => hn (by subst e; exact hF))).trans (h.block k hk hn)⟩
/-- A store into a block that is new. -/
theorem Only.setNew {F : Nat → Prop} {w w1 : World} (h : Only F w w1) {g o : Nat} (hg : w.heap.size ≤ g) (x : Value) : Only F w (w1.setCell ⟨g, o, none⟩ x) :=
  ⟨h.os, h.tape, h.output, by simpa [World.setCell] using h.size, fun k hk hn => (Below.heap_setCell w1 ⟨g, o, none⟩ x k (fun e => by subst e; exact absurd hk (Nat.not_lt.2 hg))).trans (h.block k hk hn)⟩
theorem Only.drew {F : Nat → Prop} {w w1 : World} (h : Only F w w1) : Only F w w1.drew := ⟨h.os, h.tape, h.output, h.size, h.block⟩
theorem Only.alloc {F : Nat → Prop} {w w1 : World} (h : Only F w w1) (o : Obj) : Only F w (w1.alloc o) :=
  ⟨h.os, h.tape, h.output, by have := h.size; simp; omega, fun k hk hn => (Below.heap_alloc w1 o k (Nat.lt_of_lt_of_le hk h.size)).trans (h.block k hk hn)⟩
theorem Only.toBelow {F : Nat → Prop} {B : Nat} {w w1 : World} (h : Only F w w1) (hF : ∀ k, F k → B ≤ k) (hB : B ≤ w.heap.size) : Below B w w1 :=
  ⟨h.os, h.tape, h.output, h.size, fun k hk => h.block k (Nat.lt_of_lt_of_le hk hB) (fun hf => by have := hF k hf; omega)⟩
theorem Only.mono {F G : Nat → Prop} {w w1 : World} (h : Only F w w1) (hF : ∀ k, F k → G k) : Only G w w1 := ⟨h.os, h.tape, h.output, h.size, fun k hk hn => h.block k hk fun hf => hn (hF k hf)⟩
theorem Below.drewB {B : Nat} {w w1 : World} (h : Below B w w1) : Below B w w1.drew := ⟨h.os, h.tape, h.output, h.size, h.block⟩
end Drawbar
namespace Go.Proofs.Ytfehioapjoihkaa
open Go.RowKit
open Drawbar Drawbar.Pm

def Two (p c : Nat) : Nat → Prop := fun d => d = p ∨ d = c

/-- Where all is, and how many there are on each block, in memory. -/
structure Raw (w : World) (pb cb n m : Nat) (pl : Nat → Int × Int) (ct : Nat → Int) : Prop where
  pl : ∀ k, k < n → w.cell? ⟨pb, k * 2, none⟩ = some (.int .i64 (pl k).1) ∧ w.cell? ⟨pb, k * 2 + 1, none⟩ = some (.int .i64 (pl k).2)
  pf : ∀ o, w.frozen? ⟨pb, o, none⟩ = false
  ct : ∀ b, b < m → w.cell? ⟨cb, b, none⟩ = some (.int .i64 (ct b))
  cf : ∀ o, w.frozen? ⟨cb, o, none⟩ = false
  ne : pb ≠ cb
theorem Raw.keep {w w' : World} {pb cb n m : Nat} {pl : Nat → Int × Int} {ct : Nat → Int} (h : Raw w pb cb n m pl ct) (h1 : w'.heap[pb]? = w.heap[pb]?) (h2 : w'.heap[cb]? = w.heap[cb]?) : Raw w' pb cb n m pl ct :=
  ⟨fun k hk => ⟨(World.cell?_of_block (a := ⟨pb, k * 2, none⟩) h1).trans (h.pl k hk).1, (World.cell?_of_block (a := ⟨pb, k * 2 + 1, none⟩) h1).trans (h.pl k hk).2⟩,
    fun o => (World.frozen?_of_block (a := ⟨pb, o, none⟩) h1).trans (h.pf o), fun b hb => (World.cell?_of_block (a := ⟨cb, b, none⟩) h2).trans (h.ct b hb), fun o => (World.frozen?_of_block (a := ⟨cb, o, none⟩) h2).trans (h.cf o), h.ne⟩
theorem off_ne {b o p : Nat} (h : o ≠ p) : (⟨b, o, none⟩ : Addr) ≠ ⟨b, p, none⟩ := fun e => h (by have := congrArg Addr.off e; exact this)
theorem blk_ne {b c o p : Nat} (h : b ≠ c) : (⟨b, o, none⟩ : Addr) ≠ ⟨c, p, none⟩ := fun e => h (by have := congrArg Addr.block e; exact this)
theorem Raw.setCt {w : World} {pb cb n m : Nat} {pl : Nat → Int × Int} {ct : Nat → Int} (h : Raw w pb cb n m pl ct) (b : Nat) (hb : b < m) (x : Int) : Raw (w.setCell ⟨cb, b, none⟩ (.int .i64 x)) pb cb n m pl (fun c => if c = b then x else ct c) := by
  have hoth : (w.setCell ⟨cb, b, none⟩ (.int .i64 x)).heap[pb]? = w.heap[pb]? := Below.heap_setCell _ _ _ _ h.ne
  refine ⟨fun k hk => ⟨(World.cell?_of_block (a := ⟨pb, k * 2, none⟩) hoth).trans (h.pl k hk).1, (World.cell?_of_block (a := ⟨pb, k * 2 + 1, none⟩) hoth).trans (h.pl k hk).2⟩, fun o => (World.frozen?_of_block (a := ⟨pb, o, none⟩) hoth).trans (h.pf o), fun c hc => ?_, fun o => by rw [World.frozen?_setCell]; exact h.cf o, h.ne⟩
  by_cases e : c = b
  · subst e; rw [World.cell?_setCell_same _ _ _ (h.ct c hc), if_pos rfl]
  · rw [World.cell?_setCell_other _ _ _ _ (off_ne (Ne.symm e)), if_neg e]; exact h.ct c hc
theorem Raw.setPl {w : World} {pb cb n m : Nat} {pl : Nat → Int × Int} {ct : Nat → Int} (h : Raw w pb cb n m pl ct) (k : Nat) (hk : k < n) (x y : Int) :
    Raw ((w.setCell ⟨pb, k * 2, none⟩ (.int .i64 x)).setCell ⟨pb, k * 2 + 1, none⟩ (.int .i64 y)) pb cb n m (fun j => if j = k then (x, y) else pl j) ct := by
  have hoth : ((w.setCell ⟨pb, k * 2, none⟩ (.int .i64 x)).setCell ⟨pb, k * 2 + 1, none⟩ (.int .i64 y)).heap[cb]? = w.heap[cb]? := (Below.heap_setCell _ _ _ _ h.ne.symm).trans (Below.heap_setCell _ _ _ _ h.ne.symm)
  refine ⟨fun j hj => ?_, fun o => by rw [World.frozen?_setCell, World.frozen?_setCell]; exact h.pf o, fun c hc => (World.cell?_of_block (a := ⟨cb, c, none⟩) hoth).trans (h.ct c hc), fun o => (World.frozen?_of_block (a := ⟨cb, o, none⟩) hoth).trans (h.cf o), h.ne⟩
  by_cases e : j = k
  · subst e
    rw [World.cell?_setCell_other _ _ _ _ (off_ne (by omega)), World.cell?_setCell_same _ _ _ (h.pl j hj).1, World.cell?_setCell_same _ _ _ ((World.cell?_setCell_other _ _ _ _ (off_ne (by omega))).trans (h.pl j hj).2), if_pos rfl]
    exact ⟨rfl, rfl⟩
  · rw [World.cell?_setCell_other _ _ _ _ (off_ne (by omega)), World.cell?_setCell_other _ _ _ _ (off_ne (by omega)), World.cell?_setCell_other _ _ _ _ (off_ne (by omega)), World.cell?_setCell_other _ _ _ _ (off_ne (by omega)), if_neg e]
    exact h.pl j hj
theorem Raw.drew {w : World} {pb cb n m : Nat} {pl : Nat → Int × Int} {ct : Nat → Int} (h : Raw w pb cb n m pl ct) : Raw w.drew pb cb n m pl ct := h.keep rfl rfl

/-- A map of pages in memory: its own block g, where all is pb, how many there are on each block cb. -/
structure MapAt (w : World) (g pb cb : Nat) (s : St) : Prop where
  wf : Wf s
  c0 : w.cell? ⟨g, 0, none⟩ = some (.slice (some ⟨pb, 0, none⟩) s.addrs s.addrs)
  c1 : w.cell? ⟨g, 1, none⟩ = some (.slice (some ⟨cb, 0, none⟩) s.blocks s.blocks)
  raw : Raw w pb cb s.addrs s.blocks (fun k => (blkOf (s.at_ k), pgOf (s.at_ k))) (fun b => s.cnt b)
  gp : g ≠ pb
  gc : g ≠ cb
section
variable {w : World} {g pb cb : Nat} {s : St}
theorem MapAt.gl (h : MapAt w g pb cb s) : g < w.heap.size := World.block_lt_of_cell? w _ h.c0
theorem MapAt.pbl (h : MapAt w g pb cb s) : pb < w.heap.size := World.block_lt_of_cell? w _ (h.raw.pl 0 h.wf.a0).1
theorem MapAt.cbl (h : MapAt w g pb cb s) : cb < w.heap.size := World.block_lt_of_cell? w _ (h.raw.ct 0 h.wf.b0)
theorem MapAt.keep (h : MapAt w g pb cb s) {w' : World} (hk : ∀ d, d = g ∨ d = pb ∨ d = cb → w'.heap[d]? = w.heap[d]?) : MapAt w' g pb cb s :=
  ⟨h.wf, (World.cell?_of_block (a := ⟨g, 0, none⟩) (hk g (.inl rfl))).trans h.c0, (World.cell?_of_block (a := ⟨g, 1, none⟩) (hk g (.inl rfl))).trans h.c1, h.raw.keep (hk pb (.inr (.inl rfl))) (hk cb (.inr (.inr rfl))), h.gp, h.gc⟩
theorem MapAt.below (h : MapAt w g pb cb s) {w' : World} (hb : Below w.heap.size w w') : MapAt w' g pb cb s := h.keep fun d hd => hb.block d (by
  have := h.gl; have := h.pbl; have := h.cbl
  rcases hd with rfl | rfl | rfl <;> assumption)
theorem MapAt.alloc (h : MapAt w g pb cb s) (o : Obj) : MapAt (w.alloc o) g pb cb s := h.below ((Below.refl _ _).alloc (Nat.le_refl _) _)
/-- Blocks that are none of the map's may turn. -/
theorem MapAt.only (h : MapAt w g pb cb s) {w' : World} {F : Nat → Prop} (hb : Only F w w') (h1 : ¬ F g) (h2 : ¬ F pb) (h3 : ¬ F cb) : MapAt w' g pb cb s := h.keep fun d hd => hb.block d (by
  have := h.gl; have := h.pbl; have := h.cbl
  rcases hd with rfl | rfl | rfl <;> assumption) (by rcases hd with rfl | rfl | rfl <;> assumption)
end

theorem within_yes (n a b : Int) (w : World) (h : a ≤ n) (h2 : n ≤ b) :
    Calls Try.prog 28 #[.int .i64 n, .int .i64 a, .int .i64 b] w fun e w' => e = .returned (.bool true) ∧ w = w' := by
  go_enter Try.func28, Try.ntmps28
  go_wp2
  go_ret
  exact ⟨rfl, rfl⟩
theorem within_no (n a b : Int) (w : World) (h : n < a ∨ b < n) :
    Calls Try.prog 28 #[.int .i64 n, .int .i64 a, .int .i64 b] w fun e w' => e = .returned (.bool false) ∧ w = w' := by
  by_cases h1 : a ≤ n
  · have h2 : b < n := by omega
    have h3 : false = decide (n ≤ b) := (decide_eq_false (by omega)).symm
    rw [h3]
    clear h3
    go_enter Try.func28, Try.ntmps28
    go_wp2
    go_ret
    exact ⟨rfl, rfl⟩
  · go_enter Try.func28, Try.ntmps28
    go_wp2
    go_ret
    exact ⟨rfl, rfl⟩

def inR (i : Int) (n : Nat) : Prop := 0 ≤ i ∧ i < n
section
variable {w : World} {g pb cb : Nat} {s : St} (h : MapAt w g pb cb s)
include h
theorem hasAddr_yes (k : Nat) (hk : k < s.addrs) : Calls Try.prog 29 #[.pointer (some ⟨g, 0, none⟩), .int .i64 k] w fun e w' => e = .returned (.bool true) ∧ w = w' := by
  have c0 := h.c0
  have a9 := h.wf.a9
  generalize s.addrs = n at *
  clear h
  go_enter Try.func29, Try.ntmps29
  go_wp2_with (go_at_call 28; refine (within_yes _ _ _ _ (by omega) (by omega)).mono ?_; rintro e w' ⟨rfl, rfl⟩)
  go_ret
  exact ⟨rfl, rfl⟩
theorem hasAddr_no (i : Int) (hi : ¬ inR i s.addrs) : Calls Try.prog 29 #[.pointer (some ⟨g, 0, none⟩), .int .i64 i] w fun e w' => e = .returned (.bool false) ∧ w = w' := by
  have c0 := h.c0
  have a9 := h.wf.a9
  have hi2 : i < 0 ∨ (s.addrs : Int) - 1 < i := by unfold inR at hi; omega
  generalize s.addrs = n at *
  have HI := Lib.hid hi2
  clear h hi hi2
  go_enter Try.func29, Try.ntmps29
  go_wp2_with (go_at_call 28; refine (within_no _ _ _ _ HI.out).mono ?_; rintro e w' ⟨rfl, rfl⟩)
  go_ret
  exact ⟨rfl, rfl⟩
theorem hasBlock_yes (k : Nat) (hk : k < s.blocks) : Calls Try.prog 31 #[.pointer (some ⟨g, 0, none⟩), .int .i64 k] w fun e w' => e = .returned (.bool true) ∧ w = w' := by
  have c0 := h.c1
  have a9 := h.wf.b9
  generalize s.blocks = n at *
  clear h
  go_enter Try.func31, Try.ntmps31
  go_wp2_with (go_at_call 28; refine (within_yes _ _ _ _ (by omega) (by omega)).mono ?_; rintro e w' ⟨rfl, rfl⟩)
  go_ret
  exact ⟨rfl, rfl⟩
theorem hasBlock_no (i : Int) (hi : ¬ inR i s.blocks) : Calls Try.prog 31 #[.pointer (some ⟨g, 0, none⟩), .int .i64 i] w fun e w' => e = .returned (.bool false) ∧ w = w' := by
  have c0 := h.c1
  have a9 := h.wf.b9
  have hi2 : i < 0 ∨ (s.blocks : Int) - 1 < i := by unfold inR at hi; omega
  generalize s.blocks = n at *
  have HI := Lib.hid hi2
  clear h hi hi2
  go_enter Try.func31, Try.ntmps31
  go_wp2_with (go_at_call 28; refine (within_no _ _ _ _ HI.out).mono ?_; rintro e w' ⟨rfl, rfl⟩)
  go_ret
  exact ⟨rfl, rfl⟩

theorem count_in (b : Nat) (hb : b < s.blocks) : Calls Try.prog 17 #[.pointer (some ⟨g, 0, none⟩), .int .i64 b] w fun e w' => e = .returned (.int .i64 (s.cnt b)) ∧ w = w' := by
  have c1 := h.c1
  have ct := h.raw.ct b hb
  have b9 := h.wf.b9
  have HB := Lib.hid (hasBlock_yes h b hb)
  generalize s.cnt b = x at *
  generalize s.blocks = n at *
  clear h
  go_enter Try.func17, Try.ntmps17
  go_wp2_with (go_at_call 31; (with_reducible refine HB.out.mono ?_); rintro e w' ⟨rfl, rfl⟩)
  go_ret
  exact ⟨rfl, rfl⟩
theorem count_out (i : Int) (hi : ¬ inR i s.blocks) : Calls Try.prog 17 #[.pointer (some ⟨g, 0, none⟩), .int .i64 i] w fun e w' => e = .returned (.int .i64 0) ∧ w = w' := by
  have HB := Lib.hid (hasBlock_no h i hi)
  clear h hi
  go_enter Try.func17, Try.ntmps17
  go_wp2_with (go_at_call 31; (with_reducible refine HB.out.mono ?_); rintro e w' ⟨rfl, rfl⟩)
  go_ret
  exact ⟨rfl, rfl⟩
end
theorem count_nil (i : Int) (w : World) : Calls Try.prog 17 #[.pointer none, .int .i64 i] w fun e w' => e = .returned (.int .i64 0) ∧ w = w' := by
  go_enter Try.func17, Try.ntmps17
  go_wp2
  go_ret
  exact ⟨rfl, rfl⟩
theorem len_nil (w : World) : Calls Try.prog 18 #[.pointer none] w fun e w' => e = .returned (.int .i64 0) ∧ w = w' := by
  go_enter Try.func18, Try.ntmps18
  go_wp2
  go_ret
  exact ⟨rfl, rfl⟩
theorem drop_nil (i : Int) (w : World) : Calls Try.prog 13 #[.pointer none, .int .i64 i] w fun e w' => e = .returned (.int .i64 5) ∧ w = w' := by
  go_enter Try.func13, Try.ntmps13
  go_wp2
  go_ret
  exact ⟨rfl, rfl⟩
theorem set_nil (i b p : Int) (w : World) : Calls Try.prog 14 #[.pointer none, .int .i64 i, .agg #[.int .i64 b, .int .i64 p]] w fun e w' => e = .returned (.int .i64 5) ∧ Below w.heap.size w w' := by
  go_enter Try.func14, Try.ntmps14
  go_wp2
  go_ret
  exact ⟨rfl, (Below.refl _ _).alloc (Nat.le_refl _) _⟩
theorem get_nil (i : Int) (w : World) : Calls Try.prog 16 #[.pointer none, .int .i64 i] w fun e w' => e = .returned (.tuple #[.agg #[.int .i64 0, .int .i64 0], .bool false]) ∧ Below w.heap.size w w' := by
  go_enter Try.func16, Try.ntmps16
  go_wp2
  exact bodyPost_ret (v := .tuple #[.agg #[.int .i64 0, .int .i64 0], .bool false]) (by simp [results, Try.results16, go_sem]) rfl ⟨rfl, (Below.refl _ _).alloc (Nat.le_refl _) _⟩
theorem on_nil (i : Int) (w : World) : Calls Try.prog 19 #[.pointer none, .int .i64 i] w fun e w' => e = .returned (.slice none 0 0) ∧ Below w.heap.size w w' := by
  go_enter Try.func19, Try.ntmps19
  go_wp2_with (go_at_call 17; (with_reducible refine (count_nil _ _).mono ?_); rintro e w' ⟨rfl, rfl⟩)
  go_ret
  exact ⟨rfl, (Below.refl _ _).alloc (Nat.le_refl _) _⟩
end Go.Proofs.Ytfehioapjoihkaa
