/- A map of pages (package pmap) as plain data: where each address's page is. What the memory of a map of pages (package pmap) holds, what keeps it, and the contracts of its small calls. The contracts of Get and Len (package pmap). The contract of leave (package pmap): an address's page is no longer where it was. The contracts of Set and Drop (package pmap). The contract of New (package pmap). -/
import Derived.Test.YtkapnpcolmhdbaaDoorProg
import Derived.WalkKit
import Derived.Handy
import Derived.OwnWalk
import Derived.Outline
import Derived.Lib.Hide
import Derived.Deep.LoopGhost
import Derived.BigRegion
namespace Drawbar.Pm

/-- How many of the first n have f. -/
def cntTo (f : Nat → Bool) : Nat → Nat
  | 0 => 0
  | n + 1 => cntTo f n + if f n then 1 else 0
set_option maxRecDepth 100000 in
theorem cntTo_succ (f : Nat → Bool) (n : Nat) : cntTo f (n + 1) = cntTo f n + if f n then 1 else 0 := rfl
set_option maxRecDepth 100000 in
theorem cntTo_le (f : Nat → Bool) (n : Nat) : cntTo f n ≤ n := by
  induction n with
  | zero => exact Nat.le_refl _
  | succ n ih => unfold cntTo; split <;> omega
set_option maxRecDepth 100000 in
theorem cntTo_congr {f g : Nat → Bool} (n : Nat) (h : ∀ k, k < n → f k = g k) : cntTo f n = cntTo g n := by
  induction n with
  | zero => rfl
  | succ n ih => unfold cntTo; rw [ih fun k hk => h k (by omega), h n (by omega)]
set_option maxRecDepth 100000 in
theorem cntTo_upd {f g : Nat → Bool} (n k : Nat) (hk : k < n) (h : ∀ j, j ≠ k → f j = g j) : cntTo f n + (if g k then 1 else 0) = cntTo g n + if f k then 1 else 0 := by
  induction n with
  | zero => omega
  | succ n ih =>
    unfold cntTo
    by_cases e : k = n
    · subst e
      rw [cntTo_congr k fun j hj => h j (by omega)]
      omega
    · have := ih (by omega)
      rw [h n (Ne.symm e)]
      omega
set_option maxRecDepth 100000 in
theorem cntTo_none {f : Nat → Bool} (n : Nat) (h : ∀ k, k < n → f k = false) : cntTo f n = 0 := by
  induction n with
  | zero => rfl
  | succ n ih => unfold cntTo; rw [ih fun k hk => h k (by omega), h n (by omega)]; rfl
set_option maxRecDepth 100000 in
theorem cntTo_pos {f : Nat → Bool} (n k : Nat) (hk : k < n) (h : f k = true) : 0 < cntTo f n := by
  induction n with
  | zero => omega
  | succ n ih =>
    unfold cntTo
    by_cases e : k = n
    · subst e; rw [if_pos h]; omega
    · have := ih (by omega); omega
set_option maxRecDepth 100000 in
theorem cntTo_filter (f : Nat → Bool) (n : Nat) : ((List.range n).filter f).length = cntTo f n := by
  induction n with
  | zero => rfl
  | succ n ih =>
    rw [List.range_succ, List.filter_append, List.length_append, ih, cntTo_succ]
    cases h : f n <;> simp [h]
set_option maxRecDepth 100000 in
theorem cntTo_two {f g : Nat → Bool} (n : Nat) (h : ∀ k, ¬ (f k = true ∧ g k = true)) : cntTo (fun k => f k || g k) n = cntTo f n + cntTo g n := by
  induction n with
  | zero => rfl
  | succ n ih =>
    unfold cntTo
    rw [ih]
    have := h n
    cases h1 : f n <;> cases h2 : g n <;> simp_all <;> omega

/-- A map of so many addresses and blocks. -/
structure St where
  addrs : Nat
  blocks : Nat
  at_ : Nat → Option (Nat × Nat)
abbrev Pl := Option (Nat × Nat)
/-- Is it on this block? -/
def on (b : Nat) : Pl → Bool
  | some (c, _) => c == b
  | none => false
def blkOf : Pl → Int
  | some (b, _) => b
  | none => -1
def pgOf : Pl → Int
  | some (_, p) => p
  | none => 0
/-- As Get tells it. -/
def tellB : Pl → Int
  | some (b, _) => b
  | none => 0
def St.cnt (s : St) (b : Nat) : Nat := cntTo (fun k => on b (s.at_ k)) s.addrs
def St.new (a b : Nat) : St := ⟨a, b, fun _ => none⟩
def St.put (s : St) (k : Nat) (v : Pl) : St := { s with at_ := fun j => if j = k then v else s.at_ j }
/-- How many have a page. -/
def St.len (s : St) : Nat := cntTo (fun k => (s.at_ k).isSome) s.addrs
/-- The addresses on a block. -/
def St.ons (s : St) (b : Nat) : List Nat := (List.range s.addrs).filter fun k => on b (s.at_ k)
/-- The sum of the first n blocks' counts. -/
def St.sumTo (s : St) : Nat → Nat
  | 0 => 0
  | n + 1 => s.sumTo n + s.cnt n

structure Wf (s : St) : Prop where
  a0 : 0 < s.addrs
  a9 : s.addrs ≤ 65536
  b0 : 0 < s.blocks
  b9 : s.blocks ≤ 64
  pl : ∀ k b p, s.at_ k = some (b, p) → b < s.blocks ∧ p < 32
  out : ∀ k, s.addrs ≤ k → s.at_ k = none
/-- No two addresses have one page. -/
def Apart (s : St) : Prop := ∀ j k v, s.at_ j = some v → s.at_ k = some v → j = k

set_option maxRecDepth 100000 in
theorem Wf.new {a b : Nat} (h1 : 0 < a) (h2 : a ≤ 65536) (h3 : 0 < b) (h4 : b ≤ 64) : Wf (St.new a b) := ⟨h1, h2, h3, h4, fun _ _ _ h => (by cases h), fun _ _ => rfl⟩
set_option maxRecDepth 100000 in
theorem Wf.put {s : St} (h : Wf s) (k : Nat) (hk : k < s.addrs) (v : Pl) (hv : ∀ b p, v = some (b, p) → b < s.blocks ∧ p < 32) : Wf (s.put k v) := by
  have hat : ∀ j, (s.put k v).at_ j = if j = k then v else s.at_ j := fun _ => rfl
  refine ⟨h.a0, h.a9, h.b0, h.b9, fun j b p hj => ?_, fun j hj => ?_⟩
  · rw [hat] at hj
    by_cases e : j = k
    · rw [if_pos e] at hj; exact hv b p hj
    · rw [if_neg e] at hj; exact h.pl j b p hj
  · replace hj : s.addrs ≤ j := hj
    rw [hat, if_neg (by omega)]; exact h.out j hj
@[simp] theorem put_same (s : St) (k : Nat) (v : Pl) : (s.put k v).at_ k = v := if_pos rfl
set_option maxRecDepth 100000 in
theorem put_other (s : St) (k j : Nat) (v : Pl) (h : j ≠ k) : (s.put k v).at_ j = s.at_ j := if_neg h
set_option maxRecDepth 100000 in
theorem put_put (s : St) (k : Nat) (v u : Pl) : (s.put k v).put k u = s.put k u := by
  unfold St.put
  congr 1
  funext j
  by_cases e : j = k
  · simp [e]
  · simp [e]
set_option maxRecDepth 100000 in
theorem put_id (s : St) (k : Nat) : s.put k (s.at_ k) = s := by
  unfold St.put
  obtain ⟨a, b, f⟩ := s
  congr 1
  funext j
  by_cases e : j = k
  · simp [e]
  · simp [e]
set_option maxRecDepth 100000 in
theorem cnt_put (s : St) (k : Nat) (v : Pl) (hk : k < s.addrs) (b : Nat) : (s.put k v).cnt b + (if on b (s.at_ k) then 1 else 0) = s.cnt b + if on b v then 1 else 0 := by
  have := cntTo_upd (f := fun j => on b ((s.put k v).at_ j)) (g := fun j => on b (s.at_ j)) s.addrs k hk (fun j hj => by rw [put_other _ _ _ _ hj])
  simp only [put_same] at this
  exact this
set_option maxRecDepth 100000 in
theorem cnt_le (s : St) (b : Nat) : s.cnt b ≤ s.addrs := cntTo_le _ _
set_option maxRecDepth 100000 in
theorem sumTo_eq (s : St) (n : Nat) : s.sumTo n = cntTo (fun k => match s.at_ k with | some (b, _) => decide (b < n) | none => false) s.addrs := by
  induction n with
  | zero =>
    refine (cntTo_none _ fun k _ => ?_).symm
    cases s.at_ k with
    | none => rfl
    | some v => simp
  | succ n ih =>
    show s.sumTo n + s.cnt n = _
    rw [ih]
    unfold St.cnt
    rw [← cntTo_two]
    · refine cntTo_congr _ fun k _ => ?_
      cases h : s.at_ k with
      | none => rfl
      | some v =>
        simp only [on]
        rw [Bool.eq_iff_iff]
        simp
        omega
    · intro k
      cases h : s.at_ k with
      | none => simp
      | some v => simp only [on]; simp; omega
set_option maxRecDepth 100000 in
theorem sum_len {s : St} (h : Wf s) : s.sumTo s.blocks = s.len := by
  rw [sumTo_eq]
  refine cntTo_congr _ fun k _ => ?_
  cases e : s.at_ k with
  | none => rfl
  | some v =>
    obtain ⟨b, p⟩ := v
    have := (h.pl k b p e).1
    simp [this]
set_option maxRecDepth 100000 in
theorem ons_length (s : St) (b : Nat) : (s.ons b).length = s.cnt b := cntTo_filter _ _
set_option maxRecDepth 100000 in
theorem mem_ons {s : St} {b k : Nat} : k ∈ s.ons b ↔ k < s.addrs ∧ on b (s.at_ k) = true := by simp [St.ons]
set_option maxRecDepth 100000 in
theorem on_iff {b : Nat} {v : Pl} : on b v = true ↔ ∃ p, v = some (b, p) := by
  cases v with
  | none => simp [on]
  | some v => obtain ⟨c, p⟩ := v; simp [on]
set_option maxRecDepth 100000 in
theorem Apart.new (a b : Nat) : Apart (St.new a b) := fun j k v h => by cases h
set_option maxRecDepth 100000 in
theorem Apart.drop {s : St} (h : Apart s) (k : Nat) : Apart (s.put k none) := fun i j v hi hj => by
  by_cases e1 : i = k
  · subst e1; rw [put_same] at hi; cases hi
  · by_cases e2 : j = k
    · subst e2; rw [put_same] at hj; cases hj
    · rw [put_other _ _ _ _ e1] at hi; rw [put_other _ _ _ _ e2] at hj; exact h i j v hi hj
set_option maxRecDepth 100000 in
theorem Apart.set {s : St} (h : Apart s) (k : Nat) (v : Nat × Nat) (hv : ∀ j, j ≠ k → s.at_ j ≠ some v) : Apart (s.put k (some v)) := fun i j u hi hj => by
  by_cases e1 : i = k
  · by_cases e2 : j = k
    · omega
    · subst e1
      rw [put_same] at hi
      rw [put_other _ _ _ _ e2, ← hi] at hj
      exact absurd hj (hv j e2)
  · by_cases e2 : j = k
    · subst e2
      rw [put_same] at hj
      rw [put_other _ _ _ _ e1, ← hj] at hi
      exact absurd hi (hv i e1)
    · rw [put_other _ _ _ _ e1] at hi; rw [put_other _ _ _ _ e2] at hj; exact h i j u hi hj

set_option maxRecDepth 100000 in
theorem nodup_bound : ∀ (n : Nat) (l : List Nat), l.Nodup → (∀ x ∈ l, x < n) → l.length ≤ n
  | 0, l, _, h => by
    cases l with
    | nil => exact Nat.le_refl _
    | cons x l => exact absurd (h x (by simp)) (by omega)
  | n + 1, l, hn, h => by
    by_cases hm : n ∈ l
    · have h1 := nodup_bound n (l.erase n) (hn.erase n) fun x hx => by
        have h2 := (hn.mem_erase_iff).1 hx
        have := h x h2.2
        omega
      have h3 := List.length_erase_of_mem hm
      omega
    · have h1 := nodup_bound n l hn fun x hx => by
        have := h x hx
        have : x ≠ n := fun e => hm (e ▸ hx)
        omega
      omega

set_option maxRecDepth 100000 in
/-- Where no two have one page there are at most 32 on a block. -/
theorem cnt_32 {s : St} (h : Wf s) (ha : Apart s) (b : Nat) : s.cnt b ≤ 32 := by
  rw [← ons_length]
  have hnd : (s.ons b).Nodup := List.nodup_range.filter _
  have hpg : ∀ k, k ∈ s.ons b → ∃ p, p < 32 ∧ s.at_ k = some (b, p) := fun k hk => by
    obtain ⟨p, hp⟩ := on_iff.1 (mem_ons.1 hk).2
    exact ⟨p, (h.pl k b p hp).2, hp⟩
  have hmap : ((s.ons b).map fun k => (pgOf (s.at_ k)).toNat).Nodup := by
    refine List.pairwise_map.2 (hnd.imp_of_mem fun {x y} hx hy hne e => hne ?_)
    obtain ⟨p, _, hp⟩ := hpg x hx
    obtain ⟨q, _, hq⟩ := hpg y hy
    rw [hp, hq] at e
    simp only [pgOf, Int.toNat_natCast] at e
    subst e
    exact ha x y _ hp hq
  have := nodup_bound 32 _ hmap fun x hx => by
    obtain ⟨k, hk, rfl⟩ := List.mem_map.1 hx
    obtain ⟨p, hp, e⟩ := hpg k hk
    rw [e]
    simpa [pgOf] using hp
  simpa using this
end Drawbar.Pm
namespace Drawbar
open Go Go.RowKit
/-- What lies outside of F stands. -/
structure Only (F : Nat → Prop) (w w' : World) : Prop where
  os : w'.os = w.os
  tape : w'.tape = w.tape
  output : w'.output = w.output
  size : w.heap.size ≤ w'.heap.size
  block : ∀ k, k < w.heap.size → ¬ F k → w'.heap[k]? = w.heap[k]?
set_option maxRecDepth 100000 in
theorem Only.refl (F : Nat → Prop) (w : World) : Only F w w := ⟨rfl, rfl, rfl, Nat.le_refl _, fun _ _ _ => rfl⟩
set_option maxRecDepth 100000 in
theorem Only.trans {F : Nat → Prop} {w w1 w2 : World} (h : Only F w w1) (h2 : Only F w1 w2) : Only F w w2 :=
  ⟨h2.os.trans h.os, h2.tape.trans h.tape, h2.output.trans h.output, Nat.le_trans h.size h2.size, fun k hk hF => (h2.block k (Nat.lt_of_lt_of_le hk h.size) hF).trans (h.block k hk hF)⟩
set_option maxRecDepth 100000 in
theorem Only.below {F : Nat → Prop} {w w1 : World} (h : Below w.heap.size w w1) : Only F w w1 := ⟨h.os, h.tape, h.output, h.size, fun k hk _ => h.block k hk⟩
set_option maxRecDepth 100000 in
theorem Only.setCell {F : Nat → Prop} {w w1 : World} (h : Only F w w1) {g o : Nat} (hF : F g) (x : Value) : Only F w (w1.setCell ⟨g, o, none⟩ x) :=
  ⟨h.os, h.tape, h.output, by simpa [World.setCell] using h.size, fun k hk hn => (Below.heap_setCell w1 ⟨g, o, none⟩ x k (fun e => hn (by subst e; exact hF))).trans (h.block k hk hn)⟩
set_option maxRecDepth 100000 in
/-- A store into a block that is new. -/
theorem Only.setNew {F : Nat → Prop} {w w1 : World} (h : Only F w w1) {g o : Nat} (hg : w.heap.size ≤ g) (x : Value) : Only F w (w1.setCell ⟨g, o, none⟩ x) :=
  ⟨h.os, h.tape, h.output, by simpa [World.setCell] using h.size, fun k hk hn => (Below.heap_setCell w1 ⟨g, o, none⟩ x k (fun e => by subst e; exact absurd hk (Nat.not_lt.2 hg))).trans (h.block k hk hn)⟩
set_option maxRecDepth 100000 in
theorem Only.drew {F : Nat → Prop} {w w1 : World} (h : Only F w w1) : Only F w w1.drew := ⟨h.os, h.tape, h.output, h.size, h.block⟩
set_option maxRecDepth 100000 in
theorem Only.alloc {F : Nat → Prop} {w w1 : World} (h : Only F w w1) (o : Obj) : Only F w (w1.alloc o) :=
  ⟨h.os, h.tape, h.output, by have := h.size; simp; omega, fun k hk hn => (Below.heap_alloc w1 o k (Nat.lt_of_lt_of_le hk h.size)).trans (h.block k hk hn)⟩
set_option maxRecDepth 100000 in
theorem Only.toBelow {F : Nat → Prop} {B : Nat} {w w1 : World} (h : Only F w w1) (hF : ∀ k, F k → B ≤ k) (hB : B ≤ w.heap.size) : Below B w w1 :=
  ⟨h.os, h.tape, h.output, h.size, fun k hk => h.block k (Nat.lt_of_lt_of_le hk hB) (fun hf => by have := hF k hf; omega)⟩
set_option maxRecDepth 100000 in
theorem Only.mono {F G : Nat → Prop} {w w1 : World} (h : Only F w w1) (hF : ∀ k, F k → G k) : Only G w w1 := ⟨h.os, h.tape, h.output, h.size, fun k hk hn => h.block k hk fun hf => hn (hF k hf)⟩
set_option maxRecDepth 100000 in
theorem Below.drewB {B : Nat} {w w1 : World} (h : Below B w w1) : Below B w w1.drew := ⟨h.os, h.tape, h.output, h.size, h.block⟩
end Drawbar
namespace Go.Proofs.YtkapnpcolmhdbaaDoor.Pm
open Go.RowKit
open Drawbar Drawbar.Pm

def Two (p c : Nat) : Nat → Prop := fun d => d = p ∨ d = c

/-- Where all is, and how many there are on each block, in memory. -/
structure Raw (w : World) (pb cb n m : Nat) (pl : Nat → Int × Int) (ct : Nat → Int) : Prop where
  pl : ∀ k, k < n → w.cell? ⟨pb, k * 2, none⟩ = some (.int .i64 (pl k).1) ∧ w.cell? ⟨pb, k * 2 + 1, none⟩ = some (.int .i64 (pl k).2)
  pf : ∀ o, w.frozen? ⟨pb, o, none⟩ = false
  ct : ∀ b, b < m → w.cell? ⟨cb, b, none⟩ = some (.int .i64 (ct b))
  cf : ∀ o, w.frozen? ⟨cb, o, none⟩ = false
  ne : pb ≠ cb
set_option maxRecDepth 100000 in
theorem Raw.keep {w w' : World} {pb cb n m : Nat} {pl : Nat → Int × Int} {ct : Nat → Int} (h : Raw w pb cb n m pl ct) (h1 : w'.heap[pb]? = w.heap[pb]?) (h2 : w'.heap[cb]? = w.heap[cb]?) : Raw w' pb cb n m pl ct :=
  ⟨fun k hk => ⟨(World.cell?_of_block (a := ⟨pb, k * 2, none⟩) h1).trans (h.pl k hk).1, (World.cell?_of_block (a := ⟨pb, k * 2 + 1, none⟩) h1).trans (h.pl k hk).2⟩,
    fun o => (World.frozen?_of_block (a := ⟨pb, o, none⟩) h1).trans (h.pf o), fun b hb => (World.cell?_of_block (a := ⟨cb, b, none⟩) h2).trans (h.ct b hb), fun o => (World.frozen?_of_block (a := ⟨cb, o, none⟩) h2).trans (h.cf o), h.ne⟩
set_option maxRecDepth 100000 in
theorem off_ne {b o p : Nat} (h : o ≠ p) : (⟨b, o, none⟩ : Addr) ≠ ⟨b, p, none⟩ := fun e => h (by have := congrArg Addr.off e; exact this)
set_option maxRecDepth 100000 in
theorem blk_ne {b c o p : Nat} (h : b ≠ c) : (⟨b, o, none⟩ : Addr) ≠ ⟨c, p, none⟩ := fun e => h (by have := congrArg Addr.block e; exact this)
set_option maxRecDepth 100000 in
theorem Raw.setCt {w : World} {pb cb n m : Nat} {pl : Nat → Int × Int} {ct : Nat → Int} (h : Raw w pb cb n m pl ct) (b : Nat) (hb : b < m) (x : Int) : Raw (w.setCell ⟨cb, b, none⟩ (.int .i64 x)) pb cb n m pl (fun c => if c = b then x else ct c) := by
  have hoth : (w.setCell ⟨cb, b, none⟩ (.int .i64 x)).heap[pb]? = w.heap[pb]? := Below.heap_setCell _ _ _ _ h.ne
  refine ⟨fun k hk => ⟨(World.cell?_of_block (a := ⟨pb, k * 2, none⟩) hoth).trans (h.pl k hk).1, (World.cell?_of_block (a := ⟨pb, k * 2 + 1, none⟩) hoth).trans (h.pl k hk).2⟩, fun o => (World.frozen?_of_block (a := ⟨pb, o, none⟩) hoth).trans (h.pf o), fun c hc => ?_, fun o => by rw [World.frozen?_setCell]; exact h.cf o, h.ne⟩
  by_cases e : c = b
  · subst e; rw [World.cell?_setCell_same _ _ _ (h.ct c hc), if_pos rfl]
  · rw [World.cell?_setCell_other _ _ _ _ (off_ne (Ne.symm e)), if_neg e]; exact h.ct c hc
set_option maxRecDepth 100000 in
theorem Raw.setPl {w : World} {pb cb n m : Nat} {pl : Nat → Int × Int} {ct : Nat → Int} (h : Raw w pb cb n m pl ct) (k : Nat) (hk : k < n) (x y : Int) :
    Raw ((w.setCell ⟨pb, k * 2, none⟩ (.int .i64 x)).setCell ⟨pb, k * 2 + 1, none⟩ (.int .i64 y)) pb cb n m (fun j => if j = k then (x, y) else pl j) ct := by
  have hoth : ((w.setCell ⟨pb, k * 2, none⟩ (.int .i64 x)).setCell ⟨pb, k * 2 + 1, none⟩ (.int .i64 y)).heap[cb]? = w.heap[cb]? := (Below.heap_setCell _ _ _ _ h.ne.symm).trans (Below.heap_setCell _ _ _ _ h.ne.symm)
  refine ⟨fun j hj => ?_, fun o => by rw [World.frozen?_setCell, World.frozen?_setCell]; exact h.pf o, fun c hc => (World.cell?_of_block (a := ⟨cb, c, none⟩) hoth).trans (h.ct c hc), fun o => (World.frozen?_of_block (a := ⟨cb, o, none⟩) hoth).trans (h.cf o), h.ne⟩
  by_cases e : j = k
  · subst e
    rw [World.cell?_setCell_other _ _ _ _ (off_ne (by omega)), World.cell?_setCell_same _ _ _ (h.pl j hj).1, World.cell?_setCell_same _ _ _ ((World.cell?_setCell_other _ _ _ _ (off_ne (by omega))).trans (h.pl j hj).2), if_pos rfl]
    exact ⟨rfl, rfl⟩
  · rw [World.cell?_setCell_other _ _ _ _ (off_ne (by omega)), World.cell?_setCell_other _ _ _ _ (off_ne (by omega)), World.cell?_setCell_other _ _ _ _ (off_ne (by omega)), World.cell?_setCell_other _ _ _ _ (off_ne (by omega)), if_neg e]
    exact h.pl j hj
set_option maxRecDepth 100000 in
theorem Raw.drew {w : World} {pb cb n m : Nat} {pl : Nat → Int × Int} {ct : Nat → Int} (h : Raw w pb cb n m pl ct) : Raw w.drew pb cb n m pl ct := h.keep rfl rfl

/-- A map of pages in memory: its own block g, where all is pb, how many there are on each block cb. -/
structure MapAt (w : World) (g pb cb : Nat) (s : St) : Prop where
  wf : Wf s
  c0 : w.cell? ⟨g, 0, none⟩ = some (.slice (some ⟨pb, 0, none⟩) s.addrs s.addrs)
  c1 : w.cell? ⟨g, 1, none⟩ = some (.slice (some ⟨cb, 0, none⟩) s.blocks s.blocks)
  raw : Raw w pb cb s.addrs s.blocks (fun k => (blkOf (s.at_ k), pgOf (s.at_ k))) (fun b => s.cnt b)
  gp : g ≠ pb
  gc : g ≠ cb
section
variable {w : World} {g pb cb : Nat} {s : St}
set_option maxRecDepth 100000 in
theorem MapAt.gl (h : MapAt w g pb cb s) : g < w.heap.size := World.block_lt_of_cell? w _ h.c0
set_option maxRecDepth 100000 in
theorem MapAt.pbl (h : MapAt w g pb cb s) : pb < w.heap.size := World.block_lt_of_cell? w _ (h.raw.pl 0 h.wf.a0).1
set_option maxRecDepth 100000 in
theorem MapAt.cbl (h : MapAt w g pb cb s) : cb < w.heap.size := World.block_lt_of_cell? w _ (h.raw.ct 0 h.wf.b0)
set_option maxRecDepth 100000 in
theorem MapAt.keep (h : MapAt w g pb cb s) {w' : World} (hk : ∀ d, d = g ∨ d = pb ∨ d = cb → w'.heap[d]? = w.heap[d]?) : MapAt w' g pb cb s :=
  ⟨h.wf, (World.cell?_of_block (a := ⟨g, 0, none⟩) (hk g (.inl rfl))).trans h.c0, (World.cell?_of_block (a := ⟨g, 1, none⟩) (hk g (.inl rfl))).trans h.c1, h.raw.keep (hk pb (.inr (.inl rfl))) (hk cb (.inr (.inr rfl))), h.gp, h.gc⟩
set_option maxRecDepth 100000 in
theorem MapAt.below (h : MapAt w g pb cb s) {w' : World} (hb : Below w.heap.size w w') : MapAt w' g pb cb s := h.keep fun d hd => hb.block d (by
  have := h.gl; have := h.pbl; have := h.cbl
  rcases hd with rfl | rfl | rfl <;> assumption)
set_option maxRecDepth 100000 in
theorem MapAt.alloc (h : MapAt w g pb cb s) (o : Obj) : MapAt (w.alloc o) g pb cb s := h.below ((Below.refl _ _).alloc (Nat.le_refl _) _)
set_option maxRecDepth 100000 in
/-- Blocks that are none of the map's may turn. -/
theorem MapAt.only (h : MapAt w g pb cb s) {w' : World} {F : Nat → Prop} (hb : Only F w w') (h1 : ¬ F g) (h2 : ¬ F pb) (h3 : ¬ F cb) : MapAt w' g pb cb s := h.keep fun d hd => hb.block d (by
  have := h.gl; have := h.pbl; have := h.cbl
  rcases hd with rfl | rfl | rfl <;> assumption) (by rcases hd with rfl | rfl | rfl <;> assumption)
end

set_option maxRecDepth 100000 in
theorem within_yes (n a b : Int) (w : World) (h : a ≤ n) (h2 : n ≤ b) :
    Calls Tryd.prog 74 #[.int .i64 n, .int .i64 a, .int .i64 b] w fun e w' => e = .returned (.bool true) ∧ w = w' := by
  go_enter Tryd.func74, Tryd.ntmps74
  go_wp2
  go_ret
  exact ⟨rfl, rfl⟩
set_option maxRecDepth 100000 in
theorem within_no (n a b : Int) (w : World) (h : n < a ∨ b < n) :
    Calls Tryd.prog 74 #[.int .i64 n, .int .i64 a, .int .i64 b] w fun e w' => e = .returned (.bool false) ∧ w = w' := by
  by_cases h1 : a ≤ n
  · have h2 : b < n := by omega
    have h3 : false = decide (n ≤ b) := (decide_eq_false (by omega)).symm
    rw [h3]
    clear h3
    go_enter Tryd.func74, Tryd.ntmps74
    go_wp2
    go_ret
    exact ⟨rfl, rfl⟩
  · go_enter Tryd.func74, Tryd.ntmps74
    go_wp2
    go_ret
    exact ⟨rfl, rfl⟩

def inR (i : Int) (n : Nat) : Prop := 0 ≤ i ∧ i < n
section
variable {w : World} {g pb cb : Nat} {s : St} (h : MapAt w g pb cb s)
include h
set_option maxRecDepth 100000 in
theorem hasAddr_yes (k : Nat) (hk : k < s.addrs) : Calls Tryd.prog 41 #[.pointer (some ⟨g, 0, none⟩), .int .i64 k] w fun e w' => e = .returned (.bool true) ∧ w = w' := by
  have c0 := h.c0
  have a9 := h.wf.a9
  generalize s.addrs = n at *
  clear h
  go_enter Tryd.func41, Tryd.ntmps41
  go_wp2_with (go_at_call 74; refine (within_yes _ _ _ _ (by omega) (by omega)).mono ?_; rintro e w' ⟨rfl, rfl⟩)
  go_ret
  exact ⟨rfl, rfl⟩
set_option maxRecDepth 100000 in
theorem hasAddr_no (i : Int) (hi : ¬ inR i s.addrs) : Calls Tryd.prog 41 #[.pointer (some ⟨g, 0, none⟩), .int .i64 i] w fun e w' => e = .returned (.bool false) ∧ w = w' := by
  have c0 := h.c0
  have a9 := h.wf.a9
  have hi2 : i < 0 ∨ (s.addrs : Int) - 1 < i := by unfold inR at hi; omega
  generalize s.addrs = n at *
  have HI := Lib.hid hi2
  clear h hi hi2
  go_enter Tryd.func41, Tryd.ntmps41
  go_wp2_with (go_at_call 74; refine (within_no _ _ _ _ HI.out).mono ?_; rintro e w' ⟨rfl, rfl⟩)
  go_ret
  exact ⟨rfl, rfl⟩
set_option maxRecDepth 100000 in
theorem hasBlock_yes (k : Nat) (hk : k < s.blocks) : Calls Tryd.prog 83 #[.pointer (some ⟨g, 0, none⟩), .int .i64 k] w fun e w' => e = .returned (.bool true) ∧ w = w' := by
  have c0 := h.c1
  have a9 := h.wf.b9
  generalize s.blocks = n at *
  clear h
  go_enter Tryd.func83, Tryd.ntmps83
  go_wp2_with (go_at_call 74; refine (within_yes _ _ _ _ (by omega) (by omega)).mono ?_; rintro e w' ⟨rfl, rfl⟩)
  go_ret
  exact ⟨rfl, rfl⟩
set_option maxRecDepth 100000 in
theorem hasBlock_no (i : Int) (hi : ¬ inR i s.blocks) : Calls Tryd.prog 83 #[.pointer (some ⟨g, 0, none⟩), .int .i64 i] w fun e w' => e = .returned (.bool false) ∧ w = w' := by
  have c0 := h.c1
  have a9 := h.wf.b9
  have hi2 : i < 0 ∨ (s.blocks : Int) - 1 < i := by unfold inR at hi; omega
  generalize s.blocks = n at *
  have HI := Lib.hid hi2
  clear h hi hi2
  go_enter Tryd.func83, Tryd.ntmps83
  go_wp2_with (go_at_call 74; refine (within_no _ _ _ _ HI.out).mono ?_; rintro e w' ⟨rfl, rfl⟩)
  go_ret
  exact ⟨rfl, rfl⟩

end
set_option maxRecDepth 100000 in
theorem len_nil (w : World) : Calls Tryd.prog 13 #[.pointer none] w fun e w' => e = .returned (.int .i64 0) ∧ w = w' := by
  go_enter Tryd.func13, Tryd.ntmps13
  go_wp2
  go_ret
  exact ⟨rfl, rfl⟩
set_option maxRecDepth 100000 in
theorem set_nil (i b p : Int) (w : World) : Calls Tryd.prog 73 #[.pointer none, .int .i64 i, .agg #[.int .i64 b, .int .i64 p]] w fun e w' => e = .returned (.int .i64 5) ∧ Below w.heap.size w w' := by
  go_enter Tryd.func73, Tryd.ntmps73
  go_wp2
  go_ret
  exact ⟨rfl, (Below.refl _ _).alloc (Nat.le_refl _) _⟩
set_option maxRecDepth 100000 in
theorem get_nil (i : Int) (w : World) : Calls Tryd.prog 14 #[.pointer none, .int .i64 i] w fun e w' => e = .returned (.tuple #[.agg #[.int .i64 0, .int .i64 0], .bool false]) ∧ Below w.heap.size w w' := by
  go_enter Tryd.func14, Tryd.ntmps14
  go_wp2
  exact bodyPost_ret (v := .tuple #[.agg #[.int .i64 0, .int .i64 0], .bool false]) (by simp [results, Tryd.results14, go_sem]) rfl ⟨rfl, (Below.refl _ _).alloc (Nat.le_refl _) _⟩
end Go.Proofs.YtkapnpcolmhdbaaDoor.Pm
namespace Go.Proofs.YtkapnpcolmhdbaaDoor.Pm
open Go.RowKit
open Drawbar Drawbar.Pm

/-- As Get tells where an address is. -/
def told (v : Pl) : Value := .tuple #[.agg #[.int .i64 (tellB v), .int .i64 (pgOf v)], .bool v.isSome]
section
variable {w : World} {g pb cb : Nat} {s : St} (h : MapAt w g pb cb s)
include h
set_option maxRecDepth 100000 in
theorem get_out (i : Int) (hi : ¬ inR i s.addrs) : Calls Tryd.prog 14 #[.pointer (some ⟨g, 0, none⟩), .int .i64 i] w fun e w' => e = .returned (told none) ∧ Below w.heap.size w w' := by
  have HB := Lib.hid (hasAddr_no (h.alloc (.cells #[.int .i64 0, .int .i64 0] 39)) i hi)
  have HB2 := Lib.hid (hasAddr_no (h.alloc (.cells #[.int .i64 0, .int .i64 0] 40)) i hi)
  clear h hi
  unfold told
  go_enter Tryd.func14, Tryd.ntmps14
  go_wp2_with (go_at_call 41; (with_reducible first | refine HB.out.mono ?_ | refine HB2.out.mono ?_); rintro e w' ⟨rfl, rfl⟩)
  exact bodyPost_ret (v := .tuple #[.agg #[.int .i64 0, .int .i64 0], .bool false]) (by simp [results, Tryd.results14, go_sem]) rfl ⟨rfl, (Below.refl _ _).alloc (Nat.le_refl _) _⟩
set_option maxRecDepth 100000 in
theorem get_in (k : Nat) (hk : k < s.addrs) : Calls Tryd.prog 14 #[.pointer (some ⟨g, 0, none⟩), .int .i64 k] w fun e w' => e = .returned (told (s.at_ k)) ∧ Below w.heap.size w w' := by
  have HB2 := Lib.hid (hasAddr_yes (h.alloc (.cells #[.int .i64 0, .int .i64 0] 40)) k hk)
  have c0 := h.c0
  have a9 := h.wf.a9
  obtain ⟨p0, p1⟩ := h.raw.pl k hk
  have hg := h.gl
  have hpb := h.pbl
  have hwf := h.wf.pl k
  cases hv : s.at_ k with
  | none =>
    rw [hv] at p0 p1
    simp only [blkOf, pgOf] at p0 p1
    generalize s.addrs = n at *
    clear h hwf hv
    unfold told
    go_enter Tryd.func14, Tryd.ntmps14
    go_wp2_with (go_at_call 41; (with_reducible refine HB2.out.mono ?_); rintro e w' ⟨rfl, rfl⟩)
    exact bodyPost_ret (v := .tuple #[.agg #[.int .i64 0, .int .i64 0], .bool false]) (by simp [results, Tryd.results14, go_sem]) rfl ⟨rfl, (Below.refl _ _).alloc (Nat.le_refl _) _⟩
  | some v =>
    obtain ⟨b, p⟩ := v
    rw [hv] at p0 p1
    simp only [blkOf, pgOf] at p0 p1
    have hne : ((b : Int) == -1) = false := by simp
    generalize s.addrs = n at *
    have HW := Lib.hid hwf
    clear h hwf hv
    unfold told
    go_enter Tryd.func14, Tryd.ntmps14
    go_wp2_with (go_at_call 41; (with_reducible refine HB2.out.mono ?_); rintro e w' ⟨rfl, rfl⟩)
    exact bodyPost_ret (v := .tuple #[.agg #[.int .i64 b, .int .i64 p], .bool true]) (by simp [results, Tryd.results14, go_sem]) rfl ⟨rfl, (Below.refl _ _).alloc (Nat.le_refl _) _⟩
set_option maxRecDepth 100000 in
theorem len_any : Calls Tryd.prog 13 #[.pointer (some ⟨g, 0, none⟩)] w fun e w' => e = .returned (.int .i64 s.len) ∧ w = w' := by
  have c1 := h.c1
  have b9 := h.wf.b9
  have CT := Lib.hid h.raw.ct
  rw [← sum_len h.wf]
  have hle : ∀ n, s.sumTo n ≤ s.addrs := fun n => by rw [sumTo_eq]; exact cntTo_le _ _
  have HLE := Lib.hid hle
  have a9 := h.wf.a9
  clear h hle
  go_enter Tryd.func13, Tryd.ntmps13
  go_wp2
  go_loop [3, 13] (fun v i => ∃ n : Nat, n ≤ s.blocks ∧ i = .int .i64 n ∧ v = .int .i64 (s.sumTo n)) (fun _ i => s.blocks - (intOf i).toNat)
  case atStart => exact ⟨0, Nat.zero_le _, rfl, rfl⟩
  case round =>
    obtain ⟨n, hn, rfl, rfl⟩ := hrel
    by_cases hlt : n < s.blocks
    · have ct := CT.out n hlt
      have h1 := HLE.out n
      have h2 := HLE.out (n + 1)
      have h3 : s.sumTo (n + 1) = s.sumTo n + s.cnt n := rfl
      rw [h3] at h2
      have H3 := Lib.hid h3
      have i1 : (n : Int) < (s.blocks : Int) := by omega
      generalize s.sumTo n = x at *
      generalize s.cnt n = y at *
      clear h3
      go_wp2
      go_round
      case rel => exact ⟨n + 1, by omega, by go_num, by rw [H3.out]; go_num⟩
      case measure => simp [intOf]; omega
    · obtain rfl : n = s.blocks := by omega
      have i1 : ¬ (s.blocks : Int) < (s.blocks : Int) := by omega
      go_wp2
      go_ret
      exact ⟨rfl, rfl⟩
end
end Go.Proofs.YtkapnpcolmhdbaaDoor.Pm
namespace Go.Proofs.YtkapnpcolmhdbaaDoor.Pm
open Go.RowKit
open Drawbar Drawbar.Pm

/-- The map has become s'; nothing else that was there has turned. -/
def Become (w : World) (g pb cb : Nat) (s' : St) (w' : World) : Prop := MapAt w' g pb cb s' ∧ Only (Two pb cb) w w'

set_option maxRecDepth 100000 in
theorem bcell {W w1 : World} (hb : Below W.heap.size W w1) : (∀ b o, b < W.heap.size → w1.cell? ⟨b, o, none⟩ = W.cell? ⟨b, o, none⟩) ∧ (∀ b o, b < W.heap.size → w1.frozen? ⟨b, o, none⟩ = W.frozen? ⟨b, o, none⟩) :=
  ⟨fun b o h => hb.cell (p := ⟨b, o, none⟩) h, fun b o h => hb.frozen (p := ⟨b, o, none⟩) h⟩

set_option maxRecDepth 100000 in
theorem MapAt.ofRaw {w : World} {g pb cb : Nat} {s : St} (h : MapAt w g pb cb s) {w' : World} {s' : St} (hn : s'.addrs = s.addrs) (hm : s'.blocks = s.blocks) (hwf : Wf s') (hg : w'.heap[g]? = w.heap[g]?) {pl : Nat → Int × Int} {ct : Nat → Int} (hr : Raw w' pb cb s.addrs s.blocks pl ct)
    (hp : ∀ k, k < s.addrs → pl k = (blkOf (s'.at_ k), pgOf (s'.at_ k))) (hc : ∀ b, b < s.blocks → ct b = s'.cnt b) : MapAt w' g pb cb s' :=
  ⟨hwf, by rw [hn]; exact (World.cell?_of_block (a := ⟨g, 0, none⟩) hg).trans h.c0, by rw [hm]; exact (World.cell?_of_block (a := ⟨g, 1, none⟩) hg).trans h.c1,
    ⟨fun k hk => by rw [hn] at hk; rw [← hp k hk]; exact hr.pl k hk, hr.pf, fun b hb => by rw [hm] at hb; rw [← hc b hb]; exact hr.ct b hb, hr.cf, hr.ne⟩, h.gp, h.gc⟩
set_option maxRecDepth 100000 in
theorem Become.alloc {w : World} {g pb cb : Nat} {s : St} {w' : World} (h : Become w g pb cb s w') (o : Obj) : Become w g pb cb s (w'.alloc o) := ⟨h.1.alloc o, h.2.alloc o⟩
set_option maxRecDepth 100000 in
theorem Become.drew {w : World} {g pb cb : Nat} {s : St} {w' : World} (h : Become w g pb cb s w') : Become w g pb cb s w'.drew := ⟨h.1.keep fun _ _ => rfl, h.2.drew⟩
set_option maxRecDepth 100000 in
theorem Become.of {w w1 : World} {g pb cb : Nat} {s : St} {w' : World} (h : Become w1 g pb cb s w') (hb : Below w.heap.size w w1) : Become w g pb cb s w' := ⟨h.1, (Only.below hb).trans h.2⟩
set_option maxRecDepth 100000 in
theorem Only.ofBelow {F : Nat → Prop} {w w1 w2 : World} (h : Below w.heap.size w w1) (h2 : Only F w1 w2) : Only F w w2 := (Only.below h).trans h2

section
variable {w : World} {g pb cb : Nat} {s : St}
set_option maxRecDepth 100000 in
/-- An address that had no page has none. -/
theorem MapAt.unput (h : MapAt w g pb cb s) (k : Nat) (hk : k < s.addrs) (hv : s.at_ k = none) : Become w g pb cb (s.put k none) ((w.setCell ⟨pb, k * 2, none⟩ (.int .i64 (-1))).setCell ⟨pb, k * 2 + 1, none⟩ (.int .i64 0)) := by
  have e : s.put k none = s := by rw [← hv]; exact put_id s k
  refine ⟨?_, ((Only.refl _ _).setCell (.inl rfl) _).setCell (.inl rfl) _⟩
  rw [e]
  refine h.ofRaw rfl rfl h.wf ((Below.heap_setCell _ _ _ _ h.gp).trans (Below.heap_setCell _ _ _ _ h.gp)) (h.raw.setPl k hk (-1) 0) (fun j _ => ?_) (fun b _ => rfl)
  by_cases e2 : j = k
  · subst e2; rw [if_pos rfl, hv]; rfl
  · rw [if_neg e2]
set_option maxRecDepth 100000 in
/-- An address's page is there no longer. -/
theorem MapAt.undo (h : MapAt w g pb cb s) (k : Nat) (hk : k < s.addrs) (b p : Nat) (hv : s.at_ k = some (b, p)) :
    Become w g pb cb (s.put k none) (((w.setCell ⟨cb, b, none⟩ (.int .i64 ((s.cnt b : Int) - 1))).setCell ⟨pb, k * 2, none⟩ (.int .i64 (-1))).setCell ⟨pb, k * 2 + 1, none⟩ (.int .i64 0)) := by
  refine ⟨?_, (((Only.refl _ _).setCell (.inr rfl) _).setCell (.inl rfl) _).setCell (.inl rfl) _⟩
  refine h.ofRaw rfl rfl (h.wf.put k hk none fun _ _ h => by cases h) ((Below.heap_setCell _ _ _ _ h.gp).trans ((Below.heap_setCell _ _ _ _ h.gp).trans (Below.heap_setCell _ _ _ _ h.gc))) ((h.raw.setCt b (h.wf.pl k b p hv).1 ((s.cnt b : Int) - 1)).setPl k hk (-1) 0) (fun j _ => ?_) (fun c hc => ?_)
  · by_cases e2 : j = k
    · subst e2; rw [if_pos rfl, put_same]; rfl
    · rw [if_neg e2, put_other _ _ _ _ e2]
  · have := cnt_put s k none hk c
    rw [hv] at this
    by_cases e2 : c = b
    · subst e2
      rw [if_pos rfl]
      simp [on] at this
      omega
    · rw [if_neg e2]
      simp [on, Ne.symm e2] at this
      omega
variable (h : MapAt w g pb cb s)
include h
set_option maxRecDepth 100000 in
set_option maxHeartbeats 2000000 in
theorem leave_any (k : Nat) (hk : k < s.addrs) : Calls Tryd.prog 84 #[.pointer (some ⟨g, 0, none⟩), .int .i64 k] w fun e w' => e = .returned (.tuple #[]) ∧ Become w g pb cb (s.put k none) w' := by
  have HG := Lib.hid (get_in h k hk)
  cases hv : s.at_ k with
  | none =>
    rw [hv, show told none = .tuple #[.agg #[.int .i64 0, .int .i64 0], .bool false] from rfl] at HG
    go_enter Tryd.func84, Tryd.ntmps84
    go_wp2_with fail
    (with_reducible refine HG.out.mono ?_)
    rintro e w1 ⟨rfl, hb1⟩
    have h1 := h.below hb1
    have HF := Lib.hid (((h1.unput k hk hv).of hb1).alloc (.cells #[.int .i64 0, .int .i64 0] 40))
    have c0 := h1.c0
    have pf := h1.raw.pf
    have hg := h1.gl
    have hp := h1.pbl
    have a9 := h1.wf.a9
    obtain ⟨p0, p1⟩ := h1.raw.pl k hk
    generalize s.addrs = n at *
    clear h1 h HG hb1 hv
    go_wp2
    go_end0
    exact ⟨rfl, HF.out⟩
  | some v =>
    obtain ⟨b, p⟩ := v
    rw [hv, show told (some (b, p)) = .tuple #[.agg #[.int .i64 b, .int .i64 p], .bool true] from rfl] at HG
    have hb := (h.wf.pl k b p hv).1
    go_enter Tryd.func84, Tryd.ntmps84
    go_wp2_with fail
    (with_reducible refine HG.out.mono ?_)
    rintro e w1 ⟨rfl, hb1⟩
    have h1 := h.below hb1
    have HF := Lib.hid (((h1.undo k hk b p hv).of hb1).alloc (.cells #[.int .i64 b, .int .i64 p] 40)).drew
    have c0 := h1.c0
    have c1 := h1.c1
    have pf := h1.raw.pf
    have cf := h1.raw.cf
    have ct := h1.raw.ct b hb
    have hg := h1.gl
    have hp := h1.pbl
    have hc := h1.cbl
    have a9 := h1.wf.a9
    have b9 := h1.wf.b9
    have hpc := h1.raw.ne
    have hgp := h1.gp
    have hgc := h1.gc
    have hx := cnt_le s b
    obtain ⟨p0, p1⟩ := h1.raw.pl k hk
    generalize s.addrs = n at *
    generalize s.blocks = m at *
    generalize s.cnt b = x at *
    clear h1 h HG hb1 hv
    go_wp2_with fail
    go_big_region
    go_wp2
    go_end0
    exact ⟨rfl, HF.out⟩
end
end Go.Proofs.YtkapnpcolmhdbaaDoor.Pm
namespace Go.Proofs.YtkapnpcolmhdbaaDoor.Pm
open Go.RowKit
open Drawbar Drawbar.Pm

section
variable {w : World} {g pb cb : Nat} {s : St}
set_option maxRecDepth 100000 in
/-- An address that had no page has this one. -/
theorem MapAt.redo (h : MapAt w g pb cb s) (k : Nat) (hk : k < s.addrs) (b p : Nat) (hb : b < s.blocks) (hp : p < 32) (hv : s.at_ k = none) :
    Become w g pb cb (s.put k (some (b, p))) (((w.setCell ⟨pb, k * 2, none⟩ (.int .i64 b)).setCell ⟨pb, k * 2 + 1, none⟩ (.int .i64 p)).setCell ⟨cb, b, none⟩ (.int .i64 ((s.cnt b : Int) + 1))) := by
  refine ⟨?_, (((Only.refl _ _).setCell (.inl rfl) _).setCell (.inl rfl) _).setCell (.inr rfl) _⟩
  refine h.ofRaw rfl rfl (h.wf.put k hk _ fun _ _ h => by cases h; exact ⟨hb, hp⟩) ((Below.heap_setCell _ _ _ _ h.gc).trans ((Below.heap_setCell _ _ _ _ h.gp).trans (Below.heap_setCell _ _ _ _ h.gp))) ((h.raw.setPl k hk b p).setCt b hb ((s.cnt b : Int) + 1)) (fun j _ => ?_) (fun c hc => ?_)
  · by_cases e2 : j = k
    · subst e2; rw [if_pos rfl, put_same]; rfl
    · rw [if_neg e2, put_other _ _ _ _ e2]
  · have := cnt_put s k (some (b, p)) hk c
    rw [hv] at this
    by_cases e2 : c = b
    · subst e2
      rw [if_pos rfl]
      simp [on] at this
      omega
    · rw [if_neg e2]
      simp [on, Ne.symm e2] at this
      omega
variable (h : MapAt w g pb cb s)
include h
set_option maxRecDepth 100000 in
theorem set_noAddr (i b p : Int) (hi : ¬ inR i s.addrs) : Calls Tryd.prog 73 #[.pointer (some ⟨g, 0, none⟩), .int .i64 i, .agg #[.int .i64 b, .int .i64 p]] w fun e w' => e = .returned (.int .i64 1) ∧ Below w.heap.size w w' := by
  have HA := Lib.hid (hasAddr_no (h.alloc (.cells #[.int .i64 b, .int .i64 p] 40)) i hi)
  clear h hi
  go_enter Tryd.func73, Tryd.ntmps73
  go_wp2_with (first
    | (go_at_call 41; (with_reducible refine HA.out.mono ?_); rintro e w' ⟨rfl, rfl⟩))
  go_ret
  exact ⟨rfl, (Below.refl _ _).alloc (Nat.le_refl _) _⟩
set_option maxRecDepth 100000 in
theorem set_noBlock (k : Nat) (b p : Int) (hk : k < s.addrs) (hb : ¬ inR b s.blocks) : Calls Tryd.prog 73 #[.pointer (some ⟨g, 0, none⟩), .int .i64 k, .agg #[.int .i64 b, .int .i64 p]] w fun e w' => e = .returned (.int .i64 1) ∧ Below w.heap.size w w' := by
  have HA := Lib.hid (hasAddr_yes (h.alloc (.cells #[.int .i64 b, .int .i64 p] 40)) k hk)
  have HB := Lib.hid (hasBlock_no (h.alloc (.cells #[.int .i64 b, .int .i64 p] 40)) b hb)
  clear h hb
  go_enter Tryd.func73, Tryd.ntmps73
  go_wp2_with (first
    | (go_at_call 41; (with_reducible refine HA.out.mono ?_); rintro e w' ⟨rfl, rfl⟩)
    | (go_at_call 83; (with_reducible refine HB.out.mono ?_); rintro e w' ⟨rfl, rfl⟩))
  go_ret
  exact ⟨rfl, (Below.refl _ _).alloc (Nat.le_refl _) _⟩
set_option maxRecDepth 100000 in
theorem set_noPage (k b : Nat) (p : Int) (hk : k < s.addrs) (hb : b < s.blocks) (hp : ¬ inR p 32) : Calls Tryd.prog 73 #[.pointer (some ⟨g, 0, none⟩), .int .i64 k, .agg #[.int .i64 b, .int .i64 p]] w fun e w' => e = .returned (.int .i64 1) ∧ Below w.heap.size w w' := by
  have HA := Lib.hid (hasAddr_yes (h.alloc (.cells #[.int .i64 b, .int .i64 p] 40)) k hk)
  have HB := Lib.hid (hasBlock_yes (h.alloc (.cells #[.int .i64 b, .int .i64 p] 40)) b hb)
  have hp2 : p < 0 ∨ 31 < p := by unfold inR at hp; omega
  have HP := Lib.hid hp2
  clear h hb hp hp2
  go_enter Tryd.func73, Tryd.ntmps73
  go_wp2_with (first
    | (go_at_call 41; (with_reducible refine HA.out.mono ?_); rintro e w' ⟨rfl, rfl⟩)
    | (go_at_call 83; (with_reducible refine HB.out.mono ?_); rintro e w' ⟨rfl, rfl⟩)
    | (go_at_call 74; (with_reducible refine (within_no _ _ _ _ HP.out).mono ?_); rintro e w' ⟨rfl, rfl⟩))
  go_ret
  exact ⟨rfl, (Below.refl _ _).alloc (Nat.le_refl _) _⟩
set_option maxRecDepth 100000 in
set_option maxHeartbeats 2000000 in
theorem set_in (k b p : Nat) (hk : k < s.addrs) (hb : b < s.blocks) (hp : p < 32) : Calls Tryd.prog 73 #[.pointer (some ⟨g, 0, none⟩), .int .i64 k, .agg #[.int .i64 b, .int .i64 p]] w fun e w' => e = .returned (.int .i64 0) ∧ Become w g pb cb (s.put k (some (b, p))) w' := by
  have hw := h.alloc (.cells #[.int .i64 b, .int .i64 p] 40)
  have HA := Lib.hid (hasAddr_yes hw k hk)
  have HB := Lib.hid (hasBlock_yes hw b hb)
  have HL := Lib.hid (leave_any hw k hk)
  have hpl := h.pbl
  have hcl := h.cbl
  have hp9 : (p : Int) ≤ 31 := by omega
  have hp0 : (0 : Int) ≤ p := by omega
  clear h hw
  go_enter Tryd.func73, Tryd.ntmps73
  go_wp2_with (first
    | (go_at_call 41; (with_reducible refine HA.out.mono ?_); rintro e w' ⟨rfl, rfl⟩)
    | (go_at_call 83; (with_reducible refine HB.out.mono ?_); rintro e w' ⟨rfl, rfl⟩)
    | (go_at_call 74; (with_reducible refine (within_yes _ _ _ _ hp0 hp9).mono ?_); rintro e w' ⟨rfl, rfl⟩)
    | fail)
  (with_reducible refine HL.out.mono ?_)
  rintro e w1 ⟨rfl, hb1⟩
  have h1 := hb1.1
  have hbox : w1.heap[w.heap.size]? = (w.alloc (.cells #[.int .i64 b, .int .i64 p] 40)).heap[w.heap.size]? := hb1.2.block _ (by simp) (by unfold Two; omega)
  have x0 : w1.cell? ⟨w.heap.size, 0, none⟩ = some (.int .i64 b) := (World.cell?_of_block (a := ⟨w.heap.size, 0, none⟩) hbox).trans (by simp)
  have x1 : w1.cell? ⟨w.heap.size, 1, none⟩ = some (.int .i64 p) := (World.cell?_of_block (a := ⟨w.heap.size, 1, none⟩) hbox).trans (by simp)
  have hsz := hb1.2.size
  have hfin := h1.redo k hk b p hb hp (put_same s k none)
  rw [put_put] at hfin
  have hfin2 : Become w g pb cb (s.put k (some (b, p))) _ := ⟨hfin.1, (Only.below ((Below.refl _ _).alloc (Nat.le_refl _) _)).trans (hb1.2.trans hfin.2)⟩
  have HF := Lib.hid hfin2.drew.drew
  have c0 := h1.c0
  have c1 := h1.c1
  have pf := h1.raw.pf
  have cf := h1.raw.cf
  have ct := h1.raw.ct b hb
  have a9 := h1.wf.a9
  have b9 := h1.wf.b9
  have hpc := h1.raw.ne
  have hgp := h1.gp
  have hgc := h1.gc
  have hx := cnt_le (s.put k none) b
  obtain ⟨p0, p1⟩ := h1.raw.pl k hk
  replace c0 : w1.cell? ⟨g, 0, none⟩ = some (.slice (some ⟨pb, 0, none⟩) s.addrs s.addrs) := c0
  replace c1 : w1.cell? ⟨g, 1, none⟩ = some (.slice (some ⟨cb, 0, none⟩) s.blocks s.blocks) := c1
  replace hx : (s.put k none).cnt b ≤ s.addrs := hx
  have a8 : s.addrs ≤ 65536 := a9
  have b8 : s.blocks ≤ 64 := b9
  generalize s.addrs = n at *
  generalize s.blocks = m at *
  generalize (s.put k none).cnt b = x at *
  obtain ⟨bx, hbx⟩ : ∃ bx, bx = w.heap.size := ⟨_, rfl⟩
  rw [← hbx] at x0 x1 ⊢
  have hb2 : bx ≠ pb := by omega
  have hb3 : bx ≠ cb := by omega
  clear hfin hfin2 h1 hb1 hbx hbox hsz HA HB HL a9 b9
  go_wp2_with fail
  go_big_region
  go_wp2_with fail
  go_big_region
  go_wp2
  go_ret
  exact ⟨rfl, HF.out⟩
end
end Go.Proofs.YtkapnpcolmhdbaaDoor.Pm
namespace Go.Proofs.YtkapnpcolmhdbaaDoor.Pm
open Go.RowKit
open Drawbar Drawbar.Pm

set_option maxRecDepth 100000 in
theorem info_place : (Tryd.prog.info? 40).map (fun i => (i.zero, i.size, i.bytes)) = some (some (.agg #[.int .i64 0, .int .i64 0]), 2, 16) := by kernel_rfl
set_option maxRecDepth 100000 in
theorem info_int : (Tryd.prog.info? 3).map (fun i => (i.zero, i.size, i.bytes)) = some (some (.int .i64 0), 1, 8) := by kernel_rfl

set_option maxRecDepth 100000 in
theorem made_two (n k : Nat) (h : k < n * 2) : (madeCells #[Value.int .i64 0, .int .i64 0] (n * 2))[k]? = some (.int .i64 0) := by
  unfold madeCells
  have : k % 2 = 0 ∨ k % 2 = 1 := by omega
  rcases this with e | e <;> simp [h, e]
set_option maxRecDepth 100000 in
theorem made_one (n k : Nat) (h : k < n) : (madeCells #[Value.int .i64 0] (n * 1))[k]? = some (.int .i64 0) := by
  unfold madeCells
  simp [h, Nat.mod_one]
set_option maxRecDepth 100000 in
theorem make_places (n : Nat) (h : n ≤ 65536) (W : World) : (Instr.makeSlice 103 (.int .i64 n) (.int .i64 n)).run Tryd.prog W = .ok (.slice (some ⟨W.heap.size, 0, none⟩) n n) (W.alloc (.cells (madeCells #[Value.int .i64 0, .int .i64 0] (n * 2)) 40)) := by
  obtain ⟨i0, hi0, hz0, hz1, hz2⟩ := info_parts info_place
  have hr := run_make (P := Tryd.prog) W 103 40 i0 _ Tryd.underlying103 hi0 hz0 .i64 .i64 n n (by omega) (Int.le_refl _) (by rw [hz2]; omega) (by omega)
  rw [hz1] at hr
  simp only [Int.toNat_natCast] at hr
  exact hr
set_option maxRecDepth 100000 in
theorem make_counts (n : Nat) (h : n ≤ 65536) (W : World) : (Instr.makeSlice 24 (.int .i64 n) (.int .i64 n)).run Tryd.prog W = .ok (.slice (some ⟨W.heap.size, 0, none⟩) n n) (W.alloc (.cells (madeCells #[Value.int .i64 0] (n * 1)) 3)) := by
  obtain ⟨i0, hi0, hz0, hz1, hz2⟩ := info_parts info_int
  have hr := run_make (P := Tryd.prog) W 24 3 i0 _ Tryd.underlying24 hi0 hz0 .i64 .i64 n n (by omega) (Int.le_refl _) (by rw [hz2]; omega) (by omega)
  rw [hz1] at hr
  simp only [Int.toNat_natCast] at hr
  exact hr

set_option maxRecDepth 100000 in
theorem Raw.setB {w : World} {pb cb n m : Nat} {pl : Nat → Int × Int} {ct : Nat → Int} (h : Raw w pb cb n m pl ct) (k : Nat) (hk : k < n) (x : Int) :
    Raw (w.setCell ⟨pb, k * 2, none⟩ (.int .i64 x)) pb cb n m (fun j => if j = k then (x, (pl k).2) else pl j) ct := by
  have hoth : (w.setCell ⟨pb, k * 2, none⟩ (.int .i64 x)).heap[cb]? = w.heap[cb]? := Below.heap_setCell _ _ _ _ h.ne.symm
  refine ⟨fun j hj => ?_, fun o => by rw [World.frozen?_setCell]; exact h.pf o, fun c hc => (World.cell?_of_block (a := ⟨cb, c, none⟩) hoth).trans (h.ct c hc), fun o => (World.frozen?_of_block (a := ⟨cb, o, none⟩) hoth).trans (h.cf o), h.ne⟩
  by_cases e : j = k
  · subst e
    rw [World.cell?_setCell_same _ _ _ (h.pl j hj).1, World.cell?_setCell_other _ _ _ _ (off_ne (by omega)), if_pos rfl]
    exact ⟨rfl, (h.pl j hj).2⟩
  · rw [World.cell?_setCell_other _ _ _ _ (off_ne (by omega)), World.cell?_setCell_other _ _ _ _ (off_ne (by omega)), if_neg e]
    exact h.pl j hj

/-- What New has laid, ahead of its loop. -/
structure Laid (w w4 : World) (g pb cb n m : Nat) : Prop where
  c0 : w4.cell? ⟨g, 0, none⟩ = some (.slice (some ⟨pb, 0, none⟩) n n)
  c1 : w4.cell? ⟨g, 1, none⟩ = some (.slice (some ⟨cb, 0, none⟩) m m)
  raw : Raw w4 pb cb n m (fun _ => (0, 0)) (fun _ => 0)
  gp : g ≠ pb
  gc : g ≠ cb
  g9 : w.heap.size ≤ g
  p9 : w.heap.size ≤ pb
  c9 : w.heap.size ≤ cb
  below : Below w.heap.size w w4

set_option maxRecDepth 100000 in
theorem cell_in_row (w : World) (cs : Array Value) (t : TypeId) (b o : Nat) (h : w.heap[b]? = some (.cells cs t (0, 0))) : w.cell? ⟨b, o, none⟩ = cs[o]? ∧ w.frozen? ⟨b, o, none⟩ = false := by
  unfold World.cell? World.frozen?
  rw [h]
  simp

set_option maxRecDepth 100000 in
theorem laid_of (w w4 : World) (g pb cb n m : Nat) (hp : w4.heap[pb]? = some (.cells (madeCells #[Value.int .i64 0, .int .i64 0] (n * 2)) 40 (0, 0))) (hc : w4.heap[cb]? = some (.cells (madeCells #[Value.int .i64 0] (m * 1)) 3 (0, 0)))
    (hg : w4.heap[g]? = some (.cells #[.slice (some ⟨pb, 0, none⟩) n n, .slice (some ⟨cb, 0, none⟩) m m] 105 (0, 0))) (h1 : g ≠ pb) (h2 : g ≠ cb) (h3 : pb ≠ cb) (h4 : w.heap.size ≤ g) (h5 : w.heap.size ≤ pb) (h6 : w.heap.size ≤ cb) (hb : Below w.heap.size w w4) : Laid w w4 g pb cb n m :=
  ⟨(cell_in_row _ _ _ _ 0 hg).1, (cell_in_row _ _ _ _ 1 hg).1,
    ⟨fun k hk => ⟨(cell_in_row _ _ _ _ _ hp).1.trans (made_two n _ (by omega)), (cell_in_row _ _ _ _ _ hp).1.trans (made_two n _ (by omega))⟩, fun o => (cell_in_row _ _ _ _ o hp).2, fun b hb => (cell_in_row _ _ _ _ b hc).1.trans (made_one m b hb), fun o => (cell_in_row _ _ _ _ o hc).2, h3⟩, h1, h2, h4, h5, h6, hb⟩

set_option maxRecDepth 100000 in
theorem heap_at (w : World) (o1 o2 : Obj) : ((w.alloc o1).alloc o2).heap[w.heap.size + 1]? = some o2 := by
  have := heap_alloc_new (w.alloc o1) o2
  simpa using this
set_option maxRecDepth 100000 in
theorem heap_at2 (w : World) (o1 o2 o3 : Obj) : (((w.alloc o1).alloc o2).alloc o3).heap[w.heap.size + 1 + 1]? = some o3 := by
  have := heap_alloc_new ((w.alloc o1).alloc o2) o3
  simpa using this
set_option maxRecDepth 100000 in
theorem below3 (w : World) (o1 o2 o3 : Obj) : Below w.heap.size w (((w.alloc o1).alloc o2).alloc o3).drew :=
  Below.drewB ((((Below.refl _ _).alloc (Nat.le_refl _) _).alloc (by simp) _).alloc (by simp; omega) _)

/-- What New answers. -/
def Made (w : World) (s : St) (e : Ending) (w' : World) : Prop :=
  ∃ g pb cb, e = .returned (.tuple #[.pointer (some ⟨g, 0, none⟩), .int .i64 0]) ∧ MapAt w' g pb cb s ∧ w.heap.size ≤ g ∧ w.heap.size ≤ pb ∧ w.heap.size ≤ cb ∧ Below w.heap.size w w'

set_option maxRecDepth 100000 in
theorem new_no (a b : Int) (w : World) (h : a < 1 ∨ 65536 < a ∨ b < 1 ∨ 64 < b) :
    Calls Tryd.prog 72 #[.int .i64 a, .int .i64 b] w fun e w' => e = .returned (.tuple #[.pointer none, .int .i64 1]) ∧ w = w' := by
  by_cases h1 : a < 1 ∨ 65536 < a
  · have H1 := Lib.hid h1
    clear h h1
    go_enter Tryd.func72, Tryd.ntmps72
    go_wp2_with (go_at_call 74; (with_reducible refine (within_no _ _ _ _ H1.out).mono ?_); rintro e w' ⟨rfl, rfl⟩)
    go_ret2
    exact ⟨rfl, rfl⟩
  · have h2 : b < 1 ∨ 64 < b := by omega
    have g1 : 1 ≤ a := by omega
    have g2 : a ≤ 65536 := by omega
    have H1 := Lib.hid h2
    clear h h1 h2
    go_enter Tryd.func72, Tryd.ntmps72
    go_wp2_with (go_at_call 74; first | ((with_reducible refine (within_yes a 1 65536 _ g1 g2).mono ?_); rintro e w' ⟨rfl, rfl⟩) | ((with_reducible refine (within_no b 1 64 _ H1.out).mono ?_); rintro e w' ⟨rfl, rfl⟩))
    go_ret2
    exact ⟨rfl, rfl⟩

set_option maxRecDepth 100000 in
set_option maxHeartbeats 2000000 in
theorem new_any (n m : Nat) (w : World) (h1 : 0 < n) (h2 : n ≤ 65536) (h3 : 0 < m) (h4 : m ≤ 64) :
    Calls Tryd.prog 72 #[.int .i64 n, .int .i64 m] w (Made w (St.new n m)) := by
  have g1 : (1 : Int) ≤ n := by omega
  have g2 : (n : Int) ≤ 65536 := by omega
  have g3 : (1 : Int) ≤ m := by omega
  have g4 : (m : Int) ≤ 64 := by omega
  have mp := make_places n h2
  have mc := make_counts m (by omega)
  have HL := Lib.hid (laid_of w)
  generalize hPL : madeCells #[Value.int .i64 0, .int .i64 0] (n * 2) = PL at mp
  generalize hCT : madeCells #[Value.int .i64 0] (m * 1) = CT at mc
  have HPL := Lib.hid hPL
  have HCT := Lib.hid hCT
  clear hPL hCT
  go_enter Tryd.func72, Tryd.ntmps72
  go_wp2_with (first
    | (go_at_call 74; first | ((with_reducible refine (within_yes n 1 65536 _ g1 g2).mono ?_); rintro e w' ⟨rfl, rfl⟩) | ((with_reducible refine (within_yes m 1 64 _ g3 g4).mono ?_); rintro e w' ⟨rfl, rfl⟩)))
  go_region
  · go_wp2_with fail
    have hl : Laid w _ (w.heap.size + 1 + 1) w.heap.size (w.heap.size + 1) n m := HL.out ((((w.alloc (.cells PL 40)).alloc (.cells CT 3)).alloc (.cells #[.slice (some ⟨w.heap.size, 0, none⟩) n n, .slice (some ⟨w.heap.size + 1, 0, none⟩) m m] 105)).drew) _ _ _ n m
      (by rw [HPL.out]; show (((w.alloc _).alloc _).alloc _).heap[w.heap.size]? = _; rw [Below.heap_alloc _ _ _ (by simp; omega), Below.heap_alloc _ _ _ (by simp)]; exact heap_alloc_new _ _)
      (by rw [HCT.out]; show (((w.alloc _).alloc _).alloc _).heap[w.heap.size + 1]? = _; rw [Below.heap_alloc _ _ _ (by simp)]; exact heap_at w _ _)
      (heap_at2 w _ _ _) (by omega) (by omega) (by omega) (by omega) (Nat.le_refl _) (by omega) (below3 w _ _ _)
    generalize ((((w.alloc (.cells PL 40)).alloc (.cells CT 3)).alloc (.cells #[.slice (some ⟨w.heap.size, 0, none⟩) n n, .slice (some ⟨w.heap.size + 1, 0, none⟩) m m] 105)).drew) = w4 at hl ⊢
    generalize w.heap.size + 1 + 1 = g at hl ⊢
    generalize w.heap.size + 1 = cb at hl ⊢
    obtain ⟨pb, hpb⟩ : ∃ pb, pb = w.heap.size := ⟨_, rfl⟩
    rw [← hpb]
    have HLD : Hid (Laid w w4 g pb cb n m) := Lib.hid (by rw [hpb]; exact hl)
    clear hl hpb mp mc HL
    have hgl : g < w4.heap.size := World.block_lt_of_cell? w4 _ HLD.out.c0
    have hpl : pb < w4.heap.size := World.block_lt_of_cell? w4 _ (HLD.out.raw.pl 0 h1).1
    go_loopw [27] (fun iv wr => ∃ k : Nat, k ≤ n ∧ iv = .int .i64 k ∧ Hid (Raw wr pb cb n m (fun j => if j < k then (-1, 0) else (0, 0)) (fun _ => 0)) ∧ Hid (Only (fun d => d = pb) w4 wr)) (fun iv _ => n - (intOf iv).toNat)
    case atStart => exact ⟨0, Nat.zero_le _, rfl, Lib.hid (by simpa using HLD.out.raw), Lib.hid (Only.refl _ _)⟩
    case round =>
      obtain ⟨k, hk, rfl, HR, HO⟩ := hrel
      have c0 : wr.cell? ⟨g, 0, none⟩ = some (.slice (some ⟨pb, 0, none⟩) n n) := (World.cell?_of_block (a := ⟨g, 0, none⟩) (HO.out.block g hgl HLD.out.gp)).trans HLD.out.c0
      have pf := HR.out.pf
      by_cases hlt : k < n
      · obtain ⟨p0, p1⟩ := HR.out.pl k hlt
        rw [if_neg (Nat.lt_irrefl _)] at p0 p1
        have HR2 : Hid (Raw (wr.setCell ⟨pb, k * 2, none⟩ (.int .i64 (-1))) pb cb n m (fun j => if j < k + 1 then (-1, 0) else (0, 0)) (fun _ => 0)) := by
          have := HR.out.setB k hlt (-1)
          rw [if_neg (Nat.lt_irrefl _)] at this
          refine Lib.hid ⟨fun j hj => ?_, this.pf, this.ct, this.cf, this.ne⟩
          have h9 := this.pl j hj
          by_cases e : j = k
          · subst e; rw [if_pos (Nat.lt_succ_self _)]; rw [if_pos rfl] at h9; exact h9
          · rw [if_neg e] at h9
            by_cases e2 : j < k
            · rw [if_pos (by omega)]; rw [if_pos e2] at h9; exact h9
            · rw [if_neg (by omega)]; rw [if_neg e2] at h9; exact h9
        have HO2 := Lib.hid (HO.out.setCell (g := pb) (o := k * 2) rfl (.int .i64 (-1)))
        have i1 : (k : Int) < n := by omega
        go_wp2
        go_roundw
        case rel => exact ⟨k + 1, by omega, by go_num, HR2, HO2⟩
        case measure => simp [intOf]; omega
      · obtain rfl : k = n := by omega
        have hfin : Made w (St.new k m) (.returned (.tuple #[.pointer (some ⟨g, 0, none⟩), .int .i64 0])) wr := by
          have hl := HLD.out
          refine ⟨g, pb, cb, rfl, ⟨Wf.new h1 h2 h3 h4, c0, ?_, ?_, hl.gp, hl.gc⟩, hl.g9, hl.p9, hl.c9, hl.below.trans (HO.out.toBelow (fun d hd => by rw [hd]; exact hl.p9) hl.below.size)⟩
          · exact (World.cell?_of_block (a := ⟨g, 1, none⟩) (HO.out.block g hgl hl.gp)).trans hl.c1
          · have hr := HR.out
            refine ⟨fun j hj => ?_, hr.pf, fun b hb => ?_, hr.cf, hr.ne⟩
            · have h9 := hr.pl j hj
              rw [if_pos (show j < k from hj)] at h9
              exact h9
            · have h9 := hr.ct b hb
              rw [show (St.new k m).cnt b = 0 from cntTo_none _ fun _ _ => rfl]
              exact h9
        have HF := Lib.hid hfin
        have i1 : ¬ (k : Int) < k := by omega
        clear hfin
        go_wp2
        go_ret2
        exact HF.out
  · go_wp2_with fail
    have hl : Laid w _ (w.heap.size + 1 + 1) (w.heap.size + 1) w.heap.size n m := HL.out ((((w.alloc (.cells CT 3)).alloc (.cells PL 40)).alloc (.cells #[.slice (some ⟨w.heap.size + 1, 0, none⟩) n n, .slice (some ⟨w.heap.size, 0, none⟩) m m] 105)).drew) _ _ _ n m
      (by rw [HPL.out]; show (((w.alloc _).alloc _).alloc _).heap[w.heap.size + 1]? = _; rw [Below.heap_alloc _ _ _ (by simp)]; exact heap_at w _ _)
      (by rw [HCT.out]; show (((w.alloc _).alloc _).alloc _).heap[w.heap.size]? = _; rw [Below.heap_alloc _ _ _ (by simp; omega), Below.heap_alloc _ _ _ (by simp)]; exact heap_alloc_new _ _)
      (heap_at2 w _ _ _) (by omega) (by omega) (by omega) (by omega) (by omega) (Nat.le_refl _) (below3 w _ _ _)
    generalize ((((w.alloc (.cells CT 3)).alloc (.cells PL 40)).alloc (.cells #[.slice (some ⟨w.heap.size + 1, 0, none⟩) n n, .slice (some ⟨w.heap.size, 0, none⟩) m m] 105)).drew) = w4 at hl ⊢
    generalize w.heap.size + 1 + 1 = g at hl ⊢
    generalize w.heap.size + 1 = pb at hl ⊢
    obtain ⟨cb, hcb⟩ : ∃ cb, cb = w.heap.size := ⟨_, rfl⟩
    rw [← hcb]
    have HLD : Hid (Laid w w4 g pb cb n m) := Lib.hid (by rw [hcb]; exact hl)
    clear hl hcb mp mc HL
    have hgl : g < w4.heap.size := World.block_lt_of_cell? w4 _ HLD.out.c0
    have hpl : pb < w4.heap.size := World.block_lt_of_cell? w4 _ (HLD.out.raw.pl 0 h1).1
    go_loopw [27] (fun iv wr => ∃ k : Nat, k ≤ n ∧ iv = .int .i64 k ∧ Hid (Raw wr pb cb n m (fun j => if j < k then (-1, 0) else (0, 0)) (fun _ => 0)) ∧ Hid (Only (fun d => d = pb) w4 wr)) (fun iv _ => n - (intOf iv).toNat)
    case atStart => exact ⟨0, Nat.zero_le _, rfl, Lib.hid (by simpa using HLD.out.raw), Lib.hid (Only.refl _ _)⟩
    case round =>
      obtain ⟨k, hk, rfl, HR, HO⟩ := hrel
      have c0 : wr.cell? ⟨g, 0, none⟩ = some (.slice (some ⟨pb, 0, none⟩) n n) := (World.cell?_of_block (a := ⟨g, 0, none⟩) (HO.out.block g hgl HLD.out.gp)).trans HLD.out.c0
      have pf := HR.out.pf
      by_cases hlt : k < n
      · obtain ⟨p0, p1⟩ := HR.out.pl k hlt
        rw [if_neg (Nat.lt_irrefl _)] at p0 p1
        have HR2 : Hid (Raw (wr.setCell ⟨pb, k * 2, none⟩ (.int .i64 (-1))) pb cb n m (fun j => if j < k + 1 then (-1, 0) else (0, 0)) (fun _ => 0)) := by
          have := HR.out.setB k hlt (-1)
          rw [if_neg (Nat.lt_irrefl _)] at this
          refine Lib.hid ⟨fun j hj => ?_, this.pf, this.ct, this.cf, this.ne⟩
          have h9 := this.pl j hj
          by_cases e : j = k
          · subst e; rw [if_pos (Nat.lt_succ_self _)]; rw [if_pos rfl] at h9; exact h9
          · rw [if_neg e] at h9
            by_cases e2 : j < k
            · rw [if_pos (by omega)]; rw [if_pos e2] at h9; exact h9
            · rw [if_neg (by omega)]; rw [if_neg e2] at h9; exact h9
        have HO2 := Lib.hid (HO.out.setCell (g := pb) (o := k * 2) rfl (.int .i64 (-1)))
        have i1 : (k : Int) < n := by omega
        go_wp2
        go_roundw
        case rel => exact ⟨k + 1, by omega, by go_num, HR2, HO2⟩
        case measure => simp [intOf]; omega
      · obtain rfl : k = n := by omega
        have hfin : Made w (St.new k m) (.returned (.tuple #[.pointer (some ⟨g, 0, none⟩), .int .i64 0])) wr := by
          have hl := HLD.out
          refine ⟨g, pb, cb, rfl, ⟨Wf.new h1 h2 h3 h4, c0, ?_, ?_, hl.gp, hl.gc⟩, hl.g9, hl.p9, hl.c9, hl.below.trans (HO.out.toBelow (fun d hd => by rw [hd]; exact hl.p9) hl.below.size)⟩
          · exact (World.cell?_of_block (a := ⟨g, 1, none⟩) (HO.out.block g hgl hl.gp)).trans hl.c1
          · have hr := HR.out
            refine ⟨fun j hj => ?_, hr.pf, fun b hb => ?_, hr.cf, hr.ne⟩
            · have h9 := hr.pl j hj
              rw [if_pos (show j < k from hj)] at h9
              exact h9
            · have h9 := hr.ct b hb
              rw [show (St.new k m).cnt b = 0 from cntTo_none _ fun _ _ => rfl]
              exact h9
        have HF := Lib.hid hfin
        have i1 : ¬ (k : Int) < k := by omega
        clear hfin
        go_wp2
        go_ret2
        exact HF.out
end Go.Proofs.YtkapnpcolmhdbaaDoor.Pm
