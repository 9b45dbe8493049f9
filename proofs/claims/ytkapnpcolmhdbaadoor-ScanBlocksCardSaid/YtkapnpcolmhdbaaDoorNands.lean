/- Bytes in memory: what a slice of bytes reads as, and the contract of bytes.Clone. What the memory of an array (package nand) holds, and what keeps it. Contracts of within, reached, next, block and reach (package nand). The contract of (*block).erase. The contract of (*Array).operate, over any function value that has one. The contracts of Next, Erases, Failed, Fence, On, Boots, Ops, Raise, Arm, Doom. The contract of drawbarlaw03.page: 96 bytes in new memory. A general law for the walk, over any program: append of what isn't nothing onto a row: it stays in its block, or lies in a new one. -/
import Derived.Test.YtkapnpcolmhdbaaDoorProg
import Derived.Test.YtkapnpcolmhdbaaDoorRefs
import Derived.Test.YtkapnpcolmhdbaaDoorOcta
import Derived.WalkKit
import Derived.Handy
import Derived.WalkSpells
import Derived.Lib.Hide
import Derived.Lib.SlBytesConst
import Derived.Laws.BytesString
import Derived.Test.YtkapnpcolmhdbaaDoorNdState
import Derived.Outline
import Derived.Laws.EntriesVeiled
import Derived.OwnWalk
namespace Go.Proofs.YtkapnpcolmhdbaaDoor
open Go.RowKit
open Drawbar

set_option maxRecDepth 100000 in
theorem Rd.keep {w w' : World} {d o : Nat} {l : List Nat} (h : Rd w (some ⟨d, o, none⟩) l) (hk : w'.heap[d]? = w.heap[d]?) : Rd w' (some ⟨d, o, none⟩) l := by
  obtain ⟨hl, hlen, hc⟩ := h
  refine ⟨hl, hlen, fun h0 => ?_⟩
  obtain ⟨b, off, e, hcell⟩ := hc h0
  cases e
  exact ⟨d, o, rfl, fun i hi => (World.cell?_of_block (a := ⟨d, o + i, none⟩) hk).trans (hcell i hi)⟩
end Go.Proofs.YtkapnpcolmhdbaaDoor
namespace Go.Proofs.YtkapnpcolmhdbaaDoor.Nd
open Go.RowKit
open Drawbar Drawbar.Nand

/-- A page's bytes in memory. -/
def PageAt (w : World) (v : Value) (l : List Nat) : Prop :=
  ∃ d o cap, v = .slice (some ⟨d, o, none⟩) 96 cap ∧ 96 ≤ cap ∧ l.length = 96 ∧ Rd w (some ⟨d, o, none⟩) l

def gcells (s : Arr) (hb : Nat) (bv : Value) : List Value :=
  [.slice (some ⟨hb, 0, none⟩) s.n s.n, .int .i64 s.pages, .int .u64 s.fence, .int .i64 s.armed, .bool s.off, bv, .int .i64 s.boots, .int .i64 s.ops]
def bcells (b : Blk) (row : Value) : List Value := [row, .bool b.torn, .int .i64 b.erases, .int .i64 b.doom, .bool b.fails, .bool b.failed]

/-- What was being done, as a function value. -/
def BegunAt (w : World) (F R : Nat → Prop) (hb n : Nat) (bv : Value) : Begun → Prop
  | .no => bv = .nilFunc
  | .lay i p => i < n ∧ ∃ x y v, bv = .func (.func 48) #[] #[.pointer (some ⟨x, 0, none⟩), .pointer (some ⟨y, 0, none⟩)] ∧
      w.cell? ⟨x, 0, none⟩ = some (.pointer (some ⟨hb, i * 6, none⟩)) ∧ w.cell? ⟨y, 0, none⟩ = some v ∧ PageAt w v p ∧ F x ∧ ¬ R x ∧ F y ∧ ¬ R y ∧ ∀ d, v.ownBlock = some d → F d ∧ ¬ R d
  | .erase i => i < n ∧ bv = .func (.func 60) #[.pointer (some ⟨hb, i * 6, none⟩)] #[]

structure Wf (s : Arr) : Prop where
  n0 : 0 < s.n
  n64 : s.n ≤ 64
  p0 : 0 < s.pages
  p32 : s.pages ≤ 32
  fence : s.fence < 18446744073709551616
  armed : s.armed ≤ 9223372036854775807
  doom : ∀ i, i < s.n → (s.b i).doom ≤ 9223372036854775807
  len : ∀ i, i < s.n → (s.b i).pages.length ≤ s.pages
/-- Nothing was being done where the power is on; where a page was, there is room for it. -/
structure Idle (s : Arr) : Prop where
  idle : s.off = false → s.begun = .no
  room : ∀ i p, s.begun = .lay i p → (s.b i).pages.length < s.pages

/-- The array s in memory: its own block g, that of its blocks hb; F: all of its memory; R: what is written. -/
structure ArrIn (w : World) (F R : Nat → Prop) (g hb : Nat) (rows : Nat → Value) (pv : Nat → List Value) (bv : Value) (s : Arr) : Prop where
  wf : Wf s
  gc : ∀ (k : Nat) (v : Value), (gcells s hb bv)[k]? = some v → w.cell? ⟨g, k, none⟩ = some v
  gf : ∀ k, w.frozen? ⟨g, k, none⟩ = false
  bc : ∀ i, i < s.n → ∀ (k : Nat) (v : Value), (bcells (s.b i) (rows i))[k]? = some v → w.cell? ⟨hb, i * 6 + k, none⟩ = some v
  bf : ∀ k, w.frozen? ⟨hb, k, none⟩ = false
  row : ∀ i, i < s.n → w.ownsRow 0 42 1 (rows i) (s.b i).pages.length (pv i)
  page : ∀ i, i < s.n → ∀ (j : Nat) (l : List Nat), (s.b i).pages[j]? = some l → ∃ v : Value, (pv i)[j]? = some v ∧ PageAt w v l ∧ ∀ d, v.ownBlock = some d → F d ∧ ¬ R d
  begun : BegunAt w F R hb s.n bv s.begun
  rf : ∀ d, R d → F d
  rg : R g
  rhb : R hb
  rrow : ∀ i, i < s.n → ∀ d, (rows i).ownBlock = some d → R d ∧ d ≠ g ∧ d ≠ hb
  ne : g ≠ hb
  rr : ∀ i j, i < s.n → j < s.n → i ≠ j → ∀ d, (rows i).ownBlock = some d → (rows j).ownBlock ≠ some d
  bound : ∀ d, F d → d < w.heap.size

/-- An array in memory. -/
def ArrAt (w : World) (F : Nat → Prop) (g : Nat) (s : Arr) : Prop := Idle s ∧ ∃ R hb rows pv bv, ArrIn w F R g hb rows pv bv s

def ext (F : Nat → Prop) (w w' : World) : Nat → Prop := fun k => F k ∨ (w.heap.size ≤ k ∧ k < w'.heap.size)
/-- What lies outside of F stands. -/
structure Keep (F : Nat → Prop) (w w' : World) : Prop where
  os : w'.os = w.os
  tape : w'.tape = w.tape
  output : w'.output = w.output
  size : w.heap.size ≤ w'.heap.size
  block : ∀ k, k < w.heap.size → ¬ F k → w'.heap[k]? = w.heap[k]?

set_option maxRecDepth 100000 in
theorem Keep.refl (F : Nat → Prop) (w : World) : Keep F w w := ⟨rfl, rfl, rfl, Nat.le_refl _, fun _ _ _ => rfl⟩
set_option maxRecDepth 100000 in
theorem Keep.trans {F : Nat → Prop} {w w1 w2 : World} (h : Keep F w w1) (h2 : Keep (ext F w w1) w1 w2) : Keep F w w2 :=
  ⟨h2.os.trans h.os, h2.tape.trans h.tape, h2.output.trans h.output, Nat.le_trans h.size h2.size, fun k hk hF =>
    (h2.block k (Nat.lt_of_lt_of_le hk h.size) (fun hh => hh.elim hF fun h3 => absurd hk (Nat.not_lt.2 h3.1))).trans (h.block k hk hF)⟩
set_option maxRecDepth 100000 in
theorem Keep.below {F : Nat → Prop} {w w1 : World} (h : Below w.heap.size w w1) : Keep F w w1 := ⟨h.os, h.tape, h.output, h.size, fun k hk _ => h.block k hk⟩
set_option maxRecDepth 100000 in
theorem Keep.setCell {F : Nat → Prop} {w w1 : World} (h : Keep F w w1) {g o : Nat} (hF : F g) (x : Value) : Keep F w (w1.setCell ⟨g, o, none⟩ x) :=
  ⟨h.os, h.tape, h.output, by simpa [World.setCell] using h.size, fun k hk hn => (Below.heap_setCell w1 ⟨g, o, none⟩ x k (fun e => hn (by subst e; exact hF))).trans (h.block k hk hn)⟩
set_option maxRecDepth 100000 in
theorem Keep.toBelow {F : Nat → Prop} {B : Nat} {w w1 : World} (h : Keep F w w1) (hF : ∀ k, F k → B ≤ k) (hB : B ≤ w.heap.size) : Below B w w1 :=
  ⟨h.os, h.tape, h.output, h.size, fun k hk => h.block k (Nat.lt_of_lt_of_le hk hB) (fun hf => by have := hF k hf; omega)⟩
set_option maxRecDepth 100000 in
theorem ext_ext (F : Nat → Prop) {w w1 w2 : World} (h : w.heap.size ≤ w1.heap.size) (h2 : w1.heap.size ≤ w2.heap.size) : ext (ext F w w1) w1 w2 = ext F w w2 := by
  funext k; unfold ext; apply propext; constructor
  · rintro ((h3 | h3) | h3)
    · exact .inl h3
    · exact .inr (by omega)
    · exact .inr (by omega)
  · rintro (h3 | h3)
    · exact .inl (.inl h3)
    · rcases Nat.lt_or_ge k w1.heap.size with h4 | h4
      · exact .inl (.inr (by omega))
      · exact .inr (by omega)
set_option maxRecDepth 100000 in
theorem ext_same (F : Nat → Prop) {w w1 : World} (h : w1.heap.size = w.heap.size) : ext F w w1 = F := by
  funext k; unfold ext; apply propext; constructor
  · intro h3; rcases h3 with h3 | h3
    · exact h3
    · omega
  · exact .inl


set_option maxRecDepth 100000 in
theorem PageAt.keep {w w' : World} {v : Value} {l : List Nat} (h : PageAt w v l) (hk : ∀ d, v.ownBlock = some d → w'.heap[d]? = w.heap[d]?) : PageAt w' v l := by
  obtain ⟨d, o, cap, rfl, hc, hl, hr⟩ := h
  exact ⟨d, o, cap, rfl, hc, hl, hr.keep (hk d rfl)⟩
set_option maxRecDepth 100000 in
theorem ownsRow_keep {w w' : World} {base : Nat} {e : TypeId} {size : Nat} {v : Value} {n : Nat} {xs : List Value} (h : w.ownsRow base e size v n xs) (hk : ∀ d, v.ownBlock = some d → w'.heap[d]? = w.heap[d]?) : w'.ownsRow base e size v n xs := by
  refine ⟨h.1, ?_⟩
  rcases h.2 with hn | ⟨g, cap, cur, rfl, hb, hgg, rest⟩
  · exact .inl hn
  · exact .inr ⟨g, cap, cur, rfl, hb, (hk g rfl).trans hgg, rest⟩
set_option maxRecDepth 100000 in
theorem BegunAt.keep {w w' : World} {F F' R R' : Nat → Prop} {hb n : Nat} {bv : Value} {b : Begun} (h : BegunAt w F R hb n bv b) (hF : ∀ d, F d → F' d) (hR : ∀ d, F d → ¬ R d → ¬ R' d) (hk : ∀ d, F d → ¬ R d → w'.heap[d]? = w.heap[d]?) : BegunAt w' F' R' hb n bv b := by
  cases b with
  | no => exact h
  | erase i => exact h
  | lay i p =>
    obtain ⟨hi, x, y, v, rfl, hx, hy, hp, fx, rx, fy, ry, hv⟩ := h
    exact ⟨hi, x, y, v, rfl, (World.cell?_of_block (a := ⟨x, 0, none⟩) (hk x fx rx)).trans hx, (World.cell?_of_block (a := ⟨y, 0, none⟩) (hk y fy ry)).trans hy,
      hp.keep fun d hd => hk d (hv d hd).1 (hv d hd).2, hF x fx, hR x fx rx, hF y fy, hR y fy ry, fun d hd => ⟨hF d (hv d hd).1, hR d (hv d hd).1 (hv d hd).2⟩⟩

section
variable {w : World} {F R : Nat → Prop} {g hb : Nat} {rows : Nat → Value} {pv : Nat → List Value} {bv : Value} {s : Arr}

set_option maxRecDepth 100000 in
theorem ArrIn.keep (h : ArrIn w F R g hb rows pv bv s) {w' : World} (hk : ∀ d, F d → w'.heap[d]? = w.heap[d]?) {F' : Nat → Prop} (hF : ∀ d, F d → F' d) (hb' : ∀ d, F' d → d < w'.heap.size) : ArrIn w' F' R g hb rows pv bv s where
  wf := h.wf
  gc k v hv := (World.cell?_of_block (a := ⟨g, k, none⟩) (hk g (h.rf _ h.rg))).trans (h.gc k v hv)
  gf k := (World.frozen?_of_block (a := ⟨g, k, none⟩) (hk g (h.rf _ h.rg))).trans (h.gf k)
  bc i hi k v hv := (World.cell?_of_block (a := ⟨hb, _, none⟩) (hk hb (h.rf _ h.rhb))).trans (h.bc i hi k v hv)
  bf k := (World.frozen?_of_block (a := ⟨hb, k, none⟩) (hk hb (h.rf _ h.rhb))).trans (h.bf k)
  row i hi := ownsRow_keep (h.row i hi) fun d hd => hk d (h.rf _ (h.rrow i hi d hd).1)
  page i hi j l hl := by
    obtain ⟨v, h1, h2, h3⟩ := h.page i hi j l hl
    exact ⟨v, h1, h2.keep fun d hd => hk d (h3 d hd).1, fun d hd => ⟨hF d (h3 d hd).1, (h3 d hd).2⟩⟩
  begun := h.begun.keep hF (fun _ _ hR => hR) fun d hd _ => hk d hd
  rf d hd := hF d (h.rf d hd)
  rg := h.rg
  rhb := h.rhb
  rrow := h.rrow
  ne := h.ne
  rr := h.rr
  bound := hb'

set_option maxRecDepth 100000 in
theorem ArrIn.below (h : ArrIn w F R g hb rows pv bv s) {w' : World} (hw : Below w.heap.size w w') : ArrIn w' (ext F w w') R g hb rows pv bv s :=
  h.keep (fun d hd => hw.block d (h.bound d hd)) (fun _ => .inl) (fun d hd => by
    have := hw.size
    rcases hd with hd | hd
    · have := h.bound d hd; omega
    · omega)

set_option maxRecDepth 100000 in
/-- A store into the array's own block. -/
theorem ArrIn.setG (h : ArrIn w F R g hb rows pv bv s) (k : Nat) (v : Value) (s' : Arr) (bv' : Value) (hk : k < 8) (hc : gcells s' hb bv' = (gcells s hb bv).set k v) (hs : s'.b = s.b) (hn : s'.n = s.n) (hwf : Wf s')
    (hbg : BegunAt w F R hb s.n bv' s'.begun) : ArrIn (w.setCell ⟨g, k, none⟩ v) F R g hb rows pv bv' s' := by
  have hoth : ∀ d, d ≠ g → (w.setCell ⟨g, k, none⟩ v).heap[d]? = w.heap[d]? := fun d hd => Below.heap_setCell _ _ _ _ hd
  have hsz : (w.setCell ⟨g, k, none⟩ v).heap.size = w.heap.size := by simp [World.setCell]
  obtain ⟨u, hu⟩ : ∃ u, (gcells s hb bv)[k]? = some u := ⟨_, List.getElem?_eq_getElem (by simpa [gcells] using hk)⟩
  constructor
  · exact hwf
  · intro j x hx
    rw [hc] at hx
    by_cases hj : j = k
    · subst hj
      rw [World.cell?_setCell_same _ _ _ (h.gc _ _ hu)]
      rw [List.getElem?_set_self (by simpa [gcells] using hk)] at hx
      exact hx
    · rw [World.cell?_setCell_other _ _ _ _ (by intro e; have := congrArg Addr.off e; simp at this <;> omega)]
      rw [List.getElem?_set_ne (by omega)] at hx
      exact h.gc j x hx
  · intro j
    rw [World.frozen?_setCell]
    exact h.gf j
  · intro i hi j x hx
    rw [hs] at hx
    exact (World.cell?_of_block (a := ⟨hb, _, none⟩) (hoth hb h.ne.symm)).trans (h.bc i (hn ▸ hi) j x hx)
  · intro j
    exact (World.frozen?_of_block (a := ⟨hb, j, none⟩) (hoth hb h.ne.symm)).trans (h.bf j)
  · intro i hi
    rw [hs]
    exact ownsRow_keep (h.row i (hn ▸ hi)) fun d hd => hoth d (h.rrow i (hn ▸ hi) d hd).2.1
  · intro i hi j l hl
    rw [hs] at hl
    obtain ⟨x, h1, h2, h3⟩ := h.page i (hn ▸ hi) j l hl
    exact ⟨x, h1, h2.keep fun d hd => hoth d (fun e => (h3 d hd).2 (e ▸ h.rg)), h3⟩
  · rw [hn]
    exact hbg.keep (fun _ h => h) (fun _ _ h => h) fun d _ hR => hoth d (fun e => hR (e ▸ h.rg))
  · exact h.rf
  · exact h.rg
  · exact h.rhb
  · intro i hi; exact h.rrow i (hn ▸ hi)
  · exact h.ne
  · intro i j hi hj; exact h.rr i j (hn ▸ hi) (hn ▸ hj)
  · intro d hd; rw [hsz]; exact h.bound d hd

set_option maxRecDepth 100000 in
/-- A store into a block's own cells, but for its pages. -/
theorem ArrIn.setB (h : ArrIn w F R g hb rows pv bv s) (i k : Nat) (v : Value) (b' : Blk) (hi : i < s.n) (hk : k < 6) (hc : bcells b' (rows i) = (bcells (s.b i) (rows i)).set k v) (hp : b'.pages = (s.b i).pages) (hd : b'.doom ≤ 9223372036854775807) :
    ArrIn (w.setCell ⟨hb, i * 6 + k, none⟩ v) F R g hb rows pv bv { s with b := upd s.b i b' } := by
  have hoth : ∀ d, d ≠ hb → (w.setCell ⟨hb, i * 6 + k, none⟩ v).heap[d]? = w.heap[d]? := fun d hd => Below.heap_setCell _ _ _ _ hd
  have hsz : (w.setCell ⟨hb, i * 6 + k, none⟩ v).heap.size = w.heap.size := by simp [World.setCell]
  obtain ⟨u, hu⟩ : ∃ u, (bcells (s.b i) (rows i))[k]? = some u := ⟨_, List.getElem?_eq_getElem (by simpa [bcells] using hk)⟩
  have hpg : ∀ j, (upd s.b i b' j).pages = (s.b j).pages := fun j => by
    by_cases hj : j = i
    · subst hj; simpa using hp
    · rw [upd_other _ _ _ _ hj]
  constructor
  · obtain ⟨a1, a2, a3, a4, a5, a6, a7, a8⟩ := h.wf
    refine ⟨a1, a2, a3, a4, a5, a6, fun j hj => ?_, fun j hj => ?_⟩
    · by_cases e : j = i
      · subst e; simpa using hd
      · show (upd s.b i b' j).doom ≤ _
        rw [upd_other _ _ _ _ e]; exact a7 j hj
    · show (upd s.b i b' j).pages.length ≤ _
      rw [hpg]; exact a8 j hj
  · intro j x hx
    exact (World.cell?_of_block (a := ⟨g, j, none⟩) (hoth g h.ne)).trans (h.gc j x hx)
  · intro j
    exact (World.frozen?_of_block (a := ⟨g, j, none⟩) (hoth g h.ne)).trans (h.gf j)
  · intro j hj l x hx
    by_cases e : j = i
    · subst e
      replace hx : (bcells (upd s.b j b' j) (rows j))[l]? = some x := hx
      rw [upd_same, hc] at hx
      by_cases e2 : l = k
      · subst e2
        rw [World.cell?_setCell_same _ _ _ (h.bc j hi _ _ hu)]
        rw [List.getElem?_set_self (by simpa [bcells] using hk)] at hx
        exact hx
      · rw [World.cell?_setCell_other _ _ _ _ (by intro e; have := congrArg Addr.off e; simp at this <;> omega)]
        rw [List.getElem?_set_ne (by omega)] at hx
        exact h.bc j hi l x hx
    · replace hx : (bcells (upd s.b i b' j) (rows j))[l]? = some x := hx
      rw [upd_other _ _ _ _ e] at hx
      have hl : l < 6 := by simpa [bcells] using (List.getElem?_eq_some_iff.1 hx).1
      rw [World.cell?_setCell_other _ _ _ _ (by intro e; have := congrArg Addr.off e; simp at this <;> omega)]
      exact h.bc j hj l x hx
  · intro j
    rw [World.frozen?_setCell]
    exact h.bf j
  · intro j hj
    show World.ownsRow _ _ _ _ _ (upd s.b i b' j).pages.length _
    rw [hpg]
    exact ownsRow_keep (h.row j hj) fun d hd => hoth d (h.rrow j hj d hd).2.2
  · intro j hj m l hl
    replace hl : (upd s.b i b' j).pages[m]? = some l := hl
    rw [hpg] at hl
    obtain ⟨x, h1, h2, h3⟩ := h.page j hj m l hl
    exact ⟨x, h1, h2.keep fun d hd => hoth d (fun e => (h3 d hd).2 (e ▸ h.rhb)), h3⟩
  · exact h.begun.keep (fun _ h => h) (fun _ _ h => h) fun d _ hR => hoth d (fun e => hR (e ▸ h.rhb))
  · exact h.rf
  · exact h.rg
  · exact h.rhb
  · exact h.rrow
  · exact h.ne
  · exact h.rr
  · intro d hd; rw [hsz]; exact h.bound d hd

set_option maxRecDepth 100000 in
theorem grown_block {w2 : World} {row : Option Nat} (hg : w.grownBy w2 row) (hb o : Nat) (v : Value) (d : Nat) (h1 : d < w.heap.size) (h2 : d ≠ hb) (h3 : some d ≠ row) : (w2.setCell ⟨hb, o, none⟩ v).heap[d]? = w.heap[d]? :=
  (Below.heap_setCell _ _ _ _ h2).trans (hg.block d h1 h3)

set_option maxRecDepth 100000 in
/-- A block's pages are others: the row was appended to, or is none. -/
theorem ArrIn.setRow (h : ArrIn w F R g hb rows pv bv s) (i : Nat) (hi : i < s.n) {w2 : World} (hg : w.grownBy w2 (rows i).ownBlock) (v' : Value) (xs : List Value) (b' : Blk)
    (hrow : w2.ownsRow 0 42 1 v' b'.pages.length xs) (hv : ∀ d, v'.ownBlock = some d → (rows i).ownBlock = some d ∨ w.heap.size ≤ d)
    (hpg : ∀ (j : Nat) (l : List Nat), b'.pages[j]? = some l → ∃ v : Value, xs[j]? = some v ∧ PageAt w v l ∧ ∀ d, v.ownBlock = some d → F d ∧ ¬ R d)
    (hrest : b' = { s.b i with pages := b'.pages }) (hlen : b'.pages.length ≤ s.pages) :
    ArrIn (w2.setCell ⟨hb, i * 6, none⟩ v') (ext F w w2) (fun d => R d ∨ (w.heap.size ≤ d ∧ d < w2.heap.size)) g hb (fun j => if j = i then v' else rows j) (fun j => if j = i then xs else pv j) bv { s with b := upd s.b i b' } := by
  have hsz : (w2.setCell ⟨hb, i * 6, none⟩ v').heap.size = w2.heap.size := by simp [World.setCell]
  have hgs := hg.size
  have hF : ∀ d, F d → d ≠ hb → some d ≠ (rows i).ownBlock → (w2.setCell ⟨hb, i * 6, none⟩ v').heap[d]? = w.heap[d]? := fun d hd h2 h3 => grown_block hg _ _ _ d (h.bound d hd) h2 h3
  have hnR : ∀ d, F d → ¬ R d → (w2.setCell ⟨hb, i * 6, none⟩ v').heap[d]? = w.heap[d]? := fun d hd hR => hF d hd (fun e => hR (e ▸ h.rhb)) (fun e => hR (h.rrow i hi d e.symm).1)
  have hnR' : ∀ d, F d → ¬ R d → ¬ (R d ∨ (w.heap.size ≤ d ∧ d < w2.heap.size)) := fun d hd hR hh => hh.elim hR fun h3 => absurd (h.bound d hd) (Nat.not_lt.2 h3.1)
  have hgi : some g ≠ (rows i).ownBlock := fun e => (h.rrow i hi g e.symm).2.1 rfl
  have hhi : some hb ≠ (rows i).ownBlock := fun e => (h.rrow i hi hb e.symm).2.2 rfl
  have hhb2 : w2.heap[hb]? = w.heap[hb]? := hg.block hb (h.bound _ (h.rf _ h.rhb)) hhi
  have hrow2 := ownsRow_keep (w' := w2.setCell ⟨hb, i * 6, none⟩ v') hrow
  have hvd : ∀ d, v'.ownBlock = some d → d ≠ g ∧ d ≠ hb ∧ d < w2.heap.size ∧ (R d ∨ (w.heap.size ≤ d ∧ d < w2.heap.size)) := fun d hd => by
    have h1 := (hrow.lt d hd).2
    rcases hv d hd with h2 | h2
    · obtain ⟨a1, a2, a3⟩ := h.rrow i hi d h2
      exact ⟨a2, a3, h1, .inl a1⟩
    · have a1 := h.bound _ (h.rf _ h.rg)
      have a2 := h.bound _ (h.rf _ h.rhb)
      exact ⟨by omega, by omega, h1, .inr ⟨h2, h1⟩⟩
  constructor
  · obtain ⟨a1, a2, a3, a4, a5, a6, a7, a8⟩ := h.wf
    refine ⟨a1, a2, a3, a4, a5, a6, fun j hj => ?_, fun j hj => ?_⟩
    · show (upd s.b i b' j).doom ≤ _
      by_cases e : j = i
      · subst e; rw [upd_same, hrest]; exact a7 j hi
      · rw [upd_other _ _ _ _ e]; exact a7 j hj
    · show (upd s.b i b' j).pages.length ≤ _
      by_cases e : j = i
      · subst e; rw [upd_same]; exact hlen
      · rw [upd_other _ _ _ _ e]; exact a8 j hj
  · intro j x hx
    exact (World.cell?_of_block (a := ⟨g, j, none⟩) (hF g (h.rf _ h.rg) h.ne hgi)).trans (h.gc j x hx)
  · intro j
    exact (World.frozen?_of_block (a := ⟨g, j, none⟩) (hF g (h.rf _ h.rg) h.ne hgi)).trans (h.gf j)
  · intro j hj l x hx
    have hcell : ∀ o, w2.cell? ⟨hb, o, none⟩ = w.cell? ⟨hb, o, none⟩ := fun o => World.cell?_of_block hhb2
    have hl : l < 6 := by simpa [bcells] using (List.getElem?_eq_some_iff.1 hx).1
    by_cases e : j = i
    · subst e
      replace hx : (bcells (upd s.b j b' j) (if j = j then v' else rows j))[l]? = some x := hx
      rw [upd_same, if_pos rfl, hrest] at hx
      by_cases e2 : l = 0
      · subst e2
        have h0 := h.bc j hi 0 _ rfl
        rw [Nat.add_zero] at h0 ⊢
        rw [World.cell?_setCell_same _ _ _ ((hcell _).trans h0)]
        simpa [bcells] using hx
      · rw [World.cell?_setCell_other _ _ _ _ (by intro e; have := congrArg Addr.off e; simp at this <;> omega), hcell]
        refine h.bc j hi l x ?_
        obtain ⟨m, rfl⟩ : ∃ m, l = m + 1 := ⟨l - 1, by omega⟩
        simpa [bcells] using hx
    · replace hx : (bcells (upd s.b i b' j) (if j = i then v' else rows j))[l]? = some x := hx
      rw [upd_other _ _ _ _ e, if_neg e] at hx
      rw [World.cell?_setCell_other _ _ _ _ (by intro e; have := congrArg Addr.off e; simp at this <;> omega), hcell]
      exact h.bc j hj l x hx
  · intro j
    rw [World.frozen?_setCell]
    exact (World.frozen?_of_block (a := ⟨hb, j, none⟩) hhb2).trans (h.bf j)
  · intro j hj
    show World.ownsRow _ _ _ _ (if j = i then v' else rows j) (upd s.b i b' j).pages.length (if j = i then xs else pv j)
    by_cases e : j = i
    · subst e
      rw [upd_same, if_pos rfl, if_pos rfl]
      exact hrow2 fun d hd => Below.heap_setCell _ _ _ _ (hvd d hd).2.1
    · rw [upd_other _ _ _ _ e, if_neg e, if_neg e]
      exact ownsRow_keep (h.row j hj) fun d hd => hF d (h.rf _ (h.rrow j hj d hd).1) (h.rrow j hj d hd).2.2 fun e2 => h.rr j i hj hi e d hd e2.symm
  · intro j hj m l hl
    replace hl : (upd s.b i b' j).pages[m]? = some l := hl
    show ∃ v, (if j = i then xs else pv j)[m]? = some v ∧ _
    have fin : ∀ v : Value, PageAt w v l → (∀ d, v.ownBlock = some d → F d ∧ ¬ R d) → PageAt (w2.setCell ⟨hb, i * 6, none⟩ v') v l ∧ ∀ d, v.ownBlock = some d → ext F w w2 d ∧ ¬ (R d ∨ (w.heap.size ≤ d ∧ d < w2.heap.size)) := fun v h2 h3 =>
      ⟨h2.keep fun d hd => hnR d (h3 d hd).1 (h3 d hd).2, fun d hd => ⟨.inl (h3 d hd).1, hnR' d (h3 d hd).1 (h3 d hd).2⟩⟩
    by_cases e : j = i
    · subst e
      rw [upd_same] at hl
      rw [if_pos rfl]
      obtain ⟨x, h1, h2, h3⟩ := hpg m l hl
      exact ⟨x, h1, fin x h2 h3⟩
    · rw [upd_other _ _ _ _ e] at hl
      rw [if_neg e]
      obtain ⟨x, h1, h2, h3⟩ := h.page j hj m l hl
      exact ⟨x, h1, fin x h2 h3⟩
  · exact h.begun.keep (fun _ h => .inl h) hnR' hnR
  · intro d hd
    rcases hd with hd | hd
    · exact .inl (h.rf d hd)
    · exact .inr hd
  · exact .inl h.rg
  · exact .inl h.rhb
  · intro j hj d hd
    replace hd : (if j = i then v' else rows j).ownBlock = some d := hd
    by_cases e : j = i
    · rw [if_pos e] at hd
      obtain ⟨a1, a2, _, a4⟩ := hvd d hd
      exact ⟨a4, a1, a2⟩
    · rw [if_neg e] at hd
      obtain ⟨a1, a2, a3⟩ := h.rrow j hj d hd
      exact ⟨.inl a1, a2, a3⟩
  · exact h.ne
  · intro j k hj hk hjk d
    show (if j = i then v' else rows j).ownBlock = some d → (if k = i then v' else rows k).ownBlock ≠ some d
    intro hd hd2
    have key : ∀ m, m < s.n → m ≠ i → v'.ownBlock = some d → (rows m).ownBlock ≠ some d := fun m hm hmi h1 h2 => by
      rcases hv d h1 with h3 | h3
      · exact h.rr m i hm hi hmi d h2 h3
      · exact absurd (h.bound d (h.rf _ (h.rrow m hm d h2).1)) (Nat.not_lt.2 h3)
    by_cases e : j = i
    · rw [if_pos e] at hd
      rw [if_neg (by omega)] at hd2
      exact key k hk (by omega) hd hd2
    · rw [if_neg e] at hd
      by_cases e2 : k = i
      · rw [if_pos e2] at hd2
        exact key j hj e hd2 hd
      · rw [if_neg e2] at hd2
        exact h.rr j k hj hk hjk d hd hd2
  · intro d hd
    rw [hsz]
    rcases hd with hd | hd
    · have := h.bound d hd; omega
    · exact hd.2
end
end Go.Proofs.YtkapnpcolmhdbaaDoor.Nd
namespace Go.Proofs.YtkapnpcolmhdbaaDoor.Nd
open Go.RowKit
open Drawbar Drawbar.Nand

set_option maxRecDepth 100000 in
theorem within_yes (n a b : Int) (w : World) (h : a ≤ n) (h2 : n ≤ b) :
    Calls Tryd.prog 42 #[.int .i64 n, .int .i64 a, .int .i64 b] w fun e w' => e = .returned (.bool true) ∧ w = w' := by
  go_enter Tryd.func42, Tryd.ntmps42
  go_wp2
  go_ret
  exact ⟨rfl, rfl⟩
set_option maxRecDepth 100000 in
theorem within_no (n a b : Int) (w : World) (h : n < a ∨ b < n) :
    Calls Tryd.prog 42 #[.int .i64 n, .int .i64 a, .int .i64 b] w fun e w' => e = .returned (.bool false) ∧ w = w' := by
  by_cases h1 : a ≤ n
  · have h2 : b < n := by omega
    have h3 : false = decide (n ≤ b) := (decide_eq_false (by omega)).symm
    rw [h3]
    clear h3
    go_enter Tryd.func42, Tryd.ntmps42
    go_wp2
    go_ret
    exact ⟨rfl, rfl⟩
  · go_enter Tryd.func42, Tryd.ntmps42
    go_wp2
    go_ret
    exact ⟨rfl, rfl⟩

set_option maxRecDepth 100000 in
theorem reached_zero (b o : Nat) (w : World) (h : w.cell? ⟨b, o, none⟩ = some (.int .i64 0)) :
    Calls Tryd.prog 75 #[.pointer (some ⟨b, o, none⟩)] w fun e w' => e = .returned (.bool false) ∧ w = w' := by
  go_enter Tryd.func75, Tryd.ntmps75
  go_wp2
  go_ret
  exact ⟨rfl, rfl⟩
set_option maxRecDepth 100000 in
theorem reached_pos (b o n : Nat) (w : World) (h : w.cell? ⟨b, o, none⟩ = some (.int .i64 n)) (hf : w.frozen? ⟨b, o, none⟩ = false) (h0 : 1 ≤ n) (hn : n ≤ 9223372036854775807) :
    Calls Tryd.prog 75 #[.pointer (some ⟨b, o, none⟩)] w fun e w' => e = .returned (.bool (n == 1)) ∧ w.setCell ⟨b, o, none⟩ (.int .i64 (n - 1 : Nat)) = w' := by
  have h1 : ¬ ((n : Int) = 0) := by omega
  have h2 : (((n - 1 : Nat) : Int)) = (n : Int) - 1 := by omega
  have h3 : (n == 1) = (((n : Int) - 1) == 0) := by rw [Bool.eq_iff_iff]; simp; omega
  rw [h2, h3]
  clear h2 h3
  go_enter Tryd.func75, Tryd.ntmps75
  go_wp2
  go_ret
  exact ⟨rfl, rfl⟩

set_option maxRecDepth 100000 in
theorem next_any (hb o : Nat) (v : Value) (a : Option Addr) (n cap : Nat) (w : World) (h : w.cell? ⟨hb, o, none⟩ = some v) (hv : v = .slice a n cap) :
    Calls Tryd.prog 45 #[.pointer (some ⟨hb, o, none⟩)] w fun e w' => e = .returned (.int .i64 n) ∧ w = w' := by
  subst hv
  go_enter Tryd.func45, Tryd.ntmps45
  go_wp2
  go_ret
  exact ⟨rfl, rfl⟩

set_option maxRecDepth 100000 in
theorem blocks_any (g hb n : Nat) (w : World) (h0 : w.cell? ⟨g, 0, none⟩ = some (.slice (some ⟨hb, 0, none⟩) n n)) :
    Calls Tryd.prog 65 #[.pointer (some ⟨g, 0, none⟩)] w fun e w' => e = .returned (.int .i64 n) ∧ w = w' := by
  go_enter Tryd.func65, Tryd.ntmps65
  go_wp2
  go_ret
  exact ⟨rfl, rfl⟩
set_option maxRecDepth 100000 in
theorem block_in (g hb : Nat) (n i : Nat) (w : World) (h0 : w.cell? ⟨g, 0, none⟩ = some (.slice (some ⟨hb, 0, none⟩) n n)) (hn : n ≤ 64) (hi : i < n) :
    Calls Tryd.prog 43 #[.pointer (some ⟨g, 0, none⟩), .int .i64 i] w fun e w' => e = .returned (.pointer (some ⟨hb, i * 6, none⟩)) ∧ w = w' := by
  go_enter Tryd.func43, Tryd.ntmps43
  go_wp2_with (first
    | (go_at_call 65; refine (blocks_any g hb n _ h0).mono ?_; rintro e w' ⟨rfl, rfl⟩)
    | (go_at_call 42; refine (within_yes _ _ _ _ (by omega) (by omega)).mono ?_; rintro e w' ⟨rfl, rfl⟩))
  go_ret
  exact ⟨rfl, rfl⟩
set_option maxRecDepth 100000 in
theorem block_out (g hb : Nat) (n : Nat) (i : Int) (w : World) (h0 : w.cell? ⟨g, 0, none⟩ = some (.slice (some ⟨hb, 0, none⟩) n n)) (hn : n ≤ 64) (hi : ¬ inB i n) :
    Calls Tryd.prog 43 #[.pointer (some ⟨g, 0, none⟩), .int .i64 i] w fun e w' => e = .returned (.pointer none) ∧ w = w' := by
  have hi2 : i < 0 ∨ (n : Int) - 1 < i := by unfold inB at hi; omega
  clear hi
  go_enter Tryd.func43, Tryd.ntmps43
  go_wp2_with (first
    | (go_at_call 65; refine (blocks_any g hb n _ h0).mono ?_; rintro e w' ⟨rfl, rfl⟩)
    | (go_at_call 42; refine (within_no _ _ _ _ hi2).mono ?_; rintro e w' ⟨rfl, rfl⟩))
  go_ret
  exact ⟨rfl, rfl⟩
set_option maxRecDepth 100000 in
theorem blocks_nil (w : World) : Calls Tryd.prog 65 #[.pointer none] w fun e w' => e = .returned (.int .i64 0) ∧ w = w' := by
  go_enter Tryd.func65, Tryd.ntmps65
  go_wp2
  go_ret
  exact ⟨rfl, rfl⟩
set_option maxRecDepth 100000 in
theorem block_nil (i : Int) (w : World) : Calls Tryd.prog 43 #[.pointer none, .int .i64 i] w fun e w' => e = .returned (.pointer none) ∧ w = w' := by
  go_enter Tryd.func43, Tryd.ntmps43
  go_wp2_with (first
    | (go_at_call 65; refine (blocks_nil _).mono ?_; rintro e w' ⟨rfl, rfl⟩)
    | (go_at_call 42; refine (within_no _ _ _ _ (by omega)).mono ?_; rintro e w' ⟨rfl, rfl⟩))
  go_ret
  exact ⟨rfl, rfl⟩

set_option maxRecDepth 100000 in
theorem reach_in (g hb : Nat) (n i : Nat) (w : World) (h0 : w.cell? ⟨g, 0, none⟩ = some (.slice (some ⟨hb, 0, none⟩) n n)) (hn : n ≤ 64) (hi : i < n) (h4 : w.cell? ⟨g, 4, none⟩ = some (.bool false)) :
    Calls Tryd.prog 44 #[.pointer (some ⟨g, 0, none⟩), .int .i64 i] w fun e w' => e = .returned (.tuple #[.pointer (some ⟨hb, i * 6, none⟩), .int .i64 0]) ∧ w = w' := by
  go_enter Tryd.func44, Tryd.ntmps44
  go_wp2_with (go_at_call 43; refine (block_in g hb n i _ h0 hn hi).mono ?_; rintro e w' ⟨rfl, rfl⟩)
  go_ret2
  exact ⟨rfl, rfl⟩
set_option maxRecDepth 100000 in
theorem reach_off (g hb : Nat) (n i : Nat) (w : World) (h0 : w.cell? ⟨g, 0, none⟩ = some (.slice (some ⟨hb, 0, none⟩) n n)) (hn : n ≤ 64) (hi : i < n) (h4 : w.cell? ⟨g, 4, none⟩ = some (.bool true)) :
    Calls Tryd.prog 44 #[.pointer (some ⟨g, 0, none⟩), .int .i64 i] w fun e w' => e = .returned (.tuple #[.pointer none, .int .i64 9]) ∧ w = w' := by
  go_enter Tryd.func44, Tryd.ntmps44
  go_wp2_with (go_at_call 43; refine (block_in g hb n i _ h0 hn hi).mono ?_; rintro e w' ⟨rfl, rfl⟩)
  go_ret2
  exact ⟨rfl, rfl⟩
set_option maxRecDepth 100000 in
theorem reach_out (g hb : Nat) (n : Nat) (i : Int) (w : World) (h0 : w.cell? ⟨g, 0, none⟩ = some (.slice (some ⟨hb, 0, none⟩) n n)) (hn : n ≤ 64) (hi : ¬ inB i n) :
    Calls Tryd.prog 44 #[.pointer (some ⟨g, 0, none⟩), .int .i64 i] w fun e w' => e = .returned (.tuple #[.pointer none, .int .i64 1]) ∧ w = w' := by
  have HI := Lib.hid hi
  clear hi
  go_enter Tryd.func44, Tryd.ntmps44
  go_wp2_with (go_at_call 43; refine (block_out g hb n i _ h0 hn HI.out).mono ?_; rintro e w' ⟨rfl, rfl⟩)
  go_ret2
  exact ⟨rfl, rfl⟩
set_option maxRecDepth 100000 in
theorem reach_nil (i : Int) (w : World) :
    Calls Tryd.prog 44 #[.pointer none, .int .i64 i] w fun e w' => e = .returned (.tuple #[.pointer none, .int .i64 5]) ∧ w = w' := by
  go_enter Tryd.func44, Tryd.ntmps44
  go_wp2_with (go_at_call 43; refine (block_nil i _).mono ?_; rintro e w' ⟨rfl, rfl⟩)
  go_ret2
  exact ⟨rfl, rfl⟩
end Go.Proofs.YtkapnpcolmhdbaaDoor.Nd
namespace Go.Proofs.YtkapnpcolmhdbaaDoor.Nd
open Go.RowKit
open Drawbar Drawbar.Nand

/-- The array has become s'; the other memory stands. -/
def Become (w : World) (F R : Nat → Prop) (g hb : Nat) (bv : Value) (s' : Arr) (w' : World) : Prop := ∃ R' rows' pv', ArrIn w' (ext F w w') R' g hb rows' pv' bv s' ∧ Keep R w w' ∧ ∀ d, R' d → R d ∨ w.heap.size ≤ d

set_option maxRecDepth 100000 in
theorem ext_setCell (F : Nat → Prop) (w w' : World) (a : Addr) (v : Value) : ext F w (w'.setCell a v) = ext F w w' := by
  unfold ext; simp [World.setCell]
set_option maxRecDepth 100000 in
theorem ext_self (F : Nat → Prop) (w : World) : ext F w w = F := ext_same F rfl
set_option maxRecDepth 100000 in
theorem upd_id (f : Nat → Blk) (i : Nat) : upd f i (f i) = f := by
  funext j; unfold upd; split
  · next h => rw [h]
  · rfl

section
variable {w : World} {F R : Nat → Prop} {g hb : Nat} {rows : Nat → Value} {pv : Nat → List Value} {bv : Value} {s : Arr}
set_option maxRecDepth 100000 in
theorem row_shape {e : TypeId} {v : Value} {n : Nat} {xs : List Value} (h : w.ownsRow 0 e 1 v n xs) : ∃ a cap, v = .slice a n cap ∧ n ≤ cap ∧ (∀ ad, a = some ad → ad = ⟨ad.block, 0, none⟩) ∧ (a = none → cap = 0) := by
  rcases h.2 with ⟨rfl, rfl⟩ | ⟨g, cap, cur, rfl, _, _, hn, _⟩
  · exact ⟨none, 0, rfl, Nat.le_refl _, (fun _ h => by cases h), fun _ => rfl⟩
  · exact ⟨_, cap, rfl, hn, (fun _ h => by cases h; rfl), fun h => by cases h⟩

set_option maxRecDepth 100000 in
/-- A block's cells. -/
theorem ArrIn.blk (h : ArrIn w F R g hb rows pv bv s) {i : Nat} (hi : i < s.n) : ∃ a cap, rows i = .slice a (s.b i).pages.length cap ∧ (s.b i).pages.length ≤ cap ∧ w.cell? ⟨hb, i * 6, none⟩ = some (.slice a (s.b i).pages.length cap) ∧
    w.cell? ⟨hb, i * 6 + 1, none⟩ = some (.bool (s.b i).torn) ∧ w.cell? ⟨hb, i * 6 + 2, none⟩ = some (.int .i64 (s.b i).erases) ∧ w.cell? ⟨hb, i * 6 + 3, none⟩ = some (.int .i64 (s.b i).doom) ∧
    w.cell? ⟨hb, i * 6 + 4, none⟩ = some (.bool (s.b i).fails) ∧ w.cell? ⟨hb, i * 6 + 5, none⟩ = some (.bool (s.b i).failed) := by
  obtain ⟨a, cap, e, hc, _⟩ := row_shape (h.row i hi)
  refine ⟨a, cap, e, hc, ?_, h.bc i hi 1 _ rfl, h.bc i hi 2 _ rfl, h.bc i hi 3 _ rfl, h.bc i hi 4 _ rfl, h.bc i hi 5 _ rfl⟩
  have := h.bc i hi 0 _ rfl
  rw [Nat.add_zero, e] at this
  exact this

set_option maxRecDepth 100000 in
theorem Become.same (h : ArrIn w F R g hb rows pv bv s) : Become w F R g hb bv s w := ⟨R, rows, pv, by rw [ext_self]; exact h, Keep.refl _ _, fun _ => .inl⟩

set_option maxRecDepth 100000 in
set_option maxHeartbeats 400000 in
theorem erase_any (h : ArrIn w F R g hb rows pv bv s) (i : Nat) (hi : i < s.n) (cut : Int) :
    Calls Tryd.prog 60 #[.pointer (some ⟨hb, i * 6, none⟩), .int .i64 cut] w fun e w' => e = .returned (.tuple #[]) ∧ Become w F R g hb bv { s with b := upd s.b i ((s.b i).erase cut) } w' := by
  obtain ⟨a, cap, hrow, hcap, c0, c1, c2, c3, c4, c5⟩ := h.blk hi
  have hbf := h.bf
  unfold Blk.erase
  by_cases h0 : cut ≤ 0
  · rw [if_pos h0, upd_id]
    have hfin := Lib.hid (Become.same h)
    clear h
    go_enter Tryd.func60, Tryd.ntmps60
    go_wp2
    go_end0
    exact ⟨rfl, hfin.out⟩
  · rw [if_neg h0]
    by_cases h1 : cut < 96 ∨ (s.b i).fails = true
    · rw [if_pos h1]
      have hfin : Become w F R g hb bv { s with b := upd s.b i { s.b i with torn := decide (0 < (s.b i).pages.length) } } (w.setCell ⟨hb, i * 6 + 1, none⟩ (.bool (decide (0 < (s.b i).pages.length)))) :=
        ⟨R, rows, pv, by rw [ext_setCell, ext_self]; exact h.setB i 1 _ { s.b i with torn := decide (0 < (s.b i).pages.length) } hi (by omega) rfl rfl (h.wf.doom i hi), (Keep.refl _ _).setCell h.rhb _, fun _ => .inl⟩
      obtain ⟨s', hs'⟩ : ∃ s', s' = { s with b := upd s.b i { s.b i with torn := decide (0 < (s.b i).pages.length) } } := ⟨_, rfl⟩
      rw [← hs'] at hfin ⊢
      clear hs'
      have HF := Lib.hid hfin
      have hnx := next_any hb (i * 6) _ a (s.b i).pages.length cap w c0 rfl
      clear h hfin
      generalize (s.b i).pages.length = n at *
      generalize hfl : (s.b i).fails = fl at *
      by_cases h2 : cut < 96
      · go_enter Tryd.func60, Tryd.ntmps60
        go_wp2_with (go_at_call 45; refine hnx.mono ?_; rintro e w' ⟨rfl, rfl⟩)
        go_end0
        exact ⟨rfl, HF.out⟩
      · have h3 : fl = true := by simpa [h2] using h1
        subst h3
        clear h1
        go_enter Tryd.func60, Tryd.ntmps60
        go_wp2_with (go_at_call 45; refine hnx.mono ?_; rintro e w' ⟨rfl, rfl⟩)
        go_end0
        exact ⟨rfl, HF.out⟩
    · rw [if_neg h1]
      have h2 : ¬ cut < 96 := fun e => h1 (.inl e)
      have h3 : (s.b i).fails = false := by simpa using fun e => h1 (.inr e)
      clear h1
      have hA := h.setRow i hi (w2 := w) (grownBy_refl _ _) (.slice none 0 0) [] { s.b i with pages := [] } (World.ownsRow_nil _ _ _ _) (fun d hd => by cases hd) (fun j l hl => by simp at hl) rfl (Nat.zero_le _)
      rw [ext_self] at hA
      have hA2 := hA.setB i 1 (.bool false) { s.b i with pages := [], torn := false } hi (by omega) (by simp [bcells]) (by simp) (h.wf.doom i hi)
      have hA3 := hA2.setB i 2 (.int .i64 (wrap64 ((s.b i).erases + 1))) { s.b i with pages := [], torn := false, erases := wrap64 ((s.b i).erases + 1) } hi (by omega) (by simp [bcells]) (by simp) (h.wf.doom i hi)
      simp only [upd_upd] at hA3
      have hfin : Become w F R g hb bv { s with b := upd s.b i { s.b i with pages := [], torn := false, erases := wrap64 ((s.b i).erases + 1) } } _ :=
        ⟨_, _, _, by rw [ext_setCell, ext_setCell, ext_setCell, ext_self]; exact hA3, ((((Keep.refl R w).setCell h.rhb _).setCell h.rhb _).setCell h.rhb _), (by exact fun _ => Or.imp id And.left)⟩
      obtain ⟨s', hs'⟩ : ∃ s', s' = { s with b := upd s.b i { s.b i with pages := [], torn := false, erases := wrap64 ((s.b i).erases + 1) } } := ⟨_, rfl⟩
      rw [← hs'] at hfin ⊢
      clear hs'
      have HF := Lib.hid hfin
      clear h hfin hA hA2 hA3
      generalize (s.b i).fails = fl at *
      subst h3
      generalize (s.b i).erases = er at *
      go_enter Tryd.func60, Tryd.ntmps60
      go_wp2
      go_end0
      exact ⟨rfl, HF.out⟩
end
end Go.Proofs.YtkapnpcolmhdbaaDoor.Nd
namespace Go.Proofs.YtkapnpcolmhdbaaDoor.Nd
open Go.RowKit
open Drawbar Drawbar.Nand

/-- But for what is written nothing is otherwise, and nothing is new. -/
structure Only (R : Nat → Prop) (w w' : World) : Prop where
  os : w'.os = w.os
  tape : w'.tape = w.tape
  output : w'.output = w.output
  size : w'.heap.size = w.heap.size
  block : ∀ d, ¬ R d → w'.heap[d]? = w.heap[d]?
set_option maxRecDepth 100000 in
theorem Only.refl (R : Nat → Prop) (w : World) : Only R w w := ⟨rfl, rfl, rfl, rfl, fun _ _ => rfl⟩
set_option maxRecDepth 100000 in
theorem Only.setCell {R : Nat → Prop} {w w1 : World} (h : Only R w w1) {g o : Nat} (hR : R g) (x : Value) : Only R w (w1.setCell ⟨g, o, none⟩ x) :=
  ⟨h.os, h.tape, h.output, by simpa [World.setCell] using h.size, fun k hn => (Below.heap_setCell w1 ⟨g, o, none⟩ x k (fun e => hn (by subst e; exact hR))).trans (h.block k hn)⟩
set_option maxRecDepth 100000 in
theorem Only.trans {R : Nat → Prop} {w w1 w2 : World} (h : Only R w w1) (h2 : Only R w1 w2) : Only R w w2 :=
  ⟨h2.os.trans h.os, h2.tape.trans h.tape, h2.output.trans h.output, h2.size.trans h.size, fun k hk => (h2.block k hk).trans (h.block k hk)⟩
set_option maxRecDepth 100000 in
theorem Only.keep {F R : Nat → Prop} {w w1 : World} (h : Only R w w1) (hR : ∀ d, R d → F d) : Keep F w w1 :=
  ⟨h.os, h.tape, h.output, Nat.le_of_eq h.size.symm, fun k _ hF => h.block k fun hr => hF (hR k hr)⟩

/-- operate's, Program's way to end. -/
def Oped (w : World) (F R : Nat → Prop) (g hb : Nat) (r : Int × Arr) (e : Ending) (w' : World) : Prop := e = .returned (.int .i64 r.1) ∧ ∃ bv', Become w F R g hb bv' r.2 w'

set_option maxRecDepth 100000 in
theorem Become.from {F R : Nat → Prop} {w w1 w2 : World} {g hb : Nat} {bv : Value} {s : Arr} (h : Only R w w1) (h2 : Become w1 F R g hb bv s w2) : Become w F R g hb bv s w2 := by
  obtain ⟨R', rows', pv', h3, h4, h5⟩ := h2
  refine ⟨R', rows', pv', ?_, ?_, fun d hd => (h5 d hd).imp id fun h6 => by rw [← h.size]; exact h6⟩
  · rw [show ext F w w2 = ext F w1 w2 by unfold ext; rw [h.size]]; exact h3
  · refine (h.keep (fun _ h => h)).trans ?_
    rw [ext_same R h.size]; exact h4

section
variable {w : World} {F R : Nat → Prop} {g hb : Nat} {rows : Nat → Value} {pv : Nat → List Value} {bv : Value} {s : Arr}

set_option maxRecDepth 100000 in
theorem ArrIn.become (h : ArrIn w F R g hb rows pv bv s) {w0 : World} (ho : Only R w0 w) : Become w0 F R g hb bv s w :=
  ⟨R, rows, pv, by rw [ext_same F ho.size]; exact h, ho.keep (fun _ h => h), fun _ => .inl⟩

set_option maxRecDepth 100000 in
theorem reachedB (h : ArrIn w F R g hb rows pv bv s) (i : Nat) (hi : i < s.n) :
    Calls Tryd.prog 75 #[.pointer (some ⟨hb, i * 6 + 3, none⟩)] w fun e w' => e = .returned (.bool ((s.b i).doom == 1)) ∧
      ArrIn w' F R g hb rows pv bv { s with b := upd s.b i { s.b i with doom := (s.b i).doom - 1 } } ∧ Only R w w' := by
  obtain ⟨a, cap, hrow, hcap, c0, c1, c2, c3, c4, c5⟩ := h.blk hi
  have hd := h.wf.doom i hi
  rcases Nat.eq_zero_or_pos (s.b i).doom with h0 | h0
  · rw [h0] at c3 ⊢
    refine (reached_zero hb _ w c3).mono ?_
    rintro e w' ⟨rfl, rfl⟩
    refine ⟨rfl, ?_, Only.refl _ _⟩
    have : ({ s.b i with doom := 0 - 1 } : Blk) = s.b i := by rw [← h0, h0, Nat.zero_sub]; rw [← h0]
    rw [this, upd_id]
    exact h
  · refine (reached_pos hb _ _ w c3 (h.bf _) h0 hd).mono ?_
    rintro e w' ⟨rfl, rfl⟩
    exact ⟨rfl, h.setB i 3 _ { s.b i with doom := (s.b i).doom - 1 } hi (by omega) rfl rfl (by simp; omega), (Only.refl _ _).setCell h.rhb _⟩

set_option maxRecDepth 100000 in
theorem reachedG (h : ArrIn w F R g hb rows pv bv s) :
    Calls Tryd.prog 75 #[.pointer (some ⟨g, 3, none⟩)] w fun e w' => e = .returned (.bool (s.armed == 1)) ∧
      ArrIn w' F R g hb rows pv bv { s with armed := s.armed - 1 } ∧ Only R w w' := by
  have c3 := h.gc 3 _ rfl
  have hd := h.wf.armed
  rcases Nat.eq_zero_or_pos s.armed with h0 | h0
  · rw [h0] at c3
    refine (reached_zero g _ w c3).mono ?_
    rintro e w' ⟨rfl, rfl⟩
    refine ⟨by rw [h0]; rfl, ?_, Only.refl _ _⟩
    have : ({ s with armed := s.armed - 1 } : Arr) = s := by rw [h0, Nat.zero_sub]; rw [← h0]
    rw [this]
    exact h
  · refine (reached_pos g 3 _ w c3 (h.gf _) h0 hd).mono ?_
    rintro e w' ⟨rfl, rfl⟩
    obtain ⟨a1, a2, a3, a4, a5, a6, a7, a8⟩ := h.wf
    exact ⟨rfl, h.setG 3 _ { s with armed := s.armed - 1 } bv (by omega) rfl rfl rfl ⟨a1, a2, a3, a4, a5, by simp; omega, a7, a8⟩ h.begun, (Only.refl _ _).setCell h.rg _⟩

set_option maxRecDepth 100000 in
set_option maxHeartbeats 1000000 in
theorem operate_any (h : ArrIn w F R g hb rows pv bv s) (i : Nat) (hi : i < s.n) (K : Nat) (first caps : Array Value) (heg : ∀ args W, (callFunc K args).run Tryd.prog W = .ok (.enter K args) W)
    (bg : Begun) (hbg : BegunAt w F R hb s.n (.func (.func K) first caps) bg) (what : Blk → Blk)
    (hcall : ∀ w4, ArrIn w4 F R g hb rows pv bv (s.tick i) → Only R w w4 → Calls Tryd.prog K (first ++ #[.int .i64 96] ++ caps) w4 fun e w' => e = .returned (.tuple #[]) ∧ Become w4 F R g hb bv { s.tick i with b := upd s.b i (what (s.b i).tick) } w') :
    Calls Tryd.prog 47 #[.pointer (some ⟨g, 0, none⟩), .pointer (some ⟨hb, i * 6, none⟩), .func (.func K) first caps] w (Oped w F R g hb (s.operate i bg what)) := by
  have c7 := h.gc 7 _ rfl
  have f7 := h.gf 7
  have h1 := h.setG 7 (.int .i64 (wrap64 (s.ops + 1))) { s with ops := wrap64 (s.ops + 1) } bv (by omega) rfl rfl rfl (by obtain ⟨a1, a2, a3, a4, a5, a6, a7, a8⟩ := h.wf; exact ⟨a1, a2, a3, a4, a5, a6, a7, a8⟩) h.begun
  have o1 : Only R w (w.setCell ⟨g, 7, none⟩ (.int .i64 (wrap64 (s.ops + 1)))) := (Only.refl _ _).setCell h.rg _
  obtain ⟨Q, hQ⟩ : ∃ Q, Oped w F R g hb (s.operate i bg what) = Q := ⟨_, rfl⟩
  rw [hQ]
  have HQ := Lib.hid hQ
  have H := Lib.hid h
  have HB := Lib.hid hbg
  have HC := Lib.hid hcall
  obtain ⟨ops, hops⟩ : ∃ o, o = s.ops := ⟨_, rfl⟩
  rw [← hops] at c7
  have HO := Lib.hid hops
  rw [← hops] at h1 o1
  clear hQ h hbg hcall hops
  go_enter Tryd.func47, Tryd.ntmps47
  go_wp2_with fail
  refine (reachedB h1 i hi).mono ?_
  rintro e w2 ⟨rfl, h2, o2⟩
  have o12 := o1.trans o2
  clear h1 o1 o2 c7 f7
  dsimp only at h2 ⊢
  have hi2 : i < ({ s with b := upd s.b i { s.b i with doom := (s.b i).doom - 1 }, ops := wrap64 (ops + 1) } : Arr).n := hi
  have HT : Hid (({ s with b := upd s.b i (s.b i).tick, ops := wrap64 (ops + 1), armed := s.armed - 1 } : Arr) = s.tick i) := Lib.hid (by unfold Arr.tick; rw [HO.out])
  obtain ⟨d1, hd1⟩ : ∃ d1, d1 = ((s.b i).doom == 1) := ⟨_, rfl⟩
  rw [← hd1]
  have HD := Lib.hid hd1
  clear hd1
  cases d1 with
  | false =>
    have e2 : ({ s.b i with doom := (s.b i).doom - 1 } : Blk) = (s.b i).tick := by unfold Blk.tick; rw [← HD.out, Bool.or_false]
    rw [e2] at h2
    clear e2 hi2
    have h3 := h2
    have o3 := o12
    clear h2 o12
    go_wp2_with fail
    refine (reachedG h3).mono ?_
    rintro e w4 ⟨rfl, h4, o4⟩
    have o := o3.trans o4
    clear h3 o3 o4
    rw [HT.out] at h4
    dsimp only
    obtain ⟨d2, hd2⟩ : ∃ d2, d2 = (s.armed == 1) := ⟨_, rfl⟩
    rw [← hd2]
    have HD2 := Lib.hid hd2
    clear hd2
    have hi4 : i < (s.tick i).n := hi
    cases d2 with
    | true =>
      have c4 := h4.gc 4 _ rfl
      have c5 := h4.gc 5 _ rfl
      have hgf := h4.gf
      have hwf : Wf { s.tick i with off := true } := by obtain ⟨a1, a2, a3, a4, a5, a6, a7, a8⟩ := h4.wf; exact ⟨a1, a2, a3, a4, a5, a6, a7, a8⟩
      have hwf2 : Wf { s.tick i with off := true, begun := bg } := by obtain ⟨a1, a2, a3, a4, a5, a6, a7, a8⟩ := h4.wf; exact ⟨a1, a2, a3, a4, a5, a6, a7, a8⟩
      have h5 := h4.setG 4 (.bool true) { s.tick i with off := true } bv (by omega) rfl rfl rfl hwf h4.begun
      have o5 := o.setCell (o := 4) h4.rg (.bool true)
      have h6 := h5.setG 5 (.func (.func K) first caps) { s.tick i with off := true, begun := bg } (.func (.func K) first caps) (by omega) rfl rfl rfl hwf2 (HB.out.keep (fun _ h => h) (fun _ _ h => h) fun d _ hR => o5.block d hR)
      have o6 := o5.setCell (o := 5) h4.rg (.func (.func K) first caps)
      have hfin : ∀ w', Become w F R g hb (.func (.func K) first caps) { s.tick i with off := true, begun := bg } w' → Q (.returned (.int .i64 9)) w' := fun w' h7 => by
        rw [← HQ.out]
        have e1 : s.operate i bg what = (9, { s.tick i with off := true, begun := bg }) := by
          unfold Arr.operate
          rw [if_pos (by simpa using HD2.out.symm)]
        rw [e1]
        exact ⟨rfl, _, h7⟩
      have HF := Lib.hid (hfin _ (h6.become o6))
      clear h4 h5 h6 hfin o o5 o6 hwf hwf2
      go_wp2
      exact HF.out
    | false =>
      obtain ⟨a, cap, hrow, hcap, c0, c1, c2, c3, c4, c5⟩ := h4.blk hi4
      have hbf := h4.bf
      have hne : s.armed ≠ 1 := by have := HD2.out; simpa using this.symm
      have hbi : (s.tick i).b i = (s.b i).tick := by simp [Arr.tick]
      rw [hbi] at c4 c5
      obtain ⟨fl, hfl⟩ : ∃ fl, fl = (s.b i).tick.fails := ⟨_, rfl⟩
      rw [← hfl] at c4
      have HFL := Lib.hid hfl
      have HBI := Lib.hid hbi
      clear hfl hbi hrow hcap c0 c1 c2 c3
      cases fl with
      | true =>
        have h5 := h4.setB i 5 (.bool true) { (s.b i).tick with failed := true } hi4 (by omega) (by rw [HBI.out]; rfl) (by rw [HBI.out]) (by have := h4.wf.doom i hi4; rw [HBI.out] at this; exact this)
        have o5 := o.setCell (o := i * 6 + 5) h4.rhb (.bool true)
        have hfin : ∀ w', Become w F R g hb bv { s.tick i with b := upd s.b i { (s.b i).tick with failed := true } } w' → Q (.returned (.int .i64 8)) w' := fun w' h6 => by
          rw [← HQ.out]
          have e1 : s.operate i bg what = (8, { s.tick i with b := upd s.b i { (s.b i).tick with failed := true } }) := by
            unfold Arr.operate
            rw [if_neg hne, if_pos HFL.out.symm]
          rw [e1]
          exact ⟨rfl, _, h6⟩
        have h6 := h5.become o5
        rw [show upd (s.tick i).b i { (s.b i).tick with failed := true } = upd s.b i { (s.b i).tick with failed := true } from upd_upd _ _ _ _] at h6
        have HF := Lib.hid (hfin _ h6)
        clear h4 h5 h6 hfin o o5 hne
        go_wp2
        exact HF.out
      | false =>
        have hfin : ∀ w', Become w4 F R g hb bv { s.tick i with b := upd s.b i (what (s.b i).tick) } w' → Q (.returned (.int .i64 0)) w' := fun w' h6 => by
          rw [← HQ.out]
          have e1 : s.operate i bg what = (0, { s.tick i with b := upd s.b i (what (s.b i).tick) }) := by
            unfold Arr.operate
            rw [if_neg hne, if_neg (by rw [← HFL.out]; simp)]
          rw [e1]
          exact ⟨rfl, _, h6.from o⟩
        have HF := Lib.hid hfin
        have hC := HC.out w4 h4 o
        clear h4 hfin o hne c5
        go_wp2_with (refine hC.mono ?_; rintro e w5 ⟨rfl, h6⟩; have h7 := HF.out w5 h6)
        exact h7
  | true =>
    have c4 := h2.bc i hi2 4 _ rfl
    have f4 := h2.bf (i * 6 + 4)
    have h3 := h2.setB i 4 (.bool true) (s.b i).tick hi2 (by omega) (by
        show _ = List.set (bcells (upd s.b i _ i) (rows i)) 4 _
        rw [upd_same]; unfold Blk.tick; rw [← HD.out, Bool.or_true]; rfl) (by
        show _ = (upd s.b i _ i).pages
        rw [upd_same]; rfl) (by
        have h9 : (upd s.b i { s.b i with doom := (s.b i).doom - 1 } i).doom ≤ _ := h2.wf.doom i hi2
        rw [upd_same] at h9; exact h9)
    have o3 := o12.setCell (o := i * 6 + 4) h2.rhb (.bool true)
    dsimp only at h3
    rw [upd_upd] at h3
    clear h2 o12 hi2
    go_wp2_with fail
    clear c4 f4
    refine (reachedG h3).mono ?_
    rintro e w4 ⟨rfl, h4, o4⟩
    have o := o3.trans o4
    clear h3 o3 o4
    rw [HT.out] at h4
    dsimp only
    obtain ⟨d2, hd2⟩ : ∃ d2, d2 = (s.armed == 1) := ⟨_, rfl⟩
    rw [← hd2]
    have HD2 := Lib.hid hd2
    clear hd2
    have hi4 : i < (s.tick i).n := hi
    cases d2 with
    | true =>
      have c4 := h4.gc 4 _ rfl
      have c5 := h4.gc 5 _ rfl
      have hgf := h4.gf
      have hwf : Wf { s.tick i with off := true } := by obtain ⟨a1, a2, a3, a4, a5, a6, a7, a8⟩ := h4.wf; exact ⟨a1, a2, a3, a4, a5, a6, a7, a8⟩
      have hwf2 : Wf { s.tick i with off := true, begun := bg } := by obtain ⟨a1, a2, a3, a4, a5, a6, a7, a8⟩ := h4.wf; exact ⟨a1, a2, a3, a4, a5, a6, a7, a8⟩
      have h5 := h4.setG 4 (.bool true) { s.tick i with off := true } bv (by omega) rfl rfl rfl hwf h4.begun
      have o5 := o.setCell (o := 4) h4.rg (.bool true)
      have h6 := h5.setG 5 (.func (.func K) first caps) { s.tick i with off := true, begun := bg } (.func (.func K) first caps) (by omega) rfl rfl rfl hwf2 (HB.out.keep (fun _ h => h) (fun _ _ h => h) fun d _ hR => o5.block d hR)
      have o6 := o5.setCell (o := 5) h4.rg (.func (.func K) first caps)
      have hfin : ∀ w', Become w F R g hb (.func (.func K) first caps) { s.tick i with off := true, begun := bg } w' → Q (.returned (.int .i64 9)) w' := fun w' h7 => by
        rw [← HQ.out]
        have e1 : s.operate i bg what = (9, { s.tick i with off := true, begun := bg }) := by
          unfold Arr.operate
          rw [if_pos (by simpa using HD2.out.symm)]
        rw [e1]
        exact ⟨rfl, _, h7⟩
      have HF := Lib.hid (hfin _ (h6.become o6))
      clear h4 h5 h6 hfin o o5 o6 hwf hwf2
      go_wp2
      exact HF.out
    | false =>
      obtain ⟨a, cap, hrow, hcap, c0, c1, c2, c3, c4, c5⟩ := h4.blk hi4
      have hbf := h4.bf
      have hne : s.armed ≠ 1 := by have := HD2.out; simpa using this.symm
      have hbi : (s.tick i).b i = (s.b i).tick := by simp [Arr.tick]
      rw [hbi] at c4 c5
      obtain ⟨fl, hfl⟩ : ∃ fl, fl = (s.b i).tick.fails := ⟨_, rfl⟩
      rw [← hfl] at c4
      have HFL := Lib.hid hfl
      have HBI := Lib.hid hbi
      clear hfl hbi hrow hcap c0 c1 c2 c3
      cases fl with
      | true =>
        have h5 := h4.setB i 5 (.bool true) { (s.b i).tick with failed := true } hi4 (by omega) (by rw [HBI.out]; rfl) (by rw [HBI.out]) (by have := h4.wf.doom i hi4; rw [HBI.out] at this; exact this)
        have o5 := o.setCell (o := i * 6 + 5) h4.rhb (.bool true)
        have hfin : ∀ w', Become w F R g hb bv { s.tick i with b := upd s.b i { (s.b i).tick with failed := true } } w' → Q (.returned (.int .i64 8)) w' := fun w' h6 => by
          rw [← HQ.out]
          have e1 : s.operate i bg what = (8, { s.tick i with b := upd s.b i { (s.b i).tick with failed := true } }) := by
            unfold Arr.operate
            rw [if_neg hne, if_pos HFL.out.symm]
          rw [e1]
          exact ⟨rfl, _, h6⟩
        have h6 := h5.become o5
        rw [show upd (s.tick i).b i { (s.b i).tick with failed := true } = upd s.b i { (s.b i).tick with failed := true } from upd_upd _ _ _ _] at h6
        have HF := Lib.hid (hfin _ h6)
        clear h4 h5 h6 hfin o o5 hne
        go_wp2
        exact HF.out
      | false =>
        have hfin : ∀ w', Become w4 F R g hb bv { s.tick i with b := upd s.b i (what (s.b i).tick) } w' → Q (.returned (.int .i64 0)) w' := fun w' h6 => by
          rw [← HQ.out]
          have e1 : s.operate i bg what = (0, { s.tick i with b := upd s.b i (what (s.b i).tick) }) := by
            unfold Arr.operate
            rw [if_neg hne, if_neg (by rw [← HFL.out]; simp)]
          rw [e1]
          exact ⟨rfl, _, h6.from o⟩
        have HF := Lib.hid hfin
        have hC := HC.out w4 h4 o
        clear h4 hfin o hne c5
        go_wp2_with (refine hC.mono ?_; rintro e w5 ⟨rfl, h6⟩; have h7 := HF.out w5 h6)
        exact h7
end
end Go.Proofs.YtkapnpcolmhdbaaDoor.Nd
namespace Go.Proofs.YtkapnpcolmhdbaaDoor.Nd
open Go.RowKit
open Drawbar Drawbar.Nand

/-- The call has answered, the array has become what it says, and the other memory stands. -/
def Did (w : World) (F : Nat → Prop) (g : Nat) (r : Int × Arr) (e : Ending) (w' : World) : Prop := e = .returned (.int .i64 r.1) ∧ ArrAt w' (ext F w w') g r.2 ∧ Keep F w w'

set_option maxRecDepth 100000 in
theorem operate_err (s : Arr) (i : Nat) (bg : Begun) (what : Blk → Blk) : (s.operate i bg what).1 = 9 ∨ (s.operate i bg what).1 = 8 ∨ (s.operate i bg what).1 = 0 := by
  unfold Arr.operate
  split
  · exact .inl rfl
  · split
    · exact .inr (.inl rfl)
    · exact .inr (.inr rfl)
set_option maxRecDepth 100000 in
theorem operate_n (s : Arr) (i : Nat) (bg : Begun) (what : Blk → Blk) : (s.operate i bg what).2.n = s.n ∧ (s.operate i bg what).2.pages = s.pages := by
  unfold Arr.operate
  split
  · exact ⟨rfl, rfl⟩
  · split <;> exact ⟨rfl, rfl⟩
set_option maxRecDepth 100000 in
theorem operate_fail (s : Arr) (i : Nat) (bg : Begun) (what : Blk → Blk) (h : (s.operate i bg what).1 = 8) (hb : s.begun = .no) : ((s.operate i bg what).2.b i).pages = (s.b i).pages ∧ (s.operate i bg what).2.begun = .no := by
  unfold Arr.operate at *
  split at h
  · simp at h
  · split at h
    · next h1 h2 =>
      rw [if_neg h1, if_pos h2]
      refine ⟨?_, hb⟩
      show (upd s.b i { (s.b i).tick with failed := true } i).pages = _
      rw [upd_same]; rfl
    · simp at h
set_option maxRecDepth 100000 in
theorem idle_operate (s : Arr) (i : Nat) (bg : Begun) (what : Blk → Blk) (hid : Idle s) (hoff : s.off = false) (hroom : ∀ j p, bg = .lay j p → (s.b j).pages.length < s.pages) : Idle (s.operate i bg what).2 := by
  have hb := hid.idle hoff
  unfold Arr.operate
  split
  · refine ⟨(fun h => by cases h), fun j p hj => ?_⟩
    show (upd s.b i (s.b i).tick j).pages.length < s.pages
    have := hroom j p hj
    by_cases e : j = i
    · subst e; rw [upd_same]; exact this
    · rw [upd_other _ _ _ _ e]; exact this
  · split
    · exact ⟨(fun _ => hb), (fun j p hj => by rw [show s.begun = .lay j p from hj] at hb; cases hb)⟩
    · exact ⟨(fun _ => hb), (fun j p hj => by rw [show s.begun = .lay j p from hj] at hb; cases hb)⟩

section
variable {w : World} {F R : Nat → Prop} {g hb : Nat} {rows : Nat → Value} {pv : Nat → List Value} {bv : Value} {s : Arr}

set_option maxRecDepth 100000 in
theorem did_same (h : ArrIn w F R g hb rows pv bv s) (hid : Idle s) (n : Int) {w' : World} (hw : Below w.heap.size w w') : Did w F g (n, s) (.returned (.int .i64 n)) w' :=
  ⟨rfl, ⟨hid, R, hb, rows, pv, bv, h.below hw⟩, Keep.below hw⟩
set_option maxRecDepth 100000 in
theorem did_only {R' : Nat → Prop} {bv' : Value} {s' : Arr} {w' : World} (h : ArrIn w' F R' g hb rows pv bv' s') (hid : Idle s') (n : Int) (ho : Only R' w w') : Did w F g (n, s') (.returned (.int .i64 n)) w' :=
  ⟨rfl, ⟨hid, R', hb, rows, pv, bv', by rw [ext_same F ho.size]; exact h⟩, ho.keep h.rf⟩

set_option maxRecDepth 100000 in
theorem become_did {R : Nat → Prop} {s' : Arr} {bv' : Value} {w1 w' : World} {F' : Nat → Prop} (hk : Keep F w w1) (hF' : F' = ext F w w1) (hR : ∀ d, R d → F' d) (hb' : Become w1 F' R g hb bv' s' w') (hid : Idle s') (n : Int) : Did w F g (n, s') (.returned (.int .i64 n)) w' := by
  obtain ⟨R', rows', pv', h1, h2, h3⟩ := hb'
  subst hF'
  rw [ext_ext F hk.size h2.size] at h1
  exact ⟨rfl, ⟨hid, R', hb, rows', pv', bv', h1⟩, hk.trans ⟨h2.os, h2.tape, h2.output, h2.size, fun k hk hF => h2.block k hk fun hr => hF (hR k hr)⟩⟩

set_option maxRecDepth 100000 in
theorem arm_any (h : ArrIn w F R g hb rows pv bv s) (hid : Idle s) (n : Int) (hn : n ≤ 9223372036854775807) :
    Calls Tryd.prog 25 #[.pointer (some ⟨g, 0, none⟩), .int .i64 n] w (Did w F g (s.arm n)) := by
  have c3 := h.gc 3 _ rfl
  have f3 := h.gf 3
  obtain ⟨P, hP⟩ : ∃ P, Did w F g (s.arm n) = P := ⟨_, rfl⟩
  rw [hP]
  have HP := Lib.hid hP
  clear hP
  by_cases h1 : n < 0
  · have hfin : P (.returned (.int .i64 1)) w := by
      rw [← HP.out, show s.arm n = (1, s) by unfold Arr.arm; rw [if_pos h1]]
      exact did_same h hid 1 (Below.refl _ _)
    have HF := Lib.hid hfin
    clear h hid hfin
    go_enter Tryd.func25, Tryd.ntmps25
    go_wp2
    exact HF.out
  · obtain ⟨m, rfl⟩ : ∃ m : Nat, n = m := ⟨n.toNat, by omega⟩
    have hwf : Wf { s with armed := m } := by obtain ⟨a1, a2, a3, a4, a5, a6, a7, a8⟩ := h.wf; exact ⟨a1, a2, a3, a4, a5, by show m ≤ _; omega, a7, a8⟩
    have h5 := h.setG 3 (.int .i64 m) { s with armed := m } bv (by omega) rfl rfl rfl hwf h.begun
    have hfin : P (.returned (.int .i64 0)) (w.setCell ⟨g, 3, none⟩ (.int .i64 m)) := by
      rw [← HP.out, show s.arm m = (0, { s with armed := m }) by unfold Arr.arm; rw [if_neg h1]; rfl]
      exact did_only h5 ⟨hid.idle, hid.room⟩ 0 ((Only.refl _ _).setCell h.rg _)
    have HF := Lib.hid hfin
    clear h hid hfin h5 hwf hn
    go_enter Tryd.func25, Tryd.ntmps25
    go_wp2
    exact HF.out

end
end Go.Proofs.YtkapnpcolmhdbaaDoor.Nd
namespace Go.Proofs.YtkapnpcolmhdbaaDoor.Nd
open Go.RowKit
open Drawbar Drawbar.Nand

def pg (n : Nat) : List Nat := (List.range 96).map fun i => (n + i * 7) % 256
set_option maxRecDepth 100000 in
theorem pg_length (n : Nat) : (pg n).length = 96 := by simp [pg]
set_option maxRecDepth 100000 in
theorem pg_lt (n : Nat) : ∀ x ∈ pg n, x < 256 := by
  intro x hx; unfold pg at hx; obtain ⟨i, _, rfl⟩ := List.mem_map.1 hx; omega
set_option maxRecDepth 100000 in
theorem pg_getD (n k : Nat) (h : k < 96) : (pg n).getD k 0 = (n + k * 7) % 256 := by
  rw [List.getD_eq_getElem?_getD]; simp [pg, h]

/-- A row of 96 bytes that was filled as far as the k-th. -/
def fill (f : List Nat) (k : Nat) : List Value := (f.take k ++ List.replicate (96 - k) 0).map bv
set_option maxRecDepth 100000 in
theorem fill_set (f : List Nat) (k : Nat) (hf : f.length = 96) (hk : k < 96) : (fill f k).set k (bv (f.getD k 0)) = fill f (k + 1) := by
  unfold fill
  rw [← List.map_set, List.set_append_right _ _ (by rw [List.length_take]; omega)]
  congr 1
  rw [List.length_take, Nat.min_eq_left (by omega), Nat.sub_self, take_getD f k (by omega), List.append_assoc]
  congr 1
  rw [show 96 - k = (96 - (k + 1)) + 1 by omega, List.replicate_succ]
  rfl
set_option maxRecDepth 100000 in
theorem fill_all (f : List Nat) (hf : f.length = 96) : fill f 96 = f.map bv := by
  unfold fill; rw [List.take_of_length_le (by omega)]; simp
set_option maxRecDepth 100000 in
theorem fill_length (f : List Nat) (k : Nat) (hf : f.length = 96) (hk : k ≤ 96) : (fill f k).length = 96 := by
  unfold fill; simp; omega
set_option maxRecDepth 100000 in
theorem made_fill (f : List Nat) : (madeCells #[Value.int .u8 0] 96).toList = fill f 0 := by
  rw [toList_madeCells_one]
  simp [fill, bv]

def OwnsPage (w : World) (B g : Nat) (xs : List Value) : Prop := w.ownsRow B 5 1 (.slice (some ⟨g, 0, none⟩) 96 96) 96 xs

set_option maxRecDepth 100000 in
theorem OwnsPage.page {w : World} {B g : Nat} {l : List Nat} (h : OwnsPage w B g (l.map bv)) (hl : ∀ x ∈ l, x < 256) (h96 : l.length = 96) : PageAt w (.slice (some ⟨g, 0, none⟩) 96 96) l := by
  obtain ⟨g2, cap, e, h1, h2, _⟩ := rd_of_own' h hl (by omega) (by omega)
  simp only [Value.slice.injEq, Option.some.injEq, Addr.mk.injEq, and_true] at e
  obtain ⟨rfl, _, rfl⟩ := e
  exact ⟨g, 0, 96, rfl, by omega, h96, h2⟩

/-- A page's bytes in new memory. -/
def NewPage (w : World) (l : List Nat) (e : Ending) (w' : World) : Prop :=
  ∃ d, e = .returned (.slice (some ⟨d, 0, none⟩) 96 96) ∧ w.heap.size ≤ d ∧ OwnsPage w' w.heap.size d (l.map bv) ∧ Below w.heap.size w w'

end Go.Proofs.YtkapnpcolmhdbaaDoor.Nd
namespace Drawbar
open Go Go.RowKit
section
variable {P : Program}
set_option maxRecDepth 100000 in
theorem run_append_row (w : World) (t ty e : TypeId) (i : TypeInfo) (z : Value) (size bytes : Nat) (ht : P.underlying t = some (.slice e)) (hi : P.info? e = some i) (hz : i.zero = some z)
    (hsize : i.size = size) (hby : i.bytes = bytes) (hzs : z.cells.size = size) (hsz : 0 < size)
    (v : Value) (n : Nat) (xs : List Value) (h : w.ownsRow 0 e size v n xs)
    (a : Addr) (m c : Nat) (news : List Value) (hl : news.length = m * size) (hnews : ∀ j u, news[j]? = some u → w.cell? (a.add j) = some u) (h1 : ∀ u ∈ news, u.oneCell' = true)
    (h63 : n + m ≤ maxLen) (hbytes : (n + m) * bytes ≤ 140737488355328) :
    ∃ v' w', (Builtin.append_ #[t, t] ty #[v, .slice (some a) m c]).run P w = .ok v' w' ∧ w'.ownsRow 0 e size v' (n + m) (xs ++ news) ∧ w.grownBy w' v.ownBlock ∧ (∀ d, v'.ownBlock = some d → v.ownBlock = some d ∨ w.heap.size ≤ d) := by
  rcases h.2 with ⟨rfl, h0⟩ | ⟨g, cap, cur, rfl, hb, hg, hnc, hcm, hcs, htake⟩
  · subst h0
    obtain rfl : xs = [] := List.eq_nil_of_length_eq_zero (by simpa using h.1)
    obtain ⟨v', w', hr, g1, g2, _⟩ := run_append_own (P := P) w w.heap.size t ty e i z size bytes ht hi hz hsize hby hzs hsz (.slice none 0 0) 0 [] (World.ownsRow_nil w _ e size) a m c news hl hnews h1 h63 hbytes (Nat.le_refl _)
    exact ⟨v', w', hr, ownsRow_base g1 (Nat.zero_le _), g2, fun d hd => .inr (g1.lt d hd).1⟩
  · by_cases hroom : n + m ≤ cap
    · obtain ⟨v', w', hr, g1, g2, _⟩ := run_append_own (P := P) w 0 t ty e i z size bytes ht hi hz hsize hby hzs hsz _ n xs h a m c news hl hnews h1 h63 hbytes (Nat.zero_le _)
      subst hsize
      have hfit : n * i.size + news.length ≤ cur.size := by rw [hl, hcs, ← Nat.add_mul]; exact Nat.mul_le_mul_right _ hroom
      have hr2 := run_append_room (P := P) w t ty e i ht hi g n cap cur hg a m c news hl hnews h1 hroom hfit
      have hv' : v' = .slice (some ⟨g, 0, none⟩) (n + m) cap := by
        have := hr.symm.trans hr2
        injection this with e1 _
      exact ⟨v', w', hr, g1, g2, fun d hd => .inl (by rw [hv'] at hd; exact hd)⟩
    · obtain ⟨v', w', hr, g1, g2⟩ := run_append_arg_grows (P := P) w t ty e i z size bytes ht hi hz hsize hby hzs hsz ⟨g, 0, none⟩ n cap xs h.1 (h.cells (g := g) rfl) a m c news hl hnews (by omega) h63 hbytes
      exact ⟨v', w', hr, ownsRow_base g1 (Nat.zero_le _), ⟨g2.os, g2.tape, g2.output, g2.size, fun k hk _ => g2.block k hk (by simp)⟩, fun d hd => .inr (g1.lt d hd).1⟩

set_option maxRecDepth 100000 in
theorem wpList_append_row {w : World} {ops : Array Oper} {rest : List Oper} {o : Oper} {a : Act} {Q : Exit → Act → World → Prop} (hgd : o.guard = none) (s x : Operand) (t : TypeId)
    (ho : o.op = .call { callee := .builtin .append, args := #[s, x], argTypes := #[t, t] })
    (e : TypeId) (i : TypeInfo) (z : Value) (size bytes : Nat) (ht : P.underlying t = some (.slice e)) (hi : P.info? e = some i) (hz : i.zero = some z)
    (hsize : i.size = size) (hby : i.bytes = bytes) (hzs : z.cells.size = size) (hsz : 0 < size)
    (v : Value) (n : Nat) (xs : List Value) (hs : a.eval s = v) (h : w.ownsRow 0 e size v n xs)
    (ad : Addr) (m c : Nat) (news : List Value) (hx : a.eval x = .slice (some ad) m c) (hl : news.length = m * size) (hnews : ∀ j u, news[j]? = some u → w.cell? (ad.add j) = some u) (h1 : ∀ u ∈ news, u.oneCell' = true)
    (h63 : n + m ≤ maxLen) (hbytes : (n + m) * bytes ≤ 140737488355328)
    (hK : ∀ v' w', w'.ownsRow 0 e size v' (n + m) (xs ++ news) → w.grownBy w' v.ownBlock → (∀ d, v'.ownBlock = some d → v.ownBlock = some d ∨ w.heap.size ≤ d) → wpList P ops Q rest (a.put o.dst v') w') :
    wpList P ops Q (o :: rest) a w := by
  refine wpList_plain hgd fun K hK' => ?_
  obtain ⟨v', w', hrun, r1, r2, r3⟩ := run_append_row (P := P) w t o.type e i z size bytes ht hi hz hsize hby hzs hsz v n xs h ad m c news hl hnews h1 h63 hbytes
  unfold Oper.wp
  simp [execOp, ho, resolve, invoke, builtin, hs, hx, hrun, Result.andThen]
  exact hK' _ _ (hK v' w' r1 r2 r3)
end
end Drawbar
