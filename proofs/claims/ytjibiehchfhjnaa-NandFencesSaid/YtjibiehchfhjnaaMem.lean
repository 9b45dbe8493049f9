/- What the memory of an array (package nand) holds, and what keeps it. -/
import Derived.Test.YtjibiehchfhjnaaBytes
import Derived.Test.YtjibiehchfhjnaaState
namespace Go.Proofs.Ytjibiehchfhjnaa
open Go.RowKit
open Drawbar Drawbar.Nand

/-- A page's bytes in memory. -/
def PageAt (w : World) (v : Value) (l : List Nat) : Prop :=
  ∃ d o cap, v = .slice (some ⟨d, o, none⟩) 96 cap ∧ 96 ≤ cap ∧ l.length = 96 ∧ Rd w (some ⟨d, o, none⟩) l

def gcells (s : Arr) (hb : Nat) (bv : Value) : List Value :=
  [.slice (some ⟨hb, 0, none⟩) s.n s.n, .int .i64 s.pages, .int .u64 s.fence, .int .i64 s.armed, .bool s.off, bv, .int .i64 s.boots, .int .i64 s.ops]
def bcells (b : Blk) (row : Value) : List Value := [row, .bool b.torn, .int .i64 b.erases, .int .i64 b.doom, .bool b.fails, .bool b.failed]

/-- What was being done, as a function value. -/
def BegunAt (w : World) (F R : Nat → Prop) (hb n : Nat) (bv : Value) : Begun → Prop
  | .no => bv = .nilFunc
  | .lay i p => i < n ∧ ∃ x y v, bv = .func (.func 36) #[] #[.pointer (some ⟨x, 0, none⟩), .pointer (some ⟨y, 0, none⟩)] ∧
      w.cell? ⟨x, 0, none⟩ = some (.pointer (some ⟨hb, i * 6, none⟩)) ∧ w.cell? ⟨y, 0, none⟩ = some v ∧ PageAt w v p ∧ F x ∧ ¬ R x ∧ F y ∧ ¬ R y ∧ ∀ d, v.ownBlock = some d → F d ∧ ¬ R d
  | .erase i => i < n ∧ bv = .func (.func 38) #[.pointer (some ⟨hb, i * 6, none⟩)] #[]

structure Wf (s : Arr) : Prop where
  n0 : 0 < s.n
  n64 : s.n ≤ 64
  p0 : 0 < s.pages
  p32 : s.pages ≤ 32
  fence : s.fence < 18446744073709551616
  armed : s.armed ≤ 9223372036854775807
  doom : ∀ i, i < s.n → (s.b i).doom ≤ 9223372036854775807
  len : ∀ i, i < s.n → (s.b i).pages.length ≤ s.pages
/-- Nothing was being done where the power is on; where a page was, there is room for it. -/
structure Idle (s : Arr) : Prop where
  idle : s.off = false → s.begun = .no
  room : ∀ i p, s.begun = .lay i p → (s.b i).pages.length < s.pages

/-- The array s in memory: its own block g, that of its blocks hb; F: all of its memory; R: what is written. -/
structure ArrIn (w : World) (F R : Nat → Prop) (g hb : Nat) (rows : Nat → Value) (pv : Nat → List Value) (bv : Value) (s : Arr) : Prop where
  wf : Wf s
  gc : ∀ (k : Nat) (v : Value), (gcells s hb bv)[k]? = some v → w.cell? ⟨g, k, none⟩ = some v
  gf : ∀ k, w.frozen? ⟨g, k, none⟩ = false
  bc : ∀ i, i < s.n → ∀ (k : Nat) (v : Value), (bcells (s.b i) (rows i))[k]? = some v → w.cell? ⟨hb, i * 6 + k, none⟩ = some v
  bf : ∀ k, w.frozen? ⟨hb, k, none⟩ = false
  row : ∀ i, i < s.n → w.ownsRow 0 30 1 (rows i) (s.b i).pages.length (pv i)
  page : ∀ i, i < s.n → ∀ (j : Nat) (l : List Nat), (s.b i).pages[j]? = some l → ∃ v : Value, (pv i)[j]? = some v ∧ PageAt w v l ∧ ∀ d, v.ownBlock = some d → F d ∧ ¬ R d
  begun : BegunAt w F R hb s.n bv s.begun
  rf : ∀ d, R d → F d
  rg : R g
  rhb : R hb
  rrow : ∀ i, i < s.n → ∀ d, (rows i).ownBlock = some d → R d ∧ d ≠ g ∧ d ≠ hb
  ne : g ≠ hb
  rr : ∀ i j, i < s.n → j < s.n → i ≠ j → ∀ d, (rows i).ownBlock = some d → (rows j).ownBlock ≠ some d
  bound : ∀ d, F d → d < w.heap.size

/-- An array in memory. -/
def ArrAt (w : World) (F : Nat → Prop) (g : Nat) (s : Arr) : Prop := Idle s ∧ ∃ R hb rows pv bv, ArrIn w F R g hb rows pv bv s

def ext (F : Nat → Prop) (w w' : World) : Nat → Prop := fun k => F k ∨ (w.heap.size ≤ k ∧ k < w'.heap.size)
/-- What lies outside of F stands. -/
structure Keep (F : Nat → Prop) (w w' : World) : Prop where
  os : w'.os = w.os
  tape : w'.tape = w.tape
  output : w'.output = w.output
  size : w.heap.size ≤ w'.heap.size
  block : ∀ k, k < w.heap.size → ¬ F k → w'.heap[k]? = w.heap[k]?

theorem Keep.refl (F : Nat → Prop) (w : World) : Keep F w w := ⟨rfl, rfl, rfl, Nat.le_refl _, fun _ _ _ => rfl⟩
theorem Keep.trans {F : Nat → Prop} {w w1 w2 : World} (h : Keep F w w1) (h2 : Keep (ext F w w1) w1 w2) : Keep F w w2 :=
  ⟨h2.os.trans h.os, h2.tape.trans h.tape, h2.output.trans h.output, Nat.le_trans h.size h2.size, fun k hk hF =>
    (h2.block k (Nat.lt_of_lt_of_le hk h.size) (fun hh => hh.elim hF fun h3 => absurd hk (Nat.not_lt.2 h3.1))).trans (h.block k hk hF)⟩
theorem Keep.below {F : Nat → Prop} {w w1 : World} (h : Below w.heap.size w w1) : Keep F w w1 := ⟨h.os, h.tape, h.output, h.size, fun k hk _ => h.block k hk⟩
theorem Keep.setCell {F : Nat → Prop} {w w1 : World} (h : Keep F w w1) {g o : Nat} (hF : F g) (x : Value) : Keep F w (w1.setCell ⟨g, o, none⟩ x) :=
  ⟨h.os, h.tape, h.output, by simpa [World.setCell] using h.size, fun k hk hn => (Below.heap_setCell w1 ⟨g, o, none⟩ x k (fun e => hn (by subst e; exact hF))).trans (h.block k hk hn)⟩
theorem Keep.toBelow {F : Nat → Prop} {B : Nat} {w w1 : World} (h : Keep F w w1) (hF : ∀ k, F k → B ≤ k) (hB : B ≤ w.heap.size) : Below B w w1 :=
  ⟨h.os, h.tape, h.output, h.size, fun k hk => h.block k (Nat.lt_of_lt_of_le hk hB) (fun hf => by have := hF k hf; omega)⟩
theorem ext_ext (F : Nat → Prop) {w w1 w2 : World} (h : w.heap.size ≤ w1.heap.size) (h2 : w1.heap.size ≤ w2.heap.size) : ext (ext F w w1) w1 w2 = ext F w w2 := by
  funext k; unfold ext; apply propext; constructor
  · rintro ((h3 | h3) | h3)
    · exact .inl h3
    · exact .inr (by omega)
    · exact .inr (by omega)
  · rintro (h3 | h3)
    · exact .inl (.inl h3)
    · rcases Nat.lt_or_ge k w1.heap.size with h4 | h4
      · exact .inl (.inr (by omega))
      · exact .inr (by omega)
theorem ext_same (F : Nat → Prop) {w w1 : World} (h : w1.heap.size = w.heap.size) : ext F w w1 = F := by
  funext k; unfold ext; apply propext; constructor
  · intro h3; rcases h3 with h3 | h3
    · exact h3
    · omega
  · exact .inl

theorem Rd.keep {w w' : World} {d o : Nat} {l : List Nat} (h : Rd w (some ⟨d, o, none⟩) l) (hk : w'.heap[d]? = w.heap[d]?) : Rd w' (some ⟨d, o, none⟩) l := by
  obtain ⟨hl, hlen, hc⟩ := h
  refine ⟨hl, hlen, fun h0 => ?_⟩
  obtain ⟨b, off, e, hcell⟩ := hc h0
  cases e
  exact ⟨d, o, rfl, fun i hi => (World.cell?_of_block (a := ⟨d, o + i, none⟩) hk).trans (hcell i hi)⟩
theorem PageAt.keep {w w' : World} {v : Value} {l : List Nat} (h : PageAt w v l) (hk : ∀ d, v.ownBlock = some d → w'.heap[d]? = w.heap[d]?) : PageAt w' v l := by
  obtain ⟨d, o, cap, rfl, hc, hl, hr⟩ := h
  exact ⟨d, o, cap, rfl, hc, hl, hr.keep (hk d rfl)⟩
theorem ownsRow_keep {w w' : World} {base : Nat} {e : TypeId} {size : Nat} {v : Value} {n : Nat} {xs : List Value} (h : w.ownsRow base e size v n xs) (hk : ∀ d, v.ownBlock = some d → w'.heap[d]? = w.heap[d]?) : w'.ownsRow base e size v n xs := by
  refine ⟨h.1, ?_⟩
  rcases h.2 with hn | ⟨g, cap, cur, rfl, hb, hgg, rest⟩
  · exact .inl hn
  · exact .inr ⟨g, cap, cur, rfl, hb, (hk g rfl).trans hgg, rest⟩
theorem BegunAt.keep {w w' : World} {F F' R R' : Nat → Prop} {hb n : Nat} {bv : Value} {b : Begun} (h : BegunAt w F R hb n bv b) (hF : ∀ d, F d → F' d) (hR : ∀ d, F d → ¬ R d → ¬ R' d) (hk : ∀ d, F d → ¬ R d → w'.heap[d]? = w.heap[d]?) : BegunAt w' F' R' hb n bv b := by
  cases b with
  | no => exact h
  | erase i => exact h
  | lay i p =>
    obtain ⟨hi, x, y, v, rfl, hx, hy, hp, fx, rx, fy, ry, hv⟩ := h
    exact ⟨hi, x, y, v, rfl, (World.cell?_of_block (a := ⟨x, 0, none⟩) (hk x fx rx)).trans hx, (World.cell?_of_block (a := ⟨y, 0, none⟩) (hk y fy ry)).trans hy,
      hp.keep fun d hd => hk d (hv d hd).1 (hv d hd).2, hF x fx, hR x fx rx, hF y fy, hR y fy ry, fun d hd => ⟨hF d (hv d hd).1, hR d (hv d hd).1 (hv d hd).2⟩⟩

section
variable {w : World} {F R : Nat → Prop} {g hb : Nat} {rows : Nat → Value} {pv : Nat → List Value} {bv : Value} {s : Arr}

theorem ArrIn.keep (h : ArrIn w F R g hb rows pv bv s) {w' : World} (hk : ∀ d, F d → w'.heap[d]? = w.heap[d]?) {F' : Nat → Prop} (hF : ∀ d, F d → F' d) (hb' : ∀ d, F' d → d < w'.heap.size) : ArrIn w' F' R g hb rows pv bv s where
  wf := h.wf
  gc k v hv := (World.cell?_of_block (a := ⟨g, k, none⟩) (hk g (h.rf _ h.rg))).trans (h.gc k v hv)
  gf k := (World.frozen?_of_block (a := ⟨g, k, none⟩) (hk g (h.rf _ h.rg))).trans (h.gf k)
  bc i hi k v hv := (World.cell?_of_block (a := ⟨hb, _, none⟩) (hk hb (h.rf _ h.rhb))).trans (h.bc i hi k v hv)
  bf k := (World.frozen?_of_block (a := ⟨hb, k, none⟩) (hk hb (h.rf _ h.rhb))).trans (h.bf k)
  row i hi := ownsRow_keep (h.row i hi) fun d hd => hk d (h.rf _ (h.rrow i hi d hd).1)
  page i hi j l hl := by
    obtain ⟨v, h1, h2, h3⟩ := h.page i hi j l hl
    exact ⟨v, h1, h2.keep fun d hd => hk d (h3 d hd).1, fun d hd => ⟨hF d (h3 d hd).1, (h3 d hd).2⟩⟩
  begun := h.begun.keep hF (fun _ _ hR => hR) fun d hd _ => hk d hd
  rf d hd := hF d (h.rf d hd)
  rg := h.rg
  rhb := h.rhb
  rrow := h.rrow
  ne := h.ne
  rr := h.rr
  bound := hb'

theorem ArrIn.below (h : ArrIn w F R g hb rows pv bv s) {w' : World} (hw : Below w.heap.size w w') : ArrIn w' (ext F w w') R g hb rows pv bv s :=
  h.keep (fun d hd => hw.block d (h.bound d hd)) (fun _ => .inl) (fun d hd => by
    have := hw.size
    rcases hd with hd | hd
    · have := h.bound d hd; omega
    · omega)

/-- A store into the array's own block. -/
theorem ArrIn.setG (h : ArrIn w F R g hb rows pv bv s) (k : Nat) (v : Value) (s' : Arr) (bv' : Value) (hk : k < 8) (hc : gcells s' hb bv' = (gcells s hb bv).set k v) (hs : s'.b = s.b) (hn : s'.n = s.n) (hwf : Wf s')
    (hbg : BegunAt w F R hb s.n bv' s'.begun) : ArrIn (w.setCell ⟨g, k, none⟩ v) F R g hb rows pv bv' s' := by
  have hoth : ∀ d, d ≠ g → (w.setCell ⟨g, k, none⟩ v).heap[d]? = w.heap[d]? := fun d hd => Below.heap_setCell _ _ _ _ hd
  have hsz : (w.setCell ⟨g, k, none⟩ v).heap.size = w.heap.size := by simp [World.setCell]
  obtain ⟨u, hu⟩ : ∃ u, (gcells s hb bv)[k]? = some u := ⟨_, List.getElem?_eq_getElem (by simpa [gcells] using hk)⟩
  constructor
  · exact hwf
  · intro j x hx
    rw [hc] at hx
    by_cases hj : j = k
    · subst hj
      rw [World.cell?_setCell_same _ _ _ (h.gc _ _ hu)]
      rw [List.getElem?_set_self (by simpa [gcells] using hk)] at hx
      exact hx
    · rw [World.cell?_setCell_other _ _ _ _ (by intro e; have := congrArg Addr.off e; simp at this <;> omega)]
      rw [List.getElem?_set_ne (by omega)] at hx
      exact h.gc j x hx
  · intro j
    rw [World.frozen?_setCell]
    exact h.gf j
  · intro i hi j x hx
    rw [hs] at hx
    exact (World.cell?_of_block (a := ⟨hb, _, none⟩) (hoth hb h.ne.symm)).trans (h.bc i (hn ▸ hi) j x hx)
  · intro j
    exact (World.frozen?_of_block (a := ⟨hb, j, none⟩) (hoth hb h.ne.symm)).trans (h.bf j)
  · intro i hi
    rw [hs]
    exact ownsRow_keep (h.row i (hn ▸ hi)) fun d hd => hoth d (h.rrow i (hn ▸ hi) d hd).2.1
  · intro i hi j l hl
    rw [hs] at hl
    obtain ⟨x, h1, h2, h3⟩ := h.page i (hn ▸ hi) j l hl
    exact ⟨x, h1, h2.keep fun d hd => hoth d (fun e => (h3 d hd).2 (e ▸ h.rg)), h3⟩
  · rw [hn]
    exact hbg.keep (fun _ h => h) (fun _ _ h => h) fun d _ hR => hoth d (fun e => hR (e ▸ h.rg))
  · exact h.rf
  · exact h.rg
  · exact h.rhb
  · intro i hi; exact h.rrow i (hn ▸ hi)
  · exact h.ne
  · intro i j hi hj; exact h.rr i j (hn ▸ hi) (hn ▸ hj)
  · intro d hd; rw [hsz]; exact h.bound d hd

/-- A store into a block's own cells, but for its pages. -/
theorem ArrIn.setB (h : ArrIn w F R g hb rows pv bv s) (i k : Nat) (v : Value) (b' : Blk) (hi : i < s.n) (hk : k < 6) (hc : bcells b' (rows i) = (bcells (s.b i) (rows i)).set k v) (hp : b'.pages = (s.b i).pages) (hd : b'.doom ≤ 9223372036854775807) :
    ArrIn (w.setCell ⟨hb, i * 6 + k, none⟩ v) F R g hb rows pv bv { s with b := upd s.b i b' } := by
  have hoth : ∀ d, d ≠ hb → (w.setCell ⟨hb, i * 6 + k, none⟩ v).heap[d]? = w.heap[d]? := fun d hd => Below.heap_setCell _ _ _ _ hd
  have hsz : (w.setCell ⟨hb, i * 6 + k, none⟩ v).heap.size = w.heap.size := by simp [World.setCell]
  obtain ⟨u, hu⟩ : ∃ u, (bcells (s.b i) (rows i))[k]? = some u := ⟨_, List.getElem?_eq_getElem (by simpa [bcells] using hk)⟩
  have hpg : ∀ j, (upd s.b i b' j).pages = (s.b j).pages := fun j => by
    by_cases hj : j = i
    · subst hj; simpa using hp
    · rw [upd_other _ _ _ _ hj]
  constructor
  · obtain ⟨a1, a2, a3, a4, a5, a6, a7, a8⟩ := h.wf
    refine ⟨a1, a2, a3, a4, a5, a6, fun j hj => ?_, fun j hj => ?_⟩
    · by_cases e : j = i
      · subst e; simpa using hd
      · show (upd s.b i b' j).doom ≤ _
        rw [upd_other _ _ _ _ e]; exact a7 j hj
    · show (upd s.b i b' j).pages.length ≤ _
      rw [hpg]; exact a8 j hj
  · intro j x hx
    exact (World.cell?_of_block (a := ⟨g, j, none⟩) (hoth g h.ne)).trans (h.gc j x hx)
  · intro j
    exact (World.frozen?_of_block (a := ⟨g, j, none⟩) (hoth g h.ne)).trans (h.gf j)
  · intro j hj l x hx
    by_cases e : j = i
    · subst e
      replace hx : (bcells (upd s.b j b' j) (rows j))[l]? = some x := hx
      rw [upd_same, hc] at hx
      by_cases e2 : l = k
      · subst e2
        rw [World.cell?_setCell_same _ _ _ (h.bc j hi _ _ hu)]
        rw [List.getElem?_set_self (by simpa [bcells] using hk)] at hx
        exact hx
      · rw [World.cell?_setCell_other _ _ _ _ (by intro e; have := congrArg Addr.off e; simp at this <;> omega)]
        rw [List.getElem?_set_ne (by omega)] at hx
        exact h.bc j hi l x hx
    · replace hx : (bcells (upd s.b i b' j) (rows j))[l]? = some x := hx
      rw [upd_other _ _ _ _ e] at hx
      have hl : l < 6 := by simpa [bcells] using (List.getElem?_eq_some_iff.1 hx).1
      rw [World.cell?_setCell_other _ _ _ _ (by intro e; have := congrArg Addr.off e; simp at this <;> omega)]
      exact h.bc j hj l x hx
  · intro j
    rw [World.frozen?_setCell]
    exact h.bf j
  · intro j hj
    show World.ownsRow _ _ _ _ _ (upd s.b i b' j).pages.length _
    rw [hpg]
    exact ownsRow_keep (h.row j hj) fun d hd => hoth d (h.rrow j hj d hd).2.2
  · intro j hj m l hl
    replace hl : (upd s.b i b' j).pages[m]? = some l := hl
    rw [hpg] at hl
    obtain ⟨x, h1, h2, h3⟩ := h.page j hj m l hl
    exact ⟨x, h1, h2.keep fun d hd => hoth d (fun e => (h3 d hd).2 (e ▸ h.rhb)), h3⟩
  · exact h.begun.keep (fun _ h => h) (fun _ _ h => h) fun d _ hR => hoth d (fun e => hR (e ▸ h.rhb))
  · exact h.rf
  · exact h.rg
  · exact h.rhb
  · exact h.rrow
  · exact h.ne
  · exact h.rr
  · intro d hd; rw [hsz]; exact h.bound d hd

theorem grown_block {w2 : World} {row : Option Nat} (hg : w.grownBy w2 row) (hb o : Nat) (v : Value) (d : Nat) (h1 : d < w.heap.size) (h2 : d ≠ hb) (h3 : some d ≠ row) : (w2.setCell ⟨hb, o, none⟩ v).heap[d]? = w.heap[d]? :=
  (Below.heap_setCell _ _ _ _ h2).trans (hg.block d h1 h3)

/-- A block's pages are others: the row was appended to, or is none. -/
theorem ArrIn.setRow (h : ArrIn w F R g hb rows pv bv s) (i : Nat) (hi : i < s.n) {w2 : World} (hg : w.grownBy w2 (rows i).ownBlock) (v' : Value) (xs : List Value) (b' : Blk)
    (hrow : w2.ownsRow 0 30 1 v' b'.pages.length xs) (hv : ∀ d, v'.ownBlock = some d → (rows i).ownBlock = some d ∨ w.heap.size ≤ d)
    (hpg : ∀ (j : Nat) (l : List Nat), b'.pages[j]? = some l → ∃ v : Value, xs[j]? = some v ∧ PageAt w v l ∧ ∀ d, v.ownBlock = some d → F d ∧ ¬ R d)
    (hrest : b' = { s.b i with pages := b'.pages }) (hlen : b'.pages.length ≤ s.pages) :
    ArrIn (w2.setCell ⟨hb, i * 6, none⟩ v') (ext F w w2) (fun d => R d ∨ (w.heap.size ≤ d ∧ d < w2.heap.size)) g hb (fun j => if j = i then v' else rows j) (fun j => if j = i then xs else pv j) bv { s with b := upd s.b i b' } := by
  have hsz : (w2.setCell ⟨hb, i * 6, none⟩ v').heap.size = w2.heap.size := by simp [World.setCell]
  have hgs := hg.size
  have hF : ∀ d, F d → d ≠ hb → some d ≠ (rows i).ownBlock → (w2.setCell ⟨hb, i * 6, none⟩ v').heap[d]? = w.heap[d]? := fun d hd h2 h3 => grown_block hg _ _ _ d (h.bound d hd) h2 h3
  have hnR : ∀ d, F d → ¬ R d → (w2.setCell ⟨hb, i * 6, none⟩ v').heap[d]? = w.heap[d]? := fun d hd hR => hF d hd (fun e => hR (e ▸ h.rhb)) (fun e => hR (h.rrow i hi d e.symm).1)
  have hnR' : ∀ d, F d → ¬ R d → ¬ (R d ∨ (w.heap.size ≤ d ∧ d < w2.heap.size)) := fun d hd hR hh => hh.elim hR fun h3 => absurd (h.bound d hd) (Nat.not_lt.2 h3.1)
  have hgi : some g ≠ (rows i).ownBlock := fun e => (h.rrow i hi g e.symm).2.1 rfl
  have hhi : some hb ≠ (rows i).ownBlock := fun e => (h.rrow i hi hb e.symm).2.2 rfl
  have hhb2 : w2.heap[hb]? = w.heap[hb]? := hg.block hb (h.bound _ (h.rf _ h.rhb)) hhi
  have hrow2 := ownsRow_keep (w' := w2.setCell ⟨hb, i * 6, none⟩ v') hrow
  have hvd : ∀ d, v'.ownBlock = some d → d ≠ g ∧ d ≠ hb ∧ d < w2.heap.size ∧ (R d ∨ (w.heap.size ≤ d ∧ d < w2.heap.size)) := fun d hd => by
    have h1 := (hrow.lt d hd).2
    rcases hv d hd with h2 | h2
    · obtain ⟨a1, a2, a3⟩ := h.rrow i hi d h2
      exact ⟨a2, a3, h1, .inl a1⟩
    · have a1 := h.bound _ (h.rf _ h.rg)
      have a2 := h.bound _ (h.rf _ h.rhb)
      exact ⟨by omega, by omega, h1, .inr ⟨h2, h1⟩⟩
  constructor
  · obtain ⟨a1, a2, a3, a4, a5, a6, a7, a8⟩ := h.wf
    refine ⟨a1, a2, a3, a4, a5, a6, fun j hj => ?_, fun j hj => ?_⟩
    · show (upd s.b i b' j).doom ≤ _
      by_cases e : j = i
      · subst e; rw [upd_same, hrest]; exact a7 j hi
      · rw [upd_other _ _ _ _ e]; exact a7 j hj
    · show (upd s.b i b' j).pages.length ≤ _
      by_cases e : j = i
      · subst e; rw [upd_same]; exact hlen
      · rw [upd_other _ _ _ _ e]; exact a8 j hj
  · intro j x hx
    exact (World.cell?_of_block (a := ⟨g, j, none⟩) (hF g (h.rf _ h.rg) h.ne hgi)).trans (h.gc j x hx)
  · intro j
    exact (World.frozen?_of_block (a := ⟨g, j, none⟩) (hF g (h.rf _ h.rg) h.ne hgi)).trans (h.gf j)
  · intro j hj l x hx
    have hcell : ∀ o, w2.cell? ⟨hb, o, none⟩ = w.cell? ⟨hb, o, none⟩ := fun o => World.cell?_of_block hhb2
    have hl : l < 6 := by simpa [bcells] using (List.getElem?_eq_some_iff.1 hx).1
    by_cases e : j = i
    · subst e
      replace hx : (bcells (upd s.b j b' j) (if j = j then v' else rows j))[l]? = some x := hx
      rw [upd_same, if_pos rfl, hrest] at hx
      by_cases e2 : l = 0
      · subst e2
        have h0 := h.bc j hi 0 _ rfl
        rw [Nat.add_zero] at h0 ⊢
        rw [World.cell?_setCell_same _ _ _ ((hcell _).trans h0)]
        simpa [bcells] using hx
      · rw [World.cell?_setCell_other _ _ _ _ (by intro e; have := congrArg Addr.off e; simp at this <;> omega), hcell]
        refine h.bc j hi l x ?_
        obtain ⟨m, rfl⟩ : ∃ m, l = m + 1 := ⟨l - 1, by omega⟩
        simpa [bcells] using hx
    · replace hx : (bcells (upd s.b i b' j) (if j = i then v' else rows j))[l]? = some x := hx
      rw [upd_other _ _ _ _ e, if_neg e] at hx
      rw [World.cell?_setCell_other _ _ _ _ (by intro e; have := congrArg Addr.off e; simp at this <;> omega), hcell]
      exact h.bc j hj l x hx
  · intro j
    rw [World.frozen?_setCell]
    exact (World.frozen?_of_block (a := ⟨hb, j, none⟩) hhb2).trans (h.bf j)
  · intro j hj
    show World.ownsRow _ _ _ _ (if j = i then v' else rows j) (upd s.b i b' j).pages.length (if j = i then xs else pv j)
    by_cases e : j = i
    · subst e
      rw [upd_same, if_pos rfl, if_pos rfl]
      exact hrow2 fun d hd => Below.heap_setCell _ _ _ _ (hvd d hd).2.1
    · rw [upd_other _ _ _ _ e, if_neg e, if_neg e]
      exact ownsRow_keep (h.row j hj) fun d hd => hF d (h.rf _ (h.rrow j hj d hd).1) (h.rrow j hj d hd).2.2 fun e2 => h.rr j i hj hi e d hd e2.symm
  · intro j hj m l hl
    replace hl : (upd s.b i b' j).pages[m]? = some l := hl
    show ∃ v, (if j = i then xs else pv j)[m]? = some v ∧ _
    have fin : ∀ v : Value, PageAt w v l → (∀ d, v.ownBlock = some d → F d ∧ ¬ R d) → PageAt (w2.setCell ⟨hb, i * 6, none⟩ v') v l ∧ ∀ d, v.ownBlock = some d → ext F w w2 d ∧ ¬ (R d ∨ (w.heap.size ≤ d ∧ d < w2.heap.size)) := fun v h2 h3 =>
      ⟨h2.keep fun d hd => hnR d (h3 d hd).1 (h3 d hd).2, fun d hd => ⟨.inl (h3 d hd).1, hnR' d (h3 d hd).1 (h3 d hd).2⟩⟩
    by_cases e : j = i
    · subst e
      rw [upd_same] at hl
      rw [if_pos rfl]
      obtain ⟨x, h1, h2, h3⟩ := hpg m l hl
      exact ⟨x, h1, fin x h2 h3⟩
    · rw [upd_other _ _ _ _ e] at hl
      rw [if_neg e]
      obtain ⟨x, h1, h2, h3⟩ := h.page j hj m l hl
      exact ⟨x, h1, fin x h2 h3⟩
  · exact h.begun.keep (fun _ h => .inl h) hnR' hnR
  · intro d hd
    rcases hd with hd | hd
    · exact .inl (h.rf d hd)
    · exact .inr hd
  · exact .inl h.rg
  · exact .inl h.rhb
  · intro j hj d hd
    replace hd : (if j = i then v' else rows j).ownBlock = some d := hd
    by_cases e : j = i
    · rw [if_pos e] at hd
      obtain ⟨a1, a2, _, a4⟩ := hvd d hd
      exact ⟨a4, a1, a2⟩
    · rw [if_neg e] at hd
      obtain ⟨a1, a2, a3⟩ := h.rrow j hj d hd
      exact ⟨.inl a1, a2, a3⟩
  · exact h.ne
  · intro j k hj hk hjk d
    show (if j = i then v' else rows j).ownBlock = some d → (if k = i then v' else rows k).ownBlock ≠ some d
    intro hd hd2
    have key : ∀ m, m < s.n → m ≠ i → v'.ownBlock = some d → (rows m).ownBlock ≠ some d := fun m hm hmi h1 h2 => by
      rcases hv d h1 with h3 | h3
      · exact h.rr m i hm hi hmi d h2 h3
      · exact absurd (h.bound d (h.rf _ (h.rrow m hm d h2).1)) (Nat.not_lt.2 h3)
    by_cases e : j = i
    · rw [if_pos e] at hd
      rw [if_neg (by omega)] at hd2
      exact key k hk (by omega) hd hd2
    · rw [if_neg e] at hd
      by_cases e2 : k = i
      · rw [if_pos e2] at hd2
        exact key j hj e hd2 hd
      · rw [if_neg e2] at hd2
        exact h.rr j k hj hk hjk d hd hd2
  · intro d hd
    rw [hsz]
    rcases hd with hd | hd
    · have := h.bound d hd; omega
    · exact hd.2
end
end Go.Proofs.Ytjibiehchfhjnaa
