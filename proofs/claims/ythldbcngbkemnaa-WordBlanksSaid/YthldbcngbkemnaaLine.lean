/- The line's machine (package word) as plain data, and in memory. -/
import Derived.Test.YthldbcngbkemnaaBytes
import Derived.Test.YthldbcngbkemnaaRow
import Derived.Test.YthldbcngbkemnaaRuneLen
import Derived.Deep.AppendLies
namespace Drawbar.Line
open Go.Proofs.Ythldbcngbkemnaa (strOf rlen)

/-- The bytes of a sign. -/
def enc (r : Nat) : List Nat :=
  if r < 128 then [r] else if r < 2048 then [192 + r / 64, 128 + r % 64] else if r < 65536 then [224 + r / 4096, 128 + r / 64 % 64, 128 + r % 64] else [240 + r / 262144, 128 + r / 4096 % 64, 128 + r / 64 % 64, 128 + r % 64]

/-- A line so far: the words that are done, the one that has begun, where it has come to. -/
structure Ln where
  words : List ByteArray
  word : List Nat
  at' : Nat

def Ln.add (l : Ln) (r : Nat) : Nat × Ln := if 200 < l.word.length + rlen r then (2, l) else (0, { l with word := l.word ++ enc r })
def Ln.part (l : Ln) : Ln := ⟨if l.at' = 0 then l.words else l.words ++ [strOf l.word], [], 0⟩
def isPart (r : Nat) : Bool := r == 32 || r == 9 || r == 12288
def isPlain (r : Nat) : Bool := decide (32 < r) && r != 127 && r != 34 && r != 12288
def Ln.takeQuoted (l : Ln) (r : Nat) : Nat × Ln :=
  if r = 34 then (0, { l with at' := 4 }) else if r = 92 then (0, { l with at' := 3 }) else if r < 32 then (14, l) else l.add r
def Ln.takeSlashed (l : Ln) (r : Nat) : Nat × Ln :=
  if r = 34 ∨ r = 92 then ({ l with at' := 2 } : Ln).add r else if r = 110 then ({ l with at' := 2 } : Ln).add 10 else if r = 116 then ({ l with at' := 2 } : Ln).add 9 else (14, { l with at' := 2 })
def Ln.takeBare (l : Ln) (r : Nat) : Nat × Ln :=
  if isPart r = true then (0, l.part) else if r = 34 ∧ l.at' = 0 then (0, { l with at' := 2 }) else if l.at' = 4 ∨ isPlain r = false then (14, l) else ({ l with at' := 1 } : Ln).add r
def Ln.take (l : Ln) (r : Nat) : Nat × Ln := if l.at' = 2 then l.takeQuoted r else if l.at' = 3 then l.takeSlashed r else l.takeBare r
def Ln.end' (l : Ln) : Nat × Ln := if l.at' = 2 ∨ l.at' = 3 then (14, l) else (0, l.part)
end Drawbar.Line
namespace Go.Proofs.Ythldbcngbkemnaa
open Go.RowKit
open Drawbar Drawbar.Line

theorem enc_lt (r : Nat) (h : r ≤ 1114111) : ∀ x ∈ enc r, x < 256 := by
  unfold enc
  intro x hx
  split at hx
  · simp at hx; omega
  split at hx
  · simp at hx; omega
  split at hx
  · simp at hx; omega
  · simp at hx; omega
theorem enc_length (r : Nat) : (enc r).length = rlen r := by
  unfold enc rlen
  repeat' split
  all_goals rfl

/-- A line in the block bl. -/
structure LineIn (W : World) (B bl : Nat) (v1 v2 : Value) (l : Ln) : Prop where
  c0 : W.cell? ⟨bl, 0, none⟩ = some v1
  c1 : W.cell? ⟨bl, 1, none⟩ = some v2
  c2 : W.cell? ⟨bl, 2, none⟩ = some (.int .u8 l.at')
  fz : ∀ k, W.frozen? ⟨bl, k, none⟩ = false
  r1 : W.ownsRow 0 9 1 v1 l.words.length (l.words.map Value.string)
  r2 : W.ownsRow 0 5 1 v2 l.word.length (l.word.map bv)
  lt : ∀ x ∈ l.word, x < 256
  n1 : v1.ownBlock ≠ some bl
  n2 : v2.ownBlock ≠ some bl
  n12 : ∀ d, v1.ownBlock = some d → v2.ownBlock ≠ some d
  base : B ≤ bl
  b1 : ∀ d, v1.ownBlock = some d → B ≤ d
  b2 : ∀ d, v2.ownBlock = some d → B ≤ d
  len : l.word.length ≤ 200
  at5 : l.at' < 5

/-- Blocks of cells, from B on, alone have changed. -/
structure Turned (B : Nat) (W W' : World) : Prop where
  below : Below B W W'
  iters : ∀ (k : Nat) (s : ByteArray) (p : Nat), W.heap[k]? = some (Obj.stringIter s p) → W'.heap[k]? = some (Obj.stringIter s p)
theorem Turned.refl (B : Nat) (W : World) : Turned B W W := ⟨Below.refl _ _, fun _ _ _ h => h⟩
theorem Turned.trans {B : Nat} {W W1 W2 : World} (h : Turned B W W1) (h2 : Turned B W1 W2) : Turned B W W2 := ⟨h.below.trans h2.below, fun k s p hk => h2.iters k s p (h.iters k s p hk)⟩
theorem Turned.drew {B : Nat} {W W1 : World} (h : Turned B W W1) : Turned B W W1.drew := ⟨h.below.drew, h.iters⟩
theorem Turned.setCell {B : Nat} {W W1 : World} (h : Turned B W W1) {g o : Nat} (hB : B ≤ g) (x u : Value) (hc : W1.cell? ⟨g, o, none⟩ = some u) : Turned B W (W1.setCell ⟨g, o, none⟩ x) :=
  ⟨h.below.setCell (p := ⟨g, o, none⟩) hB x, fun k s p hk => by
    have h1 := h.iters k s p hk
    have hne : k ≠ g := fun e => by
      subst e
      unfold World.cell? at hc
      rw [h1] at hc
      cases hc
    exact (Below.heap_setCell _ _ _ _ hne).trans h1⟩
theorem Turned.alloc {B : Nat} {W W1 : World} (h : Turned B W W1) (hB : B ≤ W1.heap.size) (o : Obj) : Turned B W (W1.alloc o) :=
  ⟨h.below.alloc hB o, fun k s p hk => by
    have h1 := h.iters k s p hk
    have hk2 : k < W1.heap.size := (Array.getElem?_eq_some_iff.1 h1).1
    exact (Below.heap_alloc _ _ _ hk2).trans h1⟩
theorem Turned.grown {B : Nat} {W W1 W2 : World} {e : TypeId} {size n : Nat} {v : Value} {xs : List Value} (h : Turned B W W1) (hg : W1.grownBy W2 v.ownBlock) (hB : B ≤ W1.heap.size) (hr : ∀ d, v.ownBlock = some d → B ≤ d) (hown : W1.ownsRow 0 e size v n xs) : Turned B W W2 :=
  ⟨h.below.grown hg hB hr, fun k s p hk => by
    have h1 := h.iters k s p hk
    have hk2 : k < W1.heap.size := (Array.getElem?_eq_some_iff.1 h1).1
    refine (hg.block k hk2 fun e2 => ?_).trans h1
    rcases hown.2 with ⟨rfl, _⟩ | ⟨g, cap, cur, rfl, _, hgg, _⟩
    · cases e2
    · obtain rfl : k = g := by simpa [Value.ownBlock] using e2
      rw [h1] at hgg
      cases hgg⟩

section
variable {W : World} {B bl : Nat} {v1 v2 : Value} {l : Ln}
theorem row_of {W : World} {e : TypeId} {size : Nat} {v : Value} {n : Nat} {xs : List Value} (h : W.ownsRow 0 e size v n xs) {W' : World} (hk : ∀ d, v.ownBlock = some d → W'.heap[d]? = W.heap[d]?) : W'.ownsRow 0 e size v n xs := by
  refine ⟨h.1, ?_⟩
  rcases h.2 with hn | ⟨g, cap, cur, rfl, hb, hgg, rest⟩
  · exact .inl hn
  · exact .inr ⟨g, cap, cur, rfl, hb, (hk g rfl).trans hgg, rest⟩
theorem LineIn.keep (h : LineIn W B bl v1 v2 l) {W' : World} (hb : W'.heap[bl]? = W.heap[bl]?) (h1 : ∀ d, v1.ownBlock = some d → W'.heap[d]? = W.heap[d]?) (h2 : ∀ d, v2.ownBlock = some d → W'.heap[d]? = W.heap[d]?) : LineIn W' B bl v1 v2 l :=
  ⟨(World.cell?_of_block (a := ⟨bl, 0, none⟩) hb).trans h.c0, (World.cell?_of_block (a := ⟨bl, 1, none⟩) hb).trans h.c1, (World.cell?_of_block (a := ⟨bl, 2, none⟩) hb).trans h.c2, fun k => (World.frozen?_of_block (a := ⟨bl, k, none⟩) hb).trans (h.fz k),
    row_of h.r1 h1, row_of h.r2 h2, h.lt, h.n1, h.n2, h.n12, h.base, h.b1, h.b2, h.len, h.at5⟩
theorem LineIn.below (h : LineIn W B bl v1 v2 l) {W' : World} (hw : Below W.heap.size W W') : LineIn W' B bl v1 v2 l :=
  h.keep (hw.block bl (World.block_lt_of_cell? W _ h.c0)) (fun d hd => hw.block d (h.r1.lt d hd).2) (fun d hd => hw.block d (h.r2.lt d hd).2)
/-- The state's cell. -/
theorem LineIn.setAt (h : LineIn W B bl v1 v2 l) (x : Nat) (hx : x < 5) : LineIn (W.setCell ⟨bl, 2, none⟩ (.int .u8 x)) B bl v1 v2 { l with at' := x } := by
  have ho : ∀ d, d ≠ bl → (W.setCell ⟨bl, 2, none⟩ (.int .u8 x)).heap[d]? = W.heap[d]? := fun d hd => Below.heap_setCell _ _ _ _ hd
  refine ⟨?_, ?_, World.cell?_setCell_same _ _ _ h.c2, fun k => by rw [World.frozen?_setCell]; exact h.fz k, row_of h.r1 fun d hd => ho d (fun e => h.n1 (e ▸ hd)), row_of h.r2 fun d hd => ho d (fun e => h.n2 (e ▸ hd)), h.lt, h.n1, h.n2, h.n12, h.base, h.b1, h.b2, h.len, hx⟩
  · rw [World.cell?_setCell_other _ _ _ _ (by simp)]; exact h.c0
  · rw [World.cell?_setCell_other _ _ _ _ (by simp)]; exact h.c1
/-- The word's cell, behind a turn of its row. -/
theorem LineIn.setWord (h : LineIn W B bl v1 v2 l) {W2 : World} (hg : W.grownBy W2 v2.ownBlock) (v : Value) (xs : List Nat) (hrow : W2.ownsRow 0 5 1 v xs.length (xs.map bv)) (hv : ∀ d, v.ownBlock = some d → v2.ownBlock = some d ∨ W.heap.size ≤ d) (hB : B ≤ W.heap.size) (hlt : ∀ x ∈ xs, x < 256) (hlen : xs.length ≤ 200) :
    LineIn (W2.setCell ⟨bl, 1, none⟩ v) B bl v1 v { l with word := xs } := by
  have hbl : bl < W.heap.size := World.block_lt_of_cell? W _ h.c0
  have hbw : W2.heap[bl]? = W.heap[bl]? := hg.block bl hbl fun e => h.n2 e.symm
  have ho : ∀ d, d ≠ bl → (W2.setCell ⟨bl, 1, none⟩ v).heap[d]? = W2.heap[d]? := fun d hd => Below.heap_setCell _ _ _ _ hd
  have h1 := (World.cell?_of_block (a := ⟨bl, 1, none⟩) hbw).trans h.c1
  have hnv : v.ownBlock ≠ some bl := fun e => by
    rcases hv bl e with h3 | h3
    · exact h.n2 h3
    · omega
  refine ⟨?_, World.cell?_setCell_same _ _ _ h1, ?_, fun k => by rw [World.frozen?_setCell]; exact (World.frozen?_of_block (a := ⟨bl, k, none⟩) hbw).trans (h.fz k), ?_, row_of hrow fun d hd => ho d (fun e => hnv (e ▸ hd)), hlt, h.n1, hnv, ?_, h.base, h.b1, ?_, hlen, h.at5⟩
  · rw [World.cell?_setCell_other _ _ _ _ (by simp)]; exact (World.cell?_of_block (a := ⟨bl, 0, none⟩) hbw).trans h.c0
  · rw [World.cell?_setCell_other _ _ _ _ (by simp)]; exact (World.cell?_of_block (a := ⟨bl, 2, none⟩) hbw).trans h.c2
  · exact row_of h.r1 fun d hd => (ho d (fun e => h.n1 (e ▸ hd))).trans (hg.block d (h.r1.lt d hd).2 fun e => h.n12 d hd e.symm)
  · intro d hd e
    rcases hv d e with h3 | h3
    · exact h.n12 d hd h3
    · exact absurd (h.r1.lt d hd).2 (Nat.not_lt.2 h3)
  · intro d hd
    rcases hv d hd with h3 | h3
    · exact h.b2 d h3
    · omega
/-- The words' cell, behind a turn of their row. -/
theorem LineIn.setWords (h : LineIn W B bl v1 v2 l) {W2 : World} (hg : W.grownBy W2 v1.ownBlock) (v : Value) (xs : List ByteArray) (hrow : W2.ownsRow 0 9 1 v xs.length (xs.map Value.string)) (hv : ∀ d, v.ownBlock = some d → v1.ownBlock = some d ∨ W.heap.size ≤ d) (hB : B ≤ W.heap.size) :
    LineIn (W2.setCell ⟨bl, 0, none⟩ v) B bl v v2 { l with words := xs } := by
  have hbl : bl < W.heap.size := World.block_lt_of_cell? W _ h.c0
  have hbw : W2.heap[bl]? = W.heap[bl]? := hg.block bl hbl fun e => h.n1 e.symm
  have ho : ∀ d, d ≠ bl → (W2.setCell ⟨bl, 0, none⟩ v).heap[d]? = W2.heap[d]? := fun d hd => Below.heap_setCell _ _ _ _ hd
  have h0 := (World.cell?_of_block (a := ⟨bl, 0, none⟩) hbw).trans h.c0
  have hnv : v.ownBlock ≠ some bl := fun e => by
    rcases hv bl e with h3 | h3
    · exact h.n1 h3
    · omega
  refine ⟨World.cell?_setCell_same _ _ _ h0, ?_, ?_, fun k => by rw [World.frozen?_setCell]; exact (World.frozen?_of_block (a := ⟨bl, k, none⟩) hbw).trans (h.fz k), row_of hrow fun d hd => ho d (fun e => hnv (e ▸ hd)), ?_, h.lt, hnv, h.n2, ?_, h.base, ?_, h.b2, h.len, h.at5⟩
  · rw [World.cell?_setCell_other _ _ _ _ (by simp)]; exact (World.cell?_of_block (a := ⟨bl, 1, none⟩) hbw).trans h.c1
  · rw [World.cell?_setCell_other _ _ _ _ (by simp)]; exact (World.cell?_of_block (a := ⟨bl, 2, none⟩) hbw).trans h.c2
  · exact row_of h.r2 fun d hd => (ho d (fun e => h.n2 (e ▸ hd))).trans (hg.block d (h.r2.lt d hd).2 fun e => h.n12 d e.symm hd)
  · intro d hd e
    rcases hv d hd with h3 | h3
    · exact h.n12 d h3 e
    · exact absurd (h.r2.lt d e).2 (Nat.not_lt.2 h3)
  · intro d hd
    rcases hv d hd with h3 | h3
    · exact h.b1 d h3
    · omega
end
end Go.Proofs.Ythldbcngbkemnaa
