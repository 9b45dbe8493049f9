/- The contracts of octet.Reader: what its block holds, and what each call reads. The contract of Reader.Bytes, and the walk of the law OctetEnds. The contracts of bytes.Clone and Reader.Bytes once more: what they hand back lies in new memory. The contracts of bytes.Clone and Reader.Bytes once more: what they hand back lies in new memory, and is nil only without room. The contract of the document's Put and Get (drawbarref01): a number's bytes, the lowest first, in new memory. The contracts of the document's Sum and Seal (drawbarref01): CRC-32 bit by bit. The contract of the document's Open (drawbarref01). The contracts of the document's reader (drawbarref01.Reader): it reads what octet's reader reads. -/
import Derived.Test.YtkapnpcolmhdbaaDoorOcta
import Derived.Deep.RegionWith
import Derived.Deep.RegionHeld3
import Derived.Deep.RegionHeld
import Derived.BigQuiet
namespace Go.Proofs.YtkapnpcolmhdbaaDoor
open Go.RowKit
open Drawbar

/-- A reader in block g: the bytes that aren't read yet, and whether there was a fault. -/
def Rdr (w : World) (g : Nat) (l : List Nat) (bad : Bool) : Prop :=
  ∃ a cap, w.heap[g]? = some (.cells #[.slice a l.length cap, .bool bad] 162 (0, 0)) ∧ l.length ≤ cap ∧ Rd w a l ∧ (a = none → cap = 0) ∧ (0 < l.length → ∀ k, a = some k → k.block < g)

set_option maxRecDepth 100000 in
theorem ne_all {a : Option Addr} {n g : Nat} (h : 0 < n → ∀ k, a = some k → k.block < g) : 0 < n → ∀ k, a = some k → k.block ≠ g := fun h0 k hk => Nat.ne_of_lt (h h0 k hk)

set_option maxRecDepth 100000 in
theorem two_cells {w : World} {g : Nat} {u v : Value} {t : TypeId} (h : w.heap[g]? = some (.cells #[u, v] t (0, 0))) :
    w.cell? ⟨g, 0, none⟩ = some u ∧ w.cell? ⟨g, 1, none⟩ = some v ∧ w.frozen? ⟨g, 0, none⟩ = false ∧ w.frozen? ⟨g, 1, none⟩ = false := by
  simp [World.cell?, World.frozen?, h]
set_option maxRecDepth 100000 in
theorem two_set0 {w : World} {g : Nat} {u v x : Value} {t : TypeId} (h : w.heap[g]? = some (.cells #[u, v] t (0, 0))) : (w.setCell ⟨g, 0, none⟩ x).heap[g]? = some (.cells #[x, v] t (0, 0)) := by
  have hlt := lt_of_block h
  have h' : w.heap[g] = .cells #[u, v] t (0, 0) := by simpa [Array.getElem?_eq_getElem hlt] using h
  show (w.heap.modify g _)[g]? = _
  rw [Array.getElem?_eq_getElem (by simpa using hlt), Array.getElem_modify_self, h']
  rfl
set_option maxRecDepth 100000 in
theorem two_set1 {w : World} {g : Nat} {u v x : Value} {t : TypeId} (h : w.heap[g]? = some (.cells #[u, v] t (0, 0))) : (w.setCell ⟨g, 1, none⟩ x).heap[g]? = some (.cells #[u, x] t (0, 0)) := by
  have hlt := lt_of_block h
  have h' : w.heap[g] = .cells #[u, v] t (0, 0) := by simpa [Array.getElem?_eq_getElem hlt] using h
  show (w.heap.modify g _)[g]? = _
  rw [Array.getElem?_eq_getElem (by simpa using hlt), Array.getElem_modify_self, h']
  rfl
set_option maxRecDepth 100000 in
theorem grownBy_setCell (w : World) (g o : Nat) (x : Value) : w.grownBy (w.setCell ⟨g, o, none⟩ x) (some g) :=
  ⟨rfl, rfl, rfl, by simp [World.setCell], fun k _ hk => Below.heap_setCell _ _ _ _ (fun e => hk (by rw [e]))⟩
set_option maxRecDepth 100000 in
theorem grownBy_refl (w : World) (row : Option Nat) : w.grownBy w row := ⟨rfl, rfl, rfl, Nat.le_refl _, fun _ _ _ => rfl⟩
set_option maxRecDepth 100000 in
theorem grownBy_trans {w w1 w2 : World} {row : Option Nat} (h : w.grownBy w1 row) (h2 : w1.grownBy w2 row) : w.grownBy w2 row :=
  ⟨h2.os.trans h.os, h2.tape.trans h.tape, h2.output.trans h.output, Nat.le_trans h.size h2.size, fun k hk hr => (h2.block k (Nat.lt_of_lt_of_le hk h.size) hr).trans (h.block k hk hr)⟩
set_option maxRecDepth 100000 in
theorem Below.grownBy {w w' : World} (h : Below w.heap.size w w') (row : Option Nat) : w.grownBy w' row := ⟨h.os, h.tape, h.output, h.size, fun k hk _ => h.block k hk⟩

set_option maxRecDepth 100000 in
/-- Bytes that don't lie in the written block read as they did. -/
theorem Rd.grown {w w' : World} {a : Option Addr} {l : List Nat} {g : Nat} (h : Rd w a l) (hg : w.grownBy w' (some g)) (ha : 0 < l.length → ∀ k, a = some k → k.block ≠ g) : Rd w' a l := by
  obtain ⟨hl, hlen, hc⟩ := h
  refine ⟨hl, hlen, fun h0 => ?_⟩
  obtain ⟨b, off, rfl, hcell⟩ := hc h0
  exact ⟨b, off, rfl, fun i hi => hg.cell (hcell i hi) (by simpa using ha h0 _ rfl)⟩

set_option maxRecDepth 100000 in
theorem read_any (l : List Nat) (a : Option Addr) (cap : Nat) (w : World) (hr : Rd w a l) (hcap : l.length ≤ cap) (hnil : a = none → cap = 0) :
    Calls Tryd.prog 91 #[.slice a l.length cap] w fun e w' => e = .returned (.pointer (some ⟨w.heap.size, 0, none⟩)) ∧ Rdr w' w.heap.size l false ∧ Below w.heap.size w w' := by
  go_enter Tryd.func91, Tryd.ntmps91
  go_wp2
  go_ret
  refine ⟨rfl, ⟨a, cap, heap_alloc_new w _, hcap, hr.below ((Below.refl _ _).alloc (Nat.le_refl _) _), hnil, fun h0 k hk => by
    obtain ⟨b, off, rfl, hc⟩ := hr.2.2 h0
    cases hk
    exact World.block_lt_of_cell? w _ (hc 0 h0)⟩, (Below.refl _ _).alloc (Nat.le_refl _) _⟩

set_option maxRecDepth 100000 in
theorem bad_any (g : Nat) (l : List Nat) (bad : Bool) (w : World) (h : Rdr w g l bad) :
    Calls Tryd.prog 96 #[.pointer (some ⟨g, 0, none⟩)] w fun e w' => e = .returned (.bool bad) ∧ w = w' := by
  obtain ⟨a, cap, hb, _⟩ := h
  obtain ⟨h0, h1, _, _⟩ := two_cells hb
  clear hb
  go_enter Tryd.func96, Tryd.ntmps96
  go_wp2
  go_ret
  exact ⟨rfl, rfl⟩

/-- What next takes, what is left, and whether there is a fault then. -/
def nx (l : List Nat) (bad : Bool) (n m : Int) : List Nat × List Nat × Bool :=
  if bad = true ∨ n < 0 ∨ m < n ∨ (l.length : Int) < n then ([], l, true) else (l.take n.toNat, l.drop n.toNat, false)

def NextPost (w : World) (g : Nat) (r : List Nat × List Nat × Bool) (e : Ending) (w' : World) : Prop :=
  ∃ a cap, e = .returned (.slice a r.1.length cap) ∧ r.1.length ≤ cap ∧ (a = none → cap = 0) ∧ Rd w' a r.1 ∧ (0 < r.1.length → ∀ k, a = some k → k.block ≠ g) ∧ Rdr w' g r.2.1 r.2.2 ∧ w.grownBy w' (some g)

set_option maxRecDepth 100000 in
theorem next_bad (g : Nat) (l : List Nat) (n m : Int) (w : World) (h : Rdr w g l true) :
    Calls Tryd.prog 95 #[.pointer (some ⟨g, 0, none⟩), .int .i64 n, .int .i64 m] w (NextPost w g (nx l true n m)) := by
  go_enter Tryd.func95, Tryd.ntmps95
  go_wp2_with fail
  refine (bad_any g l true w h).mono ?_
  rintro e w' ⟨rfl, rfl⟩
  go_wp2
  go_ret
  exact ⟨none, 0, by simp [nx], by simp [nx], fun _ => rfl, by simpa [nx] using rd_nil w, fun _ _ h => by (cases h), by simpa [nx] using h, grownBy_refl _ _⟩

set_option maxRecDepth 100000 in
theorem next_fault (g : Nat) (l : List Nat) (n m : Int) (w : World) (h : Rdr w g l false) (hf : n < 0 ∨ m < n ∨ (l.length : Int) < n) :
    Calls Tryd.prog 95 #[.pointer (some ⟨g, 0, none⟩), .int .i64 n, .int .i64 m] w (NextPost w g (nx l false n m)) := by
  have hnx : nx l false n m = ([], l, true) := by simp [nx, hf]
  rw [hnx]
  have hbad := bad_any g l false w h
  obtain ⟨a, cap, hb, hcap, hrd, hnil, ha⟩ := h
  obtain ⟨h0, h1, f0, f1⟩ := two_cells hb
  have hset := two_set1 (x := .bool true) hb
  have hgr := grownBy_setCell w g 1 (.bool true)
  have hfin : NextPost w g ([], l, true) (.returned (.slice none 0 0)) (w.setCell ⟨g, 1, none⟩ (.bool true)) :=
    ⟨none, 0, rfl, by simp, fun _ => rfl, rd_nil _, fun _ _ h => by (cases h), ⟨a, cap, hset, hcap, hrd.grown hgr (ne_all ha), hnil, ha⟩, hgr⟩
  have HB := Lib.hid hbad
  have HF := Lib.hid hfin
  clear hbad hb hcap hrd hset hgr hfin hnx hnil ha
  go_enter Tryd.func95, Tryd.ntmps95
  go_wp2_with fail
  refine HB.out.mono ?_
  rintro e w' ⟨rfl, rfl⟩
  by_cases hn : n < 0
  · go_wp2
    go_ret
    exact HF.out
  · by_cases hm : m < n
    · go_wp2
      go_ret
      exact HF.out
    · have hl : (l.length : Int) < n := by omega
      go_wp2
      go_ret
      exact HF.out

set_option maxRecDepth 100000 in
theorem next_ok (g : Nat) (l : List Nat) (n : Nat) (m : Int) (w : World) (h : Rdr w g l false) (hn : n ≤ l.length) (hm : (n : Int) ≤ m) :
    Calls Tryd.prog 95 #[.pointer (some ⟨g, 0, none⟩), .int .i64 n, .int .i64 m] w (NextPost w g (nx l false n m)) := by
  have hnx : nx l false n m = (l.take n, l.drop n, false) := by
    unfold nx
    rw [if_neg (by simp only [Bool.false_eq_true, false_or]; omega)]
    simp
  have hadd : ∀ b off : Nat, (some (⟨b, off, none⟩ : Addr)).map (fun x => x.add n) = some ⟨b, off + n, none⟩ := fun b off => by rw [Option.map_some, Addr.add_lit]
  rw [hnx]
  have hbad := bad_any g l false w h
  obtain ⟨a, cap, hb, hcap, hrd, hnil, ha⟩ := h
  obtain ⟨h0, h1, f0, f1⟩ := two_cells hb
  have hlen := hrd.2.1
  have hfin : ∀ a2, (n < cap → a2 = a.map fun x => x.add n) → (cap = n → a2 = a) → NextPost w g (l.take n, l.drop n, false) (.returned (.slice a n cap)) (w.setCell ⟨g, 0, none⟩ (.slice a2 (l.length - n) (cap - n))) := by
    intro a2 h2 h3
    have hset := two_set0 (x := .slice a2 (l.length - n) (cap - n)) hb
    have hgr := grownBy_setCell w g 0 (.slice a2 (l.length - n) (cap - n))
    have htl : (l.take n).length = n := by rw [List.length_take]; omega
    have hdl : (l.drop n).length = l.length - n := List.length_drop
    refine ⟨a, cap, by rw [htl], by rw [htl]; omega, hnil, (hrd.take n).grown hgr (fun h => ne_all ha (by rw [htl] at h; omega)), fun h => ne_all ha (by rw [htl] at h; omega), ⟨a2, cap - n, by rw [hdl]; exact hset, by rw [hdl]; omega, ?_, ?_, ?_⟩, hgr⟩
    · rcases Nat.eq_zero_or_pos (l.length - n) with hz | hz
      · rw [List.eq_nil_of_length_eq_zero (hdl.trans hz)]; exact rd_empty _ _
      · obtain ⟨b, off, rfl, _⟩ := hrd.2.2 (by omega)
        obtain rfl := (h2 (by omega)).trans (hadd b off)
        exact (hrd.drop n).grown hgr (fun _ k hk => by cases hk; exact ne_all ha (by omega) ⟨b, off, none⟩ rfl)
    · intro h4
      rcases Nat.lt_or_ge n cap with h5 | h5
      · rw [h2 h5] at h4
        simp at h4
        rw [hnil h4]; omega
      · omega
    · intro h4 k hk
      rw [hdl] at h4
      obtain ⟨b, off, rfl, _⟩ := hrd.2.2 (by omega)
      rw [h2 (by omega), hadd] at hk
      cases hk
      exact ha (by omega) ⟨b, off, none⟩ rfl
  have HB := Lib.hid hbad
  have HF := Lib.hid hfin
  clear hbad hb hrd hfin hnx hnil ha
  have hn0 : (0 : Int) ≤ (n : Int) := by omega
  go_enter Tryd.func95, Tryd.ntmps95
  go_wp2_with fail
  refine HB.out.mono ?_
  rintro e w' ⟨rfl, rfl⟩
  have hcc : (n < cap ∧ (cap = n) = False) ∨ cap = n := by
    rcases Nat.lt_or_ge n cap with h | h
    · exact .inl ⟨h, by simp; omega⟩
    · exact .inr (by omega)
  rcases hcc with ⟨h3, h4⟩ | h3
  · go_wp2
    go_ret
    exact HF.out _ (fun _ => rfl) (fun h => by omega)
  · have hf2 := HF.out a (fun h => by omega) (fun _ => rfl)
    rw [show cap - n = 0 by omega, h3] at hf2
    have HF2 := Lib.hid hf2
    clear hf2 HF
    go_wp2
    go_ret
    exact HF2.out

set_option maxRecDepth 100000 in
theorem next_any (g : Nat) (l : List Nat) (bad : Bool) (n m : Int) (w : World) (h : Rdr w g l bad) :
    Calls Tryd.prog 95 #[.pointer (some ⟨g, 0, none⟩), .int .i64 n, .int .i64 m] w (NextPost w g (nx l bad n m)) := by
  cases bad with
  | true => exact next_bad g l n m w h
  | false =>
    by_cases hf : n < 0 ∨ m < n ∨ (l.length : Int) < n
    · exact next_fault g l n m w h hf
    · have := next_ok g l n.toNat m w h (by omega) (by omega)
      rwa [show ((n.toNat : Nat) : Int) = n by omega] at this

/-- What Num reads, what is left, and whether there is a fault then. -/
def nm (l : List Nat) (bad : Bool) (n : Int) (most : Nat) : Nat × List Nat × Bool :=
  let r := nx l bad n 8
  if most < Crc.le r.1 then (0, r.2.1, true) else (Crc.le r.1, r.2)

def NumPost (w : World) (g : Nat) (r : Nat × List Nat × Bool) (e : Ending) (w' : World) : Prop :=
  e = .returned (.int .u64 (r.1 : Nat)) ∧ Rdr w' g r.2.1 r.2.2 ∧ w.grownBy w' (some g)

set_option maxRecDepth 100000 in
theorem nx_len (l : List Nat) (bad : Bool) (n : Int) (m : Nat) : (nx l bad n m).1.length ≤ m := by
  unfold nx
  split
  · simp
  · rw [List.length_take]; omega
set_option maxRecDepth 100000 in
theorem nx_lt (l : List Nat) (bad : Bool) (n m : Int) (hl : ∀ x ∈ l, x < 256) : ∀ x ∈ (nx l bad n m).1, x < 256 := by
  unfold nx
  split
  · simp
  · exact fun x hx => hl x (List.mem_of_mem_take hx)

set_option maxRecDepth 100000 in
theorem num_any (g : Nat) (l : List Nat) (bad : Bool) (n : Int) (most : Nat) (w : World) (h : Rdr w g l bad) :
    Calls Tryd.prog 92 #[.pointer (some ⟨g, 0, none⟩), .int .i64 n, .int .u64 most] w (NumPost w g (nm l bad n most)) := by
  have hnext := next_any g l bad n 8 w h
  have hlen : (nx l bad n 8).1.length ≤ 8 := nx_len l bad n 8
  have hll : ∀ x ∈ l, x < 256 := by obtain ⟨_, _, _, _, hrd, _⟩ := h; exact hrd.1
  have hlt := Crc.le_lt _ (nx_lt l bad n 8 hll)
  have hlt2 : Crc.le (nx l bad n 8).1 < 2 ^ 64 := Nat.lt_of_lt_of_le hlt (Nat.pow_le_pow_right (by omega) (by omega))
  have hnm : nm l bad n most = if most < Crc.le (nx l bad n 8).1 then (0, (nx l bad n 8).2.1, true) else (Crc.le (nx l bad n 8).1, (nx l bad n 8).2) := rfl
  rw [hnm]
  clear hnm hlt hll h
  generalize nx l bad n 8 = r at hnext hlen hlt2
  obtain ⟨r1, r2, r3⟩ := r
  dsimp only at hlen hlt2 ⊢
  obtain ⟨res, hres, hy, hn⟩ : ∃ res, (if most < Crc.le r1 then (0, r2, true) else (Crc.le r1, r2, r3)) = res ∧ (most < Crc.le r1 → res = (0, r2, true)) ∧ (¬ most < Crc.le r1 → res = (Crc.le r1, r2, r3)) :=
    ⟨_, rfl, fun h => if_pos h, fun h => if_neg h⟩
  rw [hres]
  clear hres
  have HN := Lib.hid hnext
  clear hnext
  go_enter Tryd.func92, Tryd.ntmps92
  go_wp2_with fail
  refine HN.out.mono ?_
  rintro e w' ⟨a, cap, rfl, hcap, hnil, hrd, ha, hrr, hgr⟩
  dsimp only at hcap hrd hrr ⊢
  have hget := get_any r1 a cap w' hrd
  rw [List.take_of_length_le hlen] at hget
  obtain ⟨a2, cap2, hb, hcap2, hrd2, hnil2, ha2⟩ := hrr
  obtain ⟨c0, c1, f0, f1⟩ := two_cells hb
  have hset := two_set1 (x := .bool true) hb
  have hgr2 := grownBy_setCell w' g 1 (.bool true)
  have hp1 : most < Crc.le r1 → NumPost w g res (.returned (.int .u64 0)) (w'.setCell ⟨g, 1, none⟩ (.bool true)) := fun hlt => by
    rw [hy hlt]; exact ⟨rfl, ⟨a2, cap2, hset, hcap2, hrd2.grown hgr2 (ne_all ha2), hnil2, ha2⟩, grownBy_trans hgr hgr2⟩
  have hp2 : ¬ most < Crc.le r1 → NumPost w g res (.returned (.int .u64 (Crc.le r1 : Nat))) w' := fun hlt => by
    rw [hn hlt]; exact ⟨rfl, ⟨a2, cap2, hb, hcap2, hrd2, hnil2, ha2⟩, hgr⟩
  clear hy hn
  generalize Crc.le r1 = x at hget hp1 hp2 hlt2
  have HG := Lib.hid hget
  have H1 := Lib.hid hp1
  have H2 := Lib.hid hp2
  clear HN hget hp1 hp2 hb hset hgr hgr2 hrd hrd2 ha ha2 hnil hnil2 hcap hcap2
  by_cases hlt : most < x
  · have hd : (most : Int) < (x : Int) := by omega
    go_wp2_with fail
    refine HG.out.mono ?_
    rintro e w2 ⟨rfl, rfl⟩
    go_wp2
    go_ret
    exact H1.out hlt
  · have hd : ¬ (most : Int) < (x : Int) := by omega
    go_wp2_with fail
    refine HG.out.mono ?_
    rintro e w2 ⟨rfl, rfl⟩
    go_wp2
    go_ret
    exact H2.out hlt
end Go.Proofs.YtkapnpcolmhdbaaDoor
namespace Go.Proofs.YtkapnpcolmhdbaaDoor
open Go.RowKit
open Drawbar

/-- What Bytes reads. -/
def bts (l : List Nat) (bad : Bool) (most : Int) : List Nat × List Nat × Bool :=
  nx (nm l bad 2 65535).2.1 (nm l bad 2 65535).2.2 (nm l bad 2 65535).1 most

def BtsPost (w : World) (g : Nat) (r : List Nat × List Nat × Bool) (e : Ending) (w' : World) : Prop :=
  ∃ a cap, e = .returned (.slice a r.1.length cap) ∧ r.1.length ≤ cap ∧ Rd w' a r.1 ∧ Rdr w' g r.2.1 r.2.2 ∧ w.grownBy w' (some g)

set_option maxRecDepth 100000 in
theorem Rdr.below {w w' : World} {g : Nat} {l : List Nat} {bad : Bool} (h : Rdr w g l bad) (hb : Below w.heap.size w w') : Rdr w' g l bad := by
  obtain ⟨a, cap, h1, h2, h3, h4, h5⟩ := h
  exact ⟨a, cap, (hb.block g (lt_of_block h1)).trans h1, h2, h3.below hb, h4, h5⟩

set_option maxRecDepth 100000 in
theorem nm_lt (l : List Nat) (bad : Bool) (n : Int) (most : Nat) (hl : ∀ x ∈ l, x < 256) (hn : n ≤ 2) : (nm l bad n most).1 < 65536 := by
  unfold nm
  dsimp only
  split
  · simp
  · have h := Crc.le_lt _ (nx_lt l bad n 8 hl)
    have h2 : (nx l bad n 8).1.length ≤ 2 := by
      unfold nx
      split
      · simp
      · rw [List.length_take]; omega
    exact Nat.lt_of_lt_of_le h (Nat.le_trans (Nat.pow_le_pow_right (by omega) (Nat.mul_le_mul_left 8 h2)) (by decide))

set_option maxRecDepth 100000 in
theorem rbytes_any (g : Nat) (l : List Nat) (bad : Bool) (most : Int) (w : World) (h : Rdr w g l bad) :
    Calls Tryd.prog 93 #[.pointer (some ⟨g, 0, none⟩), .int .i64 most] w (BtsPost w g (bts l bad most)) := by
  have hnum := num_any g l bad 2 65535 w h
  have hll : ∀ x ∈ l, x < 256 := by obtain ⟨_, _, _, _, hrd, _⟩ := h; exact hrd.1
  have hlt := nm_lt l bad 2 65535 hll (by omega)
  unfold bts
  clear hll h
  generalize nm l bad 2 65535 = r at hnum hlt
  obtain ⟨x, l1, b1⟩ := r
  dsimp only at hnum hlt ⊢
  have hnext := fun w1 hrr => next_any g l1 b1 x most w1 hrr
  generalize nx l1 b1 x most = r2 at hnext
  obtain ⟨q, l2, b2⟩ := r2
  have HN := Lib.hid hnum
  have HY := Lib.hid hnext
  clear hnum hnext
  go_enter Tryd.func93, Tryd.ntmps93
  go_wp2_with fail
  refine HN.out.mono ?_
  rintro e w1 ⟨rfl, hrr, hgr⟩
  dsimp only at hrr ⊢
  have HX := Lib.hid (HY.out w1 hrr)
  clear HN HY hrr
  go_wp2_with fail
  refine HX.out.mono ?_
  rintro e w2 ⟨a, cap, rfl, hcap, hnil, hrd, ha, hrr, hgr2⟩
  dsimp only at hcap hrd hrr ⊢
  have hcl := clone_any q a cap w2 hrd hnil
  have HC := Lib.hid hcl
  clear HX hcl hrd ha
  go_wp2_with fail
  refine HC.out.mono ?_
  rintro e w3 ⟨a3, c3, rfl, hc3, hrd3, hb3⟩
  have hfin : BtsPost w g (q, l2, b2) (.returned (.slice a3 q.length c3)) w3 :=
    ⟨a3, c3, rfl, hc3, hrd3, hrr.below hb3, grownBy_trans hgr (grownBy_trans hgr2 (Below.grownBy hb3 _))⟩
  clear HC hrr hgr hgr2 hb3 hrd3
  have HF := Lib.hid hfin
  clear hfin
  go_wp2
  go_ret
  exact HF.out

set_option maxRecDepth 100000 in
theorem nm_one (x : Nat) (r : List Nat) (hx : x < 256) : nm (x :: r) false 1 255 = (x, r, false) := by
  have h1 : nx (x :: r) false 1 8 = ([x], r, false) := by
    unfold nx
    rw [if_neg (by simp only [Bool.false_eq_true, false_or, List.length_cons]; omega)]
    rfl
  unfold nm
  rw [h1]
  dsimp only
  rw [if_neg (by simp [Crc.le]; omega)]
  simp [Crc.le]

set_option maxRecDepth 100000 in
theorem nm_empty (n : Nat) (m : Nat) (hn : 1 ≤ n) : nm [] false n m = (0, [], true) := by
  have h1 : nx [] false n 8 = ([], [], true) := by
    unfold nx
    rw [if_pos (by simp; omega)]
  unfold nm
  rw [h1]
  dsimp only
  rw [if_neg (by simp [Crc.le])]
  simp [Crc.le]
set_option maxRecDepth 100000 in
theorem bts_bad (l : List Nat) (m : Int) : bts l true m = ([], l, true) := by
  have h1 : ∀ (l : List Nat) (n m : Int), nx l true n m = ([], l, true) := fun l n m => by
    unfold nx
    rw [if_pos (.inl rfl)]
  unfold bts nm
  rw [h1]
  dsimp only
  rw [if_neg (by simp [Crc.le])]
  simp [h1]

end Go.Proofs.YtkapnpcolmhdbaaDoor
namespace Go.Proofs.YtkapnpcolmhdbaaDoor
open Go.RowKit
open Drawbar

def NewAre (w : World) (l : List Nat) (e : Ending) (w' : World) : Prop :=
  ∃ a cap, e = .returned (.slice a l.length cap) ∧ l.length ≤ cap ∧ Rd w' a l ∧ Below w.heap.size w w' ∧ (0 < l.length → ∀ k, a = some k → w.heap.size ≤ k.block)

set_option maxRecDepth 100000 in
theorem clone_new (l : List Nat) (a : Option Addr) (cap : Nat) (w : World) (hr : Rd w a l) (hnil : a = none → cap = 0) : Calls Tryd.prog 46 #[.slice a l.length cap] w (NewAre w l) := by
  cases a with
  | none =>
    obtain rfl : l = [] := List.eq_nil_of_length_eq_zero (hr.ofNil rfl)
    rw [hnil rfl]
    exact (clone_nil w).mono fun e w' ⟨he, hw⟩ => ⟨none, 0, he, by simp, hw ▸ rd_nil w, hw ▸ Below.refl _ _, fun h => absurd h (by simp)⟩
  | some ad =>
    obtain ⟨i0, hi, hz0, hz1, hz2⟩ := info_parts info_u8
    have he := Lib.run_eql_slice_nil (P := Tryd.prog) w 42 5 (some ad) l.length cap 0 0 Tryd.underlying42
    have hat := hr.at
    have hlen := hr.2.1
    have hll := hr.1
    clear hr hnil
    go_enter Tryd.func46, Tryd.ntmps46
    go_wp2_with (at_builtin; refine wpList_append_tail rfl _ _ 42 rfl w.heap.size 5 i0 (.int .u8 0) 1 1 Tryd.underlying42 hi hz0 hz1 hz2 rfl (by decide) _ 0 [] rfl (.inr ⟨_, rfl, by simp, by simp, fun _ _ _ _ h => by simp at h⟩) (some ad) l.length cap (l.map bv) rfl (by simp) (by simp) (hat.alloc _) (bv_one l) ?c2 ?c3 ?c4 ?_)
    case c2 => unfold maxLen; omega
    case c3 => omega
    case c4 => simp
    intro v' w' h1 h2 h3
    have hB : Below w.heap.size w w' := ((Below.refl _ _).alloc (Nat.le_refl _) _).trans h3
    have hv : ∃ a cap, v' = .slice a l.length cap ∧ l.length ≤ cap ∧ Rd w' a l ∧ (0 < l.length → ∀ k, a = some k → w.heap.size ≤ k.block) := by
      rcases Nat.eq_zero_or_pos l.length with h0 | h0
      · obtain rfl : l = [] := List.eq_nil_of_length_eq_zero h0
        rcases h1 with h1 | ⟨ao, e, _⟩
        · obtain ⟨a, c, rfl, hc, hrd, _⟩ := rd_of_own (l := []) (by simpa using h1) (by simp) (by simp)
          exact ⟨a, c, rfl, hc, hrd, fun h => absurd h (by simp)⟩
        · exact ⟨ao, 0, by simpa using e, by simp, rd_empty _ _, fun h => absurd h (by simp)⟩
      · obtain ⟨a, c, rfl, hc, hrd, _, hfr⟩ := rd_of_own (h2 h0) (by simpa using hll) (by simpa using hlen)
        exact ⟨a, c, by simp, by simpa using hc, by simpa using hrd, fun _ k hk => (hfr k hk).1⟩
    obtain ⟨a', c', rfl, hc', hrd', hfr'⟩ := hv
    clear h1 h2 h3
    go_wp2
    go_ret
    exact ⟨a', c', rfl, hc', hrd', hB, hfr'⟩


def BtsNew (w : World) (g : Nat) (r : List Nat × List Nat × Bool) (e : Ending) (w' : World) : Prop :=
  ∃ a cap, e = .returned (.slice a r.1.length cap) ∧ r.1.length ≤ cap ∧ Rd w' a r.1 ∧ Rdr w' g r.2.1 r.2.2 ∧ w.grownBy w' (some g) ∧ (0 < r.1.length → ∀ k, a = some k → w.heap.size ≤ k.block)

set_option maxRecDepth 100000 in
theorem rbytes_new (g : Nat) (l : List Nat) (bad : Bool) (most : Int) (w : World) (h : Rdr w g l bad) :
    Calls Tryd.prog 93 #[.pointer (some ⟨g, 0, none⟩), .int .i64 most] w (BtsNew w g (bts l bad most)) := by
  have hnum := num_any g l bad 2 65535 w h
  have hll : ∀ x ∈ l, x < 256 := by obtain ⟨_, _, _, _, hrd, _⟩ := h; exact hrd.1
  have hlt := nm_lt l bad 2 65535 hll (by omega)
  unfold bts
  clear hll h
  generalize nm l bad 2 65535 = r at hnum hlt
  obtain ⟨x, l1, b1⟩ := r
  dsimp only at hnum hlt ⊢
  have hnext := fun w1 hrr => next_any g l1 b1 x most w1 hrr
  generalize nx l1 b1 x most = r2 at hnext
  obtain ⟨q, l2, b2⟩ := r2
  have HN := Lib.hid hnum
  have HY := Lib.hid hnext
  clear hnum hnext
  go_enter Tryd.func93, Tryd.ntmps93
  go_wp2_with fail
  refine HN.out.mono ?_
  rintro e w1 ⟨rfl, hrr, hgr⟩
  dsimp only at hrr ⊢
  have HX := Lib.hid (HY.out w1 hrr)
  clear HN HY hrr
  go_wp2_with fail
  refine HX.out.mono ?_
  rintro e w2 ⟨a, cap, rfl, hcap, hnil, hrd, ha, hrr, hgr2⟩
  dsimp only at hcap hrd hrr ⊢
  have hcl := clone_new q a cap w2 hrd hnil
  have HC := Lib.hid hcl
  clear HX hcl hrd ha
  go_wp2_with fail
  refine HC.out.mono ?_
  rintro e w3 ⟨a3, c3, rfl, hc3, hrd3, hb3, hfr3⟩
  have hfin : BtsNew w g (q, l2, b2) (.returned (.slice a3 q.length c3)) w3 :=
    ⟨a3, c3, rfl, hc3, hrd3, hrr.below hb3, grownBy_trans hgr (grownBy_trans hgr2 (Below.grownBy hb3 _)), fun h0 k hk => Nat.le_trans (Nat.le_trans hgr.size hgr2.size) (hfr3 h0 k hk)⟩
  clear HC hrr hgr hgr2 hb3 hrd3 hfr3
  have HF := Lib.hid hfin
  clear hfin
  go_wp2
  go_ret
  exact HF.out

end Go.Proofs.YtkapnpcolmhdbaaDoor
namespace Go.Proofs.YtkapnpcolmhdbaaDoor
open Go.RowKit
open Drawbar

set_option maxRecDepth 100000 in
theorem own_nil {w : World} {base : Nat} {e : TypeId} {size : Nat} {a : Option Addr} {n c m : Nat} {xs : List Value} (h : w.ownsRow base e size (.slice a n c) m xs) (ha : a = none) : c = 0 := by
  rcases h.2 with ⟨he, _⟩ | ⟨g, cap, cur, he, _⟩
  · injection he
  · injection he with h1
    rw [ha] at h1
    cases h1

def NewNn (w : World) (l : List Nat) (e : Ending) (w' : World) : Prop :=
  ∃ a cap, e = .returned (.slice a l.length cap) ∧ l.length ≤ cap ∧ Rd w' a l ∧ Below w.heap.size w w' ∧ (0 < l.length → ∀ k, a = some k → w.heap.size ≤ k.block) ∧ (a = none → cap = 0)

set_option maxRecDepth 100000 in
theorem clone_nn (l : List Nat) (a : Option Addr) (cap : Nat) (w : World) (hr : Rd w a l) (hnil : a = none → cap = 0) : Calls Tryd.prog 46 #[.slice a l.length cap] w (NewNn w l) := by
  cases a with
  | none =>
    obtain rfl : l = [] := List.eq_nil_of_length_eq_zero (hr.ofNil rfl)
    rw [hnil rfl]
    exact (clone_nil w).mono fun e w' ⟨he, hw⟩ => ⟨none, 0, he, by simp, hw ▸ rd_nil w, hw ▸ Below.refl _ _, fun h => absurd h (by simp), fun _ => rfl⟩
  | some ad =>
    obtain ⟨i0, hi, hz0, hz1, hz2⟩ := info_parts info_u8
    have he := Lib.run_eql_slice_nil (P := Tryd.prog) w 42 5 (some ad) l.length cap 0 0 Tryd.underlying42
    have hat := hr.at
    have hlen := hr.2.1
    have hll := hr.1
    clear hr hnil
    go_enter Tryd.func46, Tryd.ntmps46
    go_wp2_with (at_builtin; refine wpList_append_tail rfl _ _ 42 rfl w.heap.size 5 i0 (.int .u8 0) 1 1 Tryd.underlying42 hi hz0 hz1 hz2 rfl (by decide) _ 0 [] rfl (.inr ⟨_, rfl, by simp, by simp, fun _ _ _ _ h => by simp at h⟩) (some ad) l.length cap (l.map bv) rfl (by simp) (by simp) (hat.alloc _) (bv_one l) ?c2 ?c3 ?c4 ?_)
    case c2 => unfold maxLen; omega
    case c3 => omega
    case c4 => simp
    intro v' w' h1 h2 h3
    have hB : Below w.heap.size w w' := ((Below.refl _ _).alloc (Nat.le_refl _) _).trans h3
    have hv : ∃ a cap, v' = .slice a l.length cap ∧ l.length ≤ cap ∧ Rd w' a l ∧ (0 < l.length → ∀ k, a = some k → w.heap.size ≤ k.block) ∧ (a = none → cap = 0) := by
      rcases Nat.eq_zero_or_pos l.length with h0 | h0
      · obtain rfl : l = [] := List.eq_nil_of_length_eq_zero h0
        rcases h1 with h1 | ⟨ao, e, _⟩
        · obtain ⟨a, c, rfl, hc, hrd, _⟩ := rd_of_own (l := []) (by simpa using h1) (by simp) (by simp)
          exact ⟨a, c, rfl, hc, hrd, fun h => absurd h (by simp), own_nil h1⟩
        · exact ⟨ao, 0, by simpa using e, by simp, rd_empty _ _, fun h => absurd h (by simp), fun _ => rfl⟩
      · have h2' := h2 h0
        obtain ⟨a, c, rfl, hc, hrd, _, hfr⟩ := rd_of_own h2' (by simpa using hll) (by simpa using hlen)
        exact ⟨a, c, by simp, by simpa using hc, by simpa using hrd, fun _ k hk => (hfr k hk).1, own_nil h2'⟩
    obtain ⟨a', c', rfl, hc', hrd', hfr', hnn'⟩ := hv
    clear h1 h2 h3
    go_wp2
    go_ret
    exact ⟨a', c', rfl, hc', hrd', hB, hfr', hnn'⟩


def BtsNn (w : World) (g : Nat) (r : List Nat × List Nat × Bool) (e : Ending) (w' : World) : Prop :=
  ∃ a cap, e = .returned (.slice a r.1.length cap) ∧ r.1.length ≤ cap ∧ Rd w' a r.1 ∧ Rdr w' g r.2.1 r.2.2 ∧ w.grownBy w' (some g) ∧ (0 < r.1.length → ∀ k, a = some k → w.heap.size ≤ k.block) ∧ (a = none → cap = 0)

set_option maxRecDepth 100000 in
theorem rbytes_nn (g : Nat) (l : List Nat) (bad : Bool) (most : Int) (w : World) (h : Rdr w g l bad) :
    Calls Tryd.prog 93 #[.pointer (some ⟨g, 0, none⟩), .int .i64 most] w (BtsNn w g (bts l bad most)) := by
  have hnum := num_any g l bad 2 65535 w h
  have hll : ∀ x ∈ l, x < 256 := by obtain ⟨_, _, _, _, hrd, _⟩ := h; exact hrd.1
  have hlt := nm_lt l bad 2 65535 hll (by omega)
  unfold bts
  clear hll h
  generalize nm l bad 2 65535 = r at hnum hlt
  obtain ⟨x, l1, b1⟩ := r
  dsimp only at hnum hlt ⊢
  have hnext := fun w1 hrr => next_any g l1 b1 x most w1 hrr
  generalize nx l1 b1 x most = r2 at hnext
  obtain ⟨q, l2, b2⟩ := r2
  have HN := Lib.hid hnum
  have HY := Lib.hid hnext
  clear hnum hnext
  go_enter Tryd.func93, Tryd.ntmps93
  go_wp2_with fail
  refine HN.out.mono ?_
  rintro e w1 ⟨rfl, hrr, hgr⟩
  dsimp only at hrr ⊢
  have HX := Lib.hid (HY.out w1 hrr)
  clear HN HY hrr
  go_wp2_with fail
  refine HX.out.mono ?_
  rintro e w2 ⟨a, cap, rfl, hcap, hnil, hrd, ha, hrr, hgr2⟩
  dsimp only at hcap hrd hrr ⊢
  have hcl := clone_nn q a cap w2 hrd hnil
  have HC := Lib.hid hcl
  clear HX hcl hrd ha
  go_wp2_with fail
  refine HC.out.mono ?_
  rintro e w3 ⟨a3, c3, rfl, hc3, hrd3, hb3, hfr3, hnn3⟩
  have hfin : BtsNn w g (q, l2, b2) (.returned (.slice a3 q.length c3)) w3 :=
    ⟨a3, c3, rfl, hc3, hrd3, hrr.below hb3, grownBy_trans hgr (grownBy_trans hgr2 (Below.grownBy hb3 _)), fun h0 k hk => Nat.le_trans (Nat.le_trans hgr.size hgr2.size) (hfr3 h0 k hk), hnn3⟩
  clear HC hrr hgr hgr2 hb3 hrd3 hfr3
  have HF := Lib.hid hfin
  clear hfin
  go_wp2
  go_ret
  exact HF.out

end Go.Proofs.YtkapnpcolmhdbaaDoor
namespace Go.Proofs.YtkapnpcolmhdbaaDoor
open Go.RowKit
open Drawbar

set_option maxRecDepth 100000 in
theorem put_div (n k : Nat) : n / 256 ^ k % 256 = n / 2 ^ (8 * k) % 256 := by
  rw [Nat.pow_mul]

set_option maxRecDepth 100000 in
theorem refput_any (n size : Nat) (w : World) (hn : n < 2 ^ 64) (hs8 : size ≤ 8) :
    Calls Tryd.prog 54 #[.int .u64 n, .int .i64 size] w (NewBytes w (put n size)) := by
  obtain ⟨i0, hi, hz0, hz1, hz2⟩ := info_parts info_u8
  go_enter Tryd.func54, Tryd.ntmps54
  go_wp2
  go_loopw [0, 5, 6] (fun m v i wr => ∃ k : Nat, k ≤ size ∧ i = .int .i64 k ∧ m = .int .u64 (n / 256 ^ k : Nat) ∧ Below w.heap.size w wr ∧ wr.ownsRow w.heap.size 5 1 v k ((put n k).map bv)) (fun _ _ i _ => size - (intOf i).toNat)
  case atStart => exact ⟨0, Nat.zero_le _, rfl, by simp, Below.refl _ _, by simpa [put] using World.ownsRow_nil _ _ _ _⟩
  case round =>
    obtain ⟨k, hk, rfl, rfl, hbel, hown⟩ := hrel
    by_cases hlt : k < size
    · have hsz := hbel.size
      have hm : n / 256 ^ k < 2 ^ 64 := Nat.lt_of_le_of_lt (Nat.div_le_self _ _) hn
      have hX : bv (n / 256 ^ k % 256) = bv (n / 2 ^ (8 * k) % 256) := by rw [put_div]
      have hdiv : n / 256 ^ k / 256 = n / 256 ^ (k + 1) := by rw [Nat.div_div_eq_div_mul, ← Nat.pow_succ]
      have HX := Lib.hid hX
      have HD := Lib.hid hdiv
      clear hX hdiv
      generalize n / 256 ^ k = m at hm HX HD
      go_wp2_with (at_builtin; refine wpList_append_tail rfl _ _ 42 rfl w.heap.size 5 i0 (.int .u8 0) 1 1 Tryd.underlying42 hi hz0 hz1 hz2 rfl (by decide) _ _ _ rfl (.inl (hown.alloc _)) _ 1 1 [_] rfl (by simp) rfl (At.one _ _ _) ?c1 ?c2 ?c3 ?c4 ?_)
      case c1 => intro u hu; simp at hu; subst hu; rfl
      case c2 => unfold maxLen; omega
      case c3 => omega
      case c4 => simp; omega
      intro v' w' _ h2 h3
      have hB : Below w.heap.size w w' := hbel.trans (((Below.refl _ _).alloc hsz _).trans h3)
      have h2' := h2
      clear h2 h3 hown hbel
      go_wp2
      go_roundw
      case rel =>
        refine ⟨k + 1, by omega, by go_num, ?_, hB, ?_⟩
        · rw [← HD.out]; simp
        · have e : List.map bv (put n k) ++ [Value.int IntKind.u8 ((m : Int) % 256)] = List.map bv (put n (k + 1)) := by
            rw [put_succ, List.map_append, List.map_cons, ← HX.out]; simp [bv]
          rw [← e]; exact h2'
      case measure => simp [intOf]; omega
    · obtain rfl : k = size := by omega
      go_wp2
      go_ret
      exact ⟨_, rfl, by rw [put_length]; exact hown, hbel⟩
end Go.Proofs.YtkapnpcolmhdbaaDoor
namespace Go.Proofs.YtkapnpcolmhdbaaDoor
open Go.RowKit
open Drawbar

set_option maxRecDepth 100000 in
theorem shr_nat (b k : Nat) : ((b : Int) / 2 ^ k) = ((b / 2 ^ k : Nat) : Int) := by simp

set_option maxRecDepth 100000 in
theorem refsum_any (l : List Nat) (a : Option Addr) (cap : Nat) (w : World) (hr : Rd w a l) :
    Calls Tryd.prog 78 #[.slice a l.length cap] w fun e w' => e = .returned (.int .u32 (Crc.sum l : Nat)) ∧ w = w' := by
  obtain ⟨hl, hlen, hc⟩ := hr
  go_enter Tryd.func78, Tryd.ntmps78
  go_wp2
  go_loop [3, 4] (fun c i => ∃ k : Nat, k ≤ l.length ∧ i = .int .i64 k ∧ c = .int .u32 (Crc.crc Crc.full (l.take k) : Nat)) (fun _ i => l.length - (intOf i).toNat)
  case atStart => exact ⟨0, Nat.zero_le _, rfl, rfl⟩
  case round =>
    obtain ⟨k, hk, rfl, rfl⟩ := hrel
    by_cases hlt : k < l.length
    · obtain ⟨b, off, rfl, hcell⟩ := hc (by omega)
      have h1 := hcell k hlt
      have hb : l.getD k 0 < 256 := hl _ (getD_mem l k hlt)
      have hc0 : Crc.crc Crc.full (l.take k) < 2 ^ 32 := Crc.crc_lt _ (fun x hx => hl x (List.mem_of_mem_take hx)) (by unfold Crc.full; omega)
      have hfin : Crc.crc Crc.full (l.take (k + 1)) = Crc.bits (Crc.crc Crc.full (l.take k)) (l.getD k 0) 8 := by
        rw [take_getD l k hlt, Crc.crc_append, ← Crc.byte_bits _ _ hb]; rfl
      have HF := Lib.hid hfin
      clear hcell hc hfin
      generalize l.getD k 0 = b0 at h1 hb HF
      generalize Crc.crc Crc.full (l.take k) = c0 at hc0 HF
      go_wp2
      go_loop [3, 5] (fun c i => ∃ j : Nat, j ≤ 8 ∧ i = .int .i64 j ∧ c = .int .u32 (Crc.bits c0 b0 j : Nat) ∧ Crc.bits c0 b0 j < 2 ^ 32) (fun _ i => 8 - (intOf i).toNat)
      case atStart => exact ⟨0, Nat.zero_le _, rfl, rfl, hc0⟩
      case round =>
        obtain ⟨j, hj, rfl, rfl, hbl⟩ := hrel
        have hs1 : (Crc.bits c0 b0 j ^^^ b0 / 2 ^ j) % 2 = 1 → Crc.bits c0 b0 (j + 1) = (Crc.bits c0 b0 j / 2) ^^^ Crc.poly := fun h => by
          show Crc.bitStep _ _ _ = _
          unfold Crc.bitStep; rw [if_pos h]
        have hs0 : ¬ (Crc.bits c0 b0 j ^^^ b0 / 2 ^ j) % 2 = 1 → Crc.bits c0 b0 (j + 1) = Crc.bits c0 b0 j / 2 := fun h => by
          show Crc.bitStep _ _ _ = _
          unfold Crc.bitStep; rw [if_neg h]
        have h8 : 8 ≤ j → Crc.bits c0 b0 j = Crc.crc Crc.full (l.take (k + 1)) := fun h => by rw [HF.out, show j = 8 by omega]
        have hq : b0 / 2 ^ j < 256 := Nat.lt_of_le_of_lt (Nat.div_le_self _ _) hb
        have hx : bits .xor .u32 ((Crc.bits c0 b0 j : Nat) : Int) ((b0 : Int) / 2 ^ j % 4294967296) = ((Crc.bits c0 b0 j ^^^ b0 / 2 ^ j : Nat) : Int) := by
          rw [shr_nat]
          generalize b0 / 2 ^ j = q at hq ⊢
          rw [show ((q : Nat) : Int) % 4294967296 = (q : Int) by omega, u32_xor_nat _ _ (by omega) (by omega)]
        have hp : bits .xor .u32 ((Crc.bits c0 b0 j : Nat) / 2 : Int) 3988292384 = (((Crc.bits c0 b0 j / 2) ^^^ Crc.poly : Nat) : Int) := by
          rw [show ((Crc.bits c0 b0 j : Nat) / 2 : Int) = ((Crc.bits c0 b0 j / 2 : Nat) : Int) by omega, show (3988292384 : Int) = ((3988292384 : Nat) : Int) by rfl, u32_xor_nat _ _ (by omega) (by omega)]; rfl
        have hpl : (Crc.bits c0 b0 j / 2) ^^^ Crc.poly < 2 ^ 32 := Nat.xor_lt_two_pow (by omega) (by unfold Crc.poly; omega)
        have hd : ((Crc.bits c0 b0 j : Nat) / 2 : Int) = ((Crc.bits c0 b0 j / 2 : Nat) : Int) := by omega
        generalize Crc.bits c0 b0 j ^^^ b0 / 2 ^ j = y at hx hs1 hs0
        have HP := Lib.hid hp
        have HD := Lib.hid hd
        have H1 := Lib.hid hs1
        have H0 := Lib.hid hs0
        have H8 := Lib.hid h8
        have HPL := Lib.hid hpl
        clear hp hd hs1 hs0 h8 hpl
        rcases Nat.mod_two_eq_zero_or_one y with hy | hy
        · have ht : ((y : Int) % 2 == 1) = false := by simp; omega
          have HY := Lib.hid hy
          clear hy
          go_wp2
          · go_round
            case rel => exact ⟨j + 1, by omega, by go_num, by rw [HD.out, H0.out (by have := HY.out; omega)], by rw [H0.out (by have := HY.out; omega)]; omega⟩
            case measure => simp [intOf]; omega
          · go_round
            case rel => exact ⟨k + 1, by omega, by go_num, by rw [H8.out (by omega)]⟩
            case measure => simp [intOf]; omega
        · have ht : ((y : Int) % 2 == 1) = true := by simp; omega
          have HY := Lib.hid hy
          clear hy
          go_wp2
          · go_round
            case rel => exact ⟨j + 1, by omega, by go_num, by rw [HP.out, H1.out HY.out], by rw [H1.out HY.out]; exact HPL.out⟩
            case measure => simp [intOf]; omega
          · go_round
            case rel => exact ⟨k + 1, by omega, by go_num, by rw [H8.out (by omega)]⟩
            case measure => simp [intOf]; omega
    · have hkl : k = l.length := by omega
      have H := Lib.hid hkl
      have hc0 : Crc.crc Crc.full (l.take k) < 2 ^ 32 := Crc.crc_lt _ (fun x hx => hl x (List.mem_of_mem_take hx)) (by unfold Crc.full; omega)
      have hx : bits .xor .u32 ((Crc.crc Crc.full (l.take k) : Nat) : Int) 4294967295 = ((Crc.crc Crc.full (l.take k) ^^^ Crc.full : Nat) : Int) := by
        rw [show (4294967295 : Int) = ((4294967295 : Nat) : Int) by rfl, u32_xor_nat _ _ (by omega) (by omega)]; rfl
      have HX := Lib.hid hx
      clear hc hkl hx
      go_wp2
      go_ret
      exact ⟨ret_int (by rw [HX.out, H.out, List.take_length]; rfl), rfl⟩

set_option maxRecDepth 100000 in
theorem At.below {w w' : World} {ao : Option Addr} {xs : List Value} (h : At w ao xs) (hb : Below w.heap.size w w') : At w' ao xs :=
  h.mono fun p _ hp => (hb.cell (World.block_lt_of_cell? w p hp)).trans hp
set_option maxRecDepth 100000 in
theorem Tail.below {w w' : World} {base : Nat} {e : TypeId} {size : Nat} {v : Value} {n : Nat} {xs : List Value} (h : Tail w base e size v n xs) (hb : Below w.heap.size w w') : Tail w' base e size v n xs :=
  h.imp (fun h => h.kept (row := none) ⟨hb.os, hb.tape, hb.output, hb.size, fun k hk _ => hb.block k hk⟩ (by cases v.ownBlock <;> simp)) fun ⟨ao, h1, h2, h3, h4⟩ => ⟨ao, h1, h2, h3, At.below h4 hb⟩

set_option maxRecDepth 100000 in
/-- The document's Seal. -/
theorem refseal_any (l : List Nat) (a : Option Addr) (cap : Nat) (w : World) (hr : Rd w a l) (hnil : a = none → cap = 0) :
    Calls Tryd.prog 56 #[.slice a l.length cap] w (NewBytes w (l ++ put (Crc.sum l) 4)) := by
  obtain ⟨i0, hi, hz0, hz1, hz2⟩ := info_parts info_u8
  have hat := hr.at
  have hx0 : a = none → l.length = 0 ∧ cap = 0 := fun h => ⟨hr.ofNil h, hnil h⟩
  have hlen := hr.2.1
  have hsum := fun w2 (hb : Below w.heap.size w w2) => refsum_any l a cap w2 (hr.below hb)
  have hs := Crc.sum_lt l hr.1
  have HA := Lib.hid hat
  have HX0 := Lib.hid hx0
  have HSum := Lib.hid hsum
  obtain ⟨P, hP⟩ : ∃ P, NewBytes w (l ++ put (Crc.sum l) 4) = P := ⟨_, rfl⟩
  rw [hP]
  have HPP := Lib.hid hP
  clear hat hx0 hnil hr hsum hP
  generalize hss : Crc.sum l = s at hs HSum HPP
  clear hss
  have hput : ∀ w2, Calls Tryd.prog 54 #[.int .u64 s, .int .i64 4] w2 (NewBytes w2 (put s 4)) := fun w2 => refput_any s 4 w2 (by omega) (by decide)
  have HPut := Lib.hid hput
  clear hput
  go_enter Tryd.func56, Tryd.ntmps56
  go_wp2_with (at_builtin; refine wpList_append_tail rfl (.tmp 4) (.tmp 5) 42 rfl w.heap.size 5 i0 (.int .u8 0) 1 1 Tryd.underlying42 hi hz0 hz1 hz2 rfl (by decide) _ 0 [] rfl (.inl (World.ownsRow_nil _ _ _ _)) a l.length cap (l.map bv) rfl HX0.out (by simp) HA.out (bv_one l) ?c2 ?c3 ?c4 ?_)
  case c2 => unfold maxLen; omega
  case c3 => omega
  case c4 => exact Nat.le_refl _
  intro v' w2 h1 _ hb2
  have HT := Lib.hid h1
  clear h1
  go_wp2_with fail
  refine (HSum.out _ hb2).mono ?_
  rintro e w3 ⟨rfl, rfl⟩
  go_wp2_with fail
  refine (HPut.out w2).mono ?_
  rintro e w3 ⟨v3, rfl, hown3, hb3⟩
  rw [put_length] at hown3
  obtain ⟨g3, c3, rfl, _, hrd3, _⟩ := rd_of_own' (l := put s 4) (n := 4) hown3 (put_lt s 4) (by rw [put_length]; omega) (by rw [put_length]; omega)
  have hat3 := hrd3.at
  rw [put_length]
  have ht3 : Tail w3 w.heap.size 5 1 v' l.length (l.map bv) := Tail.below (Tail.below HT.out (Below.refl _ _)) hb3
  have hb4 : Below w.heap.size w w3 := hb2.trans (hb3.mono hb2.size)
  have hsz := hb4.size
  have HT3 := Lib.hid ht3
  have HA3 := Lib.hid hat3
  clear HT hown3 hrd3 hat3 ht3 hb2 hb3
  go_wp2_with (at_builtin; refine wpList_append_tail rfl (.tmp 7) (.tmp 11) 42 rfl w.heap.size 5 i0 (.int .u8 0) 1 1 Tryd.underlying42 hi hz0 hz1 hz2 rfl (by decide) _ _ _ rfl HT3.out _ 4 c3 ((put s 4).map bv) rfl (by simp) (by rw [List.length_map, put_length]) HA3.out (bv_one _) ?d2 ?d3 ?d4 ?_)
  case d2 => unfold maxLen; omega
  case d3 => omega
  case d4 => exact hsz
  intro v5 w5 _ h2 hb5
  have hfin : NewBytes w (l ++ put s 4) (.returned v5) w5 := ⟨v5, rfl, by
    have := h2
    rw [List.length_append, put_length, List.map_append]
    simpa using this, hb4.trans hb5⟩
  rw [HPP.out] at hfin
  have HF := Lib.hid hfin
  clear h2 hb5 hfin HT3 HA3
  go_wp2
  exact HF.out
end Go.Proofs.YtkapnpcolmhdbaaDoor
namespace Go.Proofs.YtkapnpcolmhdbaaDoor
open Go.RowKit
open Drawbar

/-- What the document's Open answers. -/
def RefOpens (w : World) (l : List Nat) (e : Ending) (w' : World) : Prop :=
  Below w.heap.size w w' ∧
  ((l.length < 4 ∧ e = .returned (.tuple #[.slice none 0 0, .int .i64 3])) ∨ (4 ≤ l.length ∧ ¬ valid l ∧ e = .returned (.tuple #[.slice none 0 0, .int .i64 4])) ∨
   (valid l ∧ ∃ a cap, e = .returned (.tuple #[.slice a (l.length - 4) cap, .int .i64 0]) ∧ l.length - 4 ≤ cap ∧ Rd w' a (l.take (l.length - 4))))

set_option maxRecDepth 100000 in
theorem refopen_short (l : List Nat) (a : Option Addr) (cap : Nat) (w : World) (h : l.length < 4) :
    Calls Tryd.prog 61 #[.slice a l.length cap] w (RefOpens w l) := by
  go_enter Tryd.func61, Tryd.ntmps61
  go_wp2
  go_ret2
  exact ⟨Below.refl _ _, .inl ⟨h, rfl⟩⟩

set_option maxRecDepth 100000 in
theorem strOf_inj {l m : List Nat} (hl : ∀ x ∈ l, x < 256) (hm : ∀ x ∈ m, x < 256) (h : strOf l = strOf m) : l = m := by
  have h1 : l.map UInt8.ofNat = m.map UInt8.ofNat := by
    have := congrArg (fun b : ByteArray => b.data.toList) h
    simpa [strOf] using this
  have back : ∀ q : List Nat, (∀ x ∈ q, x < 256) → (q.map UInt8.ofNat).map UInt8.toNat = q := fun q hq => by
    rw [List.map_map]
    conv => rhs; rw [← List.map_id q]
    refine List.map_congr_left fun x hx => ?_
    have := hq x hx
    simp only [Function.comp, id, UInt8.toNat_ofNat']; omega
  rw [← back l hl, ← back m hm, h1]

set_option maxRecDepth 100000 in
theorem le_inj (l m : List Nat) (hl : ∀ x ∈ l, x < 256) (hm : ∀ x ∈ m, x < 256) (hn : l.length = m.length) (h : Crc.le l = Crc.le m) : l = m := by
  induction l generalizing m with
  | nil => exact (List.eq_nil_of_length_eq_zero hn.symm).symm
  | cons x r ih =>
    cases m with
    | nil => simp at hn
    | cons y q =>
      simp only [Crc.le] at h
      have hx := hl x (by simp)
      have hy := hm y (by simp)
      have e1 : x = y := by omega
      have e2 : Crc.le r = Crc.le q := by omega
      rw [e1, ih q (fun z hz => hl z (by simp [hz])) (fun z hz => hm z (by simp [hz])) (by simpa using hn) e2]

set_option maxRecDepth 100000 in
set_option maxHeartbeats 2000000 in
theorem refopen_any (l : List Nat) (a : Option Addr) (cap : Nat) (w : World) (hr : Rd w a l) (hcap : l.length ≤ cap) :
    Calls Tryd.prog 61 #[.slice a l.length cap] w (RefOpens w l) := by
  rcases Nat.lt_or_ge l.length 4 with h | h
  · exact refopen_short l a cap w h
  obtain ⟨n, hn⟩ : ∃ n, l.length = n + 4 := ⟨l.length - 4, by omega⟩
  have hlen := hr.2.1
  obtain ⟨b, off, rfl, -⟩ := hr.2.2 (by omega)
  have htl : ∀ x ∈ l.take n, x < 256 := fun x hx => hr.1 x (List.mem_of_mem_take hx)
  have hdl : ∀ x ∈ l.drop n, x < 256 := fun x hx => hr.1 x (List.mem_of_mem_drop hx)
  have hsl := Crc.sum_lt _ htl
  have hsum : ∀ W, Below w.heap.size w W → Calls Tryd.prog 78 #[.slice (some ⟨b, off, none⟩) n cap] W fun e w' => e = .returned (.int .u32 (Crc.sum (l.take n) : Nat)) ∧ W = w' := fun W hb => by
    have := refsum_any (l.take n) (some ⟨b, off, none⟩) cap W ((hr.take n).below hb)
    rwa [List.length_take, show min n l.length = n by omega] at this
  have hput : ∀ W, Calls Tryd.prog 54 #[.int .u64 (Crc.sum (l.take n) : Nat), .int .i64 4] W (NewBytes W (put (Crc.sum (l.take n)) 4)) := fun W => refput_any (Crc.sum (l.take n)) 4 W (by omega) (by decide)
  have htail : ∀ W, Below w.heap.size w W → (convert 42 9 (.slice (some ⟨b, off + n, none⟩) 4 (cap - n))).run Tryd.prog W = .ok (.string (strOf (l.drop n))) W := fun W hb => by
    have := conv_str W _ (l.drop n) (cap - n) ((hr.drop n).below hb)
    rwa [List.length_drop, show l.length - n = 4 by omega] at this
  have hstep : ∀ W e w', Below w.heap.size w W → NewBytes W (put (Crc.sum (l.take n)) 4) e w' → ∃ g4 c4, e = .returned (.slice (some ⟨g4, 0, none⟩) 4 c4) ∧ Below w.heap.size w w' ∧
      (convert 42 9 (.slice (some ⟨g4, 0, none⟩) 4 c4)).run Tryd.prog w' = .ok (.string (strOf (put (Crc.sum (l.take n)) 4))) w' := by
    intro W e w' hW ⟨v, he, hown, hb⟩
    obtain ⟨g4, c4, rfl, _, hrd, _⟩ := rd_of_own' (l := put (Crc.sum (l.take n)) 4) hown (put_lt _ 4) (by rw [put_length]; omega) (by rw [put_length]; omega)
    have hc := conv_str w' _ _ c4 hrd
    rw [put_length] at hc he
    exact ⟨g4, c4, he, hW.trans (hb.mono hW.size), hc⟩
  have hval : valid l ↔ strOf (put (Crc.sum (l.take n)) 4) = strOf (l.drop n) := by
    unfold valid
    rw [show l.length - 4 = n by omega]
    constructor
    · intro h'
      refine congrArg strOf (le_inj _ _ (put_lt _ _) hdl (by rw [put_length, List.length_drop]; omega) ?_)
      rw [le_put, h'.2]; exact Nat.mod_eq_of_lt hsl
    · intro h'
      refine ⟨h, ?_⟩
      rw [← strOf_inj (put_lt _ _) hdl h', le_put]; exact Nat.mod_eq_of_lt hsl
  have hrd := fun W (hb : Below w.heap.size w W) => (hr.take n).below hb
  have hb0 : Below w.heap.size w w.drew := below_drewN (Below.refl _ _) 1
  have hc0 := htail w.drew hb0
  generalize strOf (put (Crc.sum (l.take n)) 4) = S1 at hstep hval
  generalize strOf (l.drop n) = S2 at htail hval hc0
  generalize Crc.sum (l.take n) = s at hsum hput hstep hsl
  have HSum := Lib.hid hsum
  have HPut := Lib.hid hput
  have HTail := Lib.hid htail
  have HStep := Lib.hid hstep
  have HV := Lib.hid hval
  have HR := Lib.hid hrd
  have HN := Lib.hid hn
  have hs32 : s < 4294967296 := hsl
  clear hsum hput htail hstep hval hrd hr htl hdl hsl
  rw [hn] at hcap hlen ⊢
  clear hn
  have hwx : IntKind.u64.wrap (s : Int) = (s : Int) := by rw [IntKind.wrap_u64]; omega
  have hnc : (cap = n) = False := by simp; omega
  have hn0 : (0 : Int) ≤ (n : Int) := by omega
  have hn1 : (n : Int) ≤ (n : Int) + 4 := by omega
  have hn2 : (n : Int) ≤ (cap : Int) := by omega
  have hres : ∀ W, Below w.heap.size w W → Rd W (some ⟨b, off, none⟩) (l.take (l.length - 4)) := fun W hb => by
    rw [show l.length - 4 = n by rw [HN.out]; omega]; exact HR.out W hb
  have HRes := Lib.hid hres
  clear hres HR
  by_cases hxy : S1 = S2
  · have hb : (S1.toList == S2.toList) = true := by rw [hxy]; simp
    have HX := Lib.hid hxy
    clear hxy
    go_enter Tryd.func61, Tryd.ntmps61
    go_wp2_with fail
    go_region_held (fun W => (convert 42 9 (.slice (some ⟨b, off + n, none⟩) 4 (cap - n))).run Tryd.prog W = .ok (.string S2) W) (first | exact hc0 | exact hc4) (first | (go_at_call 78; ((with_reducible refine (HSum.out _ hb0).mono ?_); rintro e w5 ⟨rfl, rfl⟩)) | (go_at_call 54; ((with_reducible refine (HPut.out _).mono ?_); intro e w4 hnb; obtain ⟨g4, c4, rfl, hb4, hcv4⟩ := HStep.out _ _ _ hb0 hnb; have hc4 := HTail.out _ hb4; clear hnb)))
    go_wp2
    go_ret2
    exact ⟨hb4, .inr (.inr ⟨HV.out.2 HX.out, some ⟨b, off, none⟩, cap, by rw [HN.out]; rfl, by rw [HN.out]; omega, HRes.out _ hb4⟩)⟩
  · have hb : (S1.toList == S2.toList) = false := by
      rw [beq_eq_false_iff_ne]
      exact fun e => hxy (ByteArray.ext (Array.toList_inj.mp (by rw [ByteArray.toList_eq, ByteArray.toList_eq] at e; exact e)))
    have HX := Lib.hid hxy
    clear hxy
    go_enter Tryd.func61, Tryd.ntmps61
    go_wp2_with fail
    go_region_held (fun W => (convert 42 9 (.slice (some ⟨b, off + n, none⟩) 4 (cap - n))).run Tryd.prog W = .ok (.string S2) W) (first | exact hc0 | exact hc4) (first | (go_at_call 78; ((with_reducible refine (HSum.out _ hb0).mono ?_); rintro e w5 ⟨rfl, rfl⟩)) | (go_at_call 54; ((with_reducible refine (HPut.out _).mono ?_); intro e w4 hnb; obtain ⟨g4, c4, rfl, hb4, hcv4⟩ := HStep.out _ _ _ hb0 hnb; have hc4 := HTail.out _ hb4; clear hnb)))
    go_wp2
    go_ret2
    exact ⟨hb4, .inr (.inl ⟨h, fun hv => HX.out (HV.out.1 hv), rfl⟩)⟩
end Go.Proofs.YtkapnpcolmhdbaaDoor
namespace Go.Proofs.YtkapnpcolmhdbaaDoor
open Go.RowKit
open Drawbar

set_option maxRecDepth 100000 in
/-- The document's Get: the number of at most eight bytes. -/
theorem refget_any (l : List Nat) (a : Option Addr) (cap : Nat) (w : World) (hr : Rd w a l) (h8 : l.length ≤ 8) :
    Calls Tryd.prog 62 #[.slice a l.length cap] w fun e w' => e = .returned (.int .u64 (Crc.le l : Nat)) ∧ w = w' := by
  obtain ⟨hl, hlen, hc⟩ := hr
  go_enter Tryd.func62, Tryd.ntmps62
  go_wp2
  go_loop [3, 4] (fun c i => ∃ k : Nat, k ≤ l.length ∧ i = .int .i64 ((k : Int) - 1) ∧ c = .int .u64 (Crc.le (l.drop k) : Nat)) (fun _ i => (intOf i + 1).toNat)
  case atStart => exact ⟨l.length, Nat.le_refl _, rfl, by simp [Crc.le]⟩
  case round =>
    obtain ⟨k, hk, rfl, rfl⟩ := hrel
    by_cases hlt : 0 < k
    · obtain ⟨b, off, rfl, hcell⟩ := hc (by omega)
      obtain ⟨j, rfl⟩ : ∃ j, k = j + 1 := ⟨k - 1, by omega⟩
      have h1 := hcell j (by omega)
      have hb : l.getD j 0 < 256 := hl _ (getD_mem l j (by omega))
      have hfin : Crc.le (l.drop j) = l.getD j 0 + 256 * Crc.le (l.drop (j + 1)) := by
        rw [List.drop_eq_getElem_cons (by omega : j < l.length)]
        simp only [Crc.le]
        rw [List.getD_eq_getElem?_getD, List.getElem?_eq_getElem (by omega)]; rfl
      have hlt2 : Crc.le (l.drop j) < 2 ^ 64 := by
        have := Crc.le_lt (l.drop j) (fun x hx => hl x (List.mem_of_mem_drop hx))
        exact Nat.lt_of_lt_of_le this (Nat.pow_le_pow_right (by omega) (by rw [List.length_drop]; omega))
      have HF := Lib.hid hfin
      clear hcell hc
      rw [hfin] at hlt2
      clear hfin
      generalize l.getD j 0 = b0 at h1 hb HF hlt2
      generalize Crc.le (l.drop (j + 1)) = c0 at HF hlt2
      go_wp2
      go_round
      case rel => exact ⟨j, by omega, by simp, by rw [HF.out]; simp; omega⟩
      case measure => simp [intOf]
    · obtain rfl : k = 0 := by omega
      clear hc
      go_wp2
      go_ret
      exact ⟨rfl, rfl⟩

/-- How the two readers stand to one another. -/
def Sync (l rest : List Nat) (bad : Bool) (at' : Int) : Prop :=
  (bad = false ∧ ∃ k : Nat, at' = k ∧ k ≤ l.length ∧ rest = l.drop k) ∨ (bad = true ∧ at' = -1)

set_option maxRecDepth 100000 in
theorem nm_bad (l : List Nat) (n : Int) (m : Nat) : nm l true n m = (0, l, true) := by
  have h1 : nx l true n 8 = ([], l, true) := by unfold nx; rw [if_pos (.inl rfl)]
  unfold nm; rw [h1]; dsimp only; rw [if_neg (by simp [Crc.le])]; simp [Crc.le]
set_option maxRecDepth 100000 in
theorem nm_few (l : List Nat) (n m : Nat) (h : l.length < n) : nm l false n m = (0, l, true) := by
  have h1 : nx l false n 8 = ([], l, true) := by unfold nx; rw [if_pos (by right; right; right; omega)]
  unfold nm; rw [h1]; dsimp only; rw [if_neg (by simp [Crc.le])]; simp [Crc.le]
set_option maxRecDepth 100000 in
theorem nm_ok (l : List Nat) (n m : Nat) (h : n ≤ l.length) (h8 : n ≤ 8) : nm l false n m = if m < Crc.le (l.take n) then (0, l.drop n, true) else (Crc.le (l.take n), l.drop n, false) := by
  have h1 : nx l false n 8 = (l.take n, l.drop n, false) := by
    unfold nx
    rw [if_neg (by simp only [Bool.false_eq_true, false_or]; omega)]; simp
  unfold nm; rw [h1]

set_option maxRecDepth 100000 in
theorem quiet_at {P : Program} {f : FuncId} {args : Array Value} {w : World} {q n : Nat} {v : Value}
    (h : Calls P f args (w.drewN (q + n)) fun e w' => e = .returned v ∧ w.drewN (q + n) = w') : Calls P f args (w.drewN (q + n)) fun e w'' => e = .returned v ∧ ∃ m, w'' = w.drewN (q + m) :=
  h.mono fun _ _ ⟨he, hm⟩ => ⟨he, n, hm.symm⟩

set_option maxRecDepth 100000 in
/-- Both ways to read a length, and the bytes behind it, come to the same. -/
theorem bts_eq (rest : List Nat) (bad : Bool) (most : Nat) (hl : ∀ x ∈ rest, x < 256) :
    bts rest bad most = if (nm rest bad 2 most).2.2 = true ∨ (nm rest bad 2 most).2.1.length < (nm rest bad 2 most).1 then ([], (nm rest bad 2 most).2.1, true)
      else ((nm rest bad 2 most).2.1.take (nm rest bad 2 most).1, (nm rest bad 2 most).2.1.drop (nm rest bad 2 most).1, false) := by
  cases bad with
  | true =>
    have h := nm_bad rest 2 most
    rw [h, bts_bad]; simp
  | false =>
    rcases Nat.lt_or_ge rest.length 2 with h | h
    · have h1 := nm_few rest 2 most h
      have h2 := nm_few rest 2 65535 h
      rw [show (((2 : Nat) : Int)) = 2 from rfl] at h1 h2
      unfold bts
      rw [h1, h2]
      dsimp only
      unfold nx
      rw [if_pos (.inl rfl), if_pos (.inl rfl)]
    · have h1 := nm_ok rest 2 most h (by decide)
      have h2 := nm_ok rest 2 65535 h (by decide)
      have hx : Crc.le (rest.take 2) < 65536 := by
        have := Crc.le_lt (rest.take 2) (fun x hx => hl x (List.mem_of_mem_take hx))
        exact Nat.lt_of_lt_of_le this (Nat.pow_le_pow_right (n := 2) (by omega) (show 8 * (rest.take 2).length ≤ 16 by rw [List.length_take]; omega))
      rw [show (((2 : Nat) : Int)) = 2 from rfl] at h1 h2
      rw [if_neg (by omega)] at h2
      unfold bts
      rw [h1, h2]
      dsimp only
      by_cases hb : most < Crc.le (rest.take 2)
      · rw [if_pos hb]
        unfold nx
        rw [if_pos (by right; right; left; omega), if_pos (.inl rfl)]
      · rw [if_neg hb]
        dsimp only
        unfold nx
        by_cases hc : (rest.drop 2).length < Crc.le (rest.take 2)
        · rw [if_pos (by right; right; right; omega), if_pos (.inr hc)]
        · rw [if_neg (by simp only [Bool.false_eq_true, false_or]; omega), if_neg (by simp only [Bool.false_eq_true, false_or]; exact hc)]
          simp
end Go.Proofs.YtkapnpcolmhdbaaDoor
