/- The contracts of octet.Reader: what its block holds, and what each call reads. The contract of Reader.Bytes, and the walk of the law OctetEnds. The contracts of bytes.Clone and Reader.Bytes once more: what they hand back lies in new memory. The contracts of bytes.Clone and Reader.Bytes once more: what they hand back lies in new memory, and is nil only without room. The contract of the document's Put and Get (drawbarref01): a number's bytes, the lowest first, in new memory. The contracts of the document's Sum and Seal (drawbarref01): CRC-32 bit by bit. The contract of the document's Open (drawbarref01). The contracts of the document's reader (drawbarref01.Reader): it reads what octet's reader reads. -/
import Derived.Test.YtcbgccmoeleanaaDoorOcta
import Derived.Deep.RegionWith
import Derived.Deep.RegionHeld3
import Derived.Deep.RegionHeld
import Derived.BigQuiet
namespace Go.Proofs.YtcbgccmoeleanaaDoor
open Go.RowKit
open Drawbar

/-- A reader in block g: the bytes that aren't read yet, and whether there was a fault. -/
def Rdr (w : World) (g : Nat) (l : List Nat) (bad : Bool) : Prop :=
  ∃ a cap, w.heap[g]? = some (.cells #[.slice a l.length cap, .bool bad] 105 (0, 0)) ∧ l.length ≤ cap ∧ Rd w a l ∧ (a = none → cap = 0) ∧ (0 < l.length → ∀ k, a = some k → k.block < g)

theorem ne_all {a : Option Addr} {n g : Nat} (h : 0 < n → ∀ k, a = some k → k.block < g) : 0 < n → ∀ k, a = some k → k.block ≠ g := fun h0 k hk => Nat.ne_of_lt (h h0 k hk)

theorem two_cells {w : World} {g : Nat} {u v : Value} {t : TypeId} (h : w.heap[g]? = some (.cells #[u, v] t (0, 0))) :
    w.cell? ⟨g, 0, none⟩ = some u ∧ w.cell? ⟨g, 1, none⟩ = some v ∧ w.frozen? ⟨g, 0, none⟩ = false ∧ w.frozen? ⟨g, 1, none⟩ = false := by
  simp [World.cell?, World.frozen?, h]
theorem two_set0 {w : World} {g : Nat} {u v x : Value} {t : TypeId} (h : w.heap[g]? = some (.cells #[u, v] t (0, 0))) : (w.setCell ⟨g, 0, none⟩ x).heap[g]? = some (.cells #[x, v] t (0, 0)) := by
  have hlt := lt_of_block h
  have h' : w.heap[g] = .cells #[u, v] t (0, 0) := by simpa [Array.getElem?_eq_getElem hlt] using h
  show (w.heap.modify g _)[g]? = _
  rw [Array.getElem?_eq_getElem (by simpa using hlt), Array.getElem_modify_self, h']
  rfl
theorem two_set1 {w : World} {g : Nat} {u v x : Value} {t : TypeId} (h : w.heap[g]? = some (.cells #[u, v] t (0, 0))) : (w.setCell ⟨g, 1, none⟩ x).heap[g]? = some (.cells #[u, x] t (0, 0)) := by
  have hlt := lt_of_block h
  have h' : w.heap[g] = .cells #[u, v] t (0, 0) := by simpa [Array.getElem?_eq_getElem hlt] using h
  show (w.heap.modify g _)[g]? = _
  rw [Array.getElem?_eq_getElem (by simpa using hlt), Array.getElem_modify_self, h']
  rfl
theorem grownBy_setCell (w : World) (g o : Nat) (x : Value) : w.grownBy (w.setCell ⟨g, o, none⟩ x) (some g) :=
  ⟨rfl, rfl, rfl, by simp [World.setCell], fun k _ hk => Below.heap_setCell _ _ _ _ (fun e => hk (by rw [e]))⟩
theorem grownBy_refl (w : World) (row : Option Nat) : w.grownBy w row := ⟨rfl, rfl, rfl, Nat.le_refl _, fun _ _ _ => rfl⟩
theorem grownBy_trans {w w1 w2 : World} {row : Option Nat} (h : w.grownBy w1 row) (h2 : w1.grownBy w2 row) : w.grownBy w2 row :=
  ⟨h2.os.trans h.os, h2.tape.trans h.tape, h2.output.trans h.output, Nat.le_trans h.size h2.size, fun k hk hr => (h2.block k (Nat.lt_of_lt_of_le hk h.size) hr).trans (h.block k hk hr)⟩
theorem Below.grownBy {w w' : World} (h : Below w.heap.size w w') (row : Option Nat) : w.grownBy w' row := ⟨h.os, h.tape, h.output, h.size, fun k hk _ => h.block k hk⟩

/-- Bytes that don't lie in the written block read as they did. -/
theorem Rd.grown {w w' : World} {a : Option Addr} {l : List Nat} {g : Nat} (h : Rd w a l) (hg : w.grownBy w' (some g)) (ha : 0 < l.length → ∀ k, a = some k → k.block ≠ g) : Rd w' a l := by
  obtain ⟨hl, hlen, hc⟩ := h
  refine ⟨hl, hlen, fun h0 => ?_⟩
  obtain ⟨b, off, rfl, hcell⟩ := hc h0
  exact ⟨b, off, rfl, fun i hi => hg.cell (hcell i hi) (by simpa using ha h0 _ rfl)⟩

theorem read_any (l : List Nat) (a : Option Addr) (cap : Nat) (w : World) (hr : Rd w a l) (hcap : l.length ≤ cap) (hnil : a = none → cap = 0) :
    Calls Tryd.prog 57 #[.slice a l.length cap] w fun e w' => e = .returned (.pointer (some ⟨w.heap.size, 0, none⟩)) ∧ Rdr w' w.heap.size l false ∧ Below w.heap.size w w' := by
  go_enter Tryd.func57, Tryd.ntmps57
  go_wp2
  go_ret
  refine ⟨rfl, ⟨a, cap, heap_alloc_new w _, hcap, hr.below ((Below.refl _ _).alloc (Nat.le_refl _) _), hnil, fun h0 k hk => by
    obtain ⟨b, off, rfl, hc⟩ := hr.2.2 h0
    cases hk
    exact World.block_lt_of_cell? w _ (hc 0 h0)⟩, (Below.refl _ _).alloc (Nat.le_refl _) _⟩

theorem bad_any (g : Nat) (l : List Nat) (bad : Bool) (w : World) (h : Rdr w g l bad) :
    Calls Tryd.prog 61 #[.pointer (some ⟨g, 0, none⟩)] w fun e w' => e = .returned (.bool bad) ∧ w = w' := by
  obtain ⟨a, cap, hb, _⟩ := h
  obtain ⟨h0, h1, _, _⟩ := two_cells hb
  clear hb
  go_enter Tryd.func61, Tryd.ntmps61
  go_wp2
  go_ret
  exact ⟨rfl, rfl⟩

/-- What next takes, what is left, and whether there is a fault then. -/
def nx (l : List Nat) (bad : Bool) (n m : Int) : List Nat × List Nat × Bool :=
  if bad = true ∨ n < 0 ∨ m < n ∨ (l.length : Int) < n then ([], l, true) else (l.take n.toNat, l.drop n.toNat, false)

def NextPost (w : World) (g : Nat) (r : List Nat × List Nat × Bool) (e : Ending) (w' : World) : Prop :=
  ∃ a cap, e = .returned (.slice a r.1.length cap) ∧ r.1.length ≤ cap ∧ (a = none → cap = 0) ∧ Rd w' a r.1 ∧ (0 < r.1.length → ∀ k, a = some k → k.block ≠ g) ∧ Rdr w' g r.2.1 r.2.2 ∧ w.grownBy w' (some g)

theorem next_bad (g : Nat) (l : List Nat) (n m : Int) (w : World) (h : Rdr w g l true) :
    Calls Tryd.prog 60 #[.pointer (some ⟨g, 0, none⟩), .int .i64 n, .int .i64 m] w (NextPost w g (nx l true n m)) := by
  go_enter Tryd.func60, Tryd.ntmps60
  go_wp2_with fail
  refine (bad_any g l true w h).mono ?_
  rintro e w' ⟨rfl, rfl⟩
  go_wp2
  go_ret
  exact ⟨none, 0, by simp [nx], by simp [nx], fun _ => rfl, by simpa [nx] using rd_nil w, fun _ _ h => by (cases h), by simpa [nx] using h, grownBy_refl _ _⟩

theorem next_fault (g : Nat) (l : List Nat) (n m : Int) (w : World) (h : Rdr w g l false) (hf : n < 0 ∨ m < n ∨ (l.length : Int) < n) :
    Calls Tryd.prog 60 #[.pointer (some ⟨g, 0, none⟩), .int .i64 n, .int .i64 m] w (NextPost w g (nx l false n m)) := by
  have hnx : nx l false n m = ([], l, true) := by simp [nx, hf]
  rw [hnx]
  have hbad := bad_any g l false w h
  obtain ⟨a, cap, hb, hcap, hrd, hnil, ha⟩ := h
  obtain ⟨h0, h1, f0, f1⟩ := two_cells hb
  have hset := two_set1 (x := .bool true) hb
  have hgr := grownBy_setCell w g 1 (.bool true)
  have hfin : NextPost w g ([], l, true) (.returned (.slice none 0 0)) (w.setCell ⟨g, 1, none⟩ (.bool true)) :=
    ⟨none, 0, rfl, by simp, fun _ => rfl, rd_nil _, fun _ _ h => by (cases h), ⟨a, cap, hset, hcap, hrd.grown hgr (ne_all ha), hnil, ha⟩, hgr⟩
  have HB := Lib.hid hbad
  have HF := Lib.hid hfin
  clear hbad hb hcap hrd hset hgr hfin hnx hnil ha
  go_enter Tryd.func60, Tryd.ntmps60
  go_wp2_with fail
  refine HB.out.mono ?_
  rintro e w' ⟨rfl, rfl⟩
  by_cases hn : n < 0
  · go_wp2
    go_ret
    exact HF.out
  · by_cases hm : m < n
    · go_wp2
      go_ret
      exact HF.out
    · have hl : (l.length : Int) < n := by omega
      go_wp2
      go_ret
      exact HF.out

theorem next_ok (g : Nat) (l : List Nat) (n : Nat) (m : Int) (w : World) (h : Rdr w g l false) (hn : n ≤ l.length) (hm : (n : Int) ≤ m) :
    Calls Tryd.prog 60 #[.pointer (some ⟨g, 0, none⟩), .int .i64 n, .int .i64 m] w (NextPost w g (nx l false n m)) := by
  have hnx : nx l false n m = (l.take n, l.drop n, false) := by
    unfold nx
    rw [if_neg (by simp only [Bool.false_eq_true, false_or]; omega)]
    simp
  have hadd : ∀ b off : Nat, (some (⟨b, off, none⟩ : Addr)).map (fun x => x.add n) = some ⟨b, off + n, none⟩ := fun b off => by rw [Option.map_some, Addr.add_lit]
  rw [hnx]
  have hbad := bad_any g l false w h
  obtain ⟨a, cap, hb, hcap, hrd, hnil, ha⟩ := h
  obtain ⟨h0, h1, f0, f1⟩ := two_cells hb
  have hlen := hrd.2.1
  have hfin : ∀ a2, (n < cap → a2 = a.map fun x => x.add n) → (cap = n → a2 = a) → NextPost w g (l.take n, l.drop n, false) (.returned (.slice a n cap)) (w.setCell ⟨g, 0, none⟩ (.slice a2 (l.length - n) (cap - n))) := by
    intro a2 h2 h3
    have hset := two_set0 (x := .slice a2 (l.length - n) (cap - n)) hb
    have hgr := grownBy_setCell w g 0 (.slice a2 (l.length - n) (cap - n))
    have htl : (l.take n).length = n := by rw [List.length_take]; omega
    have hdl : (l.drop n).length = l.length - n := List.length_drop
    refine ⟨a, cap, by rw [htl], by rw [htl]; omega, hnil, (hrd.take n).grown hgr (fun h => ne_all ha (by rw [htl] at h; omega)), fun h => ne_all ha (by rw [htl] at h; omega), ⟨a2, cap - n, by rw [hdl]; exact hset, by rw [hdl]; omega, ?_, ?_, ?_⟩, hgr⟩
    · rcases Nat.eq_zero_or_pos (l.length - n) with hz | hz
      · rw [List.eq_nil_of_length_eq_zero (hdl.trans hz)]; exact rd_empty _ _
      · obtain ⟨b, off, rfl, _⟩ := hrd.2.2 (by omega)
        obtain rfl := (h2 (by omega)).trans (hadd b off)
        exact (hrd.drop n).grown hgr (fun _ k hk => by cases hk; exact ne_all ha (by omega) ⟨b, off, none⟩ rfl)
    · intro h4
      rcases Nat.lt_or_ge n cap with h5 | h5
      · rw [h2 h5] at h4
        simp at h4
        rw [hnil h4]; omega
      · omega
    · intro h4 k hk
      rw [hdl] at h4
      obtain ⟨b, off, rfl, _⟩ := hrd.2.2 (by omega)
      rw [h2 (by omega), hadd] at hk
      cases hk
      exact ha (by omega) ⟨b, off, none⟩ rfl
  have HB := Lib.hid hbad
  have HF := Lib.hid hfin
  clear hbad hb hrd hfin hnx hnil ha
  have hn0 : (0 : Int) ≤ (n : Int) := by omega
  go_enter Tryd.func60, Tryd.ntmps60
  go_wp2_with fail
  refine HB.out.mono ?_
  rintro e w' ⟨rfl, rfl⟩
  have hcc : (n < cap ∧ (cap = n) = False) ∨ cap = n := by
    rcases Nat.lt_or_ge n cap with h | h
    · exact .inl ⟨h, by simp; omega⟩
    · exact .inr (by omega)
  rcases hcc with ⟨h3, h4⟩ | h3
  · go_wp2
    go_ret
    exact HF.out _ (fun _ => rfl) (fun h => by omega)
  · have hf2 := HF.out a (fun h => by omega) (fun _ => rfl)
    rw [show cap - n = 0 by omega, h3] at hf2
    have HF2 := Lib.hid hf2
    clear hf2 HF
    go_wp2
    go_ret
    exact HF2.out

theorem next_any (g : Nat) (l : List Nat) (bad : Bool) (n m : Int) (w : World) (h : Rdr w g l bad) :
    Calls Tryd.prog 60 #[.pointer (some ⟨g, 0, none⟩), .int .i64 n, .int .i64 m] w (NextPost w g (nx l bad n m)) := by
  cases bad with
  | true => exact next_bad g l n m w h
  | false =>
    by_cases hf : n < 0 ∨ m < n ∨ (l.length : Int) < n
    · exact next_fault g l n m w h hf
    · have := next_ok g l n.toNat m w h (by omega) (by omega)
      rwa [show ((n.toNat : Nat) : Int) = n by omega] at this

/-- What Num reads, what is left, and whether there is a fault then. -/
def nm (l : List Nat) (bad : Bool) (n : Int) (most : Nat) : Nat × List Nat × Bool :=
  let r := nx l bad n 8
  if most < Crc.le r.1 then (0, r.2.1, true) else (Crc.le r.1, r.2)

def NumPost (w : World) (g : Nat) (r : Nat × List Nat × Bool) (e : Ending) (w' : World) : Prop :=
  e = .returned (.int .u64 (r.1 : Nat)) ∧ Rdr w' g r.2.1 r.2.2 ∧ w.grownBy w' (some g)

theorem nx_len (l : List Nat) (bad : Bool) (n : Int) (m : Nat) : (nx l bad n m).1.length ≤ m := by
  unfold nx
  split
  · simp
  · rw [List.length_take]; omega
theorem nx_lt (l : List Nat) (bad : Bool) (n m : Int) (hl : ∀ x ∈ l, x < 256) : ∀ x ∈ (nx l bad n m).1, x < 256 := by
  unfold nx
  split
  · simp
  · exact fun x hx => hl x (List.mem_of_mem_take hx)

theorem num_any (g : Nat) (l : List Nat) (bad : Bool) (n : Int) (most : Nat) (w : World) (h : Rdr w g l bad) :
    Calls Tryd.prog 58 #[.pointer (some ⟨g, 0, none⟩), .int .i64 n, .int .u64 most] w (NumPost w g (nm l bad n most)) := by
  have hnext := next_any g l bad n 8 w h
  have hlen : (nx l bad n 8).1.length ≤ 8 := nx_len l bad n 8
  have hll : ∀ x ∈ l, x < 256 := by obtain ⟨_, _, _, _, hrd, _⟩ := h; exact hrd.1
  have hlt := Crc.le_lt _ (nx_lt l bad n 8 hll)
  have hlt2 : Crc.le (nx l bad n 8).1 < 2 ^ 64 := Nat.lt_of_lt_of_le hlt (Nat.pow_le_pow_right (by omega) (by omega))
  have hnm : nm l bad n most = if most < Crc.le (nx l bad n 8).1 then (0, (nx l bad n 8).2.1, true) else (Crc.le (nx l bad n 8).1, (nx l bad n 8).2) := rfl
  rw [hnm]
  clear hnm hlt hll h
  generalize nx l bad n 8 = r at hnext hlen hlt2
  obtain ⟨r1, r2, r3⟩ := r
  dsimp only at hlen hlt2 ⊢
  obtain ⟨res, hres, hy, hn⟩ : ∃ res, (if most < Crc.le r1 then (0, r2, true) else (Crc.le r1, r2, r3)) = res ∧ (most < Crc.le r1 → res = (0, r2, true)) ∧ (¬ most < Crc.le r1 → res = (Crc.le r1, r2, r3)) :=
    ⟨_, rfl, fun h => if_pos h, fun h => if_neg h⟩
  rw [hres]
  clear hres
  have HN := Lib.hid hnext
  clear hnext
  go_enter Tryd.func58, Tryd.ntmps58
  go_wp2_with fail
  refine HN.out.mono ?_
  rintro e w' ⟨a, cap, rfl, hcap, hnil, hrd, ha, hrr, hgr⟩
  dsimp only at hcap hrd hrr ⊢
  have hget := get_any r1 a cap w' hrd
  rw [List.take_of_length_le hlen] at hget
  obtain ⟨a2, cap2, hb, hcap2, hrd2, hnil2, ha2⟩ := hrr
  obtain ⟨c0, c1, f0, f1⟩ := two_cells hb
  have hset := two_set1 (x := .bool true) hb
  have hgr2 := grownBy_setCell w' g 1 (.bool true)
  have hp1 : most < Crc.le r1 → NumPost w g res (.returned (.int .u64 0)) (w'.setCell ⟨g, 1, none⟩ (.bool true)) := fun hlt => by
    rw [hy hlt]; exact ⟨rfl, ⟨a2, cap2, hset, hcap2, hrd2.grown hgr2 (ne_all ha2), hnil2, ha2⟩, grownBy_trans hgr hgr2⟩
  have hp2 : ¬ most < Crc.le r1 → NumPost w g res (.returned (.int .u64 (Crc.le r1 : Nat))) w' := fun hlt => by
    rw [hn hlt]; exact ⟨rfl, ⟨a2, cap2, hb, hcap2, hrd2, hnil2, ha2⟩, hgr⟩
  clear hy hn
  generalize Crc.le r1 = x at hget hp1 hp2 hlt2
  have HG := Lib.hid hget
  have H1 := Lib.hid hp1
  have H2 := Lib.hid hp2
  clear HN hget hp1 hp2 hb hset hgr hgr2 hrd hrd2 ha ha2 hnil hnil2 hcap hcap2
  by_cases hlt : most < x
  · have hd : (most : Int) < (x : Int) := by omega
    go_wp2_with fail
    refine HG.out.mono ?_
    rintro e w2 ⟨rfl, rfl⟩
    go_wp2
    go_ret
    exact H1.out hlt
  · have hd : ¬ (most : Int) < (x : Int) := by omega
    go_wp2_with fail
    refine HG.out.mono ?_
    rintro e w2 ⟨rfl, rfl⟩
    go_wp2
    go_ret
    exact H2.out hlt
end Go.Proofs.YtcbgccmoeleanaaDoor
namespace Go.Proofs.YtcbgccmoeleanaaDoor
open Go.RowKit
open Drawbar

/-- What Bytes reads. -/
def bts (l : List Nat) (bad : Bool) (most : Int) : List Nat × List Nat × Bool :=
  nx (nm l bad 2 65535).2.1 (nm l bad 2 65535).2.2 (nm l bad 2 65535).1 most

def BtsPost (w : World) (g : Nat) (r : List Nat × List Nat × Bool) (e : Ending) (w' : World) : Prop :=
  ∃ a cap, e = .returned (.slice a r.1.length cap) ∧ r.1.length ≤ cap ∧ Rd w' a r.1 ∧ Rdr w' g r.2.1 r.2.2 ∧ w.grownBy w' (some g)

theorem Rdr.below {w w' : World} {g : Nat} {l : List Nat} {bad : Bool} (h : Rdr w g l bad) (hb : Below w.heap.size w w') : Rdr w' g l bad := by
  obtain ⟨a, cap, h1, h2, h3, h4, h5⟩ := h
  exact ⟨a, cap, (hb.block g (lt_of_block h1)).trans h1, h2, h3.below hb, h4, h5⟩

theorem nm_lt (l : List Nat) (bad : Bool) (n : Int) (most : Nat) (hl : ∀ x ∈ l, x < 256) (hn : n ≤ 2) : (nm l bad n most).1 < 65536 := by
  unfold nm
  dsimp only
  split
  · simp
  · have h := Crc.le_lt _ (nx_lt l bad n 8 hl)
    have h2 : (nx l bad n 8).1.length ≤ 2 := by
      unfold nx
      split
      · simp
      · rw [List.length_take]; omega
    exact Nat.lt_of_lt_of_le h (Nat.le_trans (Nat.pow_le_pow_right (by omega) (Nat.mul_le_mul_left 8 h2)) (by decide))

theorem rbytes_any (g : Nat) (l : List Nat) (bad : Bool) (most : Int) (w : World) (h : Rdr w g l bad) :
    Calls Tryd.prog 59 #[.pointer (some ⟨g, 0, none⟩), .int .i64 most] w (BtsPost w g (bts l bad most)) := by
  have hnum := num_any g l bad 2 65535 w h
  have hll : ∀ x ∈ l, x < 256 := by obtain ⟨_, _, _, _, hrd, _⟩ := h; exact hrd.1
  have hlt := nm_lt l bad 2 65535 hll (by omega)
  unfold bts
  clear hll h
  generalize nm l bad 2 65535 = r at hnum hlt
  obtain ⟨x, l1, b1⟩ := r
  dsimp only at hnum hlt ⊢
  have hnext := fun w1 hrr => next_any g l1 b1 x most w1 hrr
  generalize nx l1 b1 x most = r2 at hnext
  obtain ⟨q, l2, b2⟩ := r2
  have HN := Lib.hid hnum
  have HY := Lib.hid hnext
  clear hnum hnext
  go_enter Tryd.func59, Tryd.ntmps59
  go_wp2_with fail
  refine HN.out.mono ?_
  rintro e w1 ⟨rfl, hrr, hgr⟩
  dsimp only at hrr ⊢
  have HX := Lib.hid (HY.out w1 hrr)
  clear HN HY hrr
  go_wp2_with fail
  refine HX.out.mono ?_
  rintro e w2 ⟨a, cap, rfl, hcap, hnil, hrd, ha, hrr, hgr2⟩
  dsimp only at hcap hrd hrr ⊢
  have hcl := clone_any q a cap w2 hrd hnil
  have HC := Lib.hid hcl
  clear HX hcl hrd ha
  go_wp2_with fail
  refine HC.out.mono ?_
  rintro e w3 ⟨a3, c3, rfl, hc3, hrd3, hb3⟩
  have hfin : BtsPost w g (q, l2, b2) (.returned (.slice a3 q.length c3)) w3 :=
    ⟨a3, c3, rfl, hc3, hrd3, hrr.below hb3, grownBy_trans hgr (grownBy_trans hgr2 (Below.grownBy hb3 _))⟩
  clear HC hrr hgr hgr2 hb3 hrd3
  have HF := Lib.hid hfin
  clear hfin
  go_wp2
  go_ret
  exact HF.out

theorem nm_one (x : Nat) (r : List Nat) (hx : x < 256) : nm (x :: r) false 1 255 = (x, r, false) := by
  have h1 : nx (x :: r) false 1 8 = ([x], r, false) := by
    unfold nx
    rw [if_neg (by simp only [Bool.false_eq_true, false_or, List.length_cons]; omega)]
    rfl
  unfold nm
  rw [h1]
  dsimp only
  rw [if_neg (by simp [Crc.le]; omega)]
  simp [Crc.le]

theorem nm_empty (n : Nat) (m : Nat) (hn : 1 ≤ n) : nm [] false n m = (0, [], true) := by
  have h1 : nx [] false n 8 = ([], [], true) := by
    unfold nx
    rw [if_pos (by simp; omega)]
  unfold nm
  rw [h1]
  dsimp only
  rw [if_neg (by simp [Crc.le])]
  simp [Crc.le]
theorem bts_bad (l : List Nat) (m : Int) : bts l true m = ([], l, true) := by
  have h1 : ∀ (l : List Nat) (n m : Int), nx l true n m = ([], l, true) := fun l n m => by
    unfold nx
    rw [if_pos (.inl rfl)]
  unfold bts nm
  rw [h1]
  dsimp only
  rw [if_neg (by simp [Crc.le])]
  simp [h1]

end Go.Proofs.YtcbgccmoeleanaaDoor
namespace Go.Proofs.YtcbgccmoeleanaaDoor
open Go.RowKit
open Drawbar

def NewAre (w : World) (l : List Nat) (e : Ending) (w' : World) : Prop :=
  ∃ a cap, e = .returned (.slice a l.length cap) ∧ l.length ≤ cap ∧ Rd w' a l ∧ Below w.heap.size w w' ∧ (0 < l.length → ∀ k, a = some k → w.heap.size ≤ k.block)

theorem clone_new (l : List Nat) (a : Option Addr) (cap : Nat) (w : World) (hr : Rd w a l) (hnil : a = none → cap = 0) : Calls Tryd.prog 42 #[.slice a l.length cap] w (NewAre w l) := by
  cases a with
  | none =>
    obtain rfl : l = [] := List.eq_nil_of_length_eq_zero (hr.ofNil rfl)
    rw [hnil rfl]
    exact (clone_nil w).mono fun e w' ⟨he, hw⟩ => ⟨none, 0, he, by simp, hw ▸ rd_nil w, hw ▸ Below.refl _ _, fun h => absurd h (by simp)⟩
  | some ad =>
    obtain ⟨i0, hi, hz0, hz1, hz2⟩ := info_parts info_u8
    have he := Lib.run_eql_slice_nil (P := Tryd.prog) w 50 5 (some ad) l.length cap 0 0 Tryd.underlying50
    have hat := hr.at
    have hlen := hr.2.1
    have hll := hr.1
    clear hr hnil
    go_enter Tryd.func42, Tryd.ntmps42
    go_wp2_with (at_builtin; refine wpList_append_tail rfl _ _ 50 rfl w.heap.size 5 i0 (.int .u8 0) 1 1 Tryd.underlying50 hi hz0 hz1 hz2 rfl (by decide) _ 0 [] rfl (.inr ⟨_, rfl, by simp, by simp, fun _ _ _ _ h => by simp at h⟩) (some ad) l.length cap (l.map bv) rfl (by simp) (by simp) (hat.alloc _) (bv_one l) ?c2 ?c3 ?c4 ?_)
    case c2 => unfold maxLen; omega
    case c3 => omega
    case c4 => simp
    intro v' w' h1 h2 h3
    have hB : Below w.heap.size w w' := ((Below.refl _ _).alloc (Nat.le_refl _) _).trans h3
    have hv : ∃ a cap, v' = .slice a l.length cap ∧ l.length ≤ cap ∧ Rd w' a l ∧ (0 < l.length → ∀ k, a = some k → w.heap.size ≤ k.block) := by
      rcases Nat.eq_zero_or_pos l.length with h0 | h0
      · obtain rfl : l = [] := List.eq_nil_of_length_eq_zero h0
        rcases h1 with h1 | ⟨ao, e, _⟩
        · obtain ⟨a, c, rfl, hc, hrd, _⟩ := rd_of_own (l := []) (by simpa using h1) (by simp) (by simp)
          exact ⟨a, c, rfl, hc, hrd, fun h => absurd h (by simp)⟩
        · exact ⟨ao, 0, by simpa using e, by simp, rd_empty _ _, fun h => absurd h (by simp)⟩
      · obtain ⟨a, c, rfl, hc, hrd, _, hfr⟩ := rd_of_own (h2 h0) (by simpa using hll) (by simpa using hlen)
        exact ⟨a, c, by simp, by simpa using hc, by simpa using hrd, fun _ k hk => (hfr k hk).1⟩
    obtain ⟨a', c', rfl, hc', hrd', hfr'⟩ := hv
    clear h1 h2 h3
    go_wp2
    go_ret
    exact ⟨a', c', rfl, hc', hrd', hB, hfr'⟩


def BtsNew (w : World) (g : Nat) (r : List Nat × List Nat × Bool) (e : Ending) (w' : World) : Prop :=
  ∃ a cap, e = .returned (.slice a r.1.length cap) ∧ r.1.length ≤ cap ∧ Rd w' a r.1 ∧ Rdr w' g r.2.1 r.2.2 ∧ w.grownBy w' (some g) ∧ (0 < r.1.length → ∀ k, a = some k → w.heap.size ≤ k.block)

theorem rbytes_new (g : Nat) (l : List Nat) (bad : Bool) (most : Int) (w : World) (h : Rdr w g l bad) :
    Calls Tryd.prog 59 #[.pointer (some ⟨g, 0, none⟩), .int .i64 most] w (BtsNew w g (bts l bad most)) := by
  have hnum := num_any g l bad 2 65535 w h
  have hll : ∀ x ∈ l, x < 256 := by obtain ⟨_, _, _, _, hrd, _⟩ := h; exact hrd.1
  have hlt := nm_lt l bad 2 65535 hll (by omega)
  unfold bts
  clear hll h
  generalize nm l bad 2 65535 = r at hnum hlt
  obtain ⟨x, l1, b1⟩ := r
  dsimp only at hnum hlt ⊢
  have hnext := fun w1 hrr => next_any g l1 b1 x most w1 hrr
  generalize nx l1 b1 x most = r2 at hnext
  obtain ⟨q, l2, b2⟩ := r2
  have HN := Lib.hid hnum
  have HY := Lib.hid hnext
  clear hnum hnext
  go_enter Tryd.func59, Tryd.ntmps59
  go_wp2_with fail
  refine HN.out.mono ?_
  rintro e w1 ⟨rfl, hrr, hgr⟩
  dsimp only at hrr ⊢
  have HX := Lib.hid (HY.out w1 hrr)
  clear HN HY hrr
  go_wp2_with fail
  refine HX.out.mono ?_
  rintro e w2 ⟨a, cap, rfl, hcap, hnil, hrd, ha, hrr, hgr2⟩
  dsimp only at hcap hrd hrr ⊢
  have hcl := clone_new q a cap w2 hrd hnil
  have HC := Lib.hid hcl
  clear HX hcl hrd ha
  go_wp2_with fail
  refine HC.out.mono ?_
  rintro e w3 ⟨a3, c3, rfl, hc3, hrd3, hb3, hfr3⟩
  have hfin : BtsNew w g (q, l2, b2) (.returned (.slice a3 q.length c3)) w3 :=
    ⟨a3, c3, rfl, hc3, hrd3, hrr.below hb3, grownBy_trans hgr (grownBy_trans hgr2 (Below.grownBy hb3 _)), fun h0 k hk => Nat.le_trans (Nat.le_trans hgr.size hgr2.size) (hfr3 h0 k hk)⟩
  clear HC hrr hgr hgr2 hb3 hrd3 hfr3
  have HF := Lib.hid hfin
  clear hfin
  go_wp2
  go_ret
  exact HF.out

end Go.Proofs.YtcbgccmoeleanaaDoor
namespace Go.Proofs.YtcbgccmoeleanaaDoor
open Go.RowKit
open Drawbar

theorem own_nil {w : World} {base : Nat} {e : TypeId} {size : Nat} {a : Option Addr} {n c m : Nat} {xs : List Value} (h : w.ownsRow base e size (.slice a n c) m xs) (ha : a = none) : c = 0 := by
  rcases h.2 with ⟨he, _⟩ | ⟨g, cap, cur, he, _⟩
  · injection he
  · injection he with h1
    rw [ha] at h1
    cases h1

def NewNn (w : World) (l : List Nat) (e : Ending) (w' : World) : Prop :=
  ∃ a cap, e = .returned (.slice a l.length cap) ∧ l.length ≤ cap ∧ Rd w' a l ∧ Below w.heap.size w w' ∧ (0 < l.length → ∀ k, a = some k → w.heap.size ≤ k.block) ∧ (a = none → cap = 0)

theorem clone_nn (l : List Nat) (a : Option Addr) (cap : Nat) (w : World) (hr : Rd w a l) (hnil : a = none → cap = 0) : Calls Tryd.prog 42 #[.slice a l.length cap] w (NewNn w l) := by
  cases a with
  | none =>
    obtain rfl : l = [] := List.eq_nil_of_length_eq_zero (hr.ofNil rfl)
    rw [hnil rfl]
    exact (clone_nil w).mono fun e w' ⟨he, hw⟩ => ⟨none, 0, he, by simp, hw ▸ rd_nil w, hw ▸ Below.refl _ _, fun h => absurd h (by simp), fun _ => rfl⟩
  | some ad =>
    obtain ⟨i0, hi, hz0, hz1, hz2⟩ := info_parts info_u8
    have he := Lib.run_eql_slice_nil (P := Tryd.prog) w 50 5 (some ad) l.length cap 0 0 Tryd.underlying50
    have hat := hr.at
    have hlen := hr.2.1
    have hll := hr.1
    clear hr hnil
    go_enter Tryd.func42, Tryd.ntmps42
    go_wp2_with (at_builtin; refine wpList_append_tail rfl _ _ 50 rfl w.heap.size 5 i0 (.int .u8 0) 1 1 Tryd.underlying50 hi hz0 hz1 hz2 rfl (by decide) _ 0 [] rfl (.inr ⟨_, rfl, by simp, by simp, fun _ _ _ _ h => by simp at h⟩) (some ad) l.length cap (l.map bv) rfl (by simp) (by simp) (hat.alloc _) (bv_one l) ?c2 ?c3 ?c4 ?_)
    case c2 => unfold maxLen; omega
    case c3 => omega
    case c4 => simp
    intro v' w' h1 h2 h3
    have hB : Below w.heap.size w w' := ((Below.refl _ _).alloc (Nat.le_refl _) _).trans h3
    have hv : ∃ a cap, v' = .slice a l.length cap ∧ l.length ≤ cap ∧ Rd w' a l ∧ (0 < l.length → ∀ k, a = some k → w.heap.size ≤ k.block) ∧ (a = none → cap = 0) := by
      rcases Nat.eq_zero_or_pos l.length with h0 | h0
      · obtain rfl : l = [] := List.eq_nil_of_length_eq_zero h0
        rcases h1 with h1 | ⟨ao, e, _⟩
        · obtain ⟨a, c, rfl, hc, hrd, _⟩ := rd_of_own (l := []) (by simpa using h1) (by simp) (by simp)
          exact ⟨a, c, rfl, hc, hrd, fun h => absurd h (by simp), own_nil h1⟩
        · exact ⟨ao, 0, by simpa using e, by simp, rd_empty _ _, fun h => absurd h (by simp), fun _ => rfl⟩
      · have h2' := h2 h0
        obtain ⟨a, c, rfl, hc, hrd, _, hfr⟩ := rd_of_own h2' (by simpa using hll) (by simpa using hlen)
        exact ⟨a, c, by simp, by simpa using hc, by simpa using hrd, fun _ k hk => (hfr k hk).1, own_nil h2'⟩
    obtain ⟨a', c', rfl, hc', hrd', hfr', hnn'⟩ := hv
    clear h1 h2 h3
    go_wp2
    go_ret
    exact ⟨a', c', rfl, hc', hrd', hB, hfr', hnn'⟩


def BtsNn (w : World) (g : Nat) (r : List Nat × List Nat × Bool) (e : Ending) (w' : World) : Prop :=
  ∃ a cap, e = .returned (.slice a r.1.length cap) ∧ r.1.length ≤ cap ∧ Rd w' a r.1 ∧ Rdr w' g r.2.1 r.2.2 ∧ w.grownBy w' (some g) ∧ (0 < r.1.length → ∀ k, a = some k → w.heap.size ≤ k.block) ∧ (a = none → cap = 0)

theorem rbytes_nn (g : Nat) (l : List Nat) (bad : Bool) (most : Int) (w : World) (h : Rdr w g l bad) :
    Calls Tryd.prog 59 #[.pointer (some ⟨g, 0, none⟩), .int .i64 most] w (BtsNn w g (bts l bad most)) := by
  have hnum := num_any g l bad 2 65535 w h
  have hll : ∀ x ∈ l, x < 256 := by obtain ⟨_, _, _, _, hrd, _⟩ := h; exact hrd.1
  have hlt := nm_lt l bad 2 65535 hll (by omega)
  unfold bts
  clear hll h
  generalize nm l bad 2 65535 = r at hnum hlt
  obtain ⟨x, l1, b1⟩ := r
  dsimp only at hnum hlt ⊢
  have hnext := fun w1 hrr => next_any g l1 b1 x most w1 hrr
  generalize nx l1 b1 x most = r2 at hnext
  obtain ⟨q, l2, b2⟩ := r2
  have HN := Lib.hid hnum
  have HY := Lib.hid hnext
  clear hnum hnext
  go_enter Tryd.func59, Tryd.ntmps59
  go_wp2_with fail
  refine HN.out.mono ?_
  rintro e w1 ⟨rfl, hrr, hgr⟩
  dsimp only at hrr ⊢
  have HX := Lib.hid (HY.out w1 hrr)
  clear HN HY hrr
  go_wp2_with fail
  refine HX.out.mono ?_
  rintro e w2 ⟨a, cap, rfl, hcap, hnil, hrd, ha, hrr, hgr2⟩
  dsimp only at hcap hrd hrr ⊢
  have hcl := clone_nn q a cap w2 hrd hnil
  have HC := Lib.hid hcl
  clear HX hcl hrd ha
  go_wp2_with fail
  refine HC.out.mono ?_
  rintro e w3 ⟨a3, c3, rfl, hc3, hrd3, hb3, hfr3, hnn3⟩
  have hfin : BtsNn w g (q, l2, b2) (.returned (.slice a3 q.length c3)) w3 :=
    ⟨a3, c3, rfl, hc3, hrd3, hrr.below hb3, grownBy_trans hgr (grownBy_trans hgr2 (Below.grownBy hb3 _)), fun h0 k hk => Nat.le_trans (Nat.le_trans hgr.size hgr2.size) (hfr3 h0 k hk), hnn3⟩
  clear HC hrr hgr hgr2 hb3 hrd3 hfr3
  have HF := Lib.hid hfin
  clear hfin
  go_wp2
  go_ret
  exact HF.out

end Go.Proofs.YtcbgccmoeleanaaDoor
namespace Go.Proofs.YtcbgccmoeleanaaDoor
open Go.RowKit
open Drawbar

theorem put_div (n k : Nat) : n / 256 ^ k % 256 = n / 2 ^ (8 * k) % 256 := by
  rw [Nat.pow_mul]

end Go.Proofs.YtcbgccmoeleanaaDoor
namespace Go.Proofs.YtcbgccmoeleanaaDoor
open Go.RowKit
open Drawbar

theorem shr_nat (b k : Nat) : ((b : Int) / 2 ^ k) = ((b / 2 ^ k : Nat) : Int) := by simp

theorem At.below {w w' : World} {ao : Option Addr} {xs : List Value} (h : At w ao xs) (hb : Below w.heap.size w w') : At w' ao xs :=
  h.mono fun p _ hp => (hb.cell (World.block_lt_of_cell? w p hp)).trans hp
theorem Tail.below {w w' : World} {base : Nat} {e : TypeId} {size : Nat} {v : Value} {n : Nat} {xs : List Value} (h : Tail w base e size v n xs) (hb : Below w.heap.size w w') : Tail w' base e size v n xs :=
  h.imp (fun h => h.kept (row := none) ⟨hb.os, hb.tape, hb.output, hb.size, fun k hk _ => hb.block k hk⟩ (by cases v.ownBlock <;> simp)) fun ⟨ao, h1, h2, h3, h4⟩ => ⟨ao, h1, h2, h3, At.below h4 hb⟩

end Go.Proofs.YtcbgccmoeleanaaDoor
namespace Go.Proofs.YtcbgccmoeleanaaDoor
open Go.RowKit
open Drawbar

/-- What the document's Open answers. -/
def RefOpens (w : World) (l : List Nat) (e : Ending) (w' : World) : Prop :=
  Below w.heap.size w w' ∧
  ((l.length < 4 ∧ e = .returned (.tuple #[.slice none 0 0, .int .i64 3])) ∨ (4 ≤ l.length ∧ ¬ valid l ∧ e = .returned (.tuple #[.slice none 0 0, .int .i64 4])) ∨
   (valid l ∧ ∃ a cap, e = .returned (.tuple #[.slice a (l.length - 4) cap, .int .i64 0]) ∧ l.length - 4 ≤ cap ∧ Rd w' a (l.take (l.length - 4))))

theorem strOf_inj {l m : List Nat} (hl : ∀ x ∈ l, x < 256) (hm : ∀ x ∈ m, x < 256) (h : strOf l = strOf m) : l = m := by
  have h1 : l.map UInt8.ofNat = m.map UInt8.ofNat := by
    have := congrArg (fun b : ByteArray => b.data.toList) h
    simpa [strOf] using this
  have back : ∀ q : List Nat, (∀ x ∈ q, x < 256) → (q.map UInt8.ofNat).map UInt8.toNat = q := fun q hq => by
    rw [List.map_map]
    conv => rhs; rw [← List.map_id q]
    refine List.map_congr_left fun x hx => ?_
    have := hq x hx
    simp only [Function.comp, id, UInt8.toNat_ofNat']; omega
  rw [← back l hl, ← back m hm, h1]

theorem le_inj (l m : List Nat) (hl : ∀ x ∈ l, x < 256) (hm : ∀ x ∈ m, x < 256) (hn : l.length = m.length) (h : Crc.le l = Crc.le m) : l = m := by
  induction l generalizing m with
  | nil => exact (List.eq_nil_of_length_eq_zero hn.symm).symm
  | cons x r ih =>
    cases m with
    | nil => simp at hn
    | cons y q =>
      simp only [Crc.le] at h
      have hx := hl x (by simp)
      have hy := hm y (by simp)
      have e1 : x = y := by omega
      have e2 : Crc.le r = Crc.le q := by omega
      rw [e1, ih q (fun z hz => hl z (by simp [hz])) (fun z hz => hm z (by simp [hz])) (by simpa using hn) e2]

end Go.Proofs.YtcbgccmoeleanaaDoor
namespace Go.Proofs.YtcbgccmoeleanaaDoor
open Go.RowKit
open Drawbar

/-- How the two readers stand to one another. -/
def Sync (l rest : List Nat) (bad : Bool) (at' : Int) : Prop :=
  (bad = false ∧ ∃ k : Nat, at' = k ∧ k ≤ l.length ∧ rest = l.drop k) ∨ (bad = true ∧ at' = -1)

theorem nm_bad (l : List Nat) (n : Int) (m : Nat) : nm l true n m = (0, l, true) := by
  have h1 : nx l true n 8 = ([], l, true) := by unfold nx; rw [if_pos (.inl rfl)]
  unfold nm; rw [h1]; dsimp only; rw [if_neg (by simp [Crc.le])]; simp [Crc.le]
theorem nm_few (l : List Nat) (n m : Nat) (h : l.length < n) : nm l false n m = (0, l, true) := by
  have h1 : nx l false n 8 = ([], l, true) := by unfold nx; rw [if_pos (by right; right; right; omega)]
  unfold nm; rw [h1]; dsimp only; rw [if_neg (by simp [Crc.le])]; simp [Crc.le]
theorem nm_ok (l : List Nat) (n m : Nat) (h : n ≤ l.length) (h8 : n ≤ 8) : nm l false n m = if m < Crc.le (l.take n) then (0, l.drop n, true) else (Crc.le (l.take n), l.drop n, false) := by
  have h1 : nx l false n 8 = (l.take n, l.drop n, false) := by
    unfold nx
    rw [if_neg (by simp only [Bool.false_eq_true, false_or]; omega)]; simp
  unfold nm; rw [h1]

theorem quiet_at {P : Program} {f : FuncId} {args : Array Value} {w : World} {q n : Nat} {v : Value}
    (h : Calls P f args (w.drewN (q + n)) fun e w' => e = .returned v ∧ w.drewN (q + n) = w') : Calls P f args (w.drewN (q + n)) fun e w'' => e = .returned v ∧ ∃ m, w'' = w.drewN (q + m) :=
  h.mono fun _ _ ⟨he, hm⟩ => ⟨he, n, hm.symm⟩

/-- Both ways to read a length, and the bytes behind it, come to the same. -/
theorem bts_eq (rest : List Nat) (bad : Bool) (most : Nat) (hl : ∀ x ∈ rest, x < 256) :
    bts rest bad most = if (nm rest bad 2 most).2.2 = true ∨ (nm rest bad 2 most).2.1.length < (nm rest bad 2 most).1 then ([], (nm rest bad 2 most).2.1, true)
      else ((nm rest bad 2 most).2.1.take (nm rest bad 2 most).1, (nm rest bad 2 most).2.1.drop (nm rest bad 2 most).1, false) := by
  cases bad with
  | true =>
    have h := nm_bad rest 2 most
    rw [h, bts_bad]; simp
  | false =>
    rcases Nat.lt_or_ge rest.length 2 with h | h
    · have h1 := nm_few rest 2 most h
      have h2 := nm_few rest 2 65535 h
      rw [show (((2 : Nat) : Int)) = 2 from rfl] at h1 h2
      unfold bts
      rw [h1, h2]
      dsimp only
      unfold nx
      rw [if_pos (.inl rfl), if_pos (.inl rfl)]
    · have h1 := nm_ok rest 2 most h (by decide)
      have h2 := nm_ok rest 2 65535 h (by decide)
      have hx : Crc.le (rest.take 2) < 65536 := by
        have := Crc.le_lt (rest.take 2) (fun x hx => hl x (List.mem_of_mem_take hx))
        exact Nat.lt_of_lt_of_le this (Nat.pow_le_pow_right (n := 2) (by omega) (show 8 * (rest.take 2).length ≤ 16 by rw [List.length_take]; omega))
      rw [show (((2 : Nat) : Int)) = 2 from rfl] at h1 h2
      rw [if_neg (by omega)] at h2
      unfold bts
      rw [h1, h2]
      dsimp only
      by_cases hb : most < Crc.le (rest.take 2)
      · rw [if_pos hb]
        unfold nx
        rw [if_pos (by right; right; left; omega), if_pos (.inl rfl)]
      · rw [if_neg hb]
        dsimp only
        unfold nx
        by_cases hc : (rest.drop 2).length < Crc.le (rest.take 2)
        · rw [if_pos (by right; right; right; omega), if_pos (.inr hc)]
        · rw [if_neg (by simp only [Bool.false_eq_true, false_or]; omega), if_neg (by simp only [Bool.false_eq_true, false_or]; exact hc)]
          simp
end Go.Proofs.YtcbgccmoeleanaaDoor
