/- The contracts of octet.Reader: what its block holds, and what each call reads. -/
import Derived.Test.YtopmljbemogcoaaDoorOne
namespace Go.Proofs.YtopmljbemogcoaaDoor
open Go.RowKit
open Drawbar

/-- A reader in block g: the bytes that aren't read yet, and whether there was a fault. -/
def Rdr (w : World) (g : Nat) (l : List Nat) (bad : Bool) : Prop :=
  ∃ a cap, w.heap[g]? = some (.cells #[.slice a l.length cap, .bool bad] 66 (0, 0)) ∧ l.length ≤ cap ∧ Rd w a l ∧ (a = none → cap = 0) ∧ (0 < l.length → ∀ k, a = some k → k.block < g)

theorem ne_all {a : Option Addr} {n g : Nat} (h : 0 < n → ∀ k, a = some k → k.block < g) : 0 < n → ∀ k, a = some k → k.block ≠ g := fun h0 k hk => Nat.ne_of_lt (h h0 k hk)

theorem two_cells {w : World} {g : Nat} {u v : Value} {t : TypeId} (h : w.heap[g]? = some (.cells #[u, v] t (0, 0))) :
    w.cell? ⟨g, 0, none⟩ = some u ∧ w.cell? ⟨g, 1, none⟩ = some v ∧ w.frozen? ⟨g, 0, none⟩ = false ∧ w.frozen? ⟨g, 1, none⟩ = false := by
  simp [World.cell?, World.frozen?, h]
theorem two_set0 {w : World} {g : Nat} {u v x : Value} {t : TypeId} (h : w.heap[g]? = some (.cells #[u, v] t (0, 0))) : (w.setCell ⟨g, 0, none⟩ x).heap[g]? = some (.cells #[x, v] t (0, 0)) := by
  have hlt := lt_of_block h
  have h' : w.heap[g] = .cells #[u, v] t (0, 0) := by simpa [Array.getElem?_eq_getElem hlt] using h
  show (w.heap.modify g _)[g]? = _
  rw [Array.getElem?_eq_getElem (by simpa using hlt), Array.getElem_modify_self, h']
  rfl
theorem two_set1 {w : World} {g : Nat} {u v x : Value} {t : TypeId} (h : w.heap[g]? = some (.cells #[u, v] t (0, 0))) : (w.setCell ⟨g, 1, none⟩ x).heap[g]? = some (.cells #[u, x] t (0, 0)) := by
  have hlt := lt_of_block h
  have h' : w.heap[g] = .cells #[u, v] t (0, 0) := by simpa [Array.getElem?_eq_getElem hlt] using h
  show (w.heap.modify g _)[g]? = _
  rw [Array.getElem?_eq_getElem (by simpa using hlt), Array.getElem_modify_self, h']
  rfl
theorem grownBy_setCell (w : World) (g o : Nat) (x : Value) : w.grownBy (w.setCell ⟨g, o, none⟩ x) (some g) :=
  ⟨rfl, rfl, rfl, by simp [World.setCell], fun k _ hk => Below.heap_setCell _ _ _ _ (fun e => hk (by rw [e]))⟩
theorem grownBy_refl (w : World) (row : Option Nat) : w.grownBy w row := ⟨rfl, rfl, rfl, Nat.le_refl _, fun _ _ _ => rfl⟩
theorem grownBy_trans {w w1 w2 : World} {row : Option Nat} (h : w.grownBy w1 row) (h2 : w1.grownBy w2 row) : w.grownBy w2 row :=
  ⟨h2.os.trans h.os, h2.tape.trans h.tape, h2.output.trans h.output, Nat.le_trans h.size h2.size, fun k hk hr => (h2.block k (Nat.lt_of_lt_of_le hk h.size) hr).trans (h.block k hk hr)⟩
theorem Below.grownBy {w w' : World} (h : Below w.heap.size w w') (row : Option Nat) : w.grownBy w' row := ⟨h.os, h.tape, h.output, h.size, fun k hk _ => h.block k hk⟩

/-- Bytes that don't lie in the written block read as they did. -/
theorem Rd.grown {w w' : World} {a : Option Addr} {l : List Nat} {g : Nat} (h : Rd w a l) (hg : w.grownBy w' (some g)) (ha : 0 < l.length → ∀ k, a = some k → k.block ≠ g) : Rd w' a l := by
  obtain ⟨hl, hlen, hc⟩ := h
  refine ⟨hl, hlen, fun h0 => ?_⟩
  obtain ⟨b, off, rfl, hcell⟩ := hc h0
  exact ⟨b, off, rfl, fun i hi => hg.cell (hcell i hi) (by simpa using ha h0 _ rfl)⟩

theorem read_any (l : List Nat) (a : Option Addr) (cap : Nat) (w : World) (hr : Rd w a l) (hcap : l.length ≤ cap) (hnil : a = none → cap = 0) :
    Calls Tryd.prog 36 #[.slice a l.length cap] w fun e w' => e = .returned (.pointer (some ⟨w.heap.size, 0, none⟩)) ∧ Rdr w' w.heap.size l false ∧ Below w.heap.size w w' := by
  go_enter Tryd.func36, Tryd.ntmps36
  go_wp2
  go_ret
  refine ⟨rfl, ⟨a, cap, heap_alloc_new w _, hcap, hr.below ((Below.refl _ _).alloc (Nat.le_refl _) _), hnil, fun h0 k hk => by
    obtain ⟨b, off, rfl, hc⟩ := hr.2.2 h0
    cases hk
    exact World.block_lt_of_cell? w _ (hc 0 h0)⟩, (Below.refl _ _).alloc (Nat.le_refl _) _⟩

theorem bad_any (g : Nat) (l : List Nat) (bad : Bool) (w : World) (h : Rdr w g l bad) :
    Calls Tryd.prog 41 #[.pointer (some ⟨g, 0, none⟩)] w fun e w' => e = .returned (.bool bad) ∧ w = w' := by
  obtain ⟨a, cap, hb, _⟩ := h
  obtain ⟨h0, h1, _, _⟩ := two_cells hb
  clear hb
  go_enter Tryd.func41, Tryd.ntmps41
  go_wp2
  go_ret
  exact ⟨rfl, rfl⟩

/-- What next takes, what is left, and whether there is a fault then. -/
def nx (l : List Nat) (bad : Bool) (n m : Int) : List Nat × List Nat × Bool :=
  if bad = true ∨ n < 0 ∨ m < n ∨ (l.length : Int) < n then ([], l, true) else (l.take n.toNat, l.drop n.toNat, false)

def NextPost (w : World) (g : Nat) (r : List Nat × List Nat × Bool) (e : Ending) (w' : World) : Prop :=
  ∃ a cap, e = .returned (.slice a r.1.length cap) ∧ r.1.length ≤ cap ∧ (a = none → cap = 0) ∧ Rd w' a r.1 ∧ (0 < r.1.length → ∀ k, a = some k → k.block ≠ g) ∧ Rdr w' g r.2.1 r.2.2 ∧ w.grownBy w' (some g)

theorem next_bad (g : Nat) (l : List Nat) (n m : Int) (w : World) (h : Rdr w g l true) :
    Calls Tryd.prog 40 #[.pointer (some ⟨g, 0, none⟩), .int .i64 n, .int .i64 m] w (NextPost w g (nx l true n m)) := by
  go_enter Tryd.func40, Tryd.ntmps40
  go_wp2_with fail
  refine (bad_any g l true w h).mono ?_
  rintro e w' ⟨rfl, rfl⟩
  go_wp2
  go_ret
  exact ⟨none, 0, by simp [nx], by simp [nx], fun _ => rfl, by simpa [nx] using rd_nil w, fun _ _ h => by (cases h), by simpa [nx] using h, grownBy_refl _ _⟩

theorem next_fault (g : Nat) (l : List Nat) (n m : Int) (w : World) (h : Rdr w g l false) (hf : n < 0 ∨ m < n ∨ (l.length : Int) < n) :
    Calls Tryd.prog 40 #[.pointer (some ⟨g, 0, none⟩), .int .i64 n, .int .i64 m] w (NextPost w g (nx l false n m)) := by
  have hnx : nx l false n m = ([], l, true) := by simp [nx, hf]
  rw [hnx]
  have hbad := bad_any g l false w h
  obtain ⟨a, cap, hb, hcap, hrd, hnil, ha⟩ := h
  obtain ⟨h0, h1, f0, f1⟩ := two_cells hb
  have hset := two_set1 (x := .bool true) hb
  have hgr := grownBy_setCell w g 1 (.bool true)
  have hfin : NextPost w g ([], l, true) (.returned (.slice none 0 0)) (w.setCell ⟨g, 1, none⟩ (.bool true)) :=
    ⟨none, 0, rfl, by simp, fun _ => rfl, rd_nil _, fun _ _ h => by (cases h), ⟨a, cap, hset, hcap, hrd.grown hgr (ne_all ha), hnil, ha⟩, hgr⟩
  have HB := Lib.hid hbad
  have HF := Lib.hid hfin
  clear hbad hb hcap hrd hset hgr hfin hnx hnil ha
  go_enter Tryd.func40, Tryd.ntmps40
  go_wp2_with fail
  refine HB.out.mono ?_
  rintro e w' ⟨rfl, rfl⟩
  by_cases hn : n < 0
  · go_wp2
    go_ret
    exact HF.out
  · by_cases hm : m < n
    · go_wp2
      go_ret
      exact HF.out
    · have hl : (l.length : Int) < n := by omega
      go_wp2
      go_ret
      exact HF.out

theorem next_ok (g : Nat) (l : List Nat) (n : Nat) (m : Int) (w : World) (h : Rdr w g l false) (hn : n ≤ l.length) (hm : (n : Int) ≤ m) :
    Calls Tryd.prog 40 #[.pointer (some ⟨g, 0, none⟩), .int .i64 n, .int .i64 m] w (NextPost w g (nx l false n m)) := by
  have hnx : nx l false n m = (l.take n, l.drop n, false) := by
    unfold nx
    rw [if_neg (by simp only [Bool.false_eq_true, false_or]; omega)]
    simp
  have hadd : ∀ b off : Nat, (some (⟨b, off, none⟩ : Addr)).map (fun x => x.add n) = some ⟨b, off + n, none⟩ := fun b off => by rw [Option.map_some, Addr.add_lit]
  rw [hnx]
  have hbad := bad_any g l false w h
  obtain ⟨a, cap, hb, hcap, hrd, hnil, ha⟩ := h
  obtain ⟨h0, h1, f0, f1⟩ := two_cells hb
  have hlen := hrd.2.1
  have hfin : ∀ a2, (n < cap → a2 = a.map fun x => x.add n) → (cap = n → a2 = a) → NextPost w g (l.take n, l.drop n, false) (.returned (.slice a n cap)) (w.setCell ⟨g, 0, none⟩ (.slice a2 (l.length - n) (cap - n))) := by
    intro a2 h2 h3
    have hset := two_set0 (x := .slice a2 (l.length - n) (cap - n)) hb
    have hgr := grownBy_setCell w g 0 (.slice a2 (l.length - n) (cap - n))
    have htl : (l.take n).length = n := by rw [List.length_take]; omega
    have hdl : (l.drop n).length = l.length - n := List.length_drop
    refine ⟨a, cap, by rw [htl], by rw [htl]; omega, hnil, (hrd.take n).grown hgr (fun h => ne_all ha (by rw [htl] at h; omega)), fun h => ne_all ha (by rw [htl] at h; omega), ⟨a2, cap - n, by rw [hdl]; exact hset, by rw [hdl]; omega, ?_, ?_, ?_⟩, hgr⟩
    · rcases Nat.eq_zero_or_pos (l.length - n) with hz | hz
      · rw [List.eq_nil_of_length_eq_zero (hdl.trans hz)]; exact rd_empty _ _
      · obtain ⟨b, off, rfl, _⟩ := hrd.2.2 (by omega)
        obtain rfl := (h2 (by omega)).trans (hadd b off)
        exact (hrd.drop n).grown hgr (fun _ k hk => by cases hk; exact ne_all ha (by omega) ⟨b, off, none⟩ rfl)
    · intro h4
      rcases Nat.lt_or_ge n cap with h5 | h5
      · rw [h2 h5] at h4
        simp at h4
        rw [hnil h4]; omega
      · omega
    · intro h4 k hk
      rw [hdl] at h4
      obtain ⟨b, off, rfl, _⟩ := hrd.2.2 (by omega)
      rw [h2 (by omega), hadd] at hk
      cases hk
      exact ha (by omega) ⟨b, off, none⟩ rfl
  have HB := Lib.hid hbad
  have HF := Lib.hid hfin
  clear hbad hb hrd hfin hnx hnil ha
  have hn0 : (0 : Int) ≤ (n : Int) := by omega
  go_enter Tryd.func40, Tryd.ntmps40
  go_wp2_with fail
  refine HB.out.mono ?_
  rintro e w' ⟨rfl, rfl⟩
  have hcc : (n < cap ∧ (cap = n) = False) ∨ cap = n := by
    rcases Nat.lt_or_ge n cap with h | h
    · exact .inl ⟨h, by simp; omega⟩
    · exact .inr (by omega)
  rcases hcc with ⟨h3, h4⟩ | h3
  · go_wp2
    go_ret
    exact HF.out _ (fun _ => rfl) (fun h => by omega)
  · have hf2 := HF.out a (fun h => by omega) (fun _ => rfl)
    rw [show cap - n = 0 by omega, h3] at hf2
    have HF2 := Lib.hid hf2
    clear hf2 HF
    go_wp2
    go_ret
    exact HF2.out

theorem next_any (g : Nat) (l : List Nat) (bad : Bool) (n m : Int) (w : World) (h : Rdr w g l bad) :
    Calls Tryd.prog 40 #[.pointer (some ⟨g, 0, none⟩), .int .i64 n, .int .i64 m] w (NextPost w g (nx l bad n m)) := by
  cases bad with
  | true => exact next_bad g l n m w h
  | false =>
    by_cases hf : n < 0 ∨ m < n ∨ (l.length : Int) < n
    · exact next_fault g l n m w h hf
    · have := next_ok g l n.toNat m w h (by omega) (by omega)
      rwa [show ((n.toNat : Nat) : Int) = n by omega] at this

/-- What Num reads, what is left, and whether there is a fault then. -/
def nm (l : List Nat) (bad : Bool) (n : Int) (most : Nat) : Nat × List Nat × Bool :=
  let r := nx l bad n 8
  if most < Crc.le r.1 then (0, r.2.1, true) else (Crc.le r.1, r.2)

def NumPost (w : World) (g : Nat) (r : Nat × List Nat × Bool) (e : Ending) (w' : World) : Prop :=
  e = .returned (.int .u64 (r.1 : Nat)) ∧ Rdr w' g r.2.1 r.2.2 ∧ w.grownBy w' (some g)

theorem nx_len (l : List Nat) (bad : Bool) (n : Int) (m : Nat) : (nx l bad n m).1.length ≤ m := by
  unfold nx
  split
  · simp
  · rw [List.length_take]; omega
theorem nx_lt (l : List Nat) (bad : Bool) (n m : Int) (hl : ∀ x ∈ l, x < 256) : ∀ x ∈ (nx l bad n m).1, x < 256 := by
  unfold nx
  split
  · simp
  · exact fun x hx => hl x (List.mem_of_mem_take hx)

theorem num_any (g : Nat) (l : List Nat) (bad : Bool) (n : Int) (most : Nat) (w : World) (h : Rdr w g l bad) :
    Calls Tryd.prog 37 #[.pointer (some ⟨g, 0, none⟩), .int .i64 n, .int .u64 most] w (NumPost w g (nm l bad n most)) := by
  have hnext := next_any g l bad n 8 w h
  have hlen : (nx l bad n 8).1.length ≤ 8 := nx_len l bad n 8
  have hll : ∀ x ∈ l, x < 256 := by obtain ⟨_, _, _, _, hrd, _⟩ := h; exact hrd.1
  have hlt := Crc.le_lt _ (nx_lt l bad n 8 hll)
  have hlt2 : Crc.le (nx l bad n 8).1 < 2 ^ 64 := Nat.lt_of_lt_of_le hlt (Nat.pow_le_pow_right (by omega) (by omega))
  have hnm : nm l bad n most = if most < Crc.le (nx l bad n 8).1 then (0, (nx l bad n 8).2.1, true) else (Crc.le (nx l bad n 8).1, (nx l bad n 8).2) := rfl
  rw [hnm]
  clear hnm hlt hll h
  generalize nx l bad n 8 = r at hnext hlen hlt2
  obtain ⟨r1, r2, r3⟩ := r
  dsimp only at hlen hlt2 ⊢
  obtain ⟨res, hres, hy, hn⟩ : ∃ res, (if most < Crc.le r1 then (0, r2, true) else (Crc.le r1, r2, r3)) = res ∧ (most < Crc.le r1 → res = (0, r2, true)) ∧ (¬ most < Crc.le r1 → res = (Crc.le r1, r2, r3)) :=
    ⟨_, rfl, fun h => if_pos h, fun h => if_neg h⟩
  rw [hres]
  clear hres
  have HN := Lib.hid hnext
  clear hnext
  go_enter Tryd.func37, Tryd.ntmps37
  go_wp2_with fail
  refine HN.out.mono ?_
  rintro e w' ⟨a, cap, rfl, hcap, hnil, hrd, ha, hrr, hgr⟩
  dsimp only at hcap hrd hrr ⊢
  have hget := get_any r1 a cap w' hrd
  rw [List.take_of_length_le hlen] at hget
  obtain ⟨a2, cap2, hb, hcap2, hrd2, hnil2, ha2⟩ := hrr
  obtain ⟨c0, c1, f0, f1⟩ := two_cells hb
  have hset := two_set1 (x := .bool true) hb
  have hgr2 := grownBy_setCell w' g 1 (.bool true)
  have hp1 : most < Crc.le r1 → NumPost w g res (.returned (.int .u64 0)) (w'.setCell ⟨g, 1, none⟩ (.bool true)) := fun hlt => by
    rw [hy hlt]; exact ⟨rfl, ⟨a2, cap2, hset, hcap2, hrd2.grown hgr2 (ne_all ha2), hnil2, ha2⟩, grownBy_trans hgr hgr2⟩
  have hp2 : ¬ most < Crc.le r1 → NumPost w g res (.returned (.int .u64 (Crc.le r1 : Nat))) w' := fun hlt => by
    rw [hn hlt]; exact ⟨rfl, ⟨a2, cap2, hb, hcap2, hrd2, hnil2, ha2⟩, hgr⟩
  clear hy hn
  generalize Crc.le r1 = x at hget hp1 hp2 hlt2
  have HG := Lib.hid hget
  have H1 := Lib.hid hp1
  have H2 := Lib.hid hp2
  clear HN hget hp1 hp2 hb hset hgr hgr2 hrd hrd2 ha ha2 hnil hnil2 hcap hcap2
  by_cases hlt : most < x
  · have hd : (most : Int) < (x : Int) := by omega
    go_wp2_with fail
    refine HG.out.mono ?_
    rintro e w2 ⟨rfl, rfl⟩
    go_wp2
    go_ret
    exact H1.out hlt
  · have hd : ¬ (most : Int) < (x : Int) := by omega
    go_wp2_with fail
    refine HG.out.mono ?_
    rintro e w2 ⟨rfl, rfl⟩
    go_wp2
    go_ret
    exact H2.out hlt
end Go.Proofs.YtopmljbemogcoaaDoor
