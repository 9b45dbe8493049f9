/- What stands in a page's bytes: as sheet.parts reads it, and as the document reads it; both give back what was laid. -/
import Derived.Test.YtkapnpcolmhdbaaDoorRefs
import Derived.Test.YtkapnpcolmhdbaaDoorSame
namespace Drawbar.Sheet
open Go.Proofs.YtkapnpcolmhdbaaDoor
def mxt : Nat := 281474976710655
def r0 (l : List Nat) := nm l false 1 3
def r1 (l : List Nat) := nm (r0 l).2.1 (r0 l).2.2 6 281474976710655
def r2 (l : List Nat) := nm (r1 l).2.1 (r1 l).2.2 6 281474976710655
def r3 (l : List Nat) := nm (r2 l).2.1 (r2 l).2.2 2 65535
def r4 (l : List Nat) := nm (r3 l).2.1 (r3 l).2.2 1 255
def r5 (l : List Nat) := bts (r4 l).2.1 (r4 l).2.2 64
/-- What sheet.parts reads. -/
def partsS (l : List Nat) : Sh := ⟨(r0 l).1, (r1 l).1, (r2 l).1, (r3 l).1, ((r4 l).1 : Int) - 1, (r5 l).1⟩

set_option maxRecDepth 100000 in
theorem nm_put (n k most : Nat) (r : List Nat) (hk : k ≤ 8) (hn : n < 2 ^ (8 * k)) (hm : n ≤ most) : nm (put n k ++ r) false k most = (n, r, false) := by
  have h1 : (put n k ++ r).take k = put n k := by
    have := List.take_left (l₁ := put n k) (l₂ := r)
    rwa [put_length] at this
  have h2 : (put n k ++ r).drop k = r := by
    have := List.drop_left (l₁ := put n k) (l₂ := r)
    rwa [put_length] at this
  rw [nm_ok _ _ _ (by rw [List.length_append, put_length]; omega) hk, h1, h2, le_put, Nat.mod_eq_of_lt hn, if_neg (by omega)]
set_option maxRecDepth 100000 in
theorem bts_put (m r : List Nat) (most : Nat) (h : m.length ≤ most) (h2 : m.length ≤ 65535) : bts (laid1 m ++ r) false most = (m, r, false) := by
  unfold bts laid1
  rw [List.append_assoc]
  have e := nm_put m.length 2 65535 (m ++ r) (by omega) (by omega) h2
  rw [show ((2 : Nat) : Int) = 2 from rfl] at e
  rw [e]
  dsimp only
  exact nx_app m r most (by omega)

set_option maxRecDepth 100000 in
theorem parts_back {s : Sh} (hf : fm s = true) : partsS (body s) = s := by
  obtain ⟨a1, a2, a3, a4, a5, a6, a7, a8, a9⟩ := of_decide_eq_true hf
  have hl := fm_len hf
  obtain ⟨z, hz⟩ : ∃ z, z = List.replicate (73 - s.da.length) 0 := ⟨_, rfl⟩
  have hb : body s = put s.k 1 ++ (put s.ep 6 ++ (put s.sq 6 ++ (put s.ad.toNat 2 ++ (put (s.fr + 1).toNat 1 ++ (laid1 s.da ++ z))))) := by
    unfold body head
    rw [← hz]
    simp only [List.append_assoc]
  have e0 : r0 (body s) = (s.k, (put s.ep 6 ++ (put s.sq 6 ++ (put s.ad.toNat 2 ++ (put (s.fr + 1).toNat 1 ++ (laid1 s.da ++ z))))), false) := by unfold r0; rw [hb]; exact nm_put s.k 1 3 _ (by omega) (by omega) a2
  have e1 : r1 (body s) = (s.ep, (put s.sq 6 ++ (put s.ad.toNat 2 ++ (put (s.fr + 1).toNat 1 ++ (laid1 s.da ++ z)))), false) := by unfold r1; rw [e0]; exact nm_put s.ep 6 _ _ (by omega) (by omega) a3
  have e2 : r2 (body s) = (s.sq, (put s.ad.toNat 2 ++ (put (s.fr + 1).toNat 1 ++ (laid1 s.da ++ z))), false) := by unfold r2; rw [e1]; exact nm_put s.sq 6 _ _ (by omega) (by omega) a4
  have e3 : r3 (body s) = (s.ad.toNat, (put (s.fr + 1).toNat 1 ++ (laid1 s.da ++ z)), false) := by unfold r3; rw [e2]; exact nm_put s.ad.toNat 2 65535 _ (by omega) (by omega) (by omega)
  have e4 : r4 (body s) = ((s.fr + 1).toNat, (laid1 s.da ++ z), false) := by unfold r4; rw [e3]; exact nm_put (s.fr + 1).toNat 1 255 _ (by omega) (by omega) (by omega)
  have e5 : r5 (body s) = (s.da, z, false) := by unfold r5; rw [e4]; exact bts_put s.da _ 64 hl (by omega)
  unfold partsS
  rw [e0, e1, e2, e3, e4, e5]
  cases s
  simp only [Sh.mk.injEq, true_and, and_true]
  dsimp only at *
  omega
end Drawbar.Sheet
namespace Go.Proofs.YtkapnpcolmhdbaaDoor
open Go.RowKit
open Drawbar Drawbar.Sheet

set_option maxRecDepth 100000 in
theorem six_cells {w : World} {g : Nat} {u0 u1 u2 u3 u4 u5 : Value} {t : TypeId} (h : w.heap[g]? = some (.cells #[u0, u1, u2, u3, u4, u5] t (0, 0))) :
    (w.cell? ⟨g, 0, none⟩ = some u0 ∧ w.cell? ⟨g, 1, none⟩ = some u1 ∧ w.cell? ⟨g, 2, none⟩ = some u2 ∧ w.cell? ⟨g, 3, none⟩ = some u3 ∧ w.cell? ⟨g, 4, none⟩ = some u4 ∧ w.cell? ⟨g, 5, none⟩ = some u5) ∧
    (w.frozen? ⟨g, 0, none⟩ = false ∧ w.frozen? ⟨g, 1, none⟩ = false ∧ w.frozen? ⟨g, 2, none⟩ = false ∧ w.frozen? ⟨g, 3, none⟩ = false ∧ w.frozen? ⟨g, 4, none⟩ = false ∧ w.frozen? ⟨g, 5, none⟩ = false) := by
  simp [World.cell?, World.frozen?, h]

set_option maxRecDepth 100000 in
theorem set_one {w : World} {g : Nat} {cs : Array Value} {t : TypeId} (h : w.heap[g]? = some (.cells cs t (0, 0))) (o : Nat) (x : Value) : (w.setCell ⟨g, o, none⟩ x).heap[g]? = some (.cells (cs.setIfInBounds o x) t (0, 0)) := by
  have hlt := lt_of_block h
  have h' : w.heap[g] = .cells cs t (0, 0) := by simpa [Array.getElem?_eq_getElem hlt] using h
  show (w.heap.modify g _)[g]? = _
  rw [Array.getElem?_eq_getElem (by simpa using hlt), Array.getElem_modify_self, h']
  rfl
set_option maxRecDepth 100000 in
theorem six_set {w : World} {g : Nat} {u0 u1 u2 u3 u4 u5 v0 v1 v2 v3 v4 v5 : Value} {t : TypeId} (h : w.heap[g]? = some (.cells #[u0, u1, u2, u3, u4, u5] t (0, 0))) :
    ((((((w.setCell ⟨g, 0, none⟩ v0).setCell ⟨g, 1, none⟩ v1).setCell ⟨g, 2, none⟩ v2).setCell ⟨g, 3, none⟩ v3).setCell ⟨g, 4, none⟩ v4).setCell ⟨g, 5, none⟩ v5).heap[g]? = some (.cells #[v0, v1, v2, v3, v4, v5] t (0, 0)) := by
  have h6 := set_one (set_one (set_one (set_one (set_one (set_one h 0 v0) 1 v1) 2 v2) 3 v3) 4 v4) 5 v5
  simpa using h6
set_option maxRecDepth 100000 in
theorem six_below {w : World} {B g : Nat} {v0 v1 v2 v3 v4 v5 : Value} (hg : B ≤ g) : Below B w ((((((w.setCell ⟨g, 0, none⟩ v0).setCell ⟨g, 1, none⟩ v1).setCell ⟨g, 2, none⟩ v2).setCell ⟨g, 3, none⟩ v3).setCell ⟨g, 4, none⟩ v4).setCell ⟨g, 5, none⟩ v5) := by
  have one : ∀ (w : World) o v, Below B w (w.setCell ⟨g, o, none⟩ v) := fun w o v => ⟨rfl, rfl, rfl, by simp [World.setCell], fun k hk => Below.heap_setCell _ _ _ _ (fun e => by simp at e; omega)⟩
  exact (((((one _ _ _).trans (one _ _ _)).trans (one _ _ _)).trans (one _ _ _)).trans (one _ _ _)).trans (one _ _ _)
set_option maxRecDepth 100000 in
theorem six_grown {w : World} {g : Nat} {v0 v1 v2 v3 v4 v5 : Value} : w.grownBy ((((((w.setCell ⟨g, 0, none⟩ v0).setCell ⟨g, 1, none⟩ v1).setCell ⟨g, 2, none⟩ v2).setCell ⟨g, 3, none⟩ v3).setCell ⟨g, 4, none⟩ v4).setCell ⟨g, 5, none⟩ v5) (some g) :=
  grownBy_trans (grownBy_trans (grownBy_trans (grownBy_trans (grownBy_trans (grownBy_setCell _ _ _ _) (grownBy_setCell _ _ _ _)) (grownBy_setCell _ _ _ _)) (grownBy_setCell _ _ _ _)) (grownBy_setCell _ _ _ _)) (grownBy_setCell _ _ _ _)

set_option maxRecDepth 100000 in
theorem nm_bnd (l : List Nat) (bad : Bool) (n : Int) (most : Nat) : (nm l bad n most).1 ≤ most := by
  unfold nm
  dsimp only
  split
  · simp
  · omega

set_option maxRecDepth 100000 in
theorem grown_below {w w' : World} {g B : Nat} (h : w.grownBy w' (some g)) (hg : B ≤ g) (hB : B ≤ w.heap.size) : Below B w w' :=
  ⟨h.os, h.tape, h.output, h.size, fun k hk => h.block k (Nat.lt_of_lt_of_le hk hB) (fun e => by cases e; omega)⟩

set_option maxRecDepth 100000 in
theorem info_sheet : (Tryd.prog.info? 44).map (·.size) = some 6 := by kernel_rfl

set_option maxRecDepth 100000 in
set_option maxHeartbeats 4000000 in
theorem parts_any (l : List Nat) (a : Option Addr) (c : Nat) (w : World) (hr : Rd w a l) (hc : l.length ≤ c) (hnil : a = none → c = 0) (N : Nat) (hN : l.length = N) :
    Calls Tryd.prog 86 #[.slice a N c] w fun e w' => ∃ a' c', e = .returned (sv (partsS l) a' c') ∧ Rd w' a' (partsS l).da ∧ (partsS l).da.length ≤ c' ∧ (a' = none → c' = 0) ∧ Below w.heap.size w w' ∧ (0 < (partsS l).da.length → ∀ k, a' = some k → w.heap.size ≤ k.block) := by
  subst hN
  have hR : ∀ W, Below w.heap.size w W → Calls Tryd.prog 91 #[.slice a l.length c] W fun e w' => e = .returned (.pointer (some ⟨W.heap.size, 0, none⟩)) ∧ Rdr w' W.heap.size l false ∧ Below W.heap.size W w' :=
    fun W hb => read_any l a c W (hr.below hb) hc hnil
  have h0 : ∀ g W, Rdr W g l false → Calls Tryd.prog 92 #[.pointer (some ⟨g, 0, none⟩), .int .i64 1, .int .u64 3] W (NumPost W g (r0 l)) := fun g W hrr => num_any g l false 1 3 W hrr
  have h1 : ∀ g W, Rdr W g (r0 l).2.1 (r0 l).2.2 → Calls Tryd.prog 92 #[.pointer (some ⟨g, 0, none⟩), .int .i64 6, .int .u64 281474976710655] W (NumPost W g (r1 l)) := fun g W hrr => num_any g (r0 l).2.1 (r0 l).2.2 6 281474976710655 W hrr
  have h2 : ∀ g W, Rdr W g (r1 l).2.1 (r1 l).2.2 → Calls Tryd.prog 92 #[.pointer (some ⟨g, 0, none⟩), .int .i64 6, .int .u64 281474976710655] W (NumPost W g (r2 l)) := fun g W hrr => num_any g (r1 l).2.1 (r1 l).2.2 6 281474976710655 W hrr
  have h3 : ∀ g W, Rdr W g (r2 l).2.1 (r2 l).2.2 → Calls Tryd.prog 92 #[.pointer (some ⟨g, 0, none⟩), .int .i64 2, .int .u64 65535] W (NumPost W g (r3 l)) := fun g W hrr => num_any g (r2 l).2.1 (r2 l).2.2 2 65535 W hrr
  have h4 : ∀ g W, Rdr W g (r3 l).2.1 (r3 l).2.2 → Calls Tryd.prog 92 #[.pointer (some ⟨g, 0, none⟩), .int .i64 1, .int .u64 255] W (NumPost W g (r4 l)) := fun g W hrr => num_any g (r3 l).2.1 (r3 l).2.2 1 255 W hrr
  have h5 : ∀ g W, Rdr W g (r4 l).2.1 (r4 l).2.2 → Calls Tryd.prog 93 #[.pointer (some ⟨g, 0, none⟩), .int .i64 64] W (BtsNn W g (r5 l)) := fun g W hrr => rbytes_nn g _ _ 64 W hrr
  have n0 : (r0 l).1 ≤ 3 := nm_bnd _ _ _ _
  have n3 : (r3 l).1 ≤ 65535 := nm_bnd _ _ _ _
  have n4 : (r4 l).1 ≤ 255 := nm_bnd _ _ _ _
  unfold partsS
  generalize r0 l = q0 at *
  generalize r1 l = q1 at *
  generalize r2 l = q2 at *
  generalize r3 l = q3 at *
  generalize r4 l = q4 at *
  generalize r5 l = q5 at *
  have hb0 := Below.refl (w.heap.size + 1) (w.alloc (.cells #[.int .u8 0, .int .u64 0, .int .u64 0, .int .i64 0, .int .i64 0, .slice none 0 0] 44))
  have hbw : Below w.heap.size w (w.alloc (.cells #[.int .u8 0, .int .u64 0, .int .u64 0, .int .i64 0, .int .i64 0, .slice none 0 0] 44)) := (Below.refl _ _).alloc (Nat.le_refl _) _
  have hblk := heap_alloc_new w (.cells #[.int .u8 0, .int .u64 0, .int .u64 0, .int .i64 0, .int .i64 0, .slice none 0 0] 44)
  have hsz0 : (w.alloc (.cells #[.int .u8 0, .int .u64 0, .int .u64 0, .int .i64 0, .int .i64 0, .slice none 0 0] 44)).heap.size = w.heap.size + 1 := by simp
  generalize hw1 : w.alloc (.cells #[.int .u8 0, .int .u64 0, .int .u64 0, .int .i64 0, .int .i64 0, .slice none 0 0] 44) = w1 at *
  have hR' := hR w1 hbw
  rw [hsz0] at hR'
  clear hR
  have hR := hR'
  clear hR'
  have HR := Lib.hid hR
  have H0 := Lib.hid h0
  have H1 := Lib.hid h1
  have H2 := Lib.hid h2
  have H3 := Lib.hid h3
  have H4 := Lib.hid h4
  have H5 := Lib.hid h5
  clear hR h0 h1 h2 h3 h4 h5 hr
  go_enter Tryd.func86, Tryd.ntmps86
  go_wp2_with (first
    | (go_at_call 91; (with_reducible refine HR.out.mono ?_); rintro e w2 ⟨rfl, hrr0, hbr⟩; have hb0 := hb0.trans hbr)
    | (go_at_call 92; (with_reducible refine (H0.out _ _ hrr0).mono ?_); rintro e w3 ⟨rfl, hrr1, hgr1⟩; have hb1 := hb0.trans (grown_below hgr1 (Nat.le_refl _) (by have := hb0.size; omega)))
    | (go_at_call 92; (with_reducible refine (H1.out _ _ hrr1).mono ?_); rintro e w4 ⟨rfl, hrr2, hgr2⟩; have hb2 := hb1.trans (grown_below hgr2 (Nat.le_refl _) (by have := hb1.size; omega)))
    | (go_at_call 92; (with_reducible refine (H2.out _ _ hrr2).mono ?_); rintro e w5 ⟨rfl, hrr3, hgr3⟩; have hb3 := hb2.trans (grown_below hgr3 (Nat.le_refl _) (by have := hb2.size; omega)))
    | (go_at_call 92; (with_reducible refine (H3.out _ _ hrr3).mono ?_); rintro e w6 ⟨rfl, hrr4, hgr4⟩; have hb4 := hb3.trans (grown_below hgr4 (Nat.le_refl _) (by have := hb3.size; omega)))
    | (go_at_call 92; (with_reducible refine (H4.out _ _ hrr4).mono ?_); rintro e w7 ⟨rfl, hrr5, hgr5⟩; have hb5 := hb4.trans (grown_below hgr5 (Nat.le_refl _) (by have := hb4.size; omega)))
    | (go_at_call 93; (with_reducible refine (H5.out _ _ hrr5).mono ?_); rintro e w8 ⟨a7, c7, rfl, hc7, hr7, hrr6, hgr6, hfr7, hn7⟩; have hb6 := hb5.trans (grown_below hgr6 (Nat.le_refl _) (by have := hb5.size; omega)); obtain ⟨⟨t0, t1, t2, t3, t4, t5⟩, ⟨z0, z1, z2, z3, z4, z5⟩⟩ := six_cells ((hb6.block _ (Nat.lt_succ_self _)).trans hblk); have hblk8 := (hb6.block _ (Nat.lt_succ_self _)).trans hblk; have hsz7 := hb5.size))
  have hblk9 := six_set (v0 := .int .u8 q0.1) (v1 := .int .u64 q1.1) (v2 := .int .u64 q2.1) (v3 := .int .i64 q3.1) (v4 := .int .i64 ((q4.1 : Int) - 1)) (v5 := .slice a7 q5.1.length c7) hblk8
  have hb9 := hbw.trans ((hb6.mono (Nat.le_succ _)).trans (six_below (v0 := .int .u8 q0.1) (v1 := .int .u64 q1.1) (v2 := .int .u64 q2.1) (v3 := .int .i64 q3.1) (v4 := .int .i64 ((q4.1 : Int) - 1)) (v5 := .slice a7 q5.1.length c7) (Nat.le_refl w.heap.size)))
  have hr9 := hr7.grown (six_grown (v0 := .int .u8 q0.1) (v1 := .int .u64 q1.1) (v2 := .int .u64 q2.1) (v3 := .int .i64 q3.1) (v4 := .int .i64 ((q4.1 : Int) - 1)) (v5 := .slice a7 q5.1.length c7) (g := w.heap.size)) (fun h k hk e => by have := hfr7 h k hk; omega)
  generalize (((((w8.setCell ⟨w.heap.size, 0, none⟩ (.int .u8 q0.1)).setCell ⟨w.heap.size, 1, none⟩ (.int .u64 q1.1)).setCell ⟨w.heap.size, 2, none⟩ (.int .u64 q2.1)).setCell ⟨w.heap.size, 3, none⟩ (.int .i64 q3.1)).setCell ⟨w.heap.size, 4, none⟩ (.int .i64 ((q4.1 : Int) - 1))).setCell ⟨w.heap.size, 5, none⟩ (.slice a7 q5.1.length c7) = w9 at *
  have hfr9 : 0 < q5.1.length → ∀ k, a7 = some k → w.heap.size ≤ k.block := fun h k hk => by have := hfr7 h k hk; omega
  clear t0 t1 t2 t3 t4 t5 z0 z1 z2 z3 z4 z5 hblk8 hblk hr7 hfr7
  refine bodyPost_ret (results_cell_row rfl _ _ w.heap.size 44 _ (0, 0) _ rfl hblk9 Tryd.underlying44 rfl info_sheet) rfl ?_
  exact ⟨a7, c7, rfl, hr9, hc7, hn7, hb9, hfr9⟩
end Go.Proofs.YtkapnpcolmhdbaaDoor
