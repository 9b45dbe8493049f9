/- A holding (map[int][]Found) in memory; the pages by block as plain lists. The contract of scan's stands. The contract of scan's isSpoilt. The contract of scan's takeSpoilt. The contract of scan's readAll. The contract of scan's newest. The contract of scan's where. -/
import Derived.Test.YtkapnpcolmhdbaaDoorRd
import Derived.Test.YtkapnpcolmhdbaaDoorGm
import Derived.Test.YtkapnpcolmhdbaaDoorPlans
import Derived.Test.YtkapnpcolmhdbaaDoorPmaps
import Derived.Laws.EntriesVeiled
import Derived.Deep.RegionHeld
import Derived.IntWalk
namespace Drawbar.Scan
open Drawbar Drawbar.Sheet Drawbar.Nand
set_option maxRecDepth 100000 in
theorem of_nil (i : Int) : of i [] = [] := rfl
set_option maxRecDepth 100000 in
theorem mem_of {i : Int} {L : List Fnd} {x : Fnd} : x ∈ of i L ↔ x ∈ L ∧ (x.b : Int) = i := by simp [of]
set_option maxRecDepth 100000 in
theorem of_all {i : Int} {L : List Fnd} (h : ∀ x ∈ L, (x.b : Int) = i) : of i L = L := List.filter_eq_self.2 fun x hx => by simp [h x hx]
set_option maxRecDepth 100000 in
theorem of_none {i : Int} {L : List Fnd} (h : ∀ x ∈ L, (x.b : Int) ≠ i) : of i L = [] := List.filter_eq_nil_iff.2 fun x hx => by simp [h x hx]
def drop (i : Int) (L : List Fnd) : List Fnd := L.filter fun x => !decide ((x.b : Int) = i)
set_option maxRecDepth 100000 in
theorem of_drop_same (i : Int) (L : List Fnd) : of i (drop i L) = [] := of_none fun x hx => by
  have := (List.mem_filter.1 hx).2
  simpa using this
set_option maxRecDepth 100000 in
theorem of_drop_other {i j : Int} (L : List Fnd) (h : j ≠ i) : of j (drop i L) = of j L := by
  unfold of drop
  rw [List.filter_filter]
  refine List.filter_congr fun x _ => ?_
  by_cases e : (x.b : Int) = j
  · simp [e, h]
  · simp [e]
/-- Grouped by blocks. -/
def Grouped (us : List Int) (L : List Fnd) : Prop := us.flatMap (fun i => of i L) = L
set_option maxRecDepth 100000 in
theorem Grouped.of {us : List Int} (hn : us.Nodup) (G : Int → List Fnd) (hG : ∀ i, ∀ x ∈ G i, (x.b : Int) = i) : Grouped us (us.flatMap G) := by
  unfold Grouped
  have key : ∀ (vs : List Int), vs.Nodup → ∀ i, i ∈ vs → Scan.of i (vs.flatMap G) = G i := by
    intro vs
    induction vs with
    | nil => intro _ i hi; cases hi
    | cons v vs ih =>
      intro hv i hi
      rw [List.flatMap_cons, of_append]
      rcases List.mem_cons.1 hi with rfl | hi
      · rw [of_all (hG i), of_none (L := vs.flatMap G) fun x hx e => ?_, List.append_nil]
        obtain ⟨j, hj, hxj⟩ := List.mem_flatMap.1 hx
        have := hG j x hxj
        exact (List.nodup_cons.1 hv).1 (by rw [← e, this]; exact hj)
      · rw [of_none (L := G v) fun x hx e => ?_, List.nil_append]
        · exact ih (List.nodup_cons.1 hv).2 i hi
        · have := hG v x hx
          exact (List.nodup_cons.1 hv).1 (by rw [← this, e]; exact hi)
  have : ∀ (vs : List Int), (∀ i ∈ vs, Scan.of i (us.flatMap G) = G i) → vs.flatMap (fun i => Scan.of i (us.flatMap G)) = vs.flatMap G := by
    intro vs h
    induction vs with
    | nil => rfl
    | cons v vs ih => rw [List.flatMap_cons, List.flatMap_cons, h v (by simp), ih fun i hi => h i (by simp [hi])]
  exact this us fun i hi => key us hn i hi
set_option maxRecDepth 100000 in
theorem Grouped.drop {us : List Int} {L : List Fnd} (h : Grouped us L) (hn : us.Nodup) (i : Int) : Grouped us (drop i L) := by
  have h1 : Scan.drop i L = us.flatMap fun j => Scan.drop i (Scan.of j L) := by
    conv => lhs; rw [← h]
    unfold Scan.drop
    rw [List.filter_flatMap]
  rw [h1]
  exact Grouped.of hn _ fun j x hx => (mem_of.1 (List.mem_filter.1 hx).1).2
end Drawbar.Scan
namespace Go.Proofs.YtkapnpcolmhdbaaDoor.Sc
open Go.RowKit
open Drawbar Drawbar.Sheet Drawbar.Nand Drawbar.Scan Drawbar.Gm Go.Proofs.YtkapnpcolmhdbaaDoor.Nd

/-- A slice of found pages. -/
def FdsV (w : World) (v : Value) (l : List Fnd) : Prop := ∃ a c, v = .slice a l.length c ∧ Fds w a l
set_option maxRecDepth 100000 in
theorem FdsV.below {w w' : World} {v : Value} {l : List Fnd} (h : FdsV w v l) (hb : Below w.heap.size w w') : FdsV w' v l := by
  obtain ⟨a, c, rfl, h⟩ := h
  exact ⟨a, c, rfl, h.below hb⟩
set_option maxRecDepth 100000 in
/-- The data of found pages stand while a block turns that is none of theirs: a map's block. -/
theorem cell_maps {w : World} {b : Nat} {es : Array MapEntry} {c : Nat} (h : w.heap[b]? = some (.map es c)) (o : Nat) : w.cell? ⟨b, o, none⟩ = none := by
  simp [World.cell?, h]
set_option maxRecDepth 100000 in
theorem gmap_cell {P : Program} {k : TypeId} {w : World} {b n : Nat} {f : Int → Option Value} (h : GMap P k w b n f) (o : Nat) : w.cell? ⟨b, o, none⟩ = none := by
  obtain ⟨D, ⟨es, c, hb, _⟩, _⟩ := h
  exact cell_maps hb o
/-- No cell of the block is a byte. -/
def No8 (w : World) (b : Nat) : Prop := ∀ o u, w.cell? ⟨b, o, none⟩ ≠ some (.int .u8 u)
set_option maxRecDepth 100000 in
theorem gmap_no8 {P : Program} {k : TypeId} {w : World} {b n : Nat} {f : Int → Option Value} (h : GMap P k w b n f) : No8 w b := fun o u he => by rw [gmap_cell h o] at he; cases he
set_option maxRecDepth 100000 in
theorem DaAt.map {w w' : World} {b : Nat} {v : Value} {l : List Nat} (h : DaAt w v l) (hg : w.grownBy w' (some b)) (hm : No8 w b) : DaAt w' v l := by
  obtain ⟨a, c, rfl, hr, hc, hn⟩ := h
  refine ⟨a, c, rfl, hr.grown hg fun h0 k hk e => ?_, hc, hn⟩
  obtain ⟨b2, off, e2, hcell⟩ := hr.2.2 h0
  rw [hk] at e2
  cases e2
  dsimp only at e
  have := hcell 0 h0
  rw [e] at this
  exact hm _ _ this
set_option maxRecDepth 100000 in
theorem Fds.map {w w' : World} {b : Nat} {a : Option Addr} {l : List Fnd} (h : Fds w a l) (hg : w.grownBy w' (some b)) (hm : No8 w b) : Fds w' a l := fun i x hx => by
  obtain ⟨b2, off, v, rfl, hc, hd⟩ := h i x hx
  have h2 := hc 2 _ rfl
  have hne : b2 ≠ b := fun e => by rw [e] at h2; exact hm _ _ h2
  refine ⟨b2, off, v, rfl, fun k u hu => ?_, hd.map hg hm⟩
  have h1 := hc k u hu
  exact (World.cell?_of_block (a := ⟨b2, off + i * 8 + k, none⟩) (hg.block b2 (World.block_lt_of_cell? w _ h1) (fun e => hne (by cases e; rfl)))).trans h1
set_option maxRecDepth 100000 in
theorem FdsV.map {w w' : World} {b : Nat} {v : Value} {l : List Fnd} (h : FdsV w v l) (hg : w.grownBy w' (some b)) (hm : No8 w b) : FdsV w' v l := by
  obtain ⟨a, c, rfl, h⟩ := h
  exact ⟨a, c, rfl, h.map hg hm⟩
/-- The holding in block b: of each block in it the pages of L; of none else there are any. -/
def Hold (w : World) (b n : Nat) (L : List Fnd) : Prop :=
  ∃ f, GMap Tryd.prog 3 w b n f ∧ (∀ i v, f i = some v → FdsV w v (of i L)) ∧ ∀ i, f i = none → of i L = []
set_option maxRecDepth 100000 in
theorem Hold.below {w w' : World} {b n : Nat} {L : List Fnd} (h : Hold w b n L) (hb : Below w.heap.size w w') : Hold w' b n L := by
  obtain ⟨f, h1, h2, h3⟩ := h
  exact ⟨f, h1.below hb, fun i v hv => (h2 i v hv).below hb, h3⟩
set_option maxRecDepth 100000 in
theorem GMap.other {P : Program} {k : TypeId} {w w' : World} {b n d : Nat} {f : Int → Option Value} (h : GMap P k w b n f) (hg : w.grownBy w' (some d)) (hd : d ≠ b) : GMap P k w' b n f := h.keep (hg.block b h.lt fun e => hd (by cases e; rfl))
set_option maxRecDepth 100000 in
theorem Hold.other {w w' : World} {b n d : Nat} {L : List Fnd} (h : Hold w b n L) (hg : w.grownBy w' (some d)) (hm : No8 w d) (hd : d ≠ b) : Hold w' b n L := by
  obtain ⟨f, h1, h2, h3⟩ := h
  exact ⟨f, GMap.other h1 hg hd, fun i v hv => (h2 i v hv).map hg hm, h3⟩
set_option maxRecDepth 100000 in
theorem Hold.lt {w : World} {b n : Nat} {L : List Fnd} (h : Hold w b n L) : b < w.heap.size := by obtain ⟨f, h1, _⟩ := h; exact h1.lt
set_option maxRecDepth 100000 in
theorem zero_founds (w : World) : (zeroValue 34).run Tryd.prog w = .ok (.slice none 0 0) w := by simp [Tryd.zeroValue34]
set_option maxRecDepth 100000 in
theorem Hold.look {w : World} {b n : Nat} {L : List Fnd} (h : Hold w b n L) (i : Int) (hi : (Lit.int .i64 i).wf = true) :
    ∃ a c, (Instr.lookup 94 (.map (some b)) (.int .i64 i) false).run Tryd.prog w = .ok (.slice a (of i L).length c) w ∧ Fds w a (of i L) := by
  obtain ⟨f, h1, h2, h3⟩ := h
  have hr := h1.look Tryd.underlying3 Tryd.underlying94 (zero_founds w) i hi
  cases hf : f i with
  | none =>
    rw [hf] at hr
    rw [h3 i hf]
    exact ⟨none, 0, hr, fds_nil _ _⟩
  | some v =>
    rw [hf] at hr
    obtain ⟨a, c, rfl, hfd⟩ := h2 i v hf
    exact ⟨a, c, hr, hfd⟩
set_option maxRecDepth 100000 in
/-- The same in all worlds to come. -/
theorem Hold.look2 {w : World} {b n : Nat} {L : List Fnd} (h : Hold w b n L) (i : Int) (hi : (Lit.int .i64 i).wf = true) :
    ∃ a c, Fds w a (of i L) ∧ ∀ W, Below w.heap.size w W → (Instr.lookup 94 (.map (some b)) (.int .i64 i) false).run Tryd.prog W = .ok (.slice a (of i L).length c) W := by
  obtain ⟨f, h1, h2, h3⟩ := h
  have hr := fun W (hb : Below w.heap.size w W) => (h1.below hb).look Tryd.underlying3 Tryd.underlying94 (zero_founds W) i hi
  cases hf : f i with
  | none =>
    rw [h3 i hf]
    exact ⟨none, 0, fds_nil _ _, fun W hb => by have := hr W hb; rw [hf] at this; exact this⟩
  | some v =>
    obtain ⟨a, c, rfl, hfd⟩ := h2 i v hf
    exact ⟨a, c, hfd, fun W hb => by have := hr W hb; rw [hf] at this; exact this⟩
set_option maxRecDepth 100000 in
theorem make_hold (w : World) : (Instr.makeMap 94 none).run Tryd.prog w = .ok (.map (some w.heap.size)) (w.alloc (.map #[] 0)) := by
  simp [Instr.makeMap, Result.andThen]
set_option maxRecDepth 100000 in
theorem make_pages (w : World) : (Instr.makeMap 52 none).run Tryd.prog w = .ok (.map (some w.heap.size)) (w.alloc (.map #[] 0)) := by
  simp [Instr.makeMap, Result.andThen]
set_option maxRecDepth 100000 in
theorem Hold.made (w : World) : Hold (w.alloc (.map #[] 0)) w.heap.size 0 [] := ⟨_, GMap.made w _ _, fun i v h => (by cases h), fun i _ => rfl⟩
set_option maxRecDepth 100000 in
/-- A block's pages are laid into it. -/
theorem Hold.put {w w' : World} {b n : Nat} {L M : List Fnd} {f : Int → Option Value} {i : Int} {v : Value} (h1 : GMap Tryd.prog 3 w b n f) (h2 : ∀ i v, f i = some v → FdsV w v (of i L)) (h3 : ∀ i, f i = none → of i L = [])
    (hv : FdsV w v M) (hM : ∀ x ∈ M, (x.b : Int) = i) (hL : ∀ x ∈ L, (x.b : Int) ≠ i) (h : GMap Tryd.prog 3 w' b (n + 1) (Gm.put f i v)) (hg : w.grownBy w' (some b)) : Hold w' b (n + 1) (L ++ M) := by
  have hm := gmap_no8 h1
  refine ⟨_, h, fun j u hu => ?_, fun j hj => ?_⟩
  · unfold Gm.put at hu
    rw [of_append]
    by_cases e : j = i
    · rw [if_pos e] at hu; cases hu; subst e
      rw [of_none hL, of_all hM, List.nil_append]
      exact hv.map hg hm
    · rw [if_neg e] at hu
      rw [of_none (L := M) fun x hx e2 => e (by rw [← e2, hM x hx]), List.append_nil]
      exact (h2 j u hu).map hg hm
  · unfold Gm.put at hj
    rw [of_append]
    by_cases e : j = i
    · rw [if_pos e] at hj; cases hj
    · rw [if_neg e] at hj
      rw [of_none (L := M) fun x hx e2 => e (by rw [← e2, hM x hx]), List.append_nil]
      exact h3 j hj
set_option maxRecDepth 100000 in
/-- A block is struck. -/
theorem Hold.del {w w' : World} {b n : Nat} {L : List Fnd} {f : Int → Option Value} {i : Int} (h1 : GMap Tryd.prog 3 w b n f) (h2 : ∀ i v, f i = some v → FdsV w v (of i L)) (h3 : ∀ i, f i = none → of i L = [])
    (h : GMap Tryd.prog 3 w' b n (Gm.del f i)) (hg : w.grownBy w' (some b)) : Hold w' b n (drop i L) := by
  have hm := gmap_no8 h1
  refine ⟨_, h, fun j u hu => ?_, fun j hj => ?_⟩
  · unfold Gm.del at hu
    by_cases e : j = i
    · rw [if_pos e] at hu; cases hu
    · rw [if_neg e] at hu
      rw [of_drop_other L e]
      exact (h2 j u hu).map hg hm
  · unfold Gm.del at hj
    by_cases e : j = i
    · rw [e, of_drop_same]
    · rw [if_neg e] at hj
      rw [of_drop_other L e]
      exact h3 j hj
end Go.Proofs.YtkapnpcolmhdbaaDoor.Sc
namespace Go.Proofs.YtkapnpcolmhdbaaDoor.Sc
open Go.RowKit
open Drawbar Drawbar.Sheet Drawbar.Nand Drawbar.Scan Drawbar.Gm Go.Proofs.YtkapnpcolmhdbaaDoor.Nd

abbrev fv (x : Fnd) (a : Option Addr) (c : Nat) : Value := .agg #[.int .i64 x.b, .int .i64 x.p, .int .u8 x.s.k, .int .u64 x.s.ep, .int .u64 x.s.sq, .int .i64 x.s.ad, .int .i64 x.s.fr, .slice a x.s.da.length c]
abbrev fob (t : TypeId) (x : Fnd) (a : Option Addr) (c : Nat) : Obj := .cells #[.int .i64 x.b, .int .i64 x.p, .int .u8 x.s.k, .int .u64 x.s.ep, .int .u64 x.s.sq, .int .i64 x.s.ad, .int .i64 x.s.fr, .slice a x.s.da.length c] t
/-- The sheet c in its block. -/
def Cop (w : World) (bx : Nat) (c : Sh) : Prop := ∃ a n, ShAt w bx c a n ∧ Rd w a c.da
set_option maxRecDepth 100000 in
theorem Cop.below {w w' : World} {bx : Nat} {c : Sh} (h : Cop w bx c) (hb : Below w.heap.size w w') : Cop w' bx c := by
  obtain ⟨a, n, ⟨h0, h1, h2, h3, h4, h5⟩, hr⟩ := h
  have e := fun o (v : Value) (h : w.cell? ⟨bx, o, none⟩ = some v) => (hb.cell (p := ⟨bx, o, none⟩) (World.block_lt_of_cell? w _ h)).trans h
  exact ⟨a, n, ⟨e _ _ h0, e _ _ h1, e _ _ h2, e _ _ h3, e _ _ h4, e _ _ h5⟩, hr.below hb⟩

set_option maxRecDepth 100000 in
set_option maxHeartbeats 2000000 in
theorem stem_any {w : World} {bx : Nat} {c : Sh} (h : Cop w bx c) (x : Fnd) (a : Option Addr) (n : Nat) (hr : Rd w a x.s.da) :
    Calls Tryd.prog 89 #[fv x a n, .pointer (some ⟨bx, 0, none⟩)] w fun e w' => e = .returned (.bool (stem c x.s)) ∧ Below w.heap.size w w' := by
  have hbx : Below w.heap.size w (w.alloc (fob 46 x a n)) := (Below.refl _ _).alloc (Nat.le_refl _) _
  obtain ⟨ac, nc, ⟨h0, h1, h2, h3, h4, h5⟩, hrc⟩ := h.below hbx
  have hE := equal_any x.s.da c.da a ac n nc (w.alloc (fob 46 x a n)) _ _ (hr.below hbx) hrc rfl rfl
  have HE := Lib.hid hE
  clear hE hr hrc h
  by_cases e1 : x.s.k = c.k
  · by_cases e2 : x.s.ad = c.ad
    · by_cases e3 : x.s.sq < c.sq
      · have hst : stem c x.s = decide (x.s.da = c.da) := by simp [stem, e1, e2, e3]
        rw [hst]
        have q1 : ((x.s.k : Int) == (c.k : Int)) = true := by simp [e1]
        have q2 : (x.s.ad == c.ad) = true := by simp [e2]
        have q3 : decide (x.s.sq < c.sq) = true := decide_eq_true e3
        obtain ⟨dd, hdd, hE2⟩ : ∃ dd : Bool, dd = decide (x.s.da = c.da) ∧ Calls Tryd.prog 87 #[.slice a x.s.da.length n, .slice ac c.da.length nc] (w.alloc (fob 46 x a n)) fun e w' => e = .returned (.bool dd) ∧ w.alloc (fob 46 x a n) = w' := ⟨_, decide_eq_decide.2 Iff.rfl, HE.out⟩
        rw [← hdd]
        have HE2 := Lib.hid hE2
        clear e1 e2 hst hE2 hdd HE
        go_enter Tryd.func89, Tryd.ntmps89
        go_wp2_with fail
        (with_reducible refine HE2.out.mono ?_)
        rintro e w2 ⟨rfl, rfl⟩
        cases dd
        all_goals
          go_wp2
          go_ret
          exact ⟨rfl, hbx⟩
      · have hst : stem c x.s = false := by simp [stem, e3]
        rw [hst]
        have q1 : ((x.s.k : Int) == (c.k : Int)) = true := by simp [e1]
        have q2 : (x.s.ad == c.ad) = true := by simp [e2]
        have q3 : decide (x.s.sq < c.sq) = false := decide_eq_false e3
        clear e1 e2 hst
        go_enter Tryd.func89, Tryd.ntmps89
        go_wp2
        go_ret
        exact ⟨rfl, hbx⟩
    · have hst : stem c x.s = false := by simp [stem, e2]
      rw [hst]
      have q1 : ((x.s.k : Int) == (c.k : Int)) = true := by simp [e1]
      have q2 : (x.s.ad == c.ad) = false := by simp [e2]
      clear e1 e2 hst
      go_enter Tryd.func89, Tryd.ntmps89
      go_wp2
      go_ret
      exact ⟨rfl, hbx⟩
  · have hst : stem c x.s = false := by simp [stem, e1]
    rw [hst]
    have q1 : ((x.s.k : Int) == (c.k : Int)) = false := by simp; omega
    clear e1 hst
    go_enter Tryd.func89, Tryd.ntmps89
    go_wp2
    go_ret
    exact ⟨rfl, hbx⟩

/-- Is there none among the first j? -/
def anyTo (c : Sh) (l : List Fnd) (j : Nat) : Bool := (l.take j).any fun x => stem c x.s
set_option maxRecDepth 100000 in
set_option maxHeartbeats 2000000 in
theorem index_any {w : World} {bx : Nat} {c : Sh} (h : Cop w bx c) (l : List Fnd) (a : Option Addr) (n : Nat) (hl : Fds w a l) (hlen : l.length ≤ 100000) :
    Calls Tryd.prog 94 #[.slice a l.length n, .func (.func 89) #[] #[.pointer (some ⟨bx, 0, none⟩)]] w
      fun e w' => ∃ z : Int, e = .returned (.int .i64 z) ∧ decide (0 ≤ z) = l.any (fun x => stem c x.s) ∧ Below w.heap.size w w' := by
  have HC := Lib.hid h
  have HL := Lib.hid hl
  clear h hl
  go_enter Tryd.func94, Tryd.ntmps94
  go_wp2
  go_loopw [8] (fun iv wr => ∃ j : Nat, j ≤ l.length ∧ iv = .int .i64 j ∧ Below w.heap.size w wr ∧ Hid (anyTo c l j = false)) (fun iv _ => l.length - (intOf iv).toNat)
  case atStart => exact ⟨0, Nat.zero_le _, rfl, Below.refl _ _, Lib.hid (by simp [anyTo])⟩
  case round =>
    obtain ⟨j, hj, rfl, hbw, HA⟩ := hrel
    by_cases hjl : j < l.length
    · obtain ⟨x, hx⟩ : ∃ x, l[j]? = some x := ⟨_, List.getElem?_eq_getElem hjl⟩
      obtain ⟨bb, off, v, rfl, hc, av, cv, rfl, hrd, -, -⟩ := (HL.out.below hbw) j x hx
      have c0 := hc 0 _ rfl
      have c1 := hc 1 _ rfl
      have c2 := hc 2 _ rfl
      have c3 := hc 3 _ rfl
      have c4 := hc 4 _ rfl
      have c5 := hc 5 _ rfl
      have c6 := hc 6 _ rfl
      have c7 := hc 7 _ rfl
      rw [Nat.add_zero] at c0
      have hS := stem_any (HC.out.below hbw) x av cv hrd
      have hsn : anyTo c l (j + 1) = (anyTo c l j || stem c x.s) := by unfold anyTo; rw [List.take_add_one, hx]; simp
      have hall : stem c x.s = true → (l.any fun x => stem c x.s) = true := fun hs => List.any_eq_true.2 ⟨x, List.mem_of_getElem? hx, hs⟩
      rw [HA.out, Bool.false_or] at hsn
      have hjl2 : (j : Int) < (l.length : Int) := by omega
      have HB := Lib.hid hbw
      generalize stem c x.s = st at *
      have HX := Lib.hid hsn
      have HY := Lib.hid hall
      have HS := Lib.hid hS
      clear hc hx hrd hS hsn hall hbw
      cases st
      · go_wp2_with fail
        (with_reducible refine HS.out.mono ?_)
        rintro e w2 ⟨rfl, hb2⟩
        have HB2 := Lib.hid (HB.out.trans (hb2.mono HB.out.size))
        clear hb2
        go_wp2
        go_roundw
        case rel => exact ⟨j + 1, by omega, by go_num, HB2.out, HX⟩
        case measure => simp [intOf]; omega
      · go_wp2_with fail
        (with_reducible refine HS.out.mono ?_)
        rintro e w2 ⟨rfl, hb2⟩
        have HB2 := Lib.hid (HB.out.trans (hb2.mono HB.out.size))
        clear hb2
        go_wp2
        go_ret
        exact ⟨j, rfl, by rw [HY.out (by first | rfl | trivial)]; simp, HB2.out⟩
    · have hjl2 : ¬ ((j : Int) < (l.length : Int)) := by omega
      obtain rfl : j = l.length := by omega
      have hA := HA.out
      unfold anyTo at hA
      rw [List.take_length] at hA
      have HA2 := Lib.hid hA
      clear hA
      go_wp2
      go_ret
      exact ⟨-1, rfl, by rw [HA2.out]; rfl, hbw⟩

set_option maxRecDepth 100000 in
set_option maxHeartbeats 2000000 in
theorem contains_any {w : World} {bx : Nat} {c : Sh} (h : Cop w bx c) (l : List Fnd) (a : Option Addr) (n : Nat) (hl : Fds w a l) (hlen : l.length ≤ 100000) :
    Calls Tryd.prog 88 #[.slice a l.length n, .func (.func 89) #[] #[.pointer (some ⟨bx, 0, none⟩)]] w
      fun e w' => e = .returned (.bool (l.any (fun x => stem c x.s))) ∧ Below w.heap.size w w' := by
  have HI := Lib.hid (index_any h l a n hl hlen)
  clear h hl
  generalize l.any (fun x => stem c x.s) = st at *
  go_enter Tryd.func88, Tryd.ntmps88
  go_wp2_with fail
  (with_reducible refine HI.out.mono ?_)
  rintro e w2 ⟨z, rfl, hz, hb⟩
  have HB := Lib.hid (And.intro hz hb)
  clear hz hb
  go_wp2
  go_ret
  exact ⟨by rw [← HB.out.1]; rfl, HB.out.2⟩

set_option maxRecDepth 100000 in
set_option maxHeartbeats 2000000 in
theorem stands_any {w : World} {b n : Nat} {L : List Fnd} (h : Hold w b n L) (hlen : L.length ≤ 100000) (i : Int) (hi : (Lit.int .i64 i).wf = true) (c : Sh) (a : Option Addr) (m : Nat) (hr : Rd w a c.da) :
    Calls Tryd.prog 82 #[.map (some b), .int .i64 i, sv c a m] w fun e w' => e = .returned (.bool (stands L i c)) ∧ Below w.heap.size w w' := by
  have hbx := boxs_below w 44 c a m
  obtain ⟨a2, c2, hlook, hfd⟩ := (h.below hbx).look i hi
  have hcop : Cop (w.alloc (boxs 44 c a m)) w.heap.size c := ⟨a, m, boxs_cells w 44 c a m _ (Below.refl _ _), hr.below hbx⟩
  have HC := Lib.hid (contains_any hcop (of i L) a2 c2 hfd (Nat.le_trans (of_len i L) hlen))
  have HB := Lib.hid hbx
  unfold stands
  clear hcop hfd h hr hbx
  go_enter Tryd.func82, Tryd.ntmps82
  go_wp2_with fail
  (with_reducible refine HC.out.mono ?_)
  rintro e w2 ⟨rfl, hb⟩
  have HB2 := Lib.hid (HB.out.trans (hb.mono HB.out.size))
  clear hb
  go_wp2
  go_ret
  exact ⟨rfl, HB2.out⟩
end Go.Proofs.YtkapnpcolmhdbaaDoor.Sc
namespace Drawbar.Scan
open Drawbar Drawbar.Sheet Drawbar.Nand
def okS (L : List Fnd) (fr : Int) (y : Fnd) : Bool := decide (y.s.fr = fr) && stands L fr y.s
set_option maxRecDepth 100000 in
theorem spoilt_nil {L : List Fnd} {i : Int} (h : of i L = []) : spoilt L i = false := by unfold spoilt; rw [h]
set_option maxRecDepth 100000 in
theorem spoilt_cons {L : List Fnd} {i : Int} {x : Fnd} {r : List Fnd} (h : of i L = x :: r) : spoilt L i = (of i L).all (okS L x.s.fr) := by unfold spoilt; rw [h]; rfl
end Drawbar.Scan
namespace Go.Proofs.YtkapnpcolmhdbaaDoor.Sc
open Go.RowKit
open Drawbar Drawbar.Sheet Drawbar.Nand Drawbar.Scan Drawbar.Gm Go.Proofs.YtkapnpcolmhdbaaDoor.Nd

set_option maxRecDepth 100000 in
set_option maxHeartbeats 2000000 in
theorem isSpoilt_any {w : World} {b n : Nat} {L : List Fnd} (h : Hold w b n L) (hlen : L.length ≤ 100000) (hfr : ∀ x ∈ L, -1 ≤ x.s.fr ∧ x.s.fr ≤ 63) (i : Int) (hi : (Lit.int .i64 i).wf = true) :
    Calls Tryd.prog 71 #[.map (some b), .int .i64 i] w fun e w' => e = .returned (.bool (spoilt L i)) ∧ Below w.heap.size w w' := by
  obtain ⟨a, c, hlook, hfd⟩ := h.look i hi
  have hl := of_len i L
  cases hof : of i L with
  | nil =>
    rw [hof] at hlook
    rw [spoilt_nil hof]
    simp only [List.length_nil] at hlook
    clear hfd hl hof h
    go_enter Tryd.func71, Tryd.ntmps71
    go_wp2
    go_ret
    exact ⟨rfl, Below.refl _ _⟩
  | cons x0 r =>
    have hsp := spoilt_cons hof
    have hx0 : (of i L)[0]? = some x0 := by rw [hof]; rfl
    have hpos : 0 < (of i L).length := by rw [hof]; simp
    have hmemL : ∀ x ∈ of i L, x ∈ L := fun x hx => (mem_of.1 hx).1
    have hf0 := hfr x0 (hmemL x0 (List.mem_of_getElem? hx0))
    have hwf0 : (Lit.int .i64 x0.s.fr).wf = true := wf_of (by omega) (by omega)
    rw [hsp]
    generalize of i L = l at *
    obtain ⟨b0, o0, v0, rfl, hc0, -⟩ := hfd 0 x0 hx0
    have d6 := hc0 6 _ rfl
    rw [show o0 + 0 * 8 + 6 = o0 + 6 by omega] at d6
    have HS := Lib.hid (fun (W : World) (hb : Below w.heap.size w W) (y : Fnd) (ay : Option Addr) (cy : Nat) (hr : Rd W ay y.s.da) => stands_any (h.below hb) hlen x0.s.fr hwf0 y.s ay cy hr)
    have HF := Lib.hid hfd
    have hl2 : l.length ≤ 100000 := Nat.le_trans hl hlen
    have hne : ((l.length : Int) == 0) = false := beq_eq_false_iff_ne.2 (by omega)
    obtain ⟨fr, hfe⟩ : ∃ fr, x0.s.fr = fr := ⟨_, rfl⟩
    rw [hfe] at d6 HS ⊢
    clear hc0 hfd h hsp hof hx0 hmemL hf0 hwf0 hfr hfe
    go_enter Tryd.func71, Tryd.ntmps71
    go_wp2
    go_loopw [22] (fun iv wr => ∃ j : Nat, j ≤ l.length ∧ iv = .int .i64 j ∧ Below w.heap.size w wr ∧ Hid ((l.take j).all (okS L fr) = true)) (fun iv _ => l.length - (intOf iv).toNat)
    case atStart => exact ⟨0, Nat.zero_le _, rfl, Below.refl _ _, Lib.hid (by simp)⟩
    case round =>
      obtain ⟨j, hj, rfl, hbw, HA⟩ := hrel
      by_cases hjl : j < l.length
      · obtain ⟨x, hx⟩ : ∃ x, l[j]? = some x := ⟨_, List.getElem?_eq_getElem hjl⟩
        obtain ⟨bb, off, v, hae, hc, av, cv, rfl, hrd, -, -⟩ := (HF.out.below hbw) j x hx
        cases hae
        have c0 := hc 0 _ rfl
        have c1 := hc 1 _ rfl
        have c2 := hc 2 _ rfl
        have c3 := hc 3 _ rfl
        have c4 := hc 4 _ rfl
        have c5 := hc 5 _ rfl
        have c6 := hc 6 _ rfl
        have c7 := hc 7 _ rfl
        rw [Nat.add_zero] at c0
        have hsn : (l.take (j + 1)).all (okS L fr) = ((l.take j).all (okS L fr) && okS L fr x) := by rw [List.take_add_one, hx]; simp
        have hall : okS L fr x = false → l.all (okS L fr) = false := fun hs => by
          rw [List.all_eq_false]; exact ⟨x, List.mem_of_getElem? hx, by rw [hs]; simp⟩
        rw [HA.out, Bool.true_and] at hsn
        have hjl2 : (j : Int) < (l.length : Int) := by omega
        have hb3 : Below wr.heap.size wr (wr.alloc (fob 46 x av cv)) := (Below.refl _ _).alloc (Nat.le_refl _) _
        have HB3 := Lib.hid (And.intro hbw hb3)
        have HN := Lib.hid hsn
        have HALL := Lib.hid hall
        by_cases hfx : x.s.fr = fr
        · have q1 : (x.s.fr != fr) = false := by simp [hfx]
          have hok : okS L fr x = stands L fr x.s := by simp [okS, hfx]
          rw [hok] at HN HALL
          have hS := HS.out _ (hbw.trans (hb3.mono hbw.size)) x av cv (hrd.below hb3)
          generalize stands L fr x.s = st at *
          have HST := Lib.hid hS
          clear hc hx hrd hsn hall hbw hb3 hfx hok hS d6
          cases st
          · go_wp2_with fail
            (with_reducible refine HST.out.mono ?_)
            rintro e w2 ⟨rfl, hb2⟩
            have HB2 := Lib.hid (HB3.out.1.trans ((HB3.out.2.trans (hb2.mono HB3.out.2.size)).mono HB3.out.1.size))
            clear hb2
            go_wp2
            go_ret
            exact ⟨by rw [HALL.out (by first | rfl | trivial)]; rfl, HB2.out⟩
          · go_wp2_with fail
            (with_reducible refine HST.out.mono ?_)
            rintro e w2 ⟨rfl, hb2⟩
            have HB2 := Lib.hid (HB3.out.1.trans ((HB3.out.2.trans (hb2.mono HB3.out.2.size)).mono HB3.out.1.size))
            clear hb2
            go_wp2
            go_roundw
            case rel => exact ⟨j + 1, by omega, by go_num, HB2.out, HN⟩
            case measure => simp [intOf]; omega
        · have q1 : (x.s.fr != fr) = true := by simp [hfx]
          have hok : okS L fr x = false := by simp [okS, hfx]
          have HX := Lib.hid (HALL.out hok)
          clear hc hx hrd hsn hall hbw hb3 hfx hok d6
          go_wp2
          go_ret
          exact ⟨by rw [HX.out]; rfl, HB3.out.1.trans (HB3.out.2.mono HB3.out.1.size)⟩
      · have hjl2 : ¬ ((j : Int) < (l.length : Int)) := by omega
        obtain rfl : j = l.length := by omega
        have hA := HA.out
        rw [List.take_length] at hA
        have HA2 := Lib.hid hA
        clear hA d6
        go_wp2
        go_ret
        exact ⟨by rw [HA2.out]; rfl, hbw⟩
end Go.Proofs.YtkapnpcolmhdbaaDoor.Sc
namespace Drawbar.Scan
open Drawbar Drawbar.Sheet Drawbar.Nand
set_option maxRecDepth 100000 in
theorem takeS_yes {i : Int} {us : List Int} {L : List Fnd} (h : spoilt L i = true) : takeS (i :: us) L = (i :: (takeS us (drop i L)).1, (takeS us (drop i L)).2) := by
  rw [takeS, if_pos h]; rfl
set_option maxRecDepth 100000 in
theorem takeS_no {i : Int} {us : List Int} {L : List Fnd} (h : spoilt L i = false) : takeS (i :: us) L = takeS us L := by
  rw [takeS, if_neg (by rw [h]; simp)]
set_option maxRecDepth 100000 in
theorem drop_sub (i : Int) (L : List Fnd) : ∀ x ∈ drop i L, x ∈ L := fun _ hx => (List.mem_filter.1 hx).1
set_option maxRecDepth 100000 in
theorem drop_len (i : Int) (L : List Fnd) : (drop i L).length ≤ L.length := List.length_filter_le _ _
set_option maxRecDepth 100000 in
theorem takeS_grouped {us vs : List Int} {L : List Fnd} (h : Grouped us L) (hn : us.Nodup) : Grouped us (takeS vs L).2 := by
  induction vs generalizing L with
  | nil => exact h
  | cons i vs ih =>
    cases hs : spoilt L i with
    | true => rw [takeS_yes hs]; exact ih (h.drop hn i)
    | false => rw [takeS_no hs]; exact ih h
set_option maxRecDepth 100000 in
theorem takeS_sub {vs : List Int} {L : List Fnd} : ∀ x ∈ (takeS vs L).2, x ∈ L := by
  induction vs generalizing L with
  | nil => intro x hx; exact hx
  | cons i vs ih =>
    intro x hx
    cases hs : spoilt L i with
    | true => rw [takeS_yes hs] at hx; exact drop_sub i L x (ih x hx)
    | false => rw [takeS_no hs] at hx; exact ih x hx
set_option maxRecDepth 100000 in
theorem takeS_len {vs : List Int} {L : List Fnd} : (takeS vs L).2.length ≤ L.length ∧ (takeS vs L).1.length ≤ vs.length := by
  induction vs generalizing L with
  | nil => exact ⟨Nat.le_refl _, Nat.le_refl _⟩
  | cons i vs ih =>
    cases hs : spoilt L i with
    | true =>
      rw [takeS_yes hs]
      have := ih (L := drop i L)
      have := drop_len i L
      simp only [List.length_cons]
      omega
    | false =>
      rw [takeS_no hs]
      have := ih (L := L)
      simp only [List.length_cons]
      omega
end Drawbar.Scan
namespace Go.Proofs.YtkapnpcolmhdbaaDoor.Sc
open Go.RowKit
open Drawbar Drawbar.Sheet Drawbar.Nand Drawbar.Scan Drawbar.Gm Go.Proofs.YtkapnpcolmhdbaaDoor.Nd

/-- The map in block b holds but what f0 held, of what was in w. -/
structure Sub (w wr : World) (b n : Nat) (f0 : Int → Option Value) (L0 L : List Fnd) : Prop where
  map : ∃ f, GMap Tryd.prog 3 wr b n f ∧ (∀ i v, f i = some v → f0 i = some v ∧ of i L = of i L0) ∧ ∀ i, f i = none → of i L = []
  grown : w.grownBy wr (some b)
set_option maxRecDepth 100000 in
theorem Sub.hold {w wr : World} {b n : Nat} {f0 : Int → Option Value} {L0 L : List Fnd} (h : Sub w wr b n f0 L0 L) (hm : No8 w b) (h2 : ∀ i v, f0 i = some v → FdsV w v (of i L0)) : Hold wr b n L := by
  obtain ⟨⟨f, hG, hf, hn⟩, hg⟩ := h
  refine ⟨f, hG, fun i v hv => ?_, hn⟩
  obtain ⟨h3, h4⟩ := hf i v hv
  rw [h4]
  exact (h2 i v h3).map hg hm
set_option maxRecDepth 100000 in
theorem grown_then {a b c : World} {row : Option Nat} (h : a.grownBy b row) (k : Below a.heap.size b c) : a.grownBy c row :=
  ⟨k.os.trans h.os, k.tape.trans h.tape, k.output.trans h.output, Nat.le_trans h.size k.size, fun i hi hne => (k.block i hi).trans (h.block i hi hne)⟩
set_option maxRecDepth 100000 in
theorem Sub.below {w wr w' : World} {b n : Nat} {f0 : Int → Option Value} {L0 L : List Fnd} (h : Sub w wr b n f0 L0 L) (hb : b < w.heap.size) (k : Below w.heap.size wr w') : Sub w w' b n f0 L0 L := by
  obtain ⟨⟨f, hG, hf, hn⟩, hg⟩ := h
  exact ⟨⟨f, hG.keep (k.block b hb), hf, hn⟩, grown_then hg k⟩

/-- What takeSpoilt does. -/
def Took (w : World) (b n : Nat) (r : List Int × List Fnd) (e : Ending) (w' : World) : Prop :=
  ∃ a c, e = .returned (.slice a r.1.length c) ∧ Pn.RdI w' a r.1 ∧ Hold w' b n r.2 ∧ w.grownBy w' (some b)
set_option maxRecDepth 100000 in
set_option maxHeartbeats 4000000 in
theorem takeSpoilt_any {w : World} {b n : Nat} {L : List Fnd} (h : Hold w b n L) (hlen : L.length ≤ 100000) (hfr : ∀ x ∈ L, -1 ≤ x.s.fr ∧ x.s.fr ≤ 63) (us : List Int) (a : Option Addr) (c : Nat) (hru : Pn.RdI w a us) (hus : ∀ i ∈ us, 0 ≤ i ∧ i < 1000) (hul : us.length ≤ 1000) :
    Calls Tryd.prog 37 #[.map (some b), .slice a us.length c] w (Took w b n (takeS us L)) := by
  obtain ⟨i0, hi0, hz0, hz1, hz2⟩ := info_parts Pn.info_int
  obtain ⟨f0, hG0, h2, h3⟩ := h
  have hblt := hG0.lt
  have hm := gmap_cell hG0
  have hS0 : Sub w w b n f0 L L := ⟨⟨f0, hG0, fun i v hv => ⟨hv, rfl⟩, h3⟩, ⟨rfl, rfl, rfl, Nat.le_refl _, fun _ _ _ => rfl⟩⟩
  have HH := Lib.hid (fun wr M (h : Sub w wr b n f0 L M) => h.hold (gmap_no8 hG0) h2)
  have HU := Lib.hid hus
  have HFR := Lib.hid hfr
  have HRU : Hid (∀ wr, w.grownBy wr (some b) → ∀ k, k < us.length → ∃ bb off, a = some ⟨bb, off, none⟩ ∧ wr.cell? ⟨bb, off + k, none⟩ = some (.int .i64 (us.getD k 0))) := Lib.hid (fun wr hg k hk => by
    obtain ⟨bb, off, rfl, hc⟩ := hru (by omega)
    have h1 := hc k hk
    have hne : bb ≠ b := fun e => by rw [e, hm] at h1; cases h1
    exact ⟨bb, off, rfl, (World.cell?_of_block (a := ⟨bb, off + k, none⟩) (hg.block bb (World.block_lt_of_cell? w _ h1) (fun e => hne (by cases e; rfl)))).trans h1⟩)
  generalize hR : takeS us L = R
  have HR := Lib.hid hR
  have hRl : R.1.length ≤ us.length := by rw [← hR]; exact takeS_len.2
  clear hG0 h2 h3 hm hus hfr hru hR
  go_enter Tryd.func37, Tryd.ntmps37
  go_wp2
  go_loopw [5, 10] (fun bl iv wr => ∃ (k : Nat) (sp : List Int) (M : List Fnd), k ≤ us.length ∧ iv = .int .i64 k ∧ Hid (Sub w wr b n f0 L M) ∧ wr.ownsRow w.heap.size 3 1 bl sp.length (sp.map Pn.iv) ∧ sp.length ≤ k ∧ w.heap.size ≤ wr.heap.size ∧
    Hid (R = (sp ++ (takeS (us.drop k) M).1, (takeS (us.drop k) M).2) ∧ (∀ x ∈ M, x ∈ L) ∧ M.length ≤ 100000)) (fun _ iv _ => us.length - (intOf iv).toNat)
  case atStart => exact ⟨0, [], L, Nat.zero_le _, rfl, Lib.hid hS0, World.ownsRow_nil _ _ _ 1, Nat.zero_le _, Nat.le_refl _, Lib.hid ⟨by rw [List.drop_zero, HR.out]; rfl, fun x hx => hx, hlen⟩⟩
  case round =>
    obtain ⟨k, sp, M, hk, rfl, HSub, hrow, hspk, hsz, HX⟩ := hrel
    clear hS0
    by_cases hlt : k < us.length
    · obtain ⟨bb, off, hae, hc⟩ := HRU.out wr HSub.out.grown k hlt
      have hmem : us[k] ∈ us := List.getElem_mem hlt
      have hrg := HU.out _ hmem
      have hgd : us.getD k 0 = us[k] := by simp [List.getD_eq_getElem?_getD, hlt]
      have hdr : us.drop k = us[k] :: us.drop (k + 1) := List.drop_eq_getElem_cons hlt
      rw [hgd] at hc
      have hx := HX.out
      rw [hdr] at hx
      have HMEM := Lib.hid hmem
      generalize us[k] = i at *
      have hwfi : (Lit.int .i64 i).wf = true := wf_of (by omega) (by omega)
      have hlt2 : (k : Int) < (us.length : Int) := by omega
      have HSP := Lib.hid (isSpoilt_any (HH.out wr M HSub.out) hx.2.2 (fun x hx2 => HFR.out x (hx.2.1 x hx2)) i hwfi)
      have HX2 := Lib.hid hx
      have HW := Lib.hid hwfi
      subst hae
      cases hsp : spoilt M i with
      | false =>
        rw [hsp] at HSP
        have hx3 := hx.1
        rw [takeS_no hsp] at hx3
        have HX3 := Lib.hid (And.intro hx3 hx.2)
        clear hx hx3 hmem hgd hdr hrg hwfi hsp
        go_wp2_with fail
        (with_reducible refine HSP.out.mono ?_)
        rintro e w2 ⟨rfl, hb2⟩
        have hs2 := HSub.out.below hblt (hb2.mono hsz)
        have hrow2 : w2.ownsRow w.heap.size 3 1 _ sp.length (sp.map Pn.iv) := ownsRow_keep hrow fun d hd => hb2.block d (hrow.lt d hd).2
        have HF := Lib.hid (And.intro hs2 (Nat.le_trans hsz hb2.size))
        clear hs2 hb2 hrow
        go_wp2
        go_roundw
        case rel => exact ⟨k + 1, sp, M, by omega, by go_num, Lib.hid HF.out.1, hrow2, by omega, HF.out.2, HX3⟩
        case measure => simp [intOf]; omega
      | true =>
        rw [hsp] at HSP
        have hx3 := hx.1
        rw [takeS_yes hsp] at hx3
        have hx4 : R = ((sp ++ [i]) ++ (takeS (us.drop (k + 1)) (drop i M)).1, (takeS (us.drop (k + 1)) (drop i M)).2) := by rw [hx3]; simp
        have HX3 := Lib.hid (And.intro hx4 (And.intro (fun x hx2 => hx.2.1 x (drop_sub i M x hx2)) (Nat.le_trans (drop_len i M) hx.2.2)))
        clear hx hx3 hx4 hmem hgd hdr hrg hwfi hsp
        go_wp2_with fail
        (with_reducible refine HSP.out.mono ?_)
        rintro e w2 ⟨rfl, hb2⟩
        have hs2 := HSub.out.below hblt (hb2.mono hsz)
        have hrow2 : w2.ownsRow w.heap.size 3 1 _ sp.length (sp.map Pn.iv) := ownsRow_keep hrow fun d hd => hb2.block d (hrow.lt d hd).2
        have hsz2 := Nat.le_trans hsz hb2.size
        have HF := Lib.hid hs2
        clear hs2 hb2 hrow
        go_wp2_with (first
          | (at_builtin; refine wpList_append_ownz rfl (.tmp 17) (.tmp 19) 24 rfl w.heap.size 3 i0 (.int .i64 0) 1 8 Tryd.underlying24 hi0 hz0 hz1 hz2 rfl (by decide) _ sp.length (sp.map Pn.iv) rfl (hrow2.alloc _) (some ⟨w2.heap.size, 0, none⟩) 1 1 [.int .i64 i] rfl (fun h => by cases h) rfl (At.one w2 (.int .i64 i) 3) (by simp [Value.oneCell']) (by unfold maxLen; omega) (by omega) (by simp; omega) ?_; intro v6 w6 hown6 hb6; have hbl6 : Below w.heap.size w2 w6 := ((Below.refl _ _).alloc hsz2 _).trans hb6; have hs6 := HF.out.below hblt hbl6; obtain ⟨⟨f, hG, hf, hn⟩, hg⟩ := hs6; have HG := Lib.hid (And.intro hG (And.intro hf (And.intro hn (And.intro hg hbl6)))); clear hG hf hn hg hb6 hbl6)
          | (at_delete; refine wpList_delete_gm _ rfl _ _ 94 3 rfl Tryd.underlying3 Tryd.underlying94 b n f rfl HG.out.1 i rfl HW.out ?_; intro w7 hG7 hg7 hs7))
        have hfin : Sub w w7 b n f0 L (drop i M) := ⟨⟨_, hG7, fun j v hv => by
          unfold Gm.del at hv
          by_cases e : j = i
          · rw [if_pos e] at hv; cases hv
          · rw [if_neg e] at hv; rw [of_drop_other M e]; exact HG.out.2.1 j v hv, fun j hj => by
          unfold Gm.del at hj
          by_cases e : j = i
          · rw [e, of_drop_same]
          · rw [if_neg e] at hj; rw [of_drop_other M e]; exact HG.out.2.2.1 j hj⟩, HG.out.2.2.2.1.andThen hg7 (fun d hd => .inr hd)⟩
        have hrow7 : w7.ownsRow w.heap.size 3 1 v6 (sp.length + 1) (sp.map Pn.iv ++ [.int .i64 i]) := hown6.kept hg7 (by
          cases ho : v6.ownBlock with
          | none => exact .inl rfl
          | some d => exact .inr fun e => by cases e; have := (hown6.lt b ho).1; omega)
        have hsz7 : w.heap.size ≤ w7.heap.size := by rw [hs7]; exact Nat.le_trans hsz2 HG.out.2.2.2.2.size
        have HFIN := Lib.hid hfin
        clear hfin hG7 hg7 hown6
        go_roundw
        case rel => exact ⟨k + 1, sp ++ [i], drop i M, by omega, by go_num, HFIN, by rw [List.map_append, List.length_append]; exact hrow7, by simp; omega, hsz7, HX3⟩
        case measure => simp [intOf]; omega
    · have hlt2 : ¬ ((k : Int) < (us.length : Int)) := by omega
      obtain rfl : k = us.length := by omega
      have hx := HX.out
      rw [List.drop_length] at hx
      have hR1 : R = (sp, M) := by rw [hx.1]; simp [takeS]
      obtain ⟨a5, c5, rfl⟩ := Pn.shape_int hrow
      have hrd := Pn.rdI_of_own (l := sp) hrow
      have HF := Lib.hid (And.intro hrd (And.intro (HH.out wr M HSub.out) HSub.out.grown))
      subst hR1
      clear hrow hrd hx
      go_wp2
      go_ret
      exact ⟨a5, c5, rfl, HF.out.1, HF.out.2.1, HF.out.2.2⟩
end Go.Proofs.YtkapnpcolmhdbaaDoor.Sc
namespace Drawbar.Scan
open Drawbar Drawbar.Sheet Drawbar.Nand Go.Proofs.YtkapnpcolmhdbaaDoor.Nd
/-- What some blocks hold, one behind the other. -/
noncomputable def heldI (m : Int) (s : Arr) (us : List Int) : List Fnd := us.flatMap fun i => blockF m s i.toNat
set_option maxRecDepth 100000 in
theorem take_snoc {α : Type} (l : List α) (k : Nat) (h : k < l.length) : l.take (k + 1) = l.take k ++ [l[k]] := by
  rw [List.take_succ_eq_append_getElem h]
set_option maxRecDepth 100000 in
theorem held_snoc (m : Int) (s : Arr) (us : List Int) (k : Nat) (h : k < us.length) : heldI m s (us.take (k + 1)) = heldI m s (us.take k) ++ blockF m s (us[k]).toNat := by
  unfold heldI; rw [take_snoc us k h, List.flatMap_append]; simp
structure Blocks (n : Nat) (us : List Int) : Prop where
  rng : ∀ i ∈ us, 0 ≤ i ∧ i < n
  nd : us.Nodup
set_option maxRecDepth 100000 in
theorem held_fit {m : Int} {s : Arr} (hw : Wf s) {us : List Int} (hu : Blocks s.n us) : ∀ x ∈ heldI m s us, Fit m s.n s.pages x ∧ (x.b : Int) ∈ us := by
  intro x hx
  obtain ⟨i, hi, hx⟩ := List.mem_flatMap.1 hx
  have hr := hu.rng i hi
  have := blockF_fit (i := i.toNat) (by omega) (hw.len _ (by omega)) x hx
  exact ⟨this.1, by rw [this.2]; rw [Int.toNat_of_nonneg hr.1]; exact hi⟩
set_option maxRecDepth 100000 in
theorem held_grouped {m : Int} {s : Arr} (hw : Wf s) {us : List Int} (hu : Blocks s.n us) : Grouped us (heldI m s us) := by
  have h := Grouped.of hu.nd (fun i => if i ∈ us then blockF m s i.toNat else []) (fun i x hx => by
    split at hx
    · rename_i hi
      have hr := hu.rng i hi
      have := (blockF_fit (i := i.toNat) (by omega) (hw.len _ (by omega)) x hx).2
      omega
    · cases hx)
  have e : us.flatMap (fun i => if i ∈ us then blockF m s i.toNat else []) = heldI m s us := by
    have : ∀ vs : List Int, (∀ i ∈ vs, i ∈ us) → vs.flatMap (fun i => if i ∈ us then blockF m s i.toNat else []) = vs.flatMap fun i => blockF m s i.toNat := by
      intro vs h
      induction vs with
      | nil => rfl
      | cons v vs ih => rw [List.flatMap_cons, List.flatMap_cons, if_pos (h v (by simp)), ih fun i hi => h i (by simp [hi])]
    exact this us fun i hi => hi
  rwa [e] at h
end Drawbar.Scan
namespace Go.Proofs.YtkapnpcolmhdbaaDoor.Sc
open Go.RowKit
open Drawbar Drawbar.Sheet Drawbar.Nand Drawbar.Scan Drawbar.Gm Go.Proofs.YtkapnpcolmhdbaaDoor.Nd

def Held (w : World) (L : List Fnd) (N : Nat) (e : Ending) (w' : World) : Prop :=
  ∃ b n, e = .returned (.tuple #[.map (some b), .int .i64 0]) ∧ Hold w' b n L ∧ n ≤ N ∧ w.heap.size ≤ b ∧ Below w.heap.size w w'

set_option maxRecDepth 100000 in
set_option maxHeartbeats 4000000 in
theorem readAll_on {w : World} {F : Nat → Prop} {g : Nat} {s : Arr} (h : ArrAt w F g s) (us : List Int) (a : Option Addr) (c : Nat) (hus : Blocks s.n us) (hru : Pn.RdI w a us) (m : Int) (hoff : s.off = false) (hT : Tab w) :
    Calls Tryd.prog 35 #[.pointer (some ⟨g, 0, none⟩), .slice a us.length c, .int .i64 m] w (Held w (heldI m s us) us.length) := by
  have hwf := arr_wf h
  have hn64 := hwf.n64
  have hlen : us.length ≤ 64 := by
    have : (us.map Int.toNat).length ≤ s.n := Drawbar.Pm.nodup_bound s.n (us.map Int.toNat) (by
      rw [List.nodup_iff_pairwise_ne, List.pairwise_map]
      refine (List.nodup_iff_pairwise_ne.1 hus.nd).imp_of_mem fun {x y} hx hy hne e => hne ?_
      have := hus.rng x hx; have := hus.rng y hy; omega) (fun x hx => by
      obtain ⟨y, hy, rfl⟩ := List.mem_map.1 hx
      have := hus.rng y hy; omega)
    rw [List.length_map] at this
    omega
  have HRD := Lib.hid (fun (W : World) (hb : Below w.heap.size w W) (i : Nat) (hi : i < s.n) => read_on (h.keep hb) i hi m hoff (hT.below hb hT.pos))
  have HU := Lib.hid hus
  have HRU := Lib.hid hru
  have HS := Lib.hid (fun k hk => held_snoc m s us k hk)
  have HFT := Lib.hid (fun i hi x hx => (blockF_fit (m := m) (s := s) (i := i) hi (hwf.len i hi) x hx).2)
  have HHF := Lib.hid (fun k => held_fit (m := m) hwf (us := us.take k) ⟨fun i hi => hus.rng i (List.mem_of_mem_take hi), hus.nd.sublist (List.take_sublist _ _)⟩)
  have HND := Lib.hid hus.nd
  clear hus hru h hT hoff hwf
  have hb0 : Below w.heap.size w (w.alloc (.map #[] 0)) := (Below.refl _ _).alloc (Nat.le_refl _) _
  have hH0 := Hold.made w
  have hmk := make_hold w
  go_enter Tryd.func35, Tryd.ntmps35
  go_wp2
  go_loopw [16] (fun iv wr => ∃ k : Nat, k ≤ us.length ∧ iv = .int .i64 k ∧ Below w.heap.size w wr ∧ Hold wr w.heap.size k (heldI m s (us.take k))) (fun iv _ => us.length - (intOf iv).toNat)
  case atStart => exact ⟨0, Nat.zero_le _, rfl, hb0, hH0⟩
  case round =>
    obtain ⟨k, hk, rfl, hbw, hH⟩ := hrel
    by_cases hlt : k < us.length
    · obtain ⟨b, off, rfl, hcu⟩ := (HRU.out.below hbw) (by omega)
      have hc := hcu k hlt
      have hmem : us[k] ∈ us := List.getElem_mem hlt
      have hrg := HU.out.rng _ hmem
      have hgd : us.getD k 0 = us[k] := by simp [List.getD_eq_getElem?_getD, hlt]
      obtain ⟨i, hi⟩ : ∃ i : Nat, us[k] = i := ⟨us[k].toNat, by omega⟩
      have hin : i < s.n := by omega
      rw [hgd, hi] at hc
      have hsn := HS.out k hlt
      rw [hi, Int.toNat_natCast] at hsn
      have hLne : ∀ x ∈ heldI m s (us.take k), (x.b : Int) ≠ i := fun x hx e => by
        have h1 := (HHF.out k x hx).2
        rw [e, ← hi] at h1
        have h2 := (List.nodup_append.1 (by have := HND.out; rw [← List.take_append_drop k us] at this; exact this)).2.2 _ h1 us[k] (by rw [List.drop_eq_getElem_cons hlt]; exact List.mem_cons_self ..)
        exact h2 rfl
      have hMb : ∀ x ∈ blockF m s i, (x.b : Int) = i := fun x hx => by rw [HFT.out i hin x hx]
      have HR := Lib.hid (HRD.out wr hbw i hin)
      have HX := Lib.hid (And.intro hsn (And.intro hLne hMb))
      have hwfl : (Lit.int .i64 (i : Int)).wf = true := wf_of (by omega) (by omega)
      have HH := Lib.hid (And.intro hH (And.intro hbw hwfl))
      have hlt2 : (k : Int) < (us.length : Int) := by omega
      clear hsn hLne hMb hH hbw hcu hrg hgd hi hmem hwfl
      go_wp2_with fail
      (with_reducible refine HR.out.mono ?_)
      rintro e w2 ⟨a2, c2, rfl, hfd, -, hb2⟩
      obtain ⟨f, hG, h2, h3⟩ := HH.out.1.below hb2
      have HG := Lib.hid (And.intro hG (And.intro h2 (And.intro h3 (And.intro hfd hb2))))
      clear hG h2 h3 hfd hb2
      go_wp2_with (at_mapUpdate; refine wpList_mapUpdate_gm _ rfl _ _ _ 94 rfl Tryd.underlying3 Tryd.underlying94 w.heap.size k f rfl HG.out.1 (by unfold maxLen; omega) _ rfl HH.out.2.2 _ rfl ?_; intro w5 hG5 hg5 hs5)
      have hfin := Hold.put HG.out.1 HG.out.2.1 HG.out.2.2.1 (M := blockF m s i) ⟨a2, c2, rfl, HG.out.2.2.2.1⟩ HX.out.2.2 HX.out.2.1 hG5 hg5
      rw [← HX.out.1] at hfin
      have hbf : Below w.heap.size w w5 := HH.out.2.1.trans ((HG.out.2.2.2.2.mono HH.out.2.1.size).trans (grown_below' hg5 (fun d hd => by cases hd; exact Nat.le_refl _) (Nat.le_trans HH.out.2.1.size HG.out.2.2.2.2.size)))
      have HFIN := Lib.hid (And.intro hbf hfin)
      clear hfin hbf hG5 hg5 hs5
      go_roundw
      case rel => exact ⟨k + 1, by omega, by go_num, HFIN.out.1, HFIN.out.2⟩
      case measure => simp [intOf]; omega
    · have hlt2 : ¬ ((k : Int) < (us.length : Int)) := by omega
      obtain rfl : k = us.length := by omega
      rw [List.take_length] at hH
      have HFIN := Lib.hid (⟨_, _, rfl, hH, Nat.le_refl _, Nat.le_refl _, hbw⟩ : Held w (heldI m s us) us.length (.returned (.tuple #[.map (some w.heap.size), .int .i64 0])) wr)
      clear hH hbw
      go_wp2
      go_ret2
      exact HFIN.out
end Go.Proofs.YtkapnpcolmhdbaaDoor.Sc
namespace Go.Proofs.YtkapnpcolmhdbaaDoor.Sc
open Go.RowKit
open Drawbar Drawbar.Sheet Drawbar.Nand Drawbar.Scan Drawbar.Gm Go.Proofs.YtkapnpcolmhdbaaDoor.Nd

/-- A map of the pages pg. -/
def PagesAt (w : World) (b n : Nat) (pg : Int → Option Fnd) : Prop :=
  ∃ f, GMap Tryd.prog 3 w b n f ∧ (∀ a, pg a = none → f a = none) ∧ ∀ a x, pg a = some x → ∃ av cv, f a = some (fv x av cv) ∧ DaAt w (.slice av x.s.da.length cv) x.s.da
set_option maxRecDepth 100000 in
theorem PagesAt.below {w w' : World} {b n : Nat} {pg : Int → Option Fnd} (h : PagesAt w b n pg) (hb : Below w.heap.size w w') : PagesAt w' b n pg := by
  obtain ⟨f, h1, h2, h3⟩ := h
  refine ⟨f, h1.below hb, h2, fun a x hx => ?_⟩
  obtain ⟨av, cv, h4, h5⟩ := h3 a x hx
  exact ⟨av, cv, h4, h5.below hb⟩
set_option maxRecDepth 100000 in
theorem PagesAt.lt {w : World} {b n : Nat} {pg : Int → Option Fnd} (h : PagesAt w b n pg) : b < w.heap.size := by obtain ⟨f, h1, _⟩ := h; exact h1.lt
set_option maxRecDepth 100000 in
theorem PagesAt.put {w w' : World} {b n : Nat} {pg pg' : Int → Option Fnd} {f : Int → Option Value} (h1 : GMap Tryd.prog 3 w b n f) (h2 : ∀ a, pg a = none → f a = none) (h3 : ∀ a x, pg a = some x → ∃ av cv, f a = some (fv x av cv) ∧ DaAt w (.slice av x.s.da.length cv) x.s.da)
    {x : Fnd} {av : Option Addr} {cv : Nat} (hx : DaAt w (.slice av x.s.da.length cv) x.s.da) (hG : GMap Tryd.prog 3 w' b (n + 1) (Gm.put f x.s.ad (fv x av cv))) (hg : w.grownBy w' (some b)) (he : ∀ a, pg' a = if a = x.s.ad then some x else pg a) : PagesAt w' b (n + 1) pg' := by
  have hm := gmap_no8 h1
  refine ⟨_, hG, fun a ha => ?_, fun a y hy => ?_⟩
  · rw [he] at ha
    unfold Gm.put
    by_cases e : a = x.s.ad
    · rw [if_pos e] at ha; cases ha
    · rw [if_neg e] at ha ⊢; exact h2 a ha
  · rw [he] at hy
    unfold Gm.put
    by_cases e : a = x.s.ad
    · rw [if_pos e] at hy ⊢; cases hy; exact ⟨av, cv, rfl, hx.map hg hm⟩
    · rw [if_neg e] at hy ⊢
      obtain ⟨a2, c2, h4, h5⟩ := h3 a y hy
      exact ⟨a2, c2, h4, h5.map hg hm⟩
set_option maxRecDepth 100000 in
theorem PagesAt.other {w w' : World} {b n d : Nat} {pg : Int → Option Fnd} (h : PagesAt w b n pg) (hg : w.grownBy w' (some d)) (hm : No8 w d) (hd : d ≠ b) : PagesAt w' b n pg := by
  obtain ⟨f, h1, h2, h3⟩ := h
  refine ⟨f, GMap.other h1 hg hd, h2, fun a x hx => ?_⟩
  obtain ⟨av, cv, h4, h5⟩ := h3 a x hx
  exact ⟨av, cv, h4, h5.map hg hm⟩
abbrev zf : Value := .agg #[.int .i64 0, .int .i64 0, .int .u8 0, .int .u64 0, .int .u64 0, .int .i64 0, .int .i64 0, .slice none 0 0]
set_option maxRecDepth 100000 in
theorem zero_found (w : World) : (zeroValue 46).run Tryd.prog w = .ok zf w := by simp [Tryd.zeroValue46]
/-- What newest makes. -/
def Newest (w : World) (pg : Int → Option Fnd) (N : Nat) (e : Ending) (w' : World) : Prop :=
  ∃ b n, e = .returned (.map (some b)) ∧ PagesAt w' b n pg ∧ n ≤ N ∧ w.heap.size ≤ b ∧ Below w.heap.size w w'
set_option maxRecDepth 100000 in
theorem best_yes {D : List Fnd} {x : Fnd} (h : best D x.s.ad = none ∨ ∃ y, best D x.s.ad = some y ∧ y.s.sq < x.s.sq) (a : Int) : best (D ++ [x]) a = if a = x.s.ad then some x else best D a := by
  rw [best_snoc]
  unfold Scan.step
  by_cases e : a = x.s.ad
  · subst e
    rw [if_pos rfl, if_pos rfl]
    rcases h with h | ⟨y, h, hlt⟩
    · rw [h]
    · rw [h]; dsimp only; rw [if_pos hlt]
  · rw [if_neg (fun e2 => e e2.symm), if_neg e]
set_option maxRecDepth 100000 in
theorem best_no {D : List Fnd} {x y : Fnd} (h : best D x.s.ad = some y) (hn : ¬ y.s.sq < x.s.sq) : best (D ++ [x]) = best D := by
  funext a
  rw [best_snoc]
  unfold Scan.step
  by_cases e : x.s.ad = a
  · subst e; rw [if_pos rfl, h]; dsimp only; rw [if_neg hn]
  · rw [if_neg e]

set_option maxRecDepth 100000 in
set_option maxHeartbeats 4000000 in
theorem newest_any {w : World} {b n : Nat} {L : List Fnd} (h : Hold w b n L) (hlen : L.length ≤ 100000) (had : ∀ x ∈ L, 0 ≤ x.s.ad ∧ x.s.ad ≤ 65535) (us : List Int) (a : Option Addr) (c : Nat) (hru : Pn.RdI w a us) (hus : ∀ i ∈ us, 0 ≤ i ∧ i < 1000) (hgr : Grouped us L) (hu9 : us.length ≤ 1000) :
    Calls Tryd.prog 38 #[.map (some b), .slice a us.length c] w (Newest w (best L) L.length) := by
  have hb0 : Below w.heap.size w (w.alloc (.map #[] 0)) := (Below.refl _ _).alloc (Nat.le_refl _) _
  have hmk := make_pages w
  have hP0 : PagesAt (w.alloc (.map #[] 0)) w.heap.size 0 (best []) := ⟨_, GMap.made w _ _, fun a _ => rfl, fun a x hx => by cases hx⟩
  have HHD := Lib.hid h
  have HU := Lib.hid hus
  have HAD := Lib.hid had
  have HRU := Lib.hid hru
  have HG := Lib.hid hgr
  have hul : ∀ k, ((us.take k).flatMap fun i => of i L).length ≤ L.length := fun k => by
    have e := hgr
    unfold Grouped at e
    have h2 : (us.flatMap fun i => of i L) = ((us.take k).flatMap fun i => of i L) ++ ((us.drop k).flatMap fun i => of i L) := by rw [← List.flatMap_append, List.take_append_drop]
    rw [h2] at e
    have := congrArg List.length e
    rw [List.length_append] at this
    omega
  have HUL := Lib.hid hul
  clear hus had hru h hgr hul
  go_enter Tryd.func38, Tryd.ntmps38
  go_wp2
  go_loopw [15] (fun iv wr => ∃ k N : Nat, k ≤ us.length ∧ iv = .int .i64 k ∧ Below w.heap.size w wr ∧ PagesAt wr w.heap.size N (best ((us.take k).flatMap fun i => of i L)) ∧ N ≤ ((us.take k).flatMap fun i => of i L).length) (fun iv _ => us.length - (intOf iv).toNat)
  case atStart => exact ⟨0, 0, Nat.zero_le _, rfl, hb0, hP0, Nat.zero_le _⟩
  case round =>
    obtain ⟨k, N, hk, rfl, hbw, hPg, hN⟩ := hrel
    clear hP0 hb0 hmk
    by_cases hlt : k < us.length
    · obtain ⟨bb0, off0, hae, hcu⟩ := (HRU.out.below hbw) (by omega)
      have hc := hcu k hlt
      have hmem : us[k] ∈ us := List.getElem_mem hlt
      have hrg := HU.out _ hmem
      have hgd : us.getD k 0 = us[k] := by simp [List.getD_eq_getElem?_getD, hlt]
      have htk : (us.take (k + 1)).flatMap (fun i => of i L) = ((us.take k).flatMap fun i => of i L) ++ of us[k] L := by rw [take_snoc us k hlt, List.flatMap_append]; simp
      have hle1 := HUL.out (k + 1)
      rw [htk] at hle1
      rw [hgd] at hc
      have HTK := Lib.hid htk
      generalize us[k] = i at *
      have hwfi : (Lit.int .i64 i).wf = true := wf_of (by omega) (by omega)
      have hlt2 : (k : Int) < (us.length : Int) := by omega
      obtain ⟨a2, c2, hfd, hlook⟩ := HHD.out.look2 i hwfi
      have hlook := hlook wr hbw
      generalize hD : ((us.take k).flatMap fun i => of i L) = D at *
      have HSUB := Lib.hid (fun x (hx : x ∈ of i L) => HAD.out x (mem_of.1 hx).1)
      rw [List.length_append] at hle1
      generalize hll : of i L = l at *
      have HFD := Lib.hid hfd
      subst hae
      have HPG := Lib.hid (And.intro hbw hPg)
      have hl9 : l.length ≤ 100000 := by rw [← hll]; exact Nat.le_trans (of_len _ _) hlen
      clear hcu hmem hrg hgd htk hfd hbw hD hPg hll
      go_wp2
      go_loopw [23] (fun iv wr2 => ∃ j N2 : Nat, j ≤ l.length ∧ iv = .int .i64 j ∧ Below w.heap.size w wr2 ∧ PagesAt wr2 w.heap.size N2 (best (D ++ l.take j)) ∧ N2 ≤ D.length + j) (fun iv _ => l.length - (intOf iv).toNat)
      case atStart => exact ⟨0, N, Nat.zero_le _, rfl, HPG.out.1, by rw [List.take_zero, List.append_nil]; exact HPG.out.2, hN⟩
      case round =>
        clear hc hlook HPG
        obtain ⟨j, N2, hj, rfl, hbw2, hPg2, hN2⟩ := hrel
        by_cases hjl : j < l.length
        · obtain ⟨x, hx⟩ : ∃ x, l[j]? = some x := ⟨_, List.getElem?_eq_getElem hjl⟩
          obtain ⟨bb, off, v, rfl, hc, av, cv, rfl, hda⟩ := (HFD.out.below hbw2) j x hx
          have hxr := HSUB.out x (List.mem_of_getElem? hx)
          have c0 := hc 0 _ rfl
          have c1 := hc 1 _ rfl
          have c2 := hc 2 _ rfl
          have c3 := hc 3 _ rfl
          have c4 := hc 4 _ rfl
          have c5 := hc 5 _ rfl
          have c6 := hc 6 _ rfl
          have c7 := hc 7 _ rfl
          rw [Nat.add_zero] at c0
          have hsn : D ++ l.take (j + 1) = (D ++ l.take j) ++ [x] := by rw [List.take_add_one, hx]; simp
          generalize D ++ l.take j = E at *
          have hjl2 : (j : Int) < (l.length : Int) := by omega
          have hwfx : (Lit.int .i64 x.s.ad).wf = true := wf_of (by omega) (by omega)
          obtain ⟨w3, hw3⟩ : ∃ w3, w3 = wr.alloc (fob 46 x av cv) := ⟨_, rfl⟩
          have hb3 : Below wr.heap.size wr w3 := by rw [hw3]; exact (Below.refl _ _).alloc (Nat.le_refl _) _
          obtain ⟨f, hG, hf1, hf2⟩ := hPg2.below hb3
          have hlk := hG.look_ok Tryd.underlying3 Tryd.underlying52 (zero_found w3) x.s.ad hwfx
          have HS := Lib.hid hsn
          cases hbx : best E x.s.ad with
          | none =>
            rw [hf1 _ hbx] at hlk
            simp only [Option.getD_none, Option.isSome_none] at hlk
            rw [hw3] at hlk
            obtain ⟨w4, hw4⟩ : ∃ w4, w4 = (wr.alloc (fob 46 x av cv)).alloc (.cells #[.int .i64 0, .int .i64 0, .int .u8 0, .int .u64 0, .int .u64 0, .int .i64 0, .int .i64 0, .slice none 0 0] 46) := ⟨_, rfl⟩
            have hb4 : Below wr.heap.size wr w4 := by rw [hw4]; exact ((Below.refl _ _).alloc (Nat.le_refl _) _).alloc (by simp) _
            have hb34 : Below w3.heap.size w3 w4 := by rw [hw4, hw3]; exact (Below.refl _ _).alloc (Nat.le_refl _) _
            have HG := Lib.hid (And.intro (hG.below hb34) (And.intro hf1 (And.intro (fun a x hx => by obtain ⟨a9, c9, h4, h5⟩ := hf2 a x hx; exact ⟨a9, c9, h4, h5.below hb34⟩ : ∀ a x, best E a = some x → ∃ av cv, f a = some (fv x av cv) ∧ DaAt w4 (.slice av x.s.da.length cv) x.s.da) (And.intro (⟨av, cv, rfl, hda.1.below hb4, hda.2.1, hda.2.2⟩ : DaAt w4 (.slice av x.s.da.length cv) x.s.da) (And.intro hb4 (And.intro hbw2 hwfx))))))
            have HW4 := Lib.hid hw4
            have HBX := Lib.hid (best_yes (.inl hbx))
            clear hc hx hda hsn hG hf1 hf2 hb3 hbw2 hw3 hwfx hPg2 hbx hb4 hb34 hw4
            go_wp2_with (at_mapUpdate; refine wpList_mapUpdate_gm _ rfl _ _ _ 52 rfl Tryd.underlying3 Tryd.underlying52 w.heap.size N2 f rfl (by have h9 := HG.out.1; rw [HW4.out] at h9; exact h9) (by unfold maxLen; omega) _ rfl HG.out.2.2.2.2.2.2 (fv x av cv) rfl ?_; intro w5 hG5 hg5 hs5)
            rw [← HW4.out] at hg5
            have hfin := PagesAt.put (pg' := best (E ++ [x])) HG.out.1 HG.out.2.1 HG.out.2.2.1 HG.out.2.2.2.1 hG5 hg5 HBX.out
            rw [← HS.out] at hfin
            have hbf : Below w.heap.size w w5 := HG.out.2.2.2.2.2.1.trans ((HG.out.2.2.2.2.1.mono HG.out.2.2.2.2.2.1.size).trans (grown_below' hg5 (fun d hd => by cases hd; exact Nat.le_refl _) (Nat.le_trans HG.out.2.2.2.2.2.1.size HG.out.2.2.2.2.1.size)))
            have HFIN := Lib.hid (And.intro hbf hfin)
            clear hfin hbf hG5 hg5 hs5
            go_roundw
            case rel => exact ⟨j + 1, N2 + 1, by omega, by go_num, HFIN.out.1, HFIN.out.2, by omega⟩
            case measure => simp [intOf]; omega
          | some y =>
            obtain ⟨ay, cy, hfy, hday⟩ := hf2 _ y hbx
            rw [hfy] at hlk
            simp only [Option.getD_some, Option.isSome_some] at hlk
            rw [hw3] at hlk
            obtain ⟨w4, hw4⟩ : ∃ w4, w4 = (wr.alloc (fob 46 x av cv)).alloc (fob 46 y ay cy) := ⟨_, rfl⟩
            have hb4 : Below wr.heap.size wr w4 := by rw [hw4]; exact ((Below.refl _ _).alloc (Nat.le_refl _) _).alloc (by simp) _
            have hb34 : Below w3.heap.size w3 w4 := by rw [hw4, hw3]; exact (Below.refl _ _).alloc (Nat.le_refl _) _
            have HG := Lib.hid (And.intro (hG.below hb34) (And.intro hf1 (And.intro (fun a x hx => by obtain ⟨a9, c9, h4, h5⟩ := hf2 a x hx; exact ⟨a9, c9, h4, h5.below hb34⟩ : ∀ a x, best E a = some x → ∃ av cv, f a = some (fv x av cv) ∧ DaAt w4 (.slice av x.s.da.length cv) x.s.da) (And.intro (⟨av, cv, rfl, hda.1.below hb4, hda.2.1, hda.2.2⟩ : DaAt w4 (.slice av x.s.da.length cv) x.s.da) (And.intro hb4 (And.intro hbw2 hwfx))))))
            have HW4 := Lib.hid hw4
            by_cases hlt9 : y.s.sq < x.s.sq
            · have q1 : decide (y.s.sq < x.s.sq) = true := decide_eq_true hlt9
              have HBX := Lib.hid (best_yes (.inr ⟨y, hbx, hlt9⟩))
              clear hc hx hda hsn hG hf1 hf2 hb3 hbw2 hw3 hwfx hPg2 hbx hb4 hb34 hw4 hfy hday hlt9
              go_wp2_with (at_mapUpdate; refine wpList_mapUpdate_gm _ rfl _ _ _ 52 rfl Tryd.underlying3 Tryd.underlying52 w.heap.size N2 f rfl (by have h9 := HG.out.1; rw [HW4.out] at h9; exact h9) (by unfold maxLen; omega) _ rfl HG.out.2.2.2.2.2.2 (fv x av cv) rfl ?_; intro w5 hG5 hg5 hs5)
              rw [← HW4.out] at hg5
              have hfin := PagesAt.put (pg' := best (E ++ [x])) HG.out.1 HG.out.2.1 HG.out.2.2.1 HG.out.2.2.2.1 hG5 hg5 HBX.out
              rw [← HS.out] at hfin
              have hbf : Below w.heap.size w w5 := HG.out.2.2.2.2.2.1.trans ((HG.out.2.2.2.2.1.mono HG.out.2.2.2.2.2.1.size).trans (grown_below' hg5 (fun d hd => by cases hd; exact Nat.le_refl _) (Nat.le_trans HG.out.2.2.2.2.2.1.size HG.out.2.2.2.2.1.size)))
              have HFIN := Lib.hid (And.intro hbf hfin)
              clear hfin hbf hG5 hg5 hs5
              go_roundw
              case rel => exact ⟨j + 1, N2 + 1, by omega, by go_num, HFIN.out.1, HFIN.out.2, by omega⟩
              case measure => simp [intOf]; omega
            · have q1 : decide (y.s.sq < x.s.sq) = false := decide_eq_false hlt9
              have hpg9 : PagesAt w4 w.heap.size N2 (best (D ++ l.take (j + 1))) := by rw [HS.out, best_no hbx hlt9]; exact ⟨f, HG.out.1, HG.out.2.1, HG.out.2.2.1⟩
              have hbf : Below w.heap.size w w4 := hbw2.trans (hb4.mono hbw2.size)
              rw [hw4] at hpg9 hbf
              have HFIN := Lib.hid (And.intro hbf hpg9)
              clear hc hx hda hsn hG hf1 hf2 hb3 hbw2 hw3 hwfx hPg2 hbx hb4 hb34 hw4 hfy hday hlt9 hpg9 hbf
              go_wp2_with fail
              go_roundw
              case rel => exact ⟨j + 1, N2, by omega, by go_num, HFIN.out.1, HFIN.out.2, by omega⟩
              case measure => simp [intOf]; omega
        · have hjl2 : ¬ ((j : Int) < (l.length : Int)) := by omega
          obtain rfl : j = l.length := by omega
          rw [List.take_length, ← HTK.out] at hPg2
          have hN3 : N2 ≤ ((us.take (k + 1)).flatMap fun i => of i L).length := by rw [HTK.out, List.length_append]; exact hN2
          have HF := Lib.hid (And.intro hbw2 (And.intro hPg2 hN3))
          clear hbw2 hPg2 hN3 HFD
          go_wp2
          go_roundw
          case rel => exact ⟨k + 1, N2, by omega, by go_num, HF.out.1, HF.out.2.1, HF.out.2.2⟩
          case measure => simp [intOf]; omega
    · have hlt2 : ¬ ((k : Int) < (us.length : Int)) := by omega
      obtain rfl : k = us.length := by omega
      rw [List.take_length] at hPg hN
      rw [show (us.flatMap fun i => of i L) = L from HG.out] at hPg hN
      have HF := Lib.hid (⟨_, N, rfl, hPg, hN, Nat.le_refl _, hbw⟩ : Newest w (best L) L.length (.returned (.map (some w.heap.size))) wr)
      clear hPg hbw
      go_wp2
      go_ret
      exact HF.out
end Go.Proofs.YtkapnpcolmhdbaaDoor.Sc
namespace Drawbar.Scan
open Drawbar Drawbar.Sheet Drawbar.Nand
/-- The map of pages. -/
def whereS (C n : Nat) (pg : Int → Option Fnd) : Pm.St := ⟨C + 1, n, fun k => (pg k).map fun x => (x.b, x.p)⟩
/-- .. without those that are still to come. -/
def whereL (C n : Nat) (pg : Int → Option Fnd) (left : Int → Bool) : Pm.St := ⟨C + 1, n, fun k => if left k = true then none else (pg k).map fun x => (x.b, x.p)⟩
set_option maxRecDepth 100000 in
theorem whereL_start (C n : Nat) (pg : Int → Option Fnd) (left : Int → Bool) (h : ∀ k x, pg k = some x → left k = true) : whereL C n pg left = Pm.St.new (C + 1) n := by
  unfold whereL Pm.St.new
  congr 1
  funext k
  split
  · rfl
  · rename_i hl
    cases hp : pg k with
    | none => rfl
    | some x => exact absurd (h k x hp) hl
set_option maxRecDepth 100000 in
theorem whereL_fin (C n : Nat) (pg : Int → Option Fnd) (left : Int → Bool) (h : ∀ k x, pg k = some x → left k = false) : whereL C n pg left = whereS C n pg := by
  unfold whereL whereS
  congr 1
  funext k
  split
  · rename_i hl
    cases hp : pg k with
    | none => rfl
    | some x => rw [h k x hp] at hl; cases hl
  · rfl
set_option maxRecDepth 100000 in
theorem whereL_put (C n : Nat) (pg : Int → Option Fnd) (left : Int → Bool) (k : Nat) (x : Fnd) (h : pg k = some x) :
    (whereL C n pg left).put k (some (x.b, x.p)) = whereL C n pg (fun y => left y && !(decide (y = (k : Int)))) := by
  unfold whereL Pm.St.put
  dsimp only
  congr 1
  funext j
  by_cases e : j = k
  · subst e; rw [if_pos rfl, h, if_neg (by simp)]; rfl
  · rw [if_neg e]
    have : ((j : Int) = (k : Int)) = False := by simp; omega
    simp [this]
end Drawbar.Scan
namespace Go.Proofs.YtkapnpcolmhdbaaDoor.Sc
open Go.RowKit
open Drawbar Drawbar.Sheet Drawbar.Nand Drawbar.Scan Drawbar.Gm Go.Proofs.YtkapnpcolmhdbaaDoor.Nd

def Where (w : World) (C n : Nat) (pg : Int → Option Fnd) (e : Ending) (w' : World) : Prop := Pm.Made w (whereS C n pg) e w'
set_option maxRecDepth 100000 in
set_option maxHeartbeats 4000000 in
theorem where_any {w : World} {mb n : Nat} {pg : Int → Option Fnd} (h : PagesAt w mb n pg) (C nb : Nat) (hC : C < 65000) (hpg : ∀ a x, pg a = some x → 0 ≤ a ∧ a ≤ C ∧ x.b < nb ∧ x.p < 32) (h1 : 0 < nb) (h2 : nb ≤ 64)
    (b p s : Int) (B : List Int) (a : Option Addr) (c : Nat) (hb : b = nb) (hr : Pn.RdI w a B) (hB : B.length ≤ 1000) (hs : Plan.Small b p s) (hcap : Plan.cap b p s B = C) :
    Calls Tryd.prog 39 #[.map (some mb), Pn.geo b p s a B.length c] w (Where w C nb pg) := by
  have hbx : Below w.heap.size w (w.alloc (Pn.boxed b p s a B.length c)) := (Below.refl _ _).alloc (Nat.le_refl _) _
  have hM := fun W (hb : Below (w.alloc (Pn.boxed b p s a B.length c)).heap.size (w.alloc (Pn.boxed b p s a B.length c)) W) => Pn.meta_any b p s B a c W ((hr.alloc _).below hb) hB hs
  rw [hcap] at hM
  have hcells := Pn.boxed_cells w b p s a B.length c
  have hN : ∀ W, Calls Tryd.prog 72 #[.int .i64 ((C : Int) + 1), .int .i64 b] W (Pm.Made W (Pm.St.new (C + 1) nb)) := fun W => by
    have := Pm.new_any (C + 1) nb W (by omega) (by omega) h1 h2
    rw [hb]
    exact this
  have hsum : IntKind.i64.wrap ((C : Int) + 1) = (C : Int) + 1 := IntWalk.i64_in _ (by omega)
  unfold Pn.geo at hM ⊢
  have HM := Lib.hid hM
  have HNW := Lib.hid hN
  have HC := Lib.hid hcells
  have HP := Lib.hid h
  have HPG := Lib.hid hpg
  have HBX := Lib.hid hbx
  have hb0 := Pn.drew_below (w.alloc (Pn.boxed b p s a B.length c))
  have hq0 := hcells _ hb0
  have hsz0 : (w.alloc (Pn.boxed b p s a B.length c)).heap.size = w.heap.size + 1 := by simp
  have HSZ := Lib.hid hsz0
  clear hM hN hcells h hpg hb hr hs hcap hbx hsz0
  go_enter Tryd.func39, Tryd.ntmps39
  go_wp2_with fail
  go_region_held (fun W => W.cell? ⟨w.heap.size, 0, none⟩ = some (.int .i64 b) ∧ W.cell? ⟨w.heap.size, 1, none⟩ = some (.int .i64 p) ∧ W.cell? ⟨w.heap.size, 2, none⟩ = some (.int .i64 s) ∧ W.cell? ⟨w.heap.size, 3, none⟩ = some (.slice a B.length c)) (first | exact hq0 | exact hq9 | exact hq10) (first
    | (go_at_call 33; ((with_reducible refine (HM.out _ (by assumption)).mono ?_); rintro e w9 ⟨rfl, hb9⟩; have hb19 := hb0.trans (hb9.mono hb0.size); have hq9 := HC.out _ hb19))
    | (go_at_call 72; ((with_reducible refine (HNW.out _).mono ?_); rintro e w10 ⟨g0, pb0, cb0, rfl, hmap, hg9, hp9, hc9, hb10⟩; have hb110 := hb19.trans (hb10.mono hb19.size); have hq10 := HC.out _ hb110)))
  have hsz10 := Nat.le_trans hb19.size hb10.size
  have hP10 := HP.out.below (HBX.out.trans (hb110.mono (by rw [HSZ.out]; omega)))
  obtain ⟨f, hG, hf1, hf2⟩ := hP10
  have hst : whereL C nb pg (fun x => (f x).isSome) = Pm.St.new (C + 1) nb := whereL_start C nb pg _ fun k x hx => by obtain ⟨av, cv, h3, _⟩ := hf2 _ x hx; show (f _).isSome = true; rw [h3]; rfl
  rw [← hst] at hmap
  have HX := Lib.hid (And.intro hmap (And.intro hf1 hf2))
  have HB := Lib.hid (HBX.out.trans (hb110.mono (by rw [HSZ.out]; omega)))
  have HL := Lib.hid (And.intro hg9 (And.intro hp9 hc9))
  have HMB := Lib.hid HP.out.lt
  have HL2 := Lib.hid (And.intro hmap.gl (And.intro hmap.pbl hmap.cbl))
  have hw9 : w.heap.size < w9.heap.size := by have := hb19.size; rw [HSZ.out] at this; omega
  clear hmap hf1 hf2 hst hb0 hq0 hb9 hq9 hb19 hb10 hb110 hq10 hg9 hp9 hc9 hsum
  go_wp2_with (at_range; refine wpList_range_gm _ rfl _ 52 rfl Tryd.underlying3 Tryd.underlying52 mb n f rfl hG ?_; intro w0 cnt0 hrg0 hg0 hs0)
  have hb0 : Below w10.heap.size w10 w0 := grown_below' hg0 (fun d hd => by cases hd) (Nat.le_refl _)
  have hm0 := HX.out.1.below hb0
  go_frame
  go_loopw [] (fun wr => ∃ (left : Int → Bool) (cnt : Nat), GRange Tryd.prog 3 wr mb w10.heap.size n f left cnt ∧ Pm.MapAt wr g0 pb0 cb0 (whereL C nb pg left) ∧ Below w.heap.size w wr ∧ w10.heap.size < wr.heap.size) (fun wr => wr.rangeLeft mb w10.heap.size)
  case atStart => exact ⟨_, _, hrg0, hm0, HB.out.trans (hb0.mono HB.out.size), by omega⟩
  case round =>
    obtain ⟨left, cnt, hrg, hmp, hbw, hsz⟩ := hrel
    clear hm0 hb0 hg0 hrg0
    have HR := Lib.hid (And.intro hrg (And.intro hmp hbw))
    clear hmp hbw
    go_wp2_with (at_next; refine wpList_next_gm _ rfl _ rfl Tryd.underlying3 mb w10.heap.size n f left cnt rfl hrg ?_ ?_)
    · intro _ hl0
      have hfin := whereL_fin C nb pg left fun k x hx => hl0 _ (hrg.owns.wf _ _ (HX.out.2.2 _ x hx).choose_spec.choose_spec.1)
      have hmp := HR.out.2.1
      rw [hfin] at hmp
      have HF := Lib.hid (⟨g0, pb0, cb0, rfl, hmp, by have := HL.out.1; omega, by have := HL.out.2.1; omega, by have := HL.out.2.2; omega, HR.out.2.2⟩ : Where w C nb pg (.returned (.tuple #[.pointer (some ⟨g0, 0, none⟩), .int .i64 0])) wr)
      clear hfin hmp hrg hG hl0
      go_wp2
      go_ret2
      exact HF.out
    · intro i v w1 cnt1 hfi hli hrg1 hcl hg1 hs1 hen
      obtain ⟨x, hx⟩ : ∃ x, pg i = some x := by
        cases hp : pg i with
        | none => rw [HX.out.2.1 i hp] at hfi; cases hfi
        | some x => exact ⟨x, rfl⟩
      obtain ⟨av, cv, hf3, -⟩ := HX.out.2.2 i x hx
      rw [hf3] at hfi
      cases hfi
      obtain ⟨hi0, hiC, hxb, hxp⟩ := HPG.out i x hx
      obtain ⟨k, rfl⟩ : ∃ k : Nat, i = k := ⟨i.toNat, by omega⟩
      obtain ⟨hl1, hl2, hl3⟩ := HL2.out
      obtain ⟨hl4, hl5, hl6⟩ := HL.out
      have hmb := HMB.out
      have hm1 : Pm.MapAt w1 g0 pb0 cb0 (whereL C nb pg left) := HR.out.2.1.keep fun d hd => hg1.block d (by rcases hd with rfl | rfl | rfl <;> omega) (fun e => by cases e; rcases hd with h | h | h <;> omega)
      have hbA : Below w1.heap.size w1 (w1.alloc (fob 46 x av cv)) := (Below.refl _ _).alloc (Nat.le_refl _) _
      have hS := (Pm.set_in (hm1.below hbA) k x.b x.p (show k < C + 1 by omega) hxb hxp)
      rw [whereL_put C nb pg left k x hx] at hS
      have hb1 : Below w.heap.size w w1 := HR.out.2.2.trans (grown_below' hg1 (fun d hd => by cases hd; omega) HR.out.2.2.size)
      have HS := Lib.hid hS
      have HB1 := Lib.hid (And.intro hb1 (And.intro hbA (And.intro hrg1 (And.intro hrg hcl))))
      have hsA : (w1.alloc (fob 46 x av cv)).heap.size = w1.heap.size + 1 := by simp
      have HSA := Lib.hid hsA
      clear hS hm1 hbA hb1 hrg1 hrg hg1 hf3 hx hl1 hl2 hl3 hl4 hl5 hl6 hmb hcl hG hsA
      go_wp2_with fail
      (with_reducible refine HS.out.mono ?_)
      rintro e w2 ⟨rfl, hm2, ho2⟩
      obtain ⟨hl1, hl2, hl3⟩ := HL2.out
      obtain ⟨hl4, hl5, hl6⟩ := HL.out
      have hmb := HMB.out
      have hs1' := HSA.out
      have hs2 := ho2.size
      have hrg2 := HB1.out.2.2.1.keep (w' := w2) ((ho2.block mb (by omega) (fun h => by rcases h with h | h <;> omega)).trans (HB1.out.2.1.block mb (by omega))) ((ho2.block w10.heap.size (by omega) (fun h => by rcases h with h | h <;> omega)).trans (HB1.out.2.1.block w10.heap.size (by omega)))
      have hb2 : Below w.heap.size w w2 := HB1.out.1.trans ((HB1.out.2.1.mono HB1.out.1.size).trans (ho2.toBelow (fun d hd => by rcases hd with rfl | rfl <;> omega) (by have := HB1.out.1.size; omega)))
      have HF := Lib.hid (And.intro hrg2 (And.intro hm2 (And.intro hb2 (And.intro (show w10.heap.size < w2.heap.size by omega) (show w2.rangeLeft mb w10.heap.size < wr.rangeLeft mb w10.heap.size by rw [hrg2.left_eq, HB1.out.2.2.2.1.left_eq]; exact HB1.out.2.2.2.2)))))
      clear hrg2 hm2 hb2 ho2 hl1 hl2 hl3 hl4 hl5 hl6 hmb hs2 hs1'
      go_wp2
      go_roundw
      case rel => exact ⟨_, cnt1, HF.out.1, HF.out.2.1, HF.out.2.2.1, HF.out.2.2.2.1⟩
      case measure => exact HF.out.2.2.2.2
end Go.Proofs.YtkapnpcolmhdbaaDoor.Sc
