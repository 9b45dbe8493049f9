/- The contract of the laws' array. -/
import Derived.Test.YtkapnpcolmhdbaaDoorZMc
import Derived.Test.YtkapnpcolmhdbaaDoorZSe
import Derived.Test.YtkapnpcolmhdbaaDoorRefLay
import Derived.Deep.RegionHeld
import Derived.Deep.CutBlock
import Derived.Deep.AppendLies
namespace Go.Proofs.YtkapnpcolmhdbaaDoor.Sc
open Go.RowKit
open Drawbar Drawbar.Sheet Drawbar.Nand Drawbar.Scan Drawbar.Gm Go.Proofs.YtkapnpcolmhdbaaDoor.Nd
theorem bcell2 {W w1 : World} (hb : Below W.heap.size W w1) : (∀ b o, b < W.heap.size → w1.cell? ⟨b, o, none⟩ = W.cell? ⟨b, o, none⟩) ∧ (∀ b o, b < W.heap.size → w1.frozen? ⟨b, o, none⟩ = W.frozen? ⟨b, o, none⟩) :=
  ⟨fun b o h => hb.cell (p := ⟨b, o, none⟩) h, fun b o h => hb.frozen (p := ⟨b, o, none⟩) h⟩
theorem info_ss : (Tryd.prog.info? 74).map (fun i => (i.zero, i.size, i.bytes)) = some (some (.slice none 0 0), 1, 24) := by kernel_rfl
theorem info_rs : (Tryd.prog.info? 47).map (fun i => (i.zero, i.size, i.bytes)) = some (some (.agg #[.int .u8 0, .int .u64 0, .int .u64 0, .int .i64 0, .int .i64 0, .slice none 0 0]), 6, 64) := by kernel_rfl
abbrev zsh : Obj := .cells #[.int .u8 0, .int .u64 0, .int .u64 0, .int .i64 0, .int .i64 0, .slice none 0 0] 47
/-- A sheet's box. -/
def BoxS (B : Nat) (w : World) (sb : Nat) (x : Sh) : Prop := ∃ v, w.heap[sb]? = some (.cells #[.int .u8 x.k, .int .u64 x.ep, .int .u64 x.sq, .int .i64 x.ad, .int .i64 x.fr, v] 47 (0, 0)) ∧ DaB B w v x.da
/-- The zeroed sheet's box, filled. -/
theorem box_six {B : Nat} {w1 w2 : World} (j M : Nat) (hb : Below w1.heap.size w1 w2) (hblk : w2.heap[w1.heap.size]? = some (.cells #[.int .u8 0, .int .u64 0, .int .u64 0, .int .i64 0, .int .i64 0, .slice none 0 0] 47 (0, 0))) :
    ∃ sb, Value.pointer (some ⟨w1.heap.size, 0, none⟩) = Value.pointer (some ⟨sb, 0, none⟩) ∧ BoxS B ((((((w2.setCell ⟨w1.heap.size, 0, none⟩ (.int .u8 1)).setCell ⟨w1.heap.size, 1, none⟩ (.int .u64 1)).setCell ⟨w1.heap.size, 2, none⟩ (.int .u64 ((j : Int) + 1))).setCell ⟨w1.heap.size, 3, none⟩ (.int .i64 (M : Int))).setCell ⟨w1.heap.size, 4, none⟩ (.int .i64 (-1))).setCell ⟨w1.heap.size, 5, none⟩ (.slice none 0 0)) sb ⟨1, 1, j + 1, (M : Nat), -1, []⟩ ∧ Below w1.heap.size w1 ((((((w2.setCell ⟨w1.heap.size, 0, none⟩ (.int .u8 1)).setCell ⟨w1.heap.size, 1, none⟩ (.int .u64 1)).setCell ⟨w1.heap.size, 2, none⟩ (.int .u64 ((j : Int) + 1))).setCell ⟨w1.heap.size, 3, none⟩ (.int .i64 (M : Int))).setCell ⟨w1.heap.size, 4, none⟩ (.int .i64 (-1))).setCell ⟨w1.heap.size, 5, none⟩ (.slice none 0 0)) ∧ w1.heap.size ≤ sb ∧ sb < ((((((w2.setCell ⟨w1.heap.size, 0, none⟩ (.int .u8 1)).setCell ⟨w1.heap.size, 1, none⟩ (.int .u64 1)).setCell ⟨w1.heap.size, 2, none⟩ (.int .u64 ((j : Int) + 1))).setCell ⟨w1.heap.size, 3, none⟩ (.int .i64 (M : Int))).setCell ⟨w1.heap.size, 4, none⟩ (.int .i64 (-1))).setCell ⟨w1.heap.size, 5, none⟩ (.slice none 0 0)).heap.size := by
  have h6 := six_set (v0 := .int .u8 1) (v1 := .int .u64 1) (v2 := .int .u64 ((j : Int) + 1)) (v3 := .int .i64 (M : Int)) (v4 := .int .i64 (-1)) (v5 := .slice none 0 0) hblk
  have h7 := six_below (v0 := .int .u8 1) (v1 := .int .u64 1) (v2 := .int .u64 ((j : Int) + 1)) (v3 := .int .i64 (M : Int)) (v4 := .int .i64 (-1)) (v5 := .slice none 0 0) (w := w2) (Nat.le_refl w1.heap.size)
  have hlt := (Array.getElem?_eq_some_iff.1 h6).1
  have hbb := hb.trans h7
  exact ⟨w1.heap.size, rfl, ⟨.slice none 0 0, h6, DaB.nil _ _⟩, hbb, Nat.le_refl _, hlt⟩
/-- A happening's box. -/
def BoxP (B : Nat) (w : World) (xb : Nat) (r : PutV) : Prop := ∃ v, w.heap[xb]? = some (.cells #[.int .u8 r.k, .int .u8 r.b, .int .u8 r.ad, .int .u8 r.fr, .int .u8 r.cut, .bool r.copy, .bool r.hole, v] 73 (0, 0)) ∧
  ∃ a c, v = .slice a r.n c ∧ r.n ≤ maxLen ∧ (r.n ≤ 64 → DaB B w v r.da)
theorem BoxS.keep {B : Nat} {K : List Nat} {w w' : World} {sb : Nat} {x : Sh} (h : BoxS B w sb x) (hl : Left B K w w') (hk : sb ∈ K) : BoxS B w' sb x := by
  obtain ⟨v, h1, h2⟩ := h
  exact ⟨v, (hl.keep sb hk).trans h1, h2.keep hl.below⟩
theorem BoxP.keep {B : Nat} {K : List Nat} {w w' : World} {xb : Nat} {r : PutV} (h : BoxP B w xb r) (hl : Left B K w w') (hk : xb ∈ K) : BoxP B w' xb r := by
  obtain ⟨v, h1, a, c, h2, h3, h4⟩ := h
  exact ⟨v, (hl.keep xb hk).trans h1, a, c, h2, h3, fun h => (h4 h).keep hl.below⟩
/-- Within a round, the sheet's box at hand. -/
structure Mid (n B : Nat) (w6 w : World) (ub xb sb g m : Nat) (s : Arr) (t : ByteArray) (v : Value) (L : List (Sh × Value)) (r : PutV) (z : Sh) : Prop where
  two : Two B [sb, xb, ub] w g s m (gN n) (gP n) s.b 0 false (-1) t v L
  box : BoxS B w sb z
  put : BoxP B w xb r
  left : Left B [ub] w6 w
  ne : sb ≠ xb
section
variable {n B : Nat} {w6 w : World} {ub xb sb g m : Nat} {s : Arr} {t : ByteArray} {v : Value} {L : List (Sh × Value)} {r : PutV} {z : Sh}
theorem Mid.store (h : Mid n B w6 w ub xb sb g m s t v L r z) (o : Nat) (u : Value) (z' : Sh) (hne : sb ≠ ub) (hz : BoxS B (w.setCell ⟨sb, o, none⟩ u) sb z') : Mid n B w6 (w.setCell ⟨sb, o, none⟩ u) ub xb sb g m s t v L r z' := by
  have hb : Left B [xb, ub] w (w.setCell ⟨sb, o, none⟩ u) := ⟨(Below.refl B w).setCell (p := ⟨sb, o, none⟩) (h.two.kk sb (by simp)).1 u, fun k hk => set_keep w sb o u k (by
    rcases List.mem_cons.1 hk with rfl | hk
    · exact Ne.symm h.ne
    · obtain rfl := List.mem_singleton.1 hk; exact Ne.symm hne)⟩
  exact ⟨h.two.store sb o u (by simp), hz, h.put.keep hb (by simp), h.left.trans (hb.less (by simp)), h.ne⟩
theorem Mid.more (h : Mid n B w6 w ub xb sb g m s t v L r z) {w' : World} (hb : Below w.heap.size w w') : Mid n B w6 w' ub xb sb g m s t v L r z := by
  have hm := h.two.more hb
  exact ⟨hm.1, h.box.keep hm.2 (by simp), h.put.keep hm.2 (by simp), h.left.trans (hm.2.less (by simp)), h.ne⟩
/-- A sheet of the row. -/
theorem Two.at {K : List Nat} {P : Nat} {b : Nat → Blk} {left : Nat} {off : Bool} {cut : Int} {va : Option Addr} {vc : Nat} (h : Two B K w g s m n P b left off cut t (.slice va L.length vc) L) (k : Nat) (hk : k < L.length) :
    ∃ vb q, va = some ⟨vb, 0, none⟩ ∧ L[k]? = some q ∧ (∀ f, f < 6 → w.cell? ⟨vb, k * 6 + f, none⟩ = (scells q.1 q.2)[f]?) ∧ DaB B w q.2 q.1.da := by
  obtain ⟨q, hq⟩ : ∃ q, L[k]? = some q := ⟨_, List.getElem?_eq_getElem hk⟩
  have hrow := h.row
  rcases hrow.2 with ⟨h1, h2⟩ | ⟨gg, cap, cur, h1, -⟩
  · omega
  · injection h1 with h1 _ _
    subst h1
    exact ⟨gg, q, rfl, hq, fun f hf => by rw [hrow.cellAt (k * 6 + f) (by omega), rowS_get L k q hq f hf], h.da q (List.mem_of_getElem? hq)⟩
theorem Mid.setK (h : Mid n B w6 w ub xb sb g m s t v L r z) (hne : sb ≠ ub) (k : Nat) : Mid n B w6 (w.setCell ⟨sb, 0, none⟩ (.int .u8 k)) ub xb sb g m s t v L r { z with k := k } := by
  obtain ⟨u, h1, h2⟩ := h.box
  exact h.store 0 _ _ hne ⟨u, by simpa using set_one h1 0 (.int .u8 (k : Int)), h2.keep ((Below.refl B w).setCell (p := ⟨sb, 0, none⟩) (h.two.kk sb (by simp)).1 _)⟩
theorem Mid.setK2 (h : Mid n B w6 w ub xb sb g m s t v L r z) (hne : sb ≠ ub) : Mid n B w6 (w.setCell ⟨sb, 0, none⟩ (.int .u8 2)) ub xb sb g m s t v L r { z with k := 2 } := h.setK hne 2
theorem Mid.setAd (h : Mid n B w6 w ub xb sb g m s t v L r z) (hne : sb ≠ ub) (k : Int) : Mid n B w6 (w.setCell ⟨sb, 3, none⟩ (.int .i64 k)) ub xb sb g m s t v L r { z with ad := k } := by
  obtain ⟨u, h1, h2⟩ := h.box
  exact h.store 3 _ _ hne ⟨u, by simpa using set_one h1 3 (.int .i64 k), h2.keep ((Below.refl B w).setCell (p := ⟨sb, 3, none⟩) (h.two.kk sb (by simp)).1 _)⟩
theorem Mid.setFr (h : Mid n B w6 w ub xb sb g m s t v L r z) (hne : sb ≠ ub) (k : Int) : Mid n B w6 (w.setCell ⟨sb, 4, none⟩ (.int .i64 k)) ub xb sb g m s t v L r { z with fr := k } := by
  obtain ⟨u, h1, h2⟩ := h.box
  exact h.store 4 _ _ hne ⟨u, by simpa using set_one h1 4 (.int .i64 k), h2.keep ((Below.refl B w).setCell (p := ⟨sb, 4, none⟩) (h.two.kk sb (by simp)).1 _)⟩
theorem Mid.setDa (h : Mid n B w6 w ub xb sb g m s t v L r z) (hne : sb ≠ ub) (u : Value) (l : List Nat) (hd : DaB B w u l) : Mid n B w6 (w.setCell ⟨sb, 5, none⟩ u) ub xb sb g m s t v L r { z with da := l } := by
  obtain ⟨u0, h1, h2⟩ := h.box
  exact h.store 5 _ _ hne ⟨u, by simpa using set_one h1 5 u, hd.keep ((Below.refl B w).setCell (p := ⟨sb, 5, none⟩) (h.two.kk sb (by simp)).1 _)⟩
end
def ovS (s : Arr) (rows : Nat → Value) (b : Nat) : Value := if (s.b b).torn = true then .slice none 0 0 else rows b
theorem texts_row {w : World} {v : Value} {ra : Option Addr} {n rc : Nat} {ps : List (List Nat)} (h : w.ownsRow 0 9 1 v n (strs ps)) (hn : n = ps.length) (hv : v = .slice ra n rc) : TextsAt w ra ps := by
  intro k hk
  subst hv
  rcases h.2 with ⟨h1, h2⟩ | ⟨gg, cap, cur, h1, -⟩
  · omega
  · injection h1 with h1 _ _
    subst h1
    refine ⟨gg, rfl, ?_⟩
    have := h.cellAt k (by omega)
    rw [this]
    unfold strs
    rw [List.getElem?_map, List.getElem?_eq_getElem hk, List.getD_eq_getElem?_getD, List.getElem?_eq_getElem hk]
    rfl
/-- The end. -/
theorem arr_end {W W0 wr wx : World} {n N m rb g : Nat} {s : Arr} {rows : Nat → Value} {oa : Option Addr} {oc : Nat}
    (h : wr.cell? ⟨m, 0, none⟩ = some (.slice (some ⟨rb, 0, none⟩) N N) ∧ (∀ b, b < N → wr.cell? ⟨rb, b * 6, none⟩ = some (rows b)) ∧ (∀ b, b < N → wr.cell? ⟨rb, b * 6 + 2, none⟩ = some (.bool (s.b b).torn)) ∧ (∀ b, b < N → ∃ ra rc, rows b = .slice ra (s.b b).pages.length rc ∧ TextsAt wr ra (s.b b).pages) ∧
      Free W.heap.size [] wr g s ∧ Below W0.heap.size W0 wr ∧ Scan.Good s (gus n) ∧ s.n = gN n ∧ s.pages = gP n ∧ gN n = N)
    (hown : wx.ownsRow wr.heap.size 74 1 (.slice oa N oc) N ((List.range N).map (ovS s rows))) (hb : Below wr.heap.size wr wx) (hN : 5 ≤ N) (hb0 : Below W.heap.size W W0) :
    ArrQ W n (.returned (.tuple #[.pointer (some ⟨g, 0, none⟩), .slice oa N oc])) wx := by
  obtain ⟨-, -, -, h4, h5, h6, h7, h8, h9, h10⟩ := h
  subst h10
  have hbW : Below W.heap.size W wx := (hb0.trans (h6.mono hb0.size)).trans (hb.mono (Nat.le_trans hb0.size h6.size))
  refine ⟨g, oa, oc, s, rfl, h7, h8, h9, h5.keep hb, ?_, hbW⟩
  rcases hown.2 with ⟨h1, h2⟩ | ⟨gg, cap, cur, h1, -⟩
  · omega
  · injection h1 with h1 _ _
    subst h1
    refine ⟨gg, rfl, fun b hb2 => ?_⟩
    have hc := hown.cellAt b (by omega)
    rw [List.getElem?_map, List.getElem?_range hb2] at hc
    obtain ⟨ra, rc, he, ht⟩ := h4 b hb2
    unfold showS
    by_cases htn : (s.b b).torn = true
    · rw [if_pos htn]
      refine ⟨none, 0, ?_, fun k hk => by simp at hk⟩
      rw [hc]
      unfold ovS
      rw [Option.map_some, if_pos htn]
      rfl
    · rw [if_neg htn]
      refine ⟨ra, rc, ?_, ht.below hb⟩
      rw [hc]
      unfold ovS
      rw [Option.map_some, if_neg htn, he]
/-- What holds at each round's head. -/
def Head (n B ub : Nat) (w : World) (g m : Nat) (v : Value) (j : Nat) : Prop :=
  ∃ s t L, Two B [ub] w g s m (gN n) (gP n) s.b 0 false (-1) t v L ∧ Scan.Good s (gus n) ∧ s.n = gN n ∧ s.pages = gP n ∧ (∀ q ∈ L, OkS (gCn n) q.1) ∧ L.length ≤ j
set_option maxRecDepth 100000 in
set_option maxHeartbeats 8000000 in
theorem arr_any (n : Nat) (hn : n < 256) (W : World) (ga : Option Addr) (gc : Nat) (hT : Tab W) (hBd : Bads W ga (gB n)) (l : List PutV) (la : Option Addr) (lc : Nat) (hP : Puts W la l) :
    Calls Tryd.prog 7 #[.agg #[.int .i64 (gb n), .int .i64 (gp n), .int .i64 (gs n), .slice ga (gB n).length gc], .slice la l.length lc] W (ArrQ W n) := by
  obtain ⟨W0, hW0⟩ : ∃ W0, W0 = W.alloc (Pn.boxed (gb n) (gp n) (gs n) ga (gB n).length gc) := ⟨_, rfl⟩
  have hb0 : Below W.heap.size W W0 := by rw [hW0]; exact (Below.refl _ _).alloc (Nat.le_refl _) _
  have hcells := Pn.boxed_cells W (gb n) (gp n) (gs n) ga (gB n).length gc
  rw [← hW0] at hcells
  have HN := Lib.hid (new_geo n W0 (hT.below hb0 hT.pos) ga gc (hBd.below hb0))
  have HC := Lib.hid hcells
  have hW0l : W.heap.size < W0.heap.size := by rw [hW0]; simp
  have HB0 := Lib.hid (And.intro hb0 (And.intro (hBd.below hb0) (And.intro (hP.below hb0) hW0l)))
  have HW0 := Lib.hid hW0
  rw [hW0] at HN
  have HP0 := Lib.hid hT.pos
  have HNN := Lib.hid hn
  clear hb0 hcells hT hBd hW0 hP hn
  go_enter Tryd.func7, Tryd.ntmps7
  go_wp2_with fail
  (with_reducible refine HN.out.mono ?_)
  rintro e w4 ⟨g, rfl, hF4, hb4⟩
  rw [← HW0.out] at hF4 hb4
  obtain ⟨t0, t1, t2, t3⟩ := HC.out _ hb4
  have hM := refnew_full (gN n) (gP n) (gB n) ga gc w4 (by have := gN_le n; omega) (by have := gN_le n; omega) (by have := gP_le n; omega) (by have := gP_le n; omega) (by
    rcases gB_cases n with e | ⟨e, h⟩
    · exact .inl e
    · exact .inr ⟨e, by have := gN_le n; omega⟩) ((HB0.out.2.1.below hb4).rd)
  rw [← gb_eq, ← gp_eq] at hM
  have HM := Lib.hid hM
  have H4 := Lib.hid (And.intro hF4 hb4)
  clear hM hF4 hb4
  go_wp2_with fail
  (with_reducible refine HM.out.mono ?_)
  rintro e w5 hNM
  have hat := hNM.at (by have := gN_le n; omega) (by have := gP_le n; omega) (S0 n).b (fun i hi => by
    refine ⟨(S0_b n i).1, (S0_b n i).2, ?_⟩
    unfold S0 newS Arr.new gBn
    dsimp only
    rw [List.take_length]
    rcases gB_cases n with e | ⟨e, h⟩
    · rw [e]; simp [fresh]
    · rw [e]
      by_cases h3 : i = 3
      · subst h3; simp [badBlk]
      · have h4 : ¬ (i : Int) = 3 := by omega
        simp [h3, h4, fresh])
  obtain ⟨m, G, rfl, hMA, hG5, hb5⟩ := hat
  have hb05 := H4.out.2.trans (hb5.mono H4.out.2.size)
  obtain ⟨u0, u1, u2, u3⟩ := HC.out _ hb05
  have hU : Calls Tryd.prog 19 #[Pn.geo (gb n) (gp n) (gs n) ga (gB n).length gc] w5 (Pn.NewIntsF w5 (gus n)) := Pn.refusable_fr (gb n) (gp n) (gs n) (gB n) ga gc w5 ((HB0.out.2.1.below hb05).rd) (Nat.le_trans (gB_len n) (by omega)) (by rw [gb_eq]; have := gN_le n; omega)
  unfold Pn.geo at hU
  have HU := Lib.hid hU
  have htwo : Two W0.heap.size [] w5 g (S0 n) m (gN n) (gP n) (S0 n).b 0 false (-1) { data := #[] } (.slice none 0 0) [] := by
    obtain ⟨F, a1, a2, -⟩ := H4.out.1.arr
    exact ⟨hb05.size, H4.out.1.tab.below (hb5.mono H4.out.2.size) (by omega), by omega, fun k hk => (by cases hk), ⟨F, G, a1.keep hb5, hMA, fun k hk => ⟨a2 k hk, fun hG => by have := a1.bound k hk; have := hG5 k hG; omega⟩, fun k hk => Nat.le_trans H4.out.2.size (hG5 k hk), fun k hk => (by cases hk), fun d hd => (by cases hd)⟩, World.ownsRow_nil _ _ _ 6, fun q hq => by cases hq⟩
  have H5 := Lib.hid (And.intro htwo hb05)
  clear hU htwo hMA hG5 hb5 hb05 hNM t0 t1 t2 t3
  go_wp2_with fail
  (with_reducible refine HU.out.mono ?_)
  rintro e w6 ⟨au, cu, rfl, hru, hb6, hfr6⟩
  have hgl := gus_len n HNN.out
  obtain ⟨ub, uo, rfl, hcu⟩ := hru (by omega)
  have hub := hfr6 _ rfl
  have htw6 := (H5.out.1.more hb6).1.hold ub (Nat.le_trans H5.out.1.size hub.1) hub.2 ⟨w5, H5.out.1, hb6, hub.1⟩
  have hhead : Head n W0.heap.size ub w6 g m (.slice none 0 0) 0 := ⟨S0 n, _, [], htw6, good_S0 n, rfl, rfl, fun q hq => (by cases hq), Nat.le_refl _⟩
  have H6 := Lib.hid (And.intro hhead (And.intro (fun w' (hl : Left W0.heap.size [ub] w6 w') j hj => (World.cell?_of_block (a := ⟨ub, uo + j, none⟩) (hl.keep ub (by simp))).trans (hcu j hj)) (H5.out.2.trans (hb6.mono H5.out.2.size))))
  obtain ⟨UL, hUL⟩ : ∃ UL, (gus n).length = UL := ⟨_, rfl⟩
  have HUL := Lib.hid hUL
  rw [hUL]
  clear hb6 hru hfr6 hub htw6 hhead hcu u0 u1 u2 u3 hUL hgl
  go_wp2_with fail
  go_loopw [11, 12, 13] (fun sq lv iv wr => ∃ j : Nat, j ≤ l.length ∧ j ≤ 60 ∧ iv = .int .i64 j ∧ sq = .int .u64 j ∧ Head n W0.heap.size ub wr g m lv j ∧ Left W0.heap.size [ub] w6 wr) (fun _ _ iv _ => 60 - (intOf iv).toNat)
  case atStart => exact ⟨0, Nat.zero_le _, by omega, rfl, rfl, H6.out.1, Left.refl _ _ _⟩
  case round =>
    obtain ⟨j, hj, hj60, rfl, rfl, hhd, hleft⟩ := hrel
    by_cases hjl : j < l.length ∧ j < 60
    · obtain ⟨hjl, hj6⟩ := hjl
      have i1 : (j : Int) < (l.length : Int) := by omega
      have i2 : (j : Int) < 60 := by omega
      obtain ⟨r, hr⟩ : ∃ r, l[j]? = some r := ⟨_, List.getElem?_eq_getElem hjl⟩
      obtain ⟨hok, pb, po, pv, rfl, hpc, hpd⟩ := HB0.out.2.2.1 j r hr
      have hpl : pb < W0.heap.size := World.block_lt_of_cell? W0 _ (hpc 0 (by omega))
      have hpcw : ∀ k, k < 8 → wr.cell? ⟨pb, po + j * 8 + k, none⟩ = (r.cells pv)[k]? := fun k hk => ((H6.out.2.2.trans (hleft.below.mono (Nat.le_refl _))).cell (p := ⟨pb, po + j * 8 + k, none⟩) hpl).trans (hpc k hk)
      have p0 : wr.cell? ⟨pb, po + j * 8, none⟩ = some (.int .u8 r.k) := hpcw 0 (by omega)
      have p1 : wr.cell? ⟨pb, po + j * 8 + 1, none⟩ = some (.int .u8 r.b) := hpcw 1 (by omega)
      have p2 : wr.cell? ⟨pb, po + j * 8 + 2, none⟩ = some (.int .u8 r.ad) := hpcw 2 (by omega)
      have p3 : wr.cell? ⟨pb, po + j * 8 + 3, none⟩ = some (.int .u8 r.fr) := hpcw 3 (by omega)
      have p4 : wr.cell? ⟨pb, po + j * 8 + 4, none⟩ = some (.int .u8 r.cut) := hpcw 4 (by omega)
      have p5 : wr.cell? ⟨pb, po + j * 8 + 5, none⟩ = some (.bool r.copy) := hpcw 5 (by omega)
      have p6 : wr.cell? ⟨pb, po + j * 8 + 6, none⟩ = some (.bool r.hole) := hpcw 6 (by omega)
      have p7 : wr.cell? ⟨pb, po + j * 8 + 7, none⟩ = some pv := hpcw 7 (by omega)
      obtain ⟨qa, qc, rfl, hmx, hda⟩ := hpd
      obtain ⟨w1, hw1⟩ : ∃ w1, w1 = wr.alloc (.cells #[.int .u8 r.k, .int .u8 r.b, .int .u8 r.ad, .int .u8 r.fr, .int .u8 r.cut, .bool r.copy, .bool r.hole, .slice qa r.n qc] 73) := ⟨_, rfl⟩
      have hb1 : Below wr.heap.size wr w1 := by rw [hw1]; exact (Below.refl _ _).alloc (Nat.le_refl _) _
      have hx1 : w1.heap[wr.heap.size]? = some (.cells #[.int .u8 r.k, .int .u8 r.b, .int .u8 r.ad, .int .u8 r.fr, .int .u8 r.cut, .bool r.copy, .bool r.hole, .slice qa r.n qc] 73 (0, 0)) := by rw [hw1]; exact heap_alloc_new _ _
      have hbox1 : BoxP W0.heap.size w1 wr.heap.size r := ⟨_, hx1, qa, qc, rfl, hmx, fun h64 => by
        have hd := (hda h64)
        have hl := hok.len h64
        rw [← hl]
        have hd0 : DaB W0.heap.size W0 (.slice qa r.da.length qc) r.da := ⟨qa, qc, rfl, hd.1, hd.2.2, fun q hq h0 => by
          obtain ⟨b2, o2, e2, hc2⟩ := hd.1.2.2 h0
          rw [hq] at e2; cases e2
          exact World.block_lt_of_cell? W0 _ (hc2 0 h0)⟩
        exact hd0.keep (H6.out.2.2.trans (hleft.below.trans (hb1.mono (by obtain ⟨s, t, L, hh, -⟩ := hhd; exact hh.size))))⟩
      have h1st : ∃ s t L, Two W0.heap.size [wr.heap.size, ub] w1 g s m (gN n) (gP n) s.b 0 false (-1) t u12 L ∧ Scan.Good s (gus n) ∧ s.n = gN n ∧ s.pages = gP n ∧ (∀ q ∈ L, OkS (gCn n) q.1) ∧ L.length ≤ j := by
        obtain ⟨s, t, L, hh, h2⟩ := hhd
        have hm := hh.more hb1
        exact ⟨s, t, L, hm.1.hold _ hh.size (by rw [hw1]; simp) ⟨wr, hh, hb1, Nat.le_refl _⟩, h2⟩
      have hlf1 : Left W0.heap.size [ub] w6 w1 := by
        obtain ⟨s, t, L, hh, h2⟩ := hhd
        exact hleft.trans (hh.more hb1).2
      obtain ⟨xb, hxb⟩ : ∃ xb, xb = wr.heap.size := ⟨_, rfl⟩
      rw [← hxb] at hx1 hbox1 h1st
      have HH := Lib.hid (And.intro h1st (And.intro hlf1 (And.intro hok (And.intro hbox1 hx1))))
      have HW1 := Lib.hid hw1
      have HXB := Lib.hid hxb
      clear hhd hleft hok hda hr hpl hpcw hpc h1st hlf1 hbox1 hx1 hb1 hw1
      go_upto_region 12 with fail
      rw [← HW1.out, ← HXB.out]
      obtain ⟨s, t, L, htw, hgd, hsn, hsp, hL, hLj⟩ := HH.out.1
      obtain ⟨va, vc, hva⟩ := own_shp htw.row
      subst hva
      clear p0 p1 p2 p3 p4 p5 p6 p7 hxb
      obtain ⟨i, hui, hmi, hiN⟩ := gus_at HNN.out r.b
      obtain ⟨rb, ra, rc, q0, q1⟩ : ∃ rb ra rc, w1.cell? ⟨m, 0, none⟩ = some (.slice (some ⟨rb, 0, none⟩) (gN n) (gN n)) ∧ w1.cell? ⟨rb, i * 6, none⟩ = some (.slice ra (s.b i).pages.length rc) := by
        obtain ⟨F, G, a1, a2, -⟩ := htw.mem
        obtain ⟨⟨rb, rows, h1, h2⟩, -⟩ := a2
        obtain ⟨ra, rc, hr⟩ := own_shp (h2.row i hiN)
        exact ⟨rb, ra, rc, h1.c0, hr ▸ h2.b0 i hiN⟩
      have hgl2 := gus_len n HNN.out
      have ucell : w1.cell? ⟨ub, uo + r.b % (gus n).length, none⟩ = some (.int .i64 i) := by
        rw [← hui]
        exact H6.out.2.1 w1 HH.out.2.1 _ (Nat.mod_lt _ (by omega))
      have hum : (0 : Int) ≤ (r.b : Int) % ((gus n).length : Int) ∧ (r.b : Int) % ((gus n).length : Int) < ((gus n).length : Int) := ⟨Int.emod_nonneg _ (by omega), Int.emod_lt_of_pos _ (by omega)⟩
      obtain ⟨v7, hx7, -⟩ := HH.out.2.2.2.1
      have x1 : w1.cell? ⟨xb, 1, none⟩ = some (.int .u8 r.b) := by unfold World.cell?; rw [HH.out.2.2.2.2]; rfl
      have hUI := Lib.hid (And.intro hui hmi)
      have HTW := Lib.hid (And.intro htw (And.intro hgd (And.intro hsn (And.intro hsp (And.intro hL hLj)))))
      have hrb : r.b < 256 := HH.out.2.2.1.b
      obtain ⟨N, hN⟩ : ∃ N, gN n = N := ⟨_, rfl⟩
      obtain ⟨k, hk⟩ : ∃ k, (s.b i).pages.length = k := ⟨_, rfl⟩
      have HNE := Lib.hid hN
      have HK := Lib.hid hk
      have hiN1 : (i : Int) < (N : Int) := by omega
      have hi0 : (0 : Int) ≤ (i : Int) := by omega
      rw [HUL.out] at ucell hum hgl2
      have hUL0 : (0 : Int) < (UL : Int) := by omega
      rw [hN] at q0
      rw [hk] at q1
      clear hui hmi hN hk hiN htw hgd hsn hsp hL hLj hgl2 hx7
      go_upto_region 15 with fail
      have hb01 : Below W0.heap.size W0 w1 := H6.out.2.2.trans HH.out.2.1.below
      have x2 : w1.cell? ⟨xb, 2, none⟩ = some (.int .u8 r.ad) := by unfold World.cell?; rw [HH.out.2.2.2.2]; rfl
      have hxl : xb < w1.heap.size := by have := HTW.out.1.kk xb (by simp); exact this.2
      have HCP := Lib.hid (fun W' (hb : Below w1.heap.size w1 W') => show Calls Tryd.prog 20 #[.agg #[.int .i64 (gb n), .int .i64 (gp n), .int .i64 (gs n), .slice ga (gB n).length gc]] W' (fun e w' => e = .returned (.int .i64 (gCn n : Nat)) ∧ Below w1.heap.size w1 w' ∧ w'.heap.size ≥ W'.heap.size ∧ w'.cell? ⟨xb, 2, none⟩ = some (.int .u8 r.ad) ∧ w'.cell? ⟨W.heap.size, 0, none⟩ = some (.int .i64 (gb n)) ∧ w'.cell? ⟨W.heap.size, 1, none⟩ = some (.int .i64 (gp n)) ∧ w'.cell? ⟨W.heap.size, 2, none⟩ = some (.int .i64 (gs n)) ∧ w'.cell? ⟨W.heap.size, 3, none⟩ = some (.slice ga (gB n).length gc) ∧ (∀ d, w1.heap.size ≤ d → d < W'.heap.size → w'.heap[d]? = W'.heap[d]?)) from by
        have h := Pn.refcap_any (gb n) (gp n) (gs n) (gB n) ga gc W' ((HB0.out.2.1.below (hb01.trans (hb.mono hb01.size))).rd) (Nat.le_trans (gB_len n) (by omega)) (geom_small n) (by rw [gb_eq]; have := gN_le n; omega)
        refine h.mono ?_
        rintro e w' ⟨rfl, hb2⟩
        have hb3 : Below w1.heap.size w1 w' := hb.trans (hb2.mono hb.size)
        obtain ⟨g0, g1, g2, g3⟩ := HC.out _ (hb01.trans (hb3.mono hb01.size))
        refine ⟨?_, hb3, hb2.size, (hb3.cell (p := ⟨xb, 2, none⟩) hxl).trans x2, g0, g1, g2, g3, fun d _ hd => hb2.block d hd⟩
        have := (gC_eq n HNN.out).1
        unfold gC at this
        rw [this])
      obtain ⟨C, hC⟩ : ∃ C, gCn n = C := ⟨_, rfl⟩
      have hC60 : C ≤ 60 := by rw [← hC]; exact gC_small n HNN.out
      have HCE := Lib.hid hC
      rw [hC] at HCP
      have had : r.ad < 256 := HH.out.2.2.1.ad
      obtain ⟨g0, g1, g2, g3⟩ := HC.out _ hb01
      have HB01 := Lib.hid hb01
      obtain ⟨D, hD⟩ : ∃ D, C + 2 = D := ⟨_, rfl⟩
      obtain ⟨M, hM⟩ : ∃ M, r.ad % D = M := ⟨_, rfl⟩
      have e1 : IntKind.i64.wrap ((C : Int) + 2) = (D : Int) := by rw [IntWalk.i64_in _ (by omega)]; omega
      have e2 : (r.ad : Int).tmod (D : Int) = (M : Int) := by rw [Int.tmod_eq_emod_of_nonneg (by omega), ← hM]; rfl
      have hMD : M < D := by rw [← hM]; exact Nat.mod_lt _ (by omega)
      have e4 : IntKind.i64.wrap (M : Int) = (M : Int) := IntWalk.i64_in _ (by omega)
      have e5 : ¬ ((D : Int) = 0) := by omega
      have e6 : ((D : Int) == 0) = false := by simpa using e5
      have e2b : (r.ad : Int).tmod ((C : Int) + 2) = (M : Int) := by rw [show (C : Int) + 2 = (D : Int) by omega]; exact e2
      have e2c : (r.ad : Int) % ((C : Int) + 2) = (M : Int) := by rw [show (C : Int) + 2 = (D : Int) by omega, ← hM]; rfl
      have e5b : ¬ ((C : Int) + 2 = 0) := by omega
      have e6b : ((C : Int) + 2 == 0) = false := by simpa using e5b
      have e3 : IntKind.i64.wrap (r.ad : Int) = (r.ad : Int) := IntWalk.i64_in _ (by omega)
      have hgl : W.heap.size < w1.heap.size := World.block_lt_of_cell? w1 _ g0
      have HMD := Lib.hid (And.intro hD hM)
      clear hC x1 q0 q1 ucell hb01 hD hM
      have n0 := World.new_ne w1 _ x2
      have n1 := World.new_ne w1 _ g0
      have n2 := World.new_ne w1 _ g1
      have n3 := World.new_ne w1 _ g2
      have n4 := World.new_ne w1 _ g3
      have HCP2 := Lib.hid ((HCP.out ((w1.alloc zsh).drew) (((Below.refl _ _).alloc (Nat.le_refl _) _).drew)).mono (fun e w2 h => (⟨h.1, h.2.1, h.2.2.1, h.2.2.2.1, h.2.2.2.2.1, h.2.2.2.2.2.1, h.2.2.2.2.2.2.1, h.2.2.2.2.2.2.2.1, blk_cells (show w2.heap[w1.heap.size]? = some (.cells #[.int .u8 0, .int .u64 0, .int .u64 0, .int .i64 0, .int .i64 0, .slice none 0 0] 47 (0, 0)) from (h.2.2.2.2.2.2.2.2 _ (Nat.le_refl _) (show w1.heap.size < (w1.alloc zsh).heap.size by simp)).trans (heap_alloc_new _ _))⟩ :
        e = .returned (.int .i64 (C : Nat)) ∧ Below w1.heap.size w1 w2 ∧ w2.heap.size ≥ ((w1.alloc zsh).drew).heap.size ∧ w2.cell? ⟨xb, 2, none⟩ = some (.int .u8 r.ad) ∧ w2.cell? ⟨W.heap.size, 0, none⟩ = some (.int .i64 (gb n)) ∧ w2.cell? ⟨W.heap.size, 1, none⟩ = some (.int .i64 (gp n)) ∧ w2.cell? ⟨W.heap.size, 2, none⟩ = some (.int .i64 (gs n)) ∧ w2.cell? ⟨W.heap.size, 3, none⟩ = some (.slice ga (gB n).length gc) ∧ w2.heap[w1.heap.size]? = some (.cells #[.int .u8 0, .int .u64 0, .int .u64 0, .int .i64 0, .int .i64 0, .slice none 0 0] 47 (0, 0)) ∧
        (w2.cell? ⟨w1.heap.size, 0, none⟩ = some (.int .u8 0) ∧ w2.cell? ⟨w1.heap.size, 1, none⟩ = some (.int .u64 0) ∧ w2.cell? ⟨w1.heap.size, 2, none⟩ = some (.int .u64 0) ∧ w2.cell? ⟨w1.heap.size, 3, none⟩ = some (.int .i64 0) ∧ w2.cell? ⟨w1.heap.size, 4, none⟩ = some (.int .i64 0) ∧ w2.cell? ⟨w1.heap.size, 5, none⟩ = some (.slice none 0 0)) ∧ _)))
      go_cut [17] from 81 to 89 (fun p wx => ∃ sb, p = .pointer (some ⟨sb, 0, none⟩) ∧ BoxS W0.heap.size wx sb ⟨1, 1, j + 1, (M : Nat), -1, []⟩ ∧ Below w1.heap.size w1 wx ∧ w1.heap.size ≤ sb ∧ sb < wx.heap.size)
      case first => as_aux_lemma =>
        go_region_held (fun W' => W'.cell? ⟨xb, 2, none⟩ = some (.int .u8 r.ad) ∧ W'.cell? ⟨W.heap.size, 0, none⟩ = some (.int .i64 (gb n)) ∧ W'.cell? ⟨W.heap.size, 1, none⟩ = some (.int .i64 (gp n)) ∧ W'.cell? ⟨W.heap.size, 2, none⟩ = some (.int .i64 (gs n)) ∧ W'.cell? ⟨W.heap.size, 3, none⟩ = some (.slice ga (gB n).length gc)) (go_keep) (first | (go_at_call 20; (with_reducible refine (HCP.out _ ((Below.refl _ _).drew)).mono ?_); rintro e w2 ⟨rfl, hb2, hs2, z2, z3, z4, z5, z6, hz⟩) | (go_at_call 20; (with_reducible refine HCP2.out.mono ?_); rintro e w2 ⟨rfl, hb2, hs2, z2, z3, z4, z5, z6, hblk, ⟨c0, c1, c2, c3, c4, c5⟩, ⟨f0, f1, f2, f3, f4, f5⟩⟩))
        all_goals
          go_wp2_with fail
          go_meet
          first
          | (have hbk := hblk; exact box_six j M hb2 hbk)
          | exact ⟨w2.heap.size, rfl, ⟨_, heap_alloc_new w2 _, DaB.nil _ _⟩, hb2.alloc hb2.size _, hb2.size, by simp⟩
      case rest =>
        obtain ⟨sb, rfl, hbx, hbw, hsb1, hsb2⟩ := hcut
        have hmid : Mid n W0.heap.size w6 wc ub xb sb g m s t (.slice va L.length vc) L r ⟨1, 1, j + 1, (M : Nat), -1, []⟩ := by
          have hm := HTW.out.1.more hbw
          exact ⟨hm.1.hold sb (Nat.le_trans HTW.out.1.size hsb1) hsb2 ⟨w1, HTW.out.1, hbw, hsb1⟩, hbx, HH.out.2.2.2.1.keep hm.2 (by simp), HH.out.2.1.trans (hm.2.less (by simp)), fun e => by omega⟩
        have hsu : sb ≠ ub := fun e => by have := (HTW.out.1.kk ub (by simp)).2; omega
        have HM0 := Lib.hid hmid
        obtain ⟨v7, hx7, qa2, qc2, rfl, hmx2, hda2⟩ := hmid.put
        have x7 : wc.cell? ⟨xb, 7, none⟩ = some (.slice qa2 r.n qc2) := by unfold World.cell?; rw [hx7]; rfl
        obtain ⟨v5, hs5, -⟩ := hmid.box
        obtain ⟨⟨-, -, -, -, -, y5⟩, -, -, -, -, -, fy5⟩ := six_cells hs5
        have HDA := Lib.hid hda2
        clear hbx hbw hmid hx7 hs5 hda2 hmx2
        go_upto_if 93 with (fail)
        go_cut [] from 93 to 96 (fun wx => Mid n W0.heap.size w6 wx ub xb sb g m s t (.slice va L.length vc) L r ⟨1, 1, j + 1, (M : Nat), -1, r.da⟩)
        case first => as_aux_lemma =>
          by_cases h64 : r.n ≤ 64
          · have h64i : (r.n : Int) ≤ 64 := by omega
            have HF := Lib.hid (HM0.out.setDa hsu _ _ (HDA.out h64))
            go_wp2
            go_meet
            exact HF.out
          · have h64i : ¬ (r.n : Int) ≤ 64 := by omega
            have hd0 : r.da = [] := HH.out.2.2.1.big (by omega)
            have HF := Lib.hid (show Mid n W0.heap.size w6 wc ub xb sb g m s t (.slice va L.length vc) L r ⟨1, 1, j + 1, (M : Nat), -1, r.da⟩ from hd0 ▸ HM0.out)
            clear hd0
            go_wp2
            go_meet
            exact HF.out
        case rest =>
          clear x7 y5 fy5
          obtain ⟨v7, hx7, -⟩ := hcut.put
          obtain ⟨zh, hzh⟩ : ∃ zh, r.hole = zh := ⟨_, rfl⟩
          have x6 : wc.cell? ⟨xb, 6, none⟩ = some (.bool zh) := by unfold World.cell?; rw [hx7, ← hzh]; rfl
          have HZH := Lib.hid hzh
          clear hzh
          obtain ⟨v5, hs5, -⟩ := hcut.box
          obtain ⟨⟨y0, -, -, -, -, -⟩, ⟨f0, -, -, -, -, -⟩⟩ := six_cells hs5
          have hk2 := hcut.setK2 hsu
          obtain ⟨v6, hs6, -⟩ := hk2.box
          obtain ⟨⟨-, -, -, -, -, y5⟩, ⟨-, -, -, -, -, fy5⟩⟩ := six_cells hs6
          have HM1 := Lib.hid hcut
          have HK2 := Lib.hid (hk2.setDa hsu _ _ (DaB.nil _ _))
          clear hx7 hs5 hs6 hk2 hcut
          go_upto_if 98 with (fail)
          obtain ⟨Z, hZ⟩ : ∃ Z : Sh, Z = if r.hole = true then ⟨2, 1, j + 1, (M : Nat), -1, []⟩ else ⟨1, 1, j + 1, (M : Nat), -1, r.da⟩ := ⟨_, rfl⟩
          have HZ := Lib.hid hZ
          clear hZ
          go_cut [] from 98 to 100 (fun wx => Mid n W0.heap.size w6 wx ub xb sb g m s t (.slice va L.length vc) L r Z)
          case first => as_aux_lemma =>
            have hz1 := HZ.out
            rw [HZH.out] at hz1
            have HZ1 := Lib.hid hz1
            clear hz1
            cases zh with
            | true =>
              go_wp2
              go_meet
              rw [show Z = (⟨2, 1, j + 1, (M : Nat), -1, []⟩ : Sh) from by rw [HZ1.out]; simp]
              exact HK2.out
            | false =>
              go_wp2
              go_meet
              rw [show Z = (⟨1, 1, j + 1, (M : Nat), -1, r.da⟩ : Sh) from by rw [HZ1.out]; simp]
              exact HM1.out
          case rest =>
            clear x6 y0 f0 y5 fy5
            obtain ⟨v7, hx7, -⟩ := hcut.put
            obtain ⟨zc, hzc⟩ : ∃ zc, r.copy = zc := ⟨_, rfl⟩
            have x5 : wc.cell? ⟨xb, 5, none⟩ = some (.bool zc) := by unfold World.cell?; rw [hx7, ← hzc]; rfl
            have x2 : wc.cell? ⟨xb, 2, none⟩ = some (.int .u8 r.ad) := by unfold World.cell?; rw [hx7]; rfl
            have x3 : wc.cell? ⟨xb, 3, none⟩ = some (.int .u8 r.fr) := by unfold World.cell?; rw [hx7]; rfl
            have HM2 := Lib.hid hcut
            have HZC := Lib.hid hzc
            have g0 := (HC.out _ (H6.out.2.2.trans hcut.left.below)).1
            have HX7 := Lib.hid hx7
            have hrfr : r.fr < 256 := HH.out.2.2.1.fr
            clear hzc hcut hx7
            obtain ⟨zb, hzb⟩ : ∃ zb, (zc && decide (0 < L.length)) = zb := ⟨_, rfl⟩
            have HZB := Lib.hid hzb
            clear hzb
            go_upto_region 21 with fail
            go_cut [107] from 101 to 106 (fun p wx => p = .bool zb ∧ wc = wx)
            case first => as_aux_lemma =>
              have hzb2 := HZB.out
              cases zc with
              | true =>
                simp only [Bool.true_and] at hzb2
                by_cases hL0 : 0 < L.length
                · have hL1 : (0 : Int) < (L.length : Int) := by omega
                  obtain rfl : zb = true := by rw [← hzb2]; exact decide_eq_true hL0
                  clear hzb2
                  go_wp2
                  go_meet
                  exact ⟨rfl, rfl⟩
                · have hL1 : ¬ (0 : Int) < (L.length : Int) := by omega
                  obtain rfl : zb = false := by rw [← hzb2]; exact decide_eq_false hL0
                  clear hzb2
                  go_wp2
                  go_meet
                  exact ⟨rfl, rfl⟩
              | false =>
                simp only [Bool.false_and] at hzb2
                subst hzb2
                go_wp2
                go_meet
                exact ⟨rfl, rfl⟩
            case rest =>
            obtain ⟨rfl, rfl⟩ := hcut
            have hzc2 : zb = true ↔ r.copy = true ∧ 0 < L.length := by rw [← HZB.out, HZC.out]; simp
            have HZ2 := Lib.hid hzc2
            clear hzc2 x5
            go_upto_if 107 with (fail)
            obtain ⟨Y, hY⟩ : ∃ Y : Sh, Y = sheetP (gCn n) (gN n) (j + 1) (L.map Prod.fst) r := ⟨_, rfl⟩
            have HY := Lib.hid hY
            clear hY
            go_cut [18] from 107 to 132 (fun p wx => Mid n W0.heap.size w6 wx ub xb sb g m s t (.slice va L.length vc) L r Y)
            case first => as_aux_lemma =>
              cases zb with
              | true =>
                have hL0 : 0 < L.length := (HZ2.out.1 rfl).2
                have hL1 : (0 : Int) < (L.length : Int) := by omega
                obtain ⟨kx, hkx⟩ : ∃ kx, r.ad % L.length = kx := ⟨_, rfl⟩
                have hkL : kx < L.length := by rw [← hkx]; exact Nat.mod_lt _ hL0
                obtain ⟨vb, q, rfl, hq, hqc, hqd⟩ := HM2.out.two.at kx hkL
                obtain ⟨oa, oc, hq2, hord, honil, hoB⟩ := hqd
                have o0 : wc.cell? ⟨vb, kx * 6, none⟩ = some (.int .u8 q.1.k) := hqc 0 (by omega)
                have o1 : wc.cell? ⟨vb, kx * 6 + 1, none⟩ = some (.int .u64 q.1.ep) := hqc 1 (by omega)
                have o2 : wc.cell? ⟨vb, kx * 6 + 2, none⟩ = some (.int .u64 q.1.sq) := hqc 2 (by omega)
                have o3 : wc.cell? ⟨vb, kx * 6 + 3, none⟩ = some (.int .i64 q.1.ad) := hqc 3 (by omega)
                have o4 : wc.cell? ⟨vb, kx * 6 + 4, none⟩ = some (.int .i64 q.1.fr) := hqc 4 (by omega)
                have o5 : wc.cell? ⟨vb, kx * 6 + 5, none⟩ = some (.slice oa q.1.da.length oc) := by rw [← hq2]; exact hqc 5 (by omega)
                have i7 : (0 : Int) ≤ (r.ad : Int) % (L.length : Int) := Int.emod_nonneg _ (by omega)
                have i8 : (r.ad : Int) % (L.length : Int) < (L.length : Int) := Int.emod_lt_of_pos _ (by omega)
                obtain ⟨W2, hW2⟩ : ∃ W2, W2 = wc.alloc (.cells #[.int .u8 q.1.k, .int .u64 q.1.ep, .int .u64 q.1.sq, .int .i64 q.1.ad, .int .i64 q.1.fr, .slice oa q.1.da.length oc] 47) := ⟨_, rfl⟩
                have hbW : Below wc.heap.size wc W2 := by rw [hW2]; exact (Below.refl _ _).alloc (Nat.le_refl _) _
                have hob : W2.heap[wc.heap.size]? = some (.cells #[.int .u8 q.1.k, .int .u64 q.1.ep, .int .u64 q.1.sq, .int .i64 q.1.ad, .int .i64 q.1.fr, .slice oa q.1.da.length oc] 47 (0, 0)) := by rw [hW2]; exact heap_alloc_new _ _
                have hosb : wc.heap.size ≠ sb := by have := (HM2.out.two.kk sb (by simp)).2; omega
                have m0 := HM2.out.more hbW
                have m1 := m0.setK hsu q.1.k
                have m2 := m1.setAd hsu q.1.ad
                have hdd : DaB W0.heap.size wc (.slice oa q.1.da.length oc) q.1.da := ⟨oa, oc, rfl, hord, honil, hoB⟩
                have hB2 : Below W0.heap.size wc ((W2.setCell ⟨sb, 0, none⟩ (.int .u8 q.1.k)).setCell ⟨sb, 3, none⟩ (.int .i64 q.1.ad)) := ((hbW.mono HM2.out.two.size).setCell (p := ⟨sb, 0, none⟩) (HM2.out.two.kk sb (by simp)).1 _).setCell (p := ⟨sb, 3, none⟩) (HM2.out.two.kk sb (by simp)).1 _
                have m3 := m2.setDa hsu _ _ (hdd.keep hB2)
                have hgN : gb n = (N : Int) := by rw [gb_eq, HNE.out]
                have hN0 : 0 < N := by have := gN_le n; rw [HNE.out] at this; omega
                have m4 := m3.setFr hsu (((r.fr % N : Nat) : Int))
                have hYm : Y = { { { { Z with k := q.1.k } with ad := q.1.ad } with da := q.1.da } with fr := ((r.fr % N : Nat) : Int) } := by
                  have hgd : (L.map Prod.fst).getD (r.ad % (L.map Prod.fst).length) zeroS = q.1 := by rw [List.length_map, hkx, List.getD_eq_getElem?_getD, List.getElem?_map, hq]; rfl
                  rw [HY.out, HZ.out]
                  unfold sheetP
                  rw [if_pos (by rw [List.length_map]; exact HZ2.out.1 rfl), hgd, HNE.out]
                  split <;> rfl
                have HF := Lib.hid (hYm ▸ m4)
                obtain ⟨bv0, b0, -⟩ := m0.box
                obtain ⟨bv1, b1, -⟩ := m1.box
                obtain ⟨bv2, b2, -⟩ := m2.box
                obtain ⟨bv3, b3, -⟩ := m3.box
                obtain ⟨⟨s0, -, -, -, -, -⟩, ⟨h0, -, -, -, -, -⟩⟩ := six_cells b0
                obtain ⟨⟨-, -, -, s3, -, -⟩, ⟨-, -, -, h3, -, -⟩⟩ := six_cells b1
                obtain ⟨⟨-, -, -, -, -, s5⟩, ⟨-, -, -, -, -, h5⟩⟩ := six_cells b2
                obtain ⟨⟨-, -, -, -, s4, -⟩, ⟨-, -, -, -, h4, -⟩⟩ := six_cells b3
                have p0 := (six_cells hob).1.1
                have p3 := (six_cells ((set_keep W2 sb 0 (.int .u8 q.1.k) _ hosb).trans hob)).1.2.2.2.1
                have p5 := (six_cells (((set_keep _ sb 3 (.int .i64 q.1.ad) _ hosb).trans (set_keep W2 sb 0 (.int .u8 q.1.k) _ hosb)).trans hob)).1.2.2.2.2.2
                obtain ⟨v3, hv3, -⟩ := m3.put
                have r3 : (((W2.setCell ⟨sb, 0, none⟩ (.int .u8 q.1.k)).setCell ⟨sb, 3, none⟩ (.int .i64 q.1.ad)).setCell ⟨sb, 5, none⟩ (.slice oa q.1.da.length oc)).cell? ⟨xb, 3, none⟩ = some (.int .u8 r.fr) := by unfold World.cell?; rw [hv3]; rfl
                have gg0 := (HC.out _ (H6.out.2.2.trans m3.left.below)).1
                rw [hgN] at gg0
                have i9 : (0 : Int) < (N : Int) := by omega
                have i10 : (0 : Int) ≤ (r.fr : Int) % (N : Int) := Int.emod_nonneg _ (by omega)
                have i11 : (r.fr : Int) % (N : Int) < (N : Int) := Int.emod_lt_of_pos _ (by omega)
                have hN64 : N ≤ 64 := by have := gN_le n; rw [HNE.out] at this; omega
                have HW2 := Lib.hid hW2
                have HKX := Lib.hid hkx
                rw [← hkx] at o0 o1 o2 o3 o4 o5
                clear hqc hq2 hord honil hoB hbW hob m0 m1 m2 m3 m4 hdd hB2 hYm b0 b1 b2 b3 hv3 hW2 hkx hgN
                go_upto_region 23 with fail
                rw [← HW2.out]
                go_wp2
                go_meet
                exact HF.out
              | false =>
                have hYZ : Y = Z := by
                  rw [HY.out, HZ.out]
                  unfold sheetP
                  rw [if_neg (by rw [List.length_map]; exact fun h => by have := HZ2.out.2 h; cases this), HCE.out, HMD.out.1, HMD.out.2]
                have HF := Lib.hid (hYZ ▸ HM2.out : Mid n W0.heap.size w6 wc ub xb sb g m s t (.slice va L.length vc) L r Y)
                clear hYZ
                go_wp2
                go_meet
                exact HF.out
            case rest =>
              have hYok : OkS (gCn n) Y := by
                rw [HY.out]
                refine sheetP_ok HH.out.2.2.1 (by have := gN_le n; omega) (by have := gN_le n; omega) (by omega) (fun y hy => ?_) ?_
                · obtain ⟨q, hq, rfl⟩ := List.mem_map.1 hy
                  exact HTW.out.2.2.2.2.1 q hq
                · intro u hu
                  obtain ⟨v7, -, a7, c7, -, -, h7⟩ := HH.out.2.2.2.1
                  by_cases h64 : r.n ≤ 64
                  · obtain ⟨a8, c8, e8, h8, -⟩ := h7 h64
                    exact h8.1 u hu
                  · rw [HH.out.2.2.1.big (by omega)] at hu
                    cases hu
              obtain ⟨yv, hyb, ya, yc, rfl, hyr, hynil, hyB⟩ := hcut.box
              obtain ⟨⟨s0, s1, s2, s3, s4, s5⟩, -⟩ := six_cells hyb
              have HLY := Lib.hid (show Calls Tryd.prog 21 #[.agg #[.int .u8 Y.k, .int .u64 Y.ep, .int .u64 Y.sq, .int .i64 Y.ad, .int .i64 Y.fr, .slice ya Y.da.length yc]] wc (Gives wc (page Y) 96) from reflay_gives Y ya yc wc (hYok.fm (by have := gC_small n HNN.out; omega)) hyr hynil)
              have HM3 := Lib.hid hcut
              have HYK := Lib.hid hYok
              clear hYok hyb hyr hynil hyB hcut
              go_wp2_with fail
              (with_reducible refine HLY.out.mono ?_)
              rintro e w7 ⟨pa, pc, rfl, hpc9, hpr, hpb7, hpo⟩
              obtain ⟨pk, rfl, hpl⟩ : ∃ pbk : Nat, pa = some ⟨pbk, 0, none⟩ ∧ wc.heap.size ≤ pbk ∧ pbk < w7.heap.size := by
                rcases hpo.2 with ⟨h1, h2⟩ | ⟨gg, cap, cur, h1, h2, -⟩
                · omega
                · injection h1 with h1 _ _; subst h1; exact ⟨gg, rfl, h2, (hpo.lt gg rfl).2⟩
              have hMM := HM3.out.two.more hpb7
              have hT7 : Two W0.heap.size [pk, sb, xb, ub] w7 g s m (gN n) (gP n) s.b 0 false (-1) t (.slice va L.length vc) L :=
                hMM.1.hold pk (Nat.le_trans HM3.out.two.size hpl.1) hpl.2 ⟨wc, HM3.out.two, hpb7, hpl.1⟩
              have hbx7 : BoxS W0.heap.size w7 sb Y := HM3.out.box.keep hMM.2 (by simp)
              have hpx7 : BoxP W0.heap.size w7 xb r := HM3.out.put.keep hMM.2 (by simp)
              have hl7 : Left W0.heap.size [ub] w6 w7 := HM3.out.left.trans (hMM.2.less (by simp))
              have H7 := Lib.hid (And.intro hT7 (And.intro hbx7 (And.intro hpx7 (And.intro hl7 hpr))))
              clear hMM hT7 hbx7 hpx7 hl7 hpo hpb7 hpr s0 s1 s2 s3 s4 s5
              have hgs := HTW.out.2.1
              have hmi := hUI.out.2
              have hpage : (page Y).length = 96 := page_length Y (by rcases HYK.out.da with h | h <;> omega)
              have hin : i < gN n := by have := gus_rng n i hmi; omega
              obtain ⟨v7, hx7, -⟩ := H7.out.2.2.1
              have x0 : w7.cell? ⟨xb, 0, none⟩ = some (.int .u8 r.k) := by unfold World.cell?; rw [hx7]; rfl
              have hr256 : r.k < 256 := HH.out.2.2.1.k
              have HPG := Lib.hid hpage
              have HIN := Lib.hid hin
              clear hpage hin hx7
              have hgp2 := gP_le n
              have hdone : ∀ s' w' t' v' L', Two W0.heap.size [pk, sb, xb, ub] w' g s' m (gN n) (gP n) s'.b 0 false (-1) t' v' L' → Left W0.heap.size [pk, sb, xb, ub] w7 w' → (Scan.Good s' (gus n) ∧ s'.n = s.n ∧ s'.pages = s.pages) → (∀ q ∈ L', OkS (gCn n) q.1) → L'.length ≤ j + 1 → Head n W0.heap.size ub w' g m v' (j + 1) ∧ Left W0.heap.size [ub] w6 w' := by
                intro s' w' t' v' L' h1 h2 h3 h4 h5
                exact ⟨⟨s', t', L', h1.less (by simp), h3.1, h3.2.1.trans HTW.out.2.2.1, h3.2.2.trans HTW.out.2.2.2.1, h4, h5⟩, H7.out.2.2.2.1.trans (h2.less (by simp))⟩
              have HD := Lib.hid hdone
              clear hdone
              by_cases h9 : r.k % 12 < 9
              · have hi9 : (r.k : Int) % 12 < 9 := by omega
                have HGP := Lib.hid (good_prog H7.out.1 hgs hmi HIN.out HTW.out.2.2.2.1 HPG.out pk 0 pc H7.out.2.2.2.2 (by simp))
                have HOP := Lib.hid (opP_good hgs hmi (r.k % 12) 0 HPG.out)
                rw [HK.out] at HGP
                clear hgs
                go_wp2_with fail
                (with_reducible refine HGP.out.mono ?_)
                rintro e w8 ⟨⟨z8, rfl⟩, hl8, hG8⟩
                have HG8 := Lib.hid hG8
                clear hl8 hG8 x0
                go_wp2_with fail
                (with_reducible refine HG8.out.mono ?_)
                rintro e w9 ⟨⟨z9, rfl⟩, hl9, hT9⟩
                obtain ⟨yv, hyb, hyd⟩ := H7.out.2.1.keep hl9 (by simp)
                obtain ⟨ya9, yc9, rfl, hyd2⟩ := hyd
                obtain ⟨⟨s0, s1, s2, s3, s4, s5⟩, -⟩ := six_cells hyb
                obtain ⟨i0, hi0z, hz0, hz1, hz2⟩ := info_parts info_rs
                have hown := hT9.row
                have HT9 := Lib.hid (And.intro hT9 (And.intro hl9 (⟨ya9, yc9, rfl, hyd2⟩ : DaB W0.heap.size w9 (.slice ya9 Y.da.length yc9) Y.da)))
                have hLj := HTW.out.2.2.2.2.2
                have hLL := HT9.out.1.size
                clear hT9 hl9 hyd2 hyb
                go_wp2_with (at_builtin; refine wpList_append_lies _ rfl _ _ _ rfl W0.heap.size 47 i0 (.agg #[.int .u8 0, .int .u64 0, .int .u64 0, .int .i64 0, .int .i64 0, .slice none 0 0]) 6 64 Tryd.underlying71 hi0z hz0 hz1 hz2 rfl (by omega) (.slice va L.length vc) L.length (rowS L) rfl (hown.alloc _) ⟨w9.heap.size, 0, none⟩ 1 1 (scells Y (.slice ya9 Y.da.length yc9)) rfl rfl (World.news_of_block (heap_alloc_new w9 _)) (by simp [scells, Value.oneCell']) (by omega) (by unfold maxLen; omega) (by omega) (by simp; omega) (w9.heap.size + 1) (by simp) ?_; intro gg cap w10 hown10 hg10 hat10 hlt10)
                have hap := HT9.out.1.app Y _ HT9.out.2.2 ((Below.refl _ _).alloc (Nat.le_refl _) _) hown10 hg10 (by rcases hat10 with h | h; exact .inl h; exact .inr (by rw [h]; simp))
                have hR := Lib.hid (HD.out (opP s (r.k % 12) i (page Y) 0) w10 _ _ _ (by unfold opP; rw [if_pos h9, HK.out]; exact hap.1) (HT9.out.2.1.trans hap.2) (by rw [HK.out] at *; exact HOP.out) (fun q hq => by
                  rcases List.mem_append.1 hq with h1 | h1
                  · exact HTW.out.2.2.2.2.1 q h1
                  · obtain rfl := List.mem_singleton.1 h1; exact HYK.out) (by rw [List.length_append]; simp; omega))
                clear hap hown10 hg10 hat10 hown
                go_wp2
                go_roundw
                case rel => exact ⟨j + 1, by omega, by omega, by go_num, by go_num, hR.out.1, hR.out.2⟩
                case measure => simp [intOf]; omega
              · have hi9 : ¬ (r.k : Int) % 12 < 9 := by omega
                by_cases h10 : r.k % 12 = 9
                · have hi10 : ((r.k : Int) % 12 == 9) = true := by simp; omega
                  have hi10b : (r.k : Int) % 12 = 9 := by omega
                  have HGP := Lib.hid (good_erase H7.out.1 hgs hmi HIN.out (by omega))
                  have HOP := Lib.hid (opP_good hgs hmi (r.k % 12) 0 HPG.out)
                  have hLj := HTW.out.2.2.2.2.2
                  clear hgs
                  go_wp2_with fail
                  (with_reducible refine HGP.out.mono ?_)
                  rintro e w8 ⟨⟨z8, rfl⟩, hl8, hG8⟩
                  have HG8 := Lib.hid hG8
                  clear hl8 hG8 x0
                  go_wp2_with fail
                  (with_reducible refine HG8.out.mono ?_)
                  rintro e w9 ⟨⟨z9, rfl⟩, hl9, hT9⟩
                  have hR := Lib.hid (HD.out (opP s (r.k % 12) i (page Y) 0) w9 _ _ _ (by unfold opP; rw [if_neg h9, if_pos h10]; exact hT9) hl9 HOP.out HTW.out.2.2.2.2.1 (by omega))
                  clear hT9 hl9
                  go_wp2
                  go_roundw
                  case rel => exact ⟨j + 1, by omega, by omega, by go_num, by go_num, hR.out.1, hR.out.2⟩
                  case measure => simp [intOf]; omega
                · have hi10 : ((r.k : Int) % 12 == 9) = false := by simp; omega
                  have hi10b : ¬ (r.k : Int) % 12 = 9 := by omega
                  have HAR := Lib.hid (two_arm H7.out.1)
                  obtain ⟨cc, hcc⟩ : ∃ cc, r.cut % 120 = cc := ⟨_, rfl⟩
                  have hcut256 : r.cut < 256 := HH.out.2.2.1.cut
                  go_wp2_with fail
                  (with_reducible refine HAR.out.mono ?_)
                  rintro e w8 ⟨rfl, hT8, hl8⟩
                  obtain ⟨⟨u4, c4⟩, f4, hT8b, hl8b⟩ := two_left hT8
                  have hl88 := hl8.trans hl8b
                  obtain ⟨v8, hx8, -⟩ := H7.out.2.2.1.keep hl88 (by simp)
                  have x08 : (w8.setCell ⟨m, 4, none⟩ (.int .i64 1)).cell? ⟨xb, 0, none⟩ = some (.int .u8 r.k) := by unfold World.cell?; rw [hx8]; rfl
                  have hrd8 : Rd (w8.setCell ⟨m, 4, none⟩ (.int .i64 1)) (some ⟨pk, 0, none⟩) (page Y) := H7.out.2.2.2.2.keep (hl88.keep pk (by simp))
                  have hLj := HTW.out.2.2.2.2.2
                  have HOP := Lib.hid (opP_good hgs hmi (r.k % 12) (r.cut % 120) HPG.out)
                  have HXC := Lib.hid (fun w' (hl : Left W0.heap.size [pk, sb, xb, ub] w7 w') => (by
                    obtain ⟨v9, hx9, -⟩ := H7.out.2.2.1.keep hl (by simp)
                    unfold World.cell?; rw [hx9]; rfl : w'.cell? ⟨xb, 4, none⟩ = some (.int .u8 r.cut)))
                  by_cases h11 : r.k % 12 = 10
                  · have hi11 : ((r.k : Int) % 12 == 10) = true := by simp; omega
                    have hi11b : (r.k : Int) % 12 = 10 := by omega
                    have HGP := Lib.hid (armed_prog hT8b hgs hmi HIN.out HTW.out.2.2.2.1 HPG.out pk 0 pc hrd8 (by simp))
                    rw [HK.out] at HGP
                    have HL8 := Lib.hid hl88
                    clear hgs hT8 hT8b hl8 hl8b hl88 hx8 hrd8 x0
                    go_wp2_with fail
                    (with_reducible refine HGP.out.mono ?_)
                    rintro e w9 ⟨⟨z9, rfl⟩, hl9, hG9⟩
                    have HG9 := Lib.hid hG9
                    clear hl9 hG9 x08 c4 f4
                    go_wp2_with fail
                    (with_reducible refine HG9.out.mono ?_)
                    rintro e w10 ⟨⟨z10, rfl⟩, hl10, hG10⟩
                    have x4 := HXC.out _ (HL8.out.trans hl10)
                    have HG10 := Lib.hid (hG10 (r.cut % 120))
                    clear hl10 hG10
                    go_wp2_with fail
                    rw [show (r.cut : Int) % 120 = ((r.cut % 120 : Nat) : Int) by omega]
                    (with_reducible refine HG10.out.mono ?_)
                    rintro e w11 ⟨rfl, hl11, hG11⟩
                    have x411 := HXC.out _ (HL8.out.trans hl11)
                    have HG11 := Lib.hid hG11
                    clear hl11 hG11 x4
                    go_wp2_with fail
                    rw [show (r.cut : Int) % 120 = ((r.cut % 120 : Nat) : Int) by omega]
                    (with_reducible refine HG11.out.mono ?_)
                    rintro e w12 ⟨rfl, hl12, t', hT12⟩
                    have hR := Lib.hid (HD.out (opP s (r.k % 12) i (page Y) (r.cut % 120)) w12 _ _ _ (by unfold opP; rw [if_neg h9, if_neg h10, if_pos h11, HK.out]; exact hT12) (HL8.out.trans hl12) HOP.out HTW.out.2.2.2.2.1 (by omega))
                    clear hT12 hl12 x411
                    go_wp2
                    go_roundw
                    case rel => exact ⟨j + 1, by omega, by omega, by go_num, by go_num, hR.out.1, hR.out.2⟩
                    case measure => simp [intOf]; omega
                  · have hi11 : ((r.k : Int) % 12 == 10) = false := by simp; omega
                    have hi11b : ¬ (r.k : Int) % 12 = 10 := by omega
                    have HGP := Lib.hid (armed_erase hT8b hgs hmi HIN.out (by omega))
                    have HL8 := Lib.hid hl88
                    clear hgs hT8 hT8b hl8 hl8b hl88 hx8 hrd8 x0
                    go_wp2_with fail
                    (with_reducible refine HGP.out.mono ?_)
                    rintro e w9 ⟨⟨z9, rfl⟩, hl9, hG9⟩
                    have HG9 := Lib.hid hG9
                    clear hl9 hG9 x08 c4 f4
                    go_wp2_with fail
                    (with_reducible refine HG9.out.mono ?_)
                    rintro e w10 ⟨⟨z10, rfl⟩, hl10, hG10⟩
                    have x4 := HXC.out _ (HL8.out.trans hl10)
                    have HG10 := Lib.hid (hG10 (r.cut % 120))
                    clear hl10 hG10
                    go_wp2_with fail
                    rw [show (r.cut : Int) % 120 = ((r.cut % 120 : Nat) : Int) by omega]
                    (with_reducible refine HG10.out.mono ?_)
                    rintro e w11 ⟨rfl, hl11, hG11⟩
                    have x411 := HXC.out _ (HL8.out.trans hl11)
                    have HG11 := Lib.hid hG11
                    clear hl11 hG11 x4
                    go_wp2_with fail
                    rw [show (r.cut : Int) % 120 = ((r.cut % 120 : Nat) : Int) by omega]
                    (with_reducible refine HG11.out.mono ?_)
                    rintro e w12 ⟨rfl, hl12, t', hT12⟩
                    have hR := Lib.hid (HD.out (opP s (r.k % 12) i (page Y) (r.cut % 120)) w12 _ _ _ (by unfold opP; rw [if_neg h9, if_neg h10, if_neg h11]; exact hT12) (HL8.out.trans hl12) HOP.out HTW.out.2.2.2.2.1 (by omega))
                    clear hT12 hl12 x411
                    go_wp2
                    go_roundw
                    case rel => exact ⟨j + 1, by omega, by omega, by go_num, by go_num, hR.out.1, hR.out.2⟩
                    case measure => simp [intOf]; omega
    · obtain ⟨s, t, L, htw, hgd, hsn, hsp, hL, hLj⟩ := hhd
      obtain ⟨N, hN⟩ : ∃ N, gN n = N := ⟨_, rfl⟩
      have hN9 : N ≤ 9 := by have := gN_le n; omega
      have hN5 : 5 ≤ N := by have := gN_le n; omega
      have hb0r : Below W0.heap.size W0 wr := H6.out.2.2.trans hleft.below
      obtain ⟨F, G, a1, a2, a3, a4, a5, a6⟩ := htw.mem
      have hfree : Free W.heap.size [] wr g s := ⟨HP0.out, Nat.le_trans (Nat.le_of_lt hW0l) htw.size, htw.tab, fun k hk => (by cases hk), F, a1, fun k hk => Nat.le_trans (Nat.le_of_lt hW0l) (a3 k hk).1, fun k hk => by cases hk⟩
      obtain ⟨⟨rb, rows, h1, h2⟩, -⟩ := a2
      have hmcell := h1.c0
      have hrows : ∀ b, b < N → ∃ ra rc, rows b = .slice ra (s.b b).pages.length rc ∧ TextsAt wr ra (s.b b).pages := fun b hb => by
        have hr := h2.row b (by omega)
        obtain ⟨ra, rc, he⟩ := own_shp hr
        exact ⟨ra, rc, he, texts_row hr rfl he⟩
      have hb0c := fun b (hb : b < N) => h2.b0 b (by omega)
      have hb2c := fun b (hb : b < N) => h2.b2 b (by omega)
      rw [hN] at hmcell
      have hsl : wr.heap.size ≥ W0.heap.size := htw.size
      have HE := Lib.hid (And.intro hmcell (And.intro hb0c (And.intro hb2c (And.intro hrows (And.intro hfree (And.intro hb0r (And.intro hgd (And.intro hsn (And.intro hsp hN)))))))))
      have hend : (¬ (j : Int) < (l.length : Int)) ∨ ((j : Int) < (l.length : Int) ∧ ¬ (j : Int) < 60) := by
        rcases Nat.lt_or_ge j l.length with h | h
        · exact .inr ⟨by omega, fun h2 => hjl ⟨h, by omega⟩⟩
        · exact .inl (by omega)
      clear htw hgd hsn hsp hL hLj a1 a3 a4 a5 a6 h1 h2 hfree hmcell hb0c hb2c hrows hb0r hN hleft hjl
      obtain ⟨i0, hiz, hz0, hz1, hz2⟩ := info_parts info_ss
      obtain ⟨wE, rfl⟩ : ∃ wE, wE = wr := ⟨_, rfl⟩
      have hmlt : m < wE.heap.size := World.block_lt_of_cell? wE _ HE.out.1
      have hrlt : rb < wE.heap.size := World.block_lt_of_cell? wE _ (HE.out.2.1 0 (by omega))
      rcases hend with hend | ⟨hend, hend2⟩
      all_goals
        go_wp2_with fail
        go_loopw [20, 21] (fun v iv wx => ∃ k : Nat, k ≤ N ∧ iv = .int .i64 k ∧ Below wE.heap.size wE wx ∧ wx.ownsRow wE.heap.size 74 1 v k ((List.range k).map (ovS s rows))) (fun _ iv _ => N - (intOf iv).toNat)
        case atStart => exact ⟨0, Nat.zero_le _, rfl, Below.refl _ _, World.ownsRow_nil _ _ _ 1⟩
        case round =>
          obtain ⟨k, hk, rfl, hb, hown⟩ := hrel
          have hg0 := (HC.out _ (HE.out.2.2.2.2.2.1.trans (hb.mono hsl))).1
          have hgbN : gb n = (N : Int) := by rw [gb_eq, HE.out.2.2.2.2.2.2.2.2.2]
          rw [hgbN] at hg0
          by_cases hkN : k < N
          · have hkN2 : (k : Int) < (N : Int) := by omega
            have hk0 : (0 : Int) ≤ (k : Int) := by omega
            have hc0 := (hb.cell (p := ⟨m, 0, none⟩) hmlt).trans HE.out.1
            have hcb := (hb.cell (p := ⟨rb, k * 6, none⟩) hrlt).trans (HE.out.2.1 k hkN)
            have hct := (hb.cell (p := ⟨rb, k * 6 + 2, none⟩) hrlt).trans (HE.out.2.2.1 k hkN)
            obtain ⟨ra, rc, hre, -⟩ := HE.out.2.2.2.1 k hkN
            rw [hre] at hcb
            have hsz := hb.size
            have HB := Lib.hid hb
            have hov : ovS s rows k = if (s.b k).torn = true then .slice none 0 0 else .slice ra (s.b k).pages.length rc := by unfold ovS; rw [hre]
            have hrs : ∀ u, ovS s rows k = u → (List.range k).map (ovS s rows) ++ [u] = (List.range (k + 1)).map (ovS s rows) := fun u hu => by rw [List.range_succ, List.map_append, ← hu]; rfl
            have HRS := Lib.hid hrs
            have HOV := Lib.hid hov
            clear hb hgbN hre hrs hov
            obtain ⟨zt, hzt⟩ : ∃ zt, (s.b k).torn = zt := ⟨_, rfl⟩
            rw [hzt] at hct
            have HZT := Lib.hid hzt
            clear hzt
            cases zt with
            | true =>
              have HU := Lib.hid (HRS.out (.slice none 0 0) (by rw [HOV.out, if_pos HZT.out]))
              go_wp2_with (at_builtin; refine wpList_append_ownz rfl (.tmp 225) (.tmp 227) 29 rfl wE.heap.size 74 i0 (.slice none 0 0) 1 24 Tryd.underlying29 hiz hz0 hz1 hz2 rfl (by decide) _ k ((List.range k).map (ovS s rows)) rfl (hown.alloc _) (some ⟨wr.heap.size, 0, none⟩) 1 1 [Value.slice none 0 0] rfl (fun h => by cases h) rfl (At.one wr _ _) (by simp [Value.oneCell']) (by unfold maxLen; omega) (by omega) (by simp at hsz ⊢; omega) ?_; intro v6 w7 hown6 hb7)
              rw [HU.out] at hown6
              go_roundw
              case rel => exact ⟨k + 1, by omega, by go_num, HB.out.trans (((Below.refl _ _).alloc hsz _).trans hb7), hown6⟩
              case measure => simp [intOf]; omega
            | false =>
              have HU := Lib.hid (HRS.out (.slice ra (s.b k).pages.length rc) (by rw [HOV.out, if_neg (by rw [HZT.out]; decide)]))
              go_wp2_with (at_builtin; refine wpList_append_ownz rfl (.tmp 225) (.tmp 227) 29 rfl wE.heap.size 74 i0 (.slice none 0 0) 1 24 Tryd.underlying29 hiz hz0 hz1 hz2 rfl (by decide) _ k ((List.range k).map (ovS s rows)) rfl (hown.alloc _) (some ⟨wr.heap.size, 0, none⟩) 1 1 [Value.slice ra (s.b k).pages.length rc] rfl (fun h => by cases h) rfl (At.one wr _ _) (by simp [Value.oneCell']) (by unfold maxLen; omega) (by omega) (by simp at hsz ⊢; omega) ?_; intro v6 w7 hown6 hb7)
              rw [HU.out] at hown6
              go_roundw
              case rel => exact ⟨k + 1, by omega, by go_num, HB.out.trans (((Below.refl _ _).alloc hsz _).trans hb7), hown6⟩
              case measure => simp [intOf]; omega
          · obtain rfl : N = k := by omega
            have hkN2 : ¬ ((N : Int) < (N : Int)) := by omega
            obtain ⟨oa, oc, rfl⟩ := own_shp hown
            have HF := Lib.hid (arr_end HE.out hown hb hN5 HB0.out.1)
            clear hown hb hgbN
            go_wp2
            go_ret2
            exact HF.out
end Go.Proofs.YtkapnpcolmhdbaaDoor.Sc
