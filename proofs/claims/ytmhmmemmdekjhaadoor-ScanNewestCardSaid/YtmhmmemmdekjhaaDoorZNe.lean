/- What the law ScanNewest lays, as plain data. The walk of the law ScanNewest. -/
import Derived.Test.YtmhmmemmdekjhaaDoorZCo
import Derived.Deep.RegionHeld
namespace Drawbar.Scan
open Go.RowKit
open Drawbar Drawbar.Sheet Drawbar.Nand Go.Proofs.YtmhmmemmdekjhaaDoor.Nd Go.Proofs.YtmhmmemmdekjhaaDoor.Sc
set_option maxRecDepth 100000 in
theorem most_up {L : List Fnd} {b : Nat} (h : ∀ x ∈ L, x.s.sq ≤ b) : most L ≤ b := by
  induction L using snocRec with
  | nil => exact Nat.zero_le _
  | append L x ih =>
    have e : most (L ++ [x]) = max (most L) x.s.sq := by unfold most; rw [List.foldl_append]; rfl
    rw [e]
    have h1 := ih fun y hy => h y (by simp [hy])
    have h2 := h x (by simp)
    omega
set_option maxRecDepth 100000 in
theorem le_most {L : List Fnd} : ∀ x ∈ L, x.s.sq ≤ most L := by
  induction L using snocRec with
  | nil => intro x hx; cases hx
  | append L y ih =>
    intro x hx
    have e : most (L ++ [y]) = max (most L) y.s.sq := by unfold most; rw [List.foldl_append]; rfl
    rw [e]
    rcases List.mem_append.1 hx with h | h
    · have := ih x h; omega
    · obtain rfl := List.mem_singleton.1 h; omega
set_option maxRecDepth 100000 in
theorem mem_held {m : Int} {s : Arr} {us : List Int} {x : Fnd} : x ∈ heldI m s us ↔ ∃ i ∈ us, x ∈ blockF m s i.toNat := by
  unfold heldI; exact List.mem_flatMap
set_option maxRecDepth 100000 in
theorem held_put_len (m : Int) (s : Arr) (a : Nat) (p : List Nat) (ht : (s.b a).torn = false) (us : List Int) : (heldI m (putA s a p) us).length ≤ (heldI m s us).length + us.length := by
  induction us with
  | nil => simp [heldI]
  | cons i us ih =>
    have e : ∀ s', heldI m s' (i :: us) = blockF m s' i.toNat ++ heldI m s' us := fun _ => rfl
    have hb : (blockF m (putA s a p) i.toNat).length ≤ (blockF m s i.toNat).length + 1 := by
      by_cases h : i.toNat = a
      · rw [h, blockF_put m s a p ht, List.length_append]
        have := one_len m a (s.b a).pages.length p
        omega
      · rw [blockF_other (put_b s a i.toNat p h)]; omega
    rw [e, e, List.length_append, List.length_append, List.length_cons]
    omega
set_option maxRecDepth 100000 in
theorem held_put {m : Int} {s : Arr} {a : Nat} {p : List Nat} (ht : (s.b a).torn = false) {us : List Int} (ha : (a : Int) ∈ us) (x : Fnd) :
    x ∈ heldI m (putA s a p) us ↔ x ∈ heldI m s us ∨ x ∈ one m a (s.b a).pages.length p := by
  rw [mem_held, mem_held]
  constructor
  · rintro ⟨i, hi, hx⟩
    by_cases h : i.toNat = a
    · rw [h, blockF_put m s a p ht] at hx
      rcases List.mem_append.1 hx with h1 | h1
      · exact .inl ⟨i, hi, by rw [h]; exact h1⟩
      · exact .inr h1
    · rw [blockF_other (put_b s a i.toNat p h)] at hx
      exact .inl ⟨i, hi, hx⟩
  · rintro (⟨i, hi, hx⟩ | hx)
    · refine ⟨i, hi, ?_⟩
      by_cases h : i.toNat = a
      · rw [h] at hx ⊢
        rw [blockF_put m s a p ht]
        exact List.mem_append_left _ hx
      · rw [blockF_other (put_b s a i.toNat p h)]
        exact hx
    · refine ⟨a, ha, ?_⟩
      rw [Int.toNat_natCast, blockF_put m s a p ht]
      exact List.mem_append_right _ hx
end Drawbar.Scan
namespace Go.Proofs.YtmhmmemmdekjhaaDoor.Sc
open Go.RowKit
open Drawbar Drawbar.Sheet Drawbar.Nand Drawbar.Scan Drawbar.Gm Go.Proofs.YtmhmmemmdekjhaaDoor.Nd
def sN (v : Nat) : Sh := ⟨1, 255 - v, v, 0, -1, [v]⟩
set_option maxRecDepth 100000 in
theorem sN_fm (v : Nat) (h : v < 256) : fm (sN v) = true := by unfold fm sN; simp; omega
set_option maxRecDepth 100000 in
theorem sN_lt (v : Nat) (h : v < 256) : ∀ u ∈ (sN v).da, u < 256 := fun u hu => by obtain rfl := List.mem_singleton.1 hu; exact h
/-- What the law knows at each of its rounds. -/
structure Newd (n : Nat) (s : Arr) (bs : Int) (i : Nat) : Prop where
  good : Scan.Good s (gus n)
  n_ : s.n = gN n
  p_ : s.pages = gP n
  torn : ∀ j, (s.b j).torn = false
  all : ∀ x ∈ heldI (gCn n) s (gus n), ∃ v, v < 256 ∧ x.s = sN v
  len : (heldI (gCn n) s (gus n)).length ≤ i * (gus n).length
  bst : (bs = -1 ∧ heldI (gCn n) s (gus n) = []) ∨ ∃ b : Nat, bs = b ∧ b < 256 ∧ (∃ x ∈ heldI (gCn n) s (gus n), x.s.sq = b) ∧ ∀ x ∈ heldI (gCn n) s (gus n), x.s.sq ≤ b
set_option maxRecDepth 100000 in
theorem newd_0 (n : Nat) : Newd n (S0 n) (-1) 0 := by
  have h : heldI (gCn n) (S0 n) (gus n) = [] := by
    unfold heldI
    rw [List.flatMap_eq_nil_iff]
    exact fun i _ => blockF_fresh (S0_b n _).1
  exact ⟨good_S0 n, rfl, rfl, fun j => (S0_b n j).2, (fun x hx => by rw [h] at hx; cases hx), by rw [h]; simp, .inl ⟨rfl, h⟩⟩
set_option maxRecDepth 100000 in
theorem Newd.stay {n : Nat} {s : Arr} {bs : Int} {i : Nat} (h : Newd n s bs i) : Newd n s bs (i + 1) :=
  ⟨h.good, h.n_, h.p_, h.torn, h.all, Nat.le_trans h.len (Nat.mul_le_mul_right _ (Nat.le_succ _)), h.bst⟩
set_option maxRecDepth 100000 in
theorem Newd.put {n : Nat} {s : Arr} {bs : Int} {i : Nat} (h : Newd n s bs i) {a v : Nat} (ha : (a : Int) ∈ gus n) (hv : v < 256) :
    Newd n (putA s a (page (sN v))) (if bs < v then (v : Int) else bs) (i + 1) := by
  have h1 : one (gCn n) a (s.b a).pages.length (page (sN v)) = [⟨a, (s.b a).pages.length, sN v⟩] := one_page _ _ _ _ (sN_fm v hv) (sN_lt v hv) (by simp [sN]) (by simp [sN])
  have hm := fun x => held_put (m := gCn n) (p := page (sN v)) (h.torn a) ha x
  simp only [h1, List.mem_singleton] at hm
  have hl := held_put_len (gCn n) s a (page (sN v)) (h.torn a) (gus n)
  have hle := h.len
  refine ⟨h.good.put a _, h.n_, h.p_, fun j => ?_, fun x hx => ?_, ?_, ?_⟩
  · by_cases e : j = a
    · rw [e, (put_i _ _ _).2]; exact h.torn a
    · rw [put_b _ _ _ _ e]; exact h.torn j
  · rcases (hm x).1 hx with h2 | rfl
    · exact h.all x h2
    · exact ⟨v, hv, rfl⟩
  · rw [Nat.succ_mul]; omega
  · right
    rcases h.bst with ⟨rfl, he⟩ | ⟨b, rfl, hb, ⟨x0, hx0, he0⟩, hmx⟩
    · refine ⟨v, by rw [if_pos (by omega)], hv, ⟨_, (hm _).2 (.inr rfl), rfl⟩, fun x hx => ?_⟩
      rcases (hm x).1 hx with h2 | rfl
      · rw [he] at h2; cases h2
      · exact Nat.le_refl _
    · by_cases hbv : (b : Int) < v
      · refine ⟨v, by rw [if_pos hbv], hv, ⟨_, (hm _).2 (.inr rfl), rfl⟩, fun x hx => ?_⟩
        rcases (hm x).1 hx with h2 | rfl
        · have := hmx x h2; omega
        · exact Nat.le_refl _
      · refine ⟨b, by rw [if_neg hbv], hb, ⟨x0, (hm _).2 (.inl hx0), he0⟩, fun x hx => ?_⟩
        rcases (hm x).1 hx with h2 | rfl
        · exact hmx x h2
        · show v ≤ b; omega
set_option maxRecDepth 100000 in
theorem Newd.prog {n : Nat} {s : Arr} {bs : Int} {i : Nat} (h : Newd n s bs i) {a v : Nat} (ha : (a : Int) ∈ gus n) (hp : (s.b a).pages.length < gP n) :
    s.program a (s.b a).pages.length (page (sN v)) 0 = (0, putA s a (page (sN v))) :=
  h.good.program ha (page_length _ (by simp [sN])) 0 (by rw [h.p_]; exact hp) (h.torn a) _ rfl
set_option maxRecDepth 100000 in
theorem Newd.take {n : Nat} {s : Arr} {bs : Int} {i : Nat} (h : Newd n s bs i) : takeS (gus n) (heldI (gCn n) s (gus n)) = ([], heldI (gCn n) s (gus n)) :=
  takeS_none (spoilt_plain fun x hx => by obtain ⟨v, _, e⟩ := h.all x hx; rw [e]; rfl)
set_option maxRecDepth 100000 in
theorem newd_none {n : Nat} {s : Arr} {i : Nat} (h : Newd n s (-1) i) : best (heldI (gCn n) s (gus n)) 0 = none ∧ heldI (gCn n) s (gus n) = [] := by
  rcases h.bst with ⟨_, he⟩ | ⟨b, hb, _⟩
  · rw [he]; exact ⟨rfl, rfl⟩
  · omega
set_option maxRecDepth 100000 in
theorem newd_some {n : Nat} {s : Arr} {i b : Nat} (h : Newd n s b i) : ∃ y, best (heldI (gCn n) s (gus n)) 0 = some y ∧ y.s = sN b ∧ most (heldI (gCn n) s (gus n)) = b := by
  rcases h.bst with ⟨hb, _⟩ | ⟨b', hb, hb2, ⟨x, hx, he⟩, hmx⟩
  · omega
  · obtain rfl : b = b' := by omega
    obtain ⟨v, _, hv⟩ := h.all x hx
    obtain ⟨y, hy⟩ := best_some hx (by rw [hv]; rfl : x.s.ad = 0)
    have h1 := best_max hy x hx (by rw [hv]; rfl)
    have h2 := hmx y (best_mem _ _ y hy).1
    obtain ⟨v', _, hv'⟩ := h.all y (best_mem _ _ y hy).1
    refine ⟨y, hy, ?_, ?_⟩
    · have e : y.s.sq = v' := by rw [hv']; rfl
      have : v' = b := by omega
      rw [hv', this]
    · have := most_up hmx
      have := le_most x hx
      omega
end Go.Proofs.YtmhmmemmdekjhaaDoor.Sc
namespace Go.Proofs.YtmhmmemmdekjhaaDoor.Sc
open Go.RowKit
open Drawbar Drawbar.Sheet Drawbar.Nand Drawbar.Scan Drawbar.Gm Go.Proofs.YtmhmmemmdekjhaaDoor.Nd

set_option maxRecDepth 100000 in
theorem cellS {w : World} {g : Nat} {cs : Array Value} {t : TypeId} (h : w.heap[g]? = some (.cells cs t (0, 0))) (o : Nat) (v : Value) (hv : cs[o]? = some v) : w.cell? ⟨g, o, none⟩ = some v := by simp [World.cell?, h, hv]
set_option maxRecDepth 100000 in
theorem frozenS {w : World} {g : Nat} {cs : Array Value} {t : TypeId} (h : w.heap[g]? = some (.cells cs t (0, 0))) (o : Nat) : w.frozen? ⟨g, o, none⟩ = false := by simp [World.frozen?, h]
set_option maxRecDepth 100000 in
theorem setS {w : World} {g : Nat} {cs : Array Value} {t : TypeId} (h : w.heap[g]? = some (.cells cs t (0, 0))) (o : Nat) (x : Value) : (w.setCell ⟨g, o, none⟩ x).heap[g]? = some (.cells (cs.setIfInBounds o x) t (0, 0)) := by
  have hlt := lt_of_block h
  have h' : w.heap[g] = .cells cs t (0, 0) := by simpa [Array.getElem?_eq_getElem hlt] using h
  show (w.heap.modify g _)[g]? = _
  rw [Array.getElem?_eq_getElem (by simpa using hlt), Array.getElem_modify_self, h']
  rfl
set_option maxRecDepth 100000 in
theorem page_ok {w : World} {b n : Nat} {pg : Int → Option Fnd} (h : PagesAt w b n pg) (a : Int) (ha : (Lit.int .i64 a).wf = true) :
    (pg a = none → ∃ z, (zeroValue 46).run Tryd.prog w = .ok z w ∧ (Instr.lookup 52 (.map (some b)) (.int .i64 a) true).run Tryd.prog w = .ok (.tuple #[z, .bool false]) w) ∧
    (∀ x, pg a = some x → ∃ av cv, (Instr.lookup 52 (.map (some b)) (.int .i64 a) true).run Tryd.prog w = .ok (.tuple #[fv x av cv, .bool true]) w ∧ Rd w av x.s.da) := by
  obtain ⟨f, h1, h2, h3⟩ := h
  have hl := h1.look_ok Tryd.underlying3 Tryd.underlying52 (zero_found w) a ha
  refine ⟨fun hx => ⟨_, zero_found w, ?_⟩, fun x hx => ?_⟩
  · rw [h2 a hx] at hl; exact hl
  · obtain ⟨av, cv, h4, h5⟩ := h3 a x hx
    rw [h4] at hl
    obtain ⟨a9, c9, he9, hr9, -, -⟩ := h5
    cases he9
    exact ⟨av, cv, hl, hr9⟩
set_option maxRecDepth 100000 in
theorem cell_al {w : World} {p : Addr} {v : Value} (o : Obj) (h : w.cell? p = some v) : (w.alloc o).cell? p = some v := (((Below.refl w.heap.size w).alloc (Nat.le_refl _) o).cell (p := p) (World.block_lt_of_cell? w _ h)).trans h
/-- The law's flags: 256 of them. -/
def Flags (w : World) (b : Nat) : Prop := ∃ z : List Bool, z.length = 256 ∧ w.heap[b]? = some (.cells (z.map Value.bool).toArray 74 (0, 0))
set_option maxRecDepth 100000 in
theorem Flags.get {w : World} {b : Nat} (h : Flags w b) (v : Nat) (hv : v < 256) : (∃ z : Bool, w.cell? ⟨b, v, none⟩ = some (.bool z)) ∧ w.frozen? ⟨b, v, none⟩ = false := by
  obtain ⟨z, hz, h⟩ := h
  refine ⟨⟨z[v]'(by omega), cellS h v _ (by simp [hz, hv])⟩, frozenS h v⟩
set_option maxRecDepth 100000 in
theorem Flags.set {w : World} {b : Nat} (h : Flags w b) (v : Nat) (x : Bool) : Flags (w.setCell ⟨b, v, none⟩ (.bool x)) b := by
  obtain ⟨z, hz, h⟩ := h
  refine ⟨z.set v x, by simp [hz], ?_⟩
  rw [setS h v]
  congr 2
  simp [List.map_set]
set_option maxRecDepth 100000 in
theorem Flags.keep {w w' : World} {b : Nat} (h : Flags w b) (e : w'.heap[b]? = w.heap[b]?) : Flags w' b := by
  obtain ⟨z, hz, h⟩ := h
  exact ⟨z, hz, e.trans h⟩
set_option maxRecDepth 100000 in
set_option maxHeartbeats 4000000 in
theorem news_any (n : Nat) (hn : n < 256) (l : List Nat) (a1 : Option Addr) (c1 : Nat) (l2 : List Nat) (a2 : Option Addr) (c2 : Nat) (w : World) (hr : Rd w a1 l) (hc1 : l.length ≤ c1) (hr2 : Rd w a2 l2) (hT : Tab w) :
    Calls Tryd.prog 7 #[.int .u8 n, .slice a1 l.length c1, .slice a2 l2.length c2] w (Yes w) := by
  have HAW := Lib.hid (awake_any w hT)
  have HT := Lib.hid hT
  have HRD := Lib.hid hr
  have HR2 := Lib.hid hr2
  have HG := Lib.hid (fun W => (geometry_any n hn W : Calls Tryd.prog 10 #[.int .u8 n] W (Geos W n)))
  have hl48 := hr.2.1
  have hl49 := hr2.2.1
  clear hT hr hr2
  go_enter Tryd.func7, Tryd.ntmps7
  go_wp2_with fail
  (with_reducible refine HAW.out.mono ?_)
  rintro e w1 ⟨rfl, hb1⟩
  go_wp2_with fail
  (with_reducible refine (HG.out _).mono ?_)
  rintro e w2 ⟨ga, gc, rfl, hBd, hb2⟩
  obtain ⟨w3, hw3⟩ : ∃ w3, w3 = w2.alloc (Pn.boxed (gb n) (gp n) (gs n) ga (gB n).length gc) := ⟨_, rfl⟩
  have hb23 : Below w2.heap.size w2 w3 := by rw [hw3]; exact (Below.refl _ _).alloc (Nat.le_refl _) _
  have hb13 := (hb1.trans (hb2.mono hb1.size)).trans (hb23.mono (Nat.le_trans hb1.size hb2.size))
  have HN := Lib.hid (new_geo n w3 (HT.out.below hb13 HT.out.pos) ga gc (hBd.below hb23))
  have hgeo : w3.heap[w2.heap.size]? = some (Pn.boxed (gb n) (gp n) (gs n) ga (gB n).length gc) := by rw [hw3]; exact heap_alloc_new _ _
  have H3 := Lib.hid (And.intro (hBd.below hb23) (And.intro hb13 (And.intro hgeo (Array.getElem?_eq_some_iff.1 hgeo).1)))
  have HW3 := Lib.hid hw3
  rw [hw3] at HN
  unfold Pn.geo
  clear hb1 hb2 hb23 hb13 hBd hgeo hw3
  go_wp2_with fail
  (with_reducible refine HN.out.mono ?_)
  rintro e w4 ⟨g, rfl, hF4, hb4⟩
  rw [← HW3.out] at hF4 hb4
  obtain ⟨hBd3, hB3, hgeo3, hgl3⟩ := H3.out
  obtain ⟨⟨t0, t1, t2, t3⟩, -⟩ := four_cells ((hb4.block _ hgl3).trans hgeo3)
  have hU : Calls Tryd.prog 20 #[Pn.geo (gb n) (gp n) (gs n) ga (gB n).length gc] w4 (Pn.NewIntsF w4 (gus n)) := Pn.refusable_fr (gb n) (gp n) (gs n) (gB n) ga gc w4 ((hBd3.below hb4).rd) (Nat.le_trans (gB_len n) (by omega)) (by rw [gb_eq]; have := gN_le n; omega)
  unfold Pn.geo at hU
  have HU := Lib.hid hU
  have H4 := Lib.hid (And.intro hF4 hb4)
  clear hF4 hb4 hBd3 hB3 hgeo3 hgl3 hU
  go_wp2_with fail
  (with_reducible refine HU.out.mono ?_)
  rintro e w5 ⟨au, cu, rfl, hru5, hb5, hfr5⟩
  have hus := gus_len n hn
  obtain ⟨bu, ou, rfl, hcu⟩ := hru5 (by omega)
  obtain ⟨hfa, hfb⟩ := hfr5 _ rfl
  dsimp only at hfa hfb
  have H5 := Lib.hid (And.intro (H4.out.1.more hb5 bu hfa hfb) (And.intro hb5 (And.intro hcu (And.intro hfa hfb))))
  obtain ⟨N, hN⟩ : ∃ N, (gus n).length = N := ⟨_, rfl⟩
  have HNN := Lib.hid hN
  rw [hN]
  clear hru5 hb5 hfr5 hcu hfa hfb hus t0 t1 t2 t3 hN
  obtain ⟨w6, hw6⟩ : ∃ w6, w6 = w5.alloc (.cells Tryd.zeroCells74 74) := ⟨_, rfl⟩
  have hb56 : Below w5.heap.size w5 w6 := by rw [hw6]; exact (Below.refl _ _).alloc (Nat.le_refl _) _
  have hfl6 : Flags w6 w5.heap.size := ⟨List.replicate 256 false, by simp, by rw [hw6]; exact (heap_alloc_new _ _).trans (by kernel_rfl)⟩
  have hF6 : Free w3.heap.size [w5.heap.size, bu] w6 g (S0 n) := H5.out.1.more hb56 w5.heap.size (Nat.le_refl _) (by rw [hw6]; simp)
  have hB6 : Below w3.heap.size w3 w6 := (H4.out.2.trans (H5.out.2.1.mono H4.out.2.size)).trans (hb56.mono (Nat.le_trans H4.out.2.size H5.out.2.1.size))
  have hbu6 : w6.heap[bu]? = w5.heap[bu]? := hb56.block bu H5.out.2.2.2.2
  have H6 := Lib.hid (And.intro hF6 (And.intro hB6 (And.intro hfl6 hbu6)))
  have HW6 := Lib.hid hw6
  clear hw6 hb56 hfl6 hF6 hB6 hbu6
  go_wp2_with fail
  rw [← HW6.out]
  go_loopw [12, 13] (fun bv iv wr => ∃ (j : Nat) (s : Arr) (bs : Int), bv = .int .i64 bs ∧ iv = .int .i64 j ∧ j ≤ 12 ∧ Newd n s bs j ∧ Free w3.heap.size [w5.heap.size, bu] wr g s ∧ Below w3.heap.size w3 wr ∧ Flags wr w5.heap.size ∧ wr.heap[bu]? = w5.heap[bu]?) (fun _ iv _ => 12 - (intOf iv).toNat)
  case atStart => exact ⟨0, _, -1, rfl, rfl, Nat.zero_le _, newd_0 n, H6.out⟩
  case round =>
    obtain ⟨j, s, bs, rfl, rfl, hj, hnw, hF, hB, hfl, hbu⟩ := hrel
    have HS := Lib.hid (And.intro hnw (And.intro hF (And.intro hB (And.intro hfl hbu))))
    clear hnw hF hB hfl hbu
    go_upto_region 9 with fail
    go_cut [49] from 36 to 48 (fun v wx => v = .bool (decide (j < l.length ∧ j < l2.length ∧ j < 12)) ∧ wr = wx)
    case first =>
      by_cases h1 : (j : Int) < (l.length : Int)
      · by_cases h2 : (j : Int) < (l2.length : Int)
        · by_cases h3 : (j : Int) < 12
          · have HD := Lib.hid (decide_eq_true (p := (j < l.length ∧ j < l2.length ∧ j < 12)) (by omega))
            go_wp2_with fail
            go_meet
            exact ⟨by rw [HD.out], rfl⟩
          · have HD := Lib.hid (decide_eq_false (p := (j < l.length ∧ j < l2.length ∧ j < 12)) (by omega))
            go_wp2_with fail
            go_meet
            exact ⟨by rw [HD.out], rfl⟩
        · have HD := Lib.hid (decide_eq_false (p := (j < l.length ∧ j < l2.length ∧ j < 12)) (by omega))
          go_wp2_with fail
          go_meet
          exact ⟨by rw [HD.out], rfl⟩
      · have HD := Lib.hid (decide_eq_false (p := (j < l.length ∧ j < l2.length ∧ j < 12)) (by omega))
        go_wp2_with fail
        go_meet
        exact ⟨by rw [HD.out], rfl⟩
    case rest =>
      obtain ⟨rfl, rfl⟩ := hcut
      by_cases hC : j < l.length ∧ j < l2.length ∧ j < 12
      · rw [decide_eq_true hC]
        obtain ⟨h1, h2, h3⟩ := hC
        obtain ⟨hnw, hF, hB, hfl, hbu⟩ := HS.out
        have hbw := H3.out.2.1.trans (hB.mono H3.out.2.1.size)
        obtain ⟨bp1, op1, rfl, hp1⟩ := HRD.out.2.2 (by omega)
        obtain ⟨bp2, op2, rfl, hp2⟩ := HR2.out.2.2 (by omega)
        have q1 := (hbw.cell (p := ⟨bp1, op1 + j, none⟩) (World.block_lt_of_cell? w _ (hp1 j h1))).trans (hp1 j h1)
        have q2 := (hbw.cell (p := ⟨bp2, op2 + j, none⟩) (World.block_lt_of_cell? w _ (hp2 j h2))).trans (hp2 j h2)
        obtain ⟨y, hy⟩ : ∃ y, l.getD j 0 = y := ⟨_, rfl⟩
        obtain ⟨y2, hy2⟩ : ∃ y, l2.getD j 0 = y := ⟨_, rfl⟩
        have hy256 : y < 256 := by rw [← hy]; exact getD_lt HRD.out.1 j
        have hy2b : y2 < 256 := by rw [← hy2]; exact getD_lt HR2.out.1 j
        rw [hy] at q1
        rw [hy2] at q2
        have hN3 : 3 ≤ N ∧ N ≤ 7 := by rw [← HNN.out]; exact gus_len n hn
        obtain ⟨jj, hjj, hjN⟩ : ∃ jj : Nat, (y2 : Int) % (N : Int) = jj ∧ jj < N := ⟨y2 % N, rfl, Nat.mod_lt _ (by omega)⟩
        have hua := H5.out.2.2.1 jj (by rw [HNN.out]; exact hjN)
        obtain ⟨a, hae, hag, han⟩ : ∃ a : Nat, (gus n).getD jj 0 = a ∧ (a : Int) ∈ gus n ∧ a < gN n := by
          have hm : (gus n).getD jj 0 ∈ gus n := by
            rw [List.getD_eq_getElem?_getD, List.getElem?_eq_getElem (by rw [HNN.out]; exact hjN)]
            exact List.getElem_mem _
          have hg := gus_rng n _ hm
          exact ⟨((gus n).getD jj 0).toNat, by omega, by rw [Int.toNat_of_nonneg (by omega)]; exact hm, by omega⟩
        rw [hae] at hua
        have q3 : wr.cell? ⟨bu, ou + jj, none⟩ = some (.int .i64 a) := (World.cell?_of_block (a := ⟨bu, ou + jj, none⟩) hbu).trans hua
        have hjj0 : (0 : Int) ≤ jj := by omega
        have hjjN : (jj : Int) < N := by omega
        have HY := Lib.hid (And.intro hy (And.intro hag han))
        clear hnw hF hB hfl hbu hbw hp1 hp2 hy hy2 hua hae hag han
        go_upto_region 12 with fail
        clear hjj
        obtain ⟨hnw, hF, hB, hfl, hbu⟩ := HS.out
        obtain ⟨⟨z, hz⟩, -⟩ := hfl.get y hy256
        obtain ⟨hBd3, hB3, hgeo3, hgl3⟩ := H3.out
        obtain ⟨⟨t0, t1, t2, t3⟩, -⟩ := four_cells ((hB.block _ hgl3).trans hgeo3)
        have HNX := Lib.hid (fun m => (show Calls Tryd.prog 27 #[.pointer (some ⟨g, 0, none⟩), .int .i64 a] (wr.drewN m) (fun e w' => e = .returned (.int .i64 (s.b a).pages.length) ∧ w' = wr.drewN m) from (next_f (hF.keep (below_dr (Below.refl _ _) m)) a (by rw [hnw.n_]; exact HY.out.2.2)).mono fun e w' h => ⟨h.1, h.2.symm⟩))
        clear hnw hF hB hfl hbu hBd3 hB3 hgeo3 hgl3
        have hyb : (y : Int) < 256 := by omega
        go_cut [76] from 63 to 75 (fun v wx => ∃ q m, wx = wr.drewN m ∧ v = .bool q ∧ (q = false → (s.b a).pages.length < gP n))
        case first =>
          cases z with
          | true =>
            go_quiet (fail)
            go_wp2
            go_meet
            exact ⟨_, _, rfl, rfl, fun h => by cases h⟩
          | false =>
            rw [gp_eq] at t1
            go_quiet ((go_at_call 27; exact Calls.quiet_of_same (HNX.out _)))
            go_wp2
            go_meet
            exact ⟨_, _, rfl, rfl, fun h => by simpa using h⟩
        case rest =>
          obtain ⟨q, m, rfl, rfl, hq⟩ := hcut
          have hbm : Below wr.heap.size wr (wr.drewN m) := below_dr (Below.refl _ _) m
          have q1m : (wr.drewN m).cell? ⟨bp1, op1 + j, none⟩ = some (.int .u8 y) := q1
          have HSm := Lib.hid (And.intro HS.out.1 (And.intro (HS.out.2.1.keep hbm) (And.intro (HS.out.2.2.1.trans (hbm.mono HS.out.2.2.1.size)) (And.intro (HS.out.2.2.2.1.keep (w' := wr.drewN m) rfl) (show (wr.drewN m).heap[bu]? = w5.heap[bu]? from HS.out.2.2.2.2)))))
          generalize wr.drewN m = wm at *
          clear q1 q2 q3 hbm hz HNX t0 t1 t2 t3
          cases q with
          | true =>
            go_wp2
            go_roundw
            case rel => exact ⟨j + 1, s, bs, rfl, by go_num, by omega, HSm.out.1.stay, HSm.out.2⟩
            case measure => simp [intOf]; omega
          | false =>
            have HQ := Lib.hid (hq rfl)
            clear hq
            obtain ⟨⟨z2, hz2⟩, hz3⟩ := HSm.out.2.2.2.1.get y hy256
            obtain ⟨wt, hwt⟩ : ∃ wt, wt = wm.setCell ⟨w5.heap.size, y, none⟩ (.bool true) := ⟨_, rfl⟩
            have hFt : Free w3.heap.size [w5.heap.size, bu] wt g s := by rw [hwt]; exact HSm.out.2.1.store _ (by simp) (Nat.le_trans H4.out.2.size H5.out.2.1.size)
            have hBt : Below w3.heap.size w3 wt := by rw [hwt]; exact HSm.out.2.2.1.setCell (p := ⟨w5.heap.size, y, none⟩) (Nat.le_trans H4.out.2.size H5.out.2.1.size) (.bool true)
            have hflt : Flags wt w5.heap.size := by rw [hwt]; exact HSm.out.2.2.2.1.set y true
            have hbut : wt.heap[bu]? = w5.heap[bu]? := by rw [hwt]; exact (Below.heap_setCell _ _ _ _ (fun e => by have := H5.out.2.2.2.2; simp at e; omega)).trans HSm.out.2.2.2.2
            have HSt := Lib.hid (And.intro HSm.out.1 (And.intro hFt (And.intro hBt (And.intro hflt hbut))))
            have q1t : wt.cell? ⟨bp1, op1 + j, none⟩ = some (.int .u8 y) := by
              obtain ⟨bp', op', he, hp⟩ := HRD.out.2.2 (by omega)
              cases he
              have hbw := H3.out.2.1.trans (hBt.mono H3.out.2.1.size)
              have h := (hbw.cell (p := ⟨bp1, op1 + j, none⟩) (World.block_lt_of_cell? w _ (hp j h1))).trans (hp j h1)
              rw [HY.out.1] at h
              exact h
            have HWT := Lib.hid hwt
            clear hFt hBt hflt hbut hwt
            go_upto_region 14 with fail
            rw [← HWT.out]
            clear hz2 hz3
            obtain ⟨E, hE⟩ : ∃ E : Nat, (255 : Int) - y = E := ⟨255 - y, by omega⟩
            have hcj : j < c1 := by omega
            have hq0 : wt.drew.cell? ⟨bp1, op1 + j, none⟩ = some (.int .u8 y) := q1t
            have HE := Lib.hid hE
            go_cut [15] from 82 to 98 (fun p wx => p = .pointer (some ⟨wt.heap.size, 0, none⟩) ∧ wx = (wt.alloc (.cells #[.int .u8 1, .int .u64 E, .int .u64 y, .int .i64 0, .int .i64 (-1), .slice (some ⟨bp1, op1 + j, none⟩) 1 (c1 - j)] 44)).drew)
            case first =>
              have k1 : (0 : Int) ≤ (j : Int) + 1 := by omega
              have k2 : (j : Int) + 1 ≤ (c1 : Int) := by omega
              have k3 : (j : Int) ≤ (j : Int) + 1 := by omega
              have k4 : ((j : Int) + 1).toNat = j + 1 := by omega
              have k5 : IntKind.i64.wrap ((j : Int) + 1) = (j : Int) + 1 := IntWalk.i64_in _ (by omega)
              have k6 : IntKind.u8.wrap (255 - (y : Int)) = (E : Int) := by rw [IntKind.wrap_u8]; omega
              have k7 : j + 1 - j = 1 := by omega
              have k8 : IntKind.u64.wrap (E : Int) = (E : Int) := by rw [IntKind.wrap_u64]; omega
              have k9 : IntKind.u64.wrap (y : Int) = (y : Int) := by rw [IntKind.wrap_u64]; omega
              have K10 := Lib.hid (show IntKind.u64.wrap (IntKind.u8.wrap (E : Int)) = (E : Int) by rw [IntKind.wrap_u64, IntKind.wrap_u8]; omega)
              go_region_held (fun W => W.cell? ⟨bp1, op1 + j, none⟩ = some (.int .u8 y)) (first | exact hq0 | exact cell_al _ q1t | exact cell_al _ hq0) (first | fail)
              all_goals
                go_wp2_with fail
                go_meet
                exact ⟨rfl, by rw [K10.out]⟩
            case rest =>
              obtain ⟨rfl, rfl⟩ := hcut
              obtain ⟨w7, hw7⟩ : ∃ w7, w7 = (wt.alloc (.cells #[.int .u8 1, .int .u64 E, .int .u64 y, .int .i64 0, .int .i64 (-1), .slice (some ⟨bp1, op1 + j, none⟩) 1 (c1 - j)] 44)).drew := ⟨_, rfl⟩
              have hbt7 : Below wt.heap.size wt w7 := by rw [hw7]; exact ((Below.refl _ _).alloc (Nat.le_refl _) _).drew
              have hk7 : w7.heap[wt.heap.size]? = some (.cells #[.int .u8 1, .int .u64 E, .int .u64 y, .int .i64 0, .int .i64 (-1), .slice (some ⟨bp1, op1 + j, none⟩) 1 (c1 - j)] 44 (0, 0)) := by rw [hw7]; exact heap_alloc_new _ _
              rw [← hw7]
              obtain ⟨xb, hxb⟩ : ∃ xb, xb = wt.heap.size := ⟨_, rfl⟩
              rw [← hxb] at hk7 ⊢
              obtain ⟨hag, han⟩ := HY.out.2
              have hnd := HSt.out.1
              have hF7 : Free w3.heap.size [xb, w5.heap.size, bu] w7 g s := HSt.out.2.1.more hbt7 xb (by omega) (lt_of_block hk7)
              have hB7 : Below w3.heap.size w3 w7 := HSt.out.2.2.1.trans (hbt7.mono HSt.out.2.2.1.size)
              have hsb7 : w5.heap.size < wt.heap.size := by obtain ⟨z', -, h⟩ := HSt.out.2.2.2.1; exact lt_of_block h
              have hbu7 : bu < wt.heap.size := Nat.lt_trans H5.out.2.2.2.2 hsb7
              have HKW := Lib.hid (fun W w' (hb : Below w7.heap.size w7 W) (hD : Did2 w3.heap.size [xb, w5.heap.size, bu] W g (putA s a (page (sN y))) w') => (show Free w3.heap.size [w5.heap.size, bu] w' g (putA s a (page (sN y))) ∧ Below w3.heap.size w3 w' ∧ Flags w' w5.heap.size ∧ w'.heap[bu]? = w5.heap[bu]? from
                ⟨hD.free.drop, (hB7.trans (hb.mono hB7.size)).trans hD.below, HSt.out.2.2.2.1.keep (((hD.keep _ (by simp)).trans (hb.block _ (Nat.lt_of_lt_of_le hsb7 hbt7.size))).trans (hbt7.block _ hsb7)), (((hD.keep _ (by simp)).trans (hb.block _ (Nat.lt_of_lt_of_le hbu7 hbt7.size))).trans (hbt7.block _ hbu7)).trans HSt.out.2.2.2.2⟩))
              have HNX := Lib.hid (fun W (hb : Below w7.heap.size w7 W) => (show Calls Tryd.prog 27 #[.pointer (some ⟨g, 0, none⟩), .int .i64 a] W (fun e w' => e = .returned (.int .i64 (s.b a).pages.length) ∧ W = w') from next_f (hF7.keep hb) a (by rw [hnd.n_]; exact han)))
              have HLY := Lib.hid (fun W (hb : Below w7.heap.size w7 W) => (show Calls Tryd.prog 23 #[.agg #[.int .u8 1, .int .u64 E, .int .u64 y, .int .i64 0, .int .i64 (-1), .slice (some ⟨bp1, op1 + j, none⟩) 1 (c1 - j)]] W (Gives W (page (sN y)) 96) from by
                have h := lay_gives (sN y) (some ⟨bp1, op1 + j, none⟩) (c1 - j) W (sN_fm y hy256) (by
                  have h := rd_one (HRD.out.below (H3.out.2.1.trans ((hB7.trans (hb.mono hB7.size)).mono H3.out.2.1.size))) j h1
                  rw [HY.out.1] at h
                  exact h) (by show 1 ≤ c1 - j; omega) (fun h => by cases h) ((hF7.keep hb).tab)
                have e : ((sN y).ep : Int) = E := by show ((255 - y : Nat) : Int) = E; omega
                unfold sv at h
                rw [e] at h
                exact h))
              have HPR := Lib.hid (fun W (hb : Below w7.heap.size w7 W) a' c' (hrd : Rd W a' (page (sN y))) => (show Calls Tryd.prog 22 #[.pointer (some ⟨g, 0, none⟩), .int .i64 a, .int .i64 (s.b a).pages.length, .slice a' 96 c', .int .u64 0] W (fun e w' => e = .returned (.int .i64 0) ∧ Did2 w3.heap.size [xb, w5.heap.size, bu] W g (putA s a (page (sN y))) w') from by
                have h := program_f (hF7.keep hb) a (s.b a).pages.length (page (sN y)) a' c' 0 hrd 96 (page_length _ (by simp [sN]))
                rw [hnd.prog hag HQ.out] at h
                exact h))
              have hcx := fun W (hb : Below w7.heap.size w7 W) => (six_cells ((hb.block xb (lt_of_block hk7)).trans hk7)).1
              have HCX := Lib.hid hcx
              have HCY := Lib.hid (fun W w' (hb : Below w7.heap.size w7 W) (hD : Did2 w3.heap.size [xb, w5.heap.size, bu] W g (putA s a (page (sN y))) w') => (six_cells (((hD.keep xb (by simp)).trans (hb.block xb (lt_of_block hk7))).trans hk7)).1)
              have hb0 : Below w7.heap.size w7 w7.drew := (Below.refl _ _).drew
              have hq0' := hcx _ hb0
              have HN2 := Lib.hid (And.intro hnd hag)
              clear hE HWT q1t hq0 hbt7 hk7 hw7 hxb hF7 hB7 hsb7 hbu7 hnd hag han hcx q1m
              go_upto_region 15 with fail
              go_cut [107] from 99 to 106 (fun v wx => v = .bool false ∧ (Free w3.heap.size [w5.heap.size, bu] wx g (putA s a (page (sN y))) ∧ Below w3.heap.size w3 wx ∧ Flags wx w5.heap.size ∧ wx.heap[bu]? = w5.heap[bu]?))
              case first =>
                go_region_held (fun W => W.cell? ⟨xb, 0, none⟩ = some (.int .u8 1) ∧ W.cell? ⟨xb, 1, none⟩ = some (.int .u64 E) ∧ W.cell? ⟨xb, 2, none⟩ = some (.int .u64 y) ∧ W.cell? ⟨xb, 3, none⟩ = some (.int .i64 0) ∧ W.cell? ⟨xb, 4, none⟩ = some (.int .i64 (-1)) ∧ W.cell? ⟨xb, 5, none⟩ = some (.slice (some ⟨bp1, op1 + j, none⟩) 1 (c1 - j))) (first | exact hq0' | exact hq11 | exact HCX.out _ (by assumption)) (first
                  | (go_at_call 27; (with_reducible refine (HNX.out _ (by assumption)).mono ?_); rintro e w8 ⟨rfl, rfl⟩)
                  | (go_at_call 23; (with_reducible refine (HLY.out _ (by assumption)).mono ?_); rintro e w10 ⟨a10, c10, rfl, hc10, hr10, hb10, -⟩; have hb710 := hb0.trans (hb10.mono hb0.size))
                  | (go_at_call 22; (with_reducible refine (HPR.out _ (by assumption) _ _ (by assumption)).mono ?_); rintro e w11 ⟨rfl, hD11⟩; have hfin := HKW.out _ _ (by assumption) hD11; have hq11 := HCY.out _ _ (by assumption) hD11))
                all_goals
                  have HF := Lib.hid hfin
                  clear hfin
                  go_wp2_with fail
                  go_meet
                  exact ⟨rfl, HF.out⟩
              case rest =>
                obtain ⟨rfl, hK⟩ := hcut
                have q1c : wc.cell? ⟨bp1, op1 + j, none⟩ = some (.int .u8 y) := by
                  obtain ⟨bp', op', he, hp⟩ := HRD.out.2.2 (by omega)
                  cases he
                  have hbw := H3.out.2.1.trans (hK.2.1.mono H3.out.2.1.size)
                  have h := (hbw.cell (p := ⟨bp1, op1 + j, none⟩) (World.block_lt_of_cell? w _ (hp j h1))).trans (hp j h1)
                  rw [HY.out.1] at h
                  exact h
                have HKK := Lib.hid hK
                clear hK hq0' hb0
                by_cases hby : bs < (y : Int)
                · have hNW := HN2.out.1.put HN2.out.2 hy256
                  rw [if_pos hby] at hNW
                  have HNW := Lib.hid hNW
                  clear hNW
                  go_wp2
                  go_roundw
                  case rel => exact ⟨j + 1, _, y, rfl, by go_num, by omega, HNW.out, HKK.out⟩
                  case measure => simp [intOf]; omega
                · have hNW := HN2.out.1.put HN2.out.2 hy256
                  rw [if_neg hby] at hNW
                  have HNW := Lib.hid hNW
                  clear hNW
                  go_wp2
                  go_roundw
                  case rel => exact ⟨j + 1, _, bs, rfl, by go_num, by omega, HNW.out, HKK.out⟩
                  case measure => simp [intOf]; omega
      · rw [decide_eq_false hC]
        clear hC
        obtain ⟨hnw, hF, hB, hfl, hbu⟩ := HS.out
        obtain ⟨hBd3, hB3, hgeo3, hgl3⟩ := H3.out
        obtain ⟨⟨t0, t1, t2, t3⟩, -⟩ := four_cells ((hB.block _ hgl3).trans hgeo3)
        obtain ⟨F, hA, -, -⟩ := hF.arr
        have hgm := geom_of hn (s := s) (hBd3.below hB) hnw.n_ hnw.p_
        have hAll := all_on (c := gc) hA hgm hnw.good.off hF.tab (by
          show (heldI (gCn n) s (gus n)).length ≤ _
          have h1 := hnw.len
          have h2 := (gus_len n hn).2
          have h3 := Nat.mul_le_mul hj h2
          omega)
        rw [show usb (gb n) (gB n) = gus n from rfl] at hAll
        unfold AllOk Pn.geo at hAll
        rw [hnw.take] at hAll
        dsimp only at hAll
        simp only [List.length_nil] at hAll
        have HA := Lib.hid hAll
        have hbw := H3.out.2.1.trans (hB.mono H3.out.2.1.size)
        have HBW := Lib.hid (And.intro hnw hbw)
        clear hAll hgm hA hF hB hnw hfl hbu hBd3 hB3 hgeo3 hgl3 hbw
        go_wp2_with fail
        (with_reducible refine HA.out.mono ?_)
        rintro e w14 ⟨g0, pb0, cb0, pb, N0, sa, sc, rfl, -, hPa, -, hb14⟩
        obtain ⟨L, hL⟩ : ∃ L, heldI (gCn n) s (gus n) = L := ⟨_, rfl⟩
        rw [hL] at hPa
        have HL := Lib.hid hL
        rw [hL]
        clear hL
        obtain ⟨w15, hw15⟩ : ∃ w15, w15 = w14.alloc (.cells #[.pointer (some ⟨g0, 0, none⟩), .map (some pb), .int .u64 (most L : Nat), .slice sa 0 sc] 54) := ⟨_, rfl⟩
        have hbs : Below w14.heap.size w14 w15 := by rw [hw15]; exact (Below.refl _ _).alloc (Nat.le_refl _) _
        have hP15 := hPa.below hbs
        have hgs : w15.heap[w14.heap.size]? = some (.cells #[.pointer (some ⟨g0, 0, none⟩), .map (some pb), .int .u64 (most L : Nat), .slice sa 0 sc] 54 (0, 0)) := by rw [hw15]; exact heap_alloc_new _ _
        have hbw15 : Below w.heap.size w w15 := HBW.out.2.trans ((hb14.trans (hbs.mono hb14.size)).mono HBW.out.2.size)
        obtain ⟨⟨y0, y1, y2, y3⟩, -⟩ := four_cells hgs
        have HFIN := Lib.hid hbw15
        have HGS := Lib.hid hgs
        obtain ⟨hno, hyes⟩ := page_ok hP15 0 (wf_of (by omega) (by omega))
        have HW15 := Lib.hid hw15
        rcases HBW.out.1.bst with ⟨hb1, -⟩ | ⟨b, hb1, hb256, -⟩
        · subst hb1
          have hnn := newd_none HBW.out.1
          rw [HL.out] at hnn
          obtain ⟨z, hz, hlk⟩ := hno hnn.1
          have hz2 := hz.symm.trans (zero_found w15)
          simp at hz2
          subst hz2
          rw [hw15] at hlk y0 y1 y2 y3
          clear hno hyes hnn hz hw15 hbs hP15 hgs hbw15 hPa hb14
          go_wp2
          go_ret
          exact ⟨rfl, by rw [← HW15.out]; exact HFIN.out.alloc HFIN.out.size _⟩
        · subst hb1
          obtain ⟨y, hy, hys, hmost⟩ := newd_some HBW.out.1
          rw [HL.out] at hy hmost
          obtain ⟨av, cv, hlk, hrd⟩ := hyes y hy
          unfold fv at hlk
          rw [hys] at hlk hrd
          unfold sN at hlk hrd
          dsimp only at hlk hrd
          obtain ⟨bd, od, rfl, hcd⟩ := hrd.2.2 (by simp)
          have hc0 : w15.cell? ⟨bd, od, none⟩ = some (.int .u8 b) := hcd 0 (by simp)
          have hc1 : ∀ o, (w15.alloc o).cell? ⟨bd, od, none⟩ = some (.int .u8 b) := fun o => (((Below.refl w15.heap.size w15).alloc (Nat.le_refl _) o).cell (p := ⟨bd, od, none⟩) (World.block_lt_of_cell? w15 _ hc0)).trans hc0
          rw [hmost] at HW15 y2 ⊢
          rw [HW15.out] at hlk y0 y1 y2 y3 hc1
          clear hc0
          clear hno hyes hw15 hbs hP15 hgs hbw15 hPa hb14 hmost hy hys hrd hcd
          go_wp2
          go_ret
          exact ⟨rfl, by rw [← HW15.out]; exact HFIN.out.alloc HFIN.out.size _⟩
end Go.Proofs.YtmhmmemmdekjhaaDoor.Sc
