/- The contract of (*block).lay. -/
import Derived.Test.YtkapnpcolmhdbaaDoorNands
import Derived.Laws.CopyOwn
import Derived.WalkLawsBesides
import Derived.Outline
namespace Go.Proofs.YtkapnpcolmhdbaaDoor.Nd
open Go.RowKit
open Drawbar Drawbar.Nand

set_option maxRecDepth 100000 in
theorem pad_length (l : List Nat) (cut : Int) (h : l.length ≤ 96) : (pad l cut).length = 96 := by
  unfold pad; rw [List.length_append, List.length_replicate]; have := List.length_take_le cut.toNat l; rw [List.length_take] at *; omega
set_option maxRecDepth 100000 in
theorem pad_lt (l : List Nat) (cut : Int) (h : ∀ x ∈ l, x < 256) : ∀ x ∈ pad l cut, x < 256 := by
  intro x hx
  unfold pad at hx
  rcases List.mem_append.1 hx with h1 | h1
  · exact h x (List.mem_of_mem_take h1)
  · rw [(List.mem_replicate.1 h1).2]; omega
set_option maxRecDepth 100000 in
theorem pad_getD (l : List Nat) (cut : Int) (k : Nat) (h : (l.take cut.toNat).length ≤ k) (hk : k < 96) : (pad l cut).getD k 0 = 255 := by
  unfold pad
  rw [List.getD_eq_getElem?_getD, List.getElem?_append_right h, List.getElem?_replicate, if_pos (by omega)]; rfl
set_option maxRecDepth 100000 in
theorem pad_fill (l : List Nat) (cut : Int) : splice (fill (pad l cut) 0) 0 ((l.take cut.toNat).map bv) = fill (pad l cut) (l.take cut.toNat).length := by
  unfold splice fill
  simp only [List.take_zero, List.nil_append, Nat.zero_add, List.length_map, Nat.sub_zero]
  rw [List.map_append, show (pad l cut).take (l.take cut.toNat).length = l.take cut.toNat from List.take_left, ← List.map_drop, List.drop_replicate]
set_option maxRecDepth 100000 in
theorem owns_heap {w : World} {B g : Nat} {xs : List Value} (h : OwnsPage w B g xs) : w.heap[g]? = some (.cells xs.toArray 5 (0, 0)) ∧ xs.length = 96 ∧ B ≤ g := by
  have hl : xs.length = 96 := by simpa using h.1
  rcases h.2 with ⟨h', _⟩ | ⟨g', cap', cur, h', hb, hg, _, _, hcs, htake⟩
  · simp at h'
  · simp only [Value.slice.injEq, Option.some.injEq, Addr.mk.injEq, and_true, true_and] at h'
    obtain ⟨rfl, rfl⟩ := h'
    refine ⟨?_, hl, hb⟩
    rw [hg]
    congr 2
    rw [List.take_of_length_le (by simp; omega)] at htake
    rw [← htake]
set_option maxRecDepth 100000 in
theorem heap_owns {w : World} {B g : Nat} {xs : List Value} (h : w.heap[g]? = some (.cells xs.toArray 5 (0, 0))) (hl : xs.length = 96) (hB : B ≤ g) : OwnsPage w B g xs :=
  ⟨by simpa using hl, .inr ⟨g, 96, xs.toArray, rfl, hB, h, by omega, by decide, by simpa using hl, List.take_of_length_le (by simp [hl])⟩⟩

set_option maxRecDepth 100000 in
theorem info_bytes : (Tryd.prog.info? 42).map (fun i => (i.zero, i.size, i.bytes)) = some (some (.slice none 0 0), 1, 24) := by kernel_rfl

section
variable {w : World} {F R : Nat → Prop} {g hb : Nat} {rows : Nat → Value} {pv : Nat → List Value} {bv' : Value} {s : Arr}
set_option maxRecDepth 100000 in
set_option maxHeartbeats 1000000 in
theorem lay_part (h : ArrIn w F R g hb rows pv bv' s) (i : Nat) (hi : i < s.n) (l : List Nat) (a : Option Addr) (c : Nat) (hr : Rd w a l) (hc : l.length ≤ c) (h96 : l.length ≤ 96) (cut : Int) (hroom : (s.b i).pages.length < s.pages) (h0 : ¬ cut ≤ 0) (hlt : cut.toNat ≤ l.length) :
    Calls Tryd.prog 49 #[.pointer (some ⟨hb, i * 6, none⟩), .slice a l.length c, .int .i64 cut] w fun e w' => e = .returned (.tuple #[]) ∧ Become w F R g hb bv' { s with b := upd s.b i ((s.b i).lay l cut) } w' := by
  unfold Blk.lay
  rw [if_neg h0]
  obtain ⟨s', hs'⟩ : ∃ s', s' = { s with b := upd s.b i { s.b i with pages := (s.b i).pages ++ [pad l cut] } } := ⟨_, rfl⟩
  rw [← hs']
  have hfl := pad_length l cut h96
  have hflt := pad_lt l cut hr.1
  have hsp := pad_fill l cut
  have hrest := fun k => pad_getD l cut k
  have hat := (hr.take cut.toNat).at
  have hlen := hr.2.1
  obtain ⟨x, hx⟩ : ∃ x, x = (l.take cut.toNat).length := ⟨_, rfl⟩
  have hx2 : x = min cut.toNat l.length := by rw [hx, List.length_take]
  rw [← hx] at hsp hrest
  have hcs : ((l.take cut.toNat).map bv).length = x := by rw [List.length_map, hx]
  have hc1 := bv_one (l.take cut.toNat)
  have hpos : 0 < x → ∃ b off, a = some ⟨b, off, none⟩ := fun h1 => by
    obtain ⟨b, off, e, _⟩ := hr.2.2 (by omega)
    exact ⟨b, off, e⟩
  generalize (l.take cut.toNat).map bv = cs at hsp hat hcs hc1
  obtain ⟨f, hf⟩ : ∃ f, f = pad l cut := ⟨_, rfl⟩
  rw [← hf] at hfl hflt hsp hrest hs'
  clear hx hf
  -- what is left behind the bytes
  have hfin : ∀ d w3, OwnsPage w3 w.heap.size d (f.map bv) → Below w.heap.size w w3 → ∀ wA, Below w3.heap.size w3 wA → ∀ v' w4, w4.ownsRow 0 42 1 v' ((s.b i).pages.length + 1) (pv i ++ [.slice (some ⟨d, 0, none⟩) 96 96]) → wA.grownBy w4 (rows i).ownBlock →
      (∀ k, v'.ownBlock = some k → (rows i).ownBlock = some k ∨ wA.heap.size ≤ k) → Become w F R g hb bv' s' (w4.setCell ⟨hb, i * 6, none⟩ v') := by
    intro d w3 hown hB wA hA v' w4 hrow hg hv
    have hBA : Below w.heap.size w wA := hB.trans (hA.mono hB.size)
    have hin := h.below hBA
    have hd := (hown.lt d rfl)
    have hpage := (hown.page hflt hfl).keep (w' := wA) fun k hk => by cases hk; exact hA.block d hd.2
    have hset := hin.setRow i hi hg v' (pv i ++ [.slice (some ⟨d, 0, none⟩) 96 96]) { s.b i with pages := (s.b i).pages ++ [f] } (by simpa using hrow) hv (fun j l' hl => by
      rcases Nat.lt_or_ge j (s.b i).pages.length with h1 | h1
      · rw [List.getElem?_append_left h1] at hl
        obtain ⟨v, h2, h3⟩ := hin.page i hi j l' hl
        exact ⟨v, by rw [List.getElem?_append_left (List.getElem?_eq_some_iff.1 h2).1]; exact h2, h3⟩
      · have h2 := List.getElem?_eq_some_iff.1 hl
        have h3 : j = (s.b i).pages.length := by have := h2.1; simp at this; omega
        subst h3
        simp at hl
        subst hl
        have h4 : (pv i).length = (s.b i).pages.length := by simpa using (h.row i hi).1
        refine ⟨.slice (some ⟨d, 0, none⟩) 96 96, by rw [← h4]; simp, hpage, fun k hk => ?_⟩
        cases hk
        exact ⟨.inr ⟨hd.1, Nat.lt_of_lt_of_le hd.2 hA.size⟩, fun hR => absurd (h.bound d (h.rf d hR)) (Nat.not_lt.2 hd.1)⟩) rfl (by simp; omega)
    rw [ext_ext F hBA.size hg.size] at hset
    rw [hs']
    refine ⟨_, _, _, by rw [ext_setCell]; exact hset, ?_, by exact fun _ => Or.imp id fun h3 => Nat.le_trans hBA.size h3.1⟩
    exact ((Keep.below hBA).trans ⟨hg.os, hg.tape, hg.output, hg.size, fun k hk hF => hg.block k hk fun e => hF (.inl (h.rrow i hi k e.symm).1)⟩).setCell h.rhb _
  have hh := Lib.hid h
  have HF := Lib.hid hfin
  clear hfin hs' h
  have h1 : ¬ cut ≤ 0 := h0
  clear hr
  obtain ⟨i0, hi0, hz0, hz1, hz2⟩ := info_parts info_u8
  obtain ⟨i1, hi1, hy0, hy1, hy2⟩ := info_parts info_bytes
  go_enter Tryd.func49, Tryd.ntmps49
  go_wp2_with (at_make; refine wpList_make_full _ rfl _ _ 42 rfl w.heap.size 5 i0 (.int .u8 0) 1 Tryd.underlying42 hi0 hz0 hz1 .i64 .i64 96 96 96 rfl rfl rfl rfl (by rw [hz2]; decide) (by decide) (Nat.le_refl _) ?_)
  intro w1 hown hgr
  rw [made_fill f] at hown
  have hB : Below w.heap.size w w1 := (Below.refl _ _).grown hgr (Nat.le_refl _) (fun k hk => by cases hk)
  clear hi0 hz0 hz1 hz2 hgr
  obtain ⟨hheap, hl96, -⟩ := owns_heap hown
  have hat1 := hat.mono (w' := w1) fun p v hp => (hB.cell (World.block_lt_of_cell? w p hp)).trans hp
  obtain ⟨d, hd⟩ : ∃ d, d = w.heap.size := ⟨_, rfl⟩
  have hd1 : d < w1.heap.size := hd ▸ (hown.lt _ rfl).2
  rw [← hd] at hown hheap hB ⊢
  have hsz1 : (Tryd.prog.info? 5).map (·.size) = some 1 := by kernel_rfl
  have hps : 0 < cs.length → (some ⟨d, 0, none⟩ : Option Addr) = some ⟨d, 0, none⟩ ∧ ∃ ad, a = some ad ∧ ∀ j v, cs[j]? = some v → w1.cell? (ad.add j) = some v := fun h2 => by
    obtain ⟨b, off, e⟩ := hpos (by omega)
    exact ⟨rfl, _, e, hat1 _ e⟩
  have hft : 0 + cs.length ≤ (fill f 0).length := by omega
  have hcl : cs.length ≤ 96 := by omega
  have hpl : (s.b i).pages.length ≤ 32 := Nat.le_trans (hh.out.wf.len i hi) hh.out.wf.p32
  have hmn : cs.length = Nat.min x 96 := by rw [hcs]; exact (Nat.min_eq_left (by omega)).symm
  rw [← hcs] at hsp hrest
  have HS := Lib.hid hsp
  have HC := Lib.hid hcs
  have HM := Lib.hid hmn
  have HD := Lib.hid hd
  have HH := Lib.hid hheap
  have HP := Lib.hid hps
  have HR := Lib.hid hrest
  have H1 := Lib.hid hc1
  clear hps hrest hpos hc1 hsp hown hat hat1 hcs hl96 hmn hd hheap
  obtain ⟨y, rfl⟩ : ∃ y : Nat, cut = y := ⟨cut.toNat, by omega⟩
  obtain rfl : x = y := by omega
  have hlt2 : (x : Int) ≤ (l.length : Int) := by omega
  clear hx2
  go_wp2_with (refine wpList_copy_splice (o := ⟨some 18, _, _, _, _, _⟩) rfl (.tmp 11) (.tmp 17) 42 42 rfl 5 Tryd.underlying42 hsz1 (some ⟨d, 0, none⟩) a 96 96 x c rfl rfl d 0 (fill f 0) 5 HH.out cs HM.out HP.out hft H1.out d w hB (Nat.le_refl _) ?_)
  intro w2 HG2 hB2
  have hn2 : OwnsPage w2 d d (fill f cs.length) := heap_owns (by rw [← HS.out]; exact HG2.out) (by rw [fill_length _ _ hfl (by omega)]) (Nat.le_refl _)
  clear HG2 HH HP HM H1 hB hft
  go_wp2
  go_loopw [7] (fun i wr => ∃ k : Nat, cs.length ≤ k ∧ k ≤ 96 ∧ i = .int .i64 k ∧ OwnsPage wr d d (fill f k) ∧ Below d w wr) (fun i _ => 96 - (intOf i).toNat)
  case atStart => exact ⟨cs.length, Nat.le_refl _, by omega, rfl, hn2, hB2⟩
  case round =>
    obtain ⟨k, hk0, hk, rfl, hown, hB⟩ := hrel
    clear hn2 hB2
    by_cases hlt3 : k < 96
    · have hc3 := World.ownsRow.cellAt hown k (by omega)
      have hf3 := World.ownsRow.frozenAt hown k
      obtain ⟨u, hu⟩ : ∃ u, (fill f k)[k]? = some u := ⟨_, List.getElem?_eq_getElem (by rw [fill_length _ _ hfl hk]; exact hlt3)⟩
      rw [hu] at hc3
      obtain ⟨hst, hgr⟩ := World.ownsRow.stored hown k (bv (f.getD k 0))
      rw [fill_set _ _ hfl hlt3, HR.out k hk0 hlt3] at hst
      have hB3 := hB.setCell (p := ⟨d, k, none⟩) (Nat.le_refl d) (bv 255)
      have HS := Lib.hid hst
      have HB := Lib.hid hB3
      clear hst hB3 hgr hown hB hu
      go_wp2
      go_roundw
      case rel => exact ⟨k + 1, by omega, by omega, by go_num, HS.out, HB.out⟩
      case measure => simp [intOf]; omega
    · obtain rfl : k = 96 := by omega
      rw [fill_all _ hfl] at hown
      have hsz := (hown.lt d rfl).2
      have hin := hh.out.below (hB.mono (Nat.le_of_eq HD.out.symm))
      obtain ⟨ra, rc, hrow, hrc, c0, -⟩ := hin.blk hi
      have hbf := hin.bf
      have hw3 := HF.out d wr (by rw [← HD.out]; exact hown) (by rw [← HD.out]; exact hB)
      have hpr := hin.row i hi
      have hnb : some hb ≠ (rows i).ownBlock := fun e => (hin.rrow i hi hb e.symm).2.2 rfl
      have HW := Lib.hid hw3
      have HPR := Lib.hid hpr
      have HIN := Lib.hid hin
      have HROW := Lib.hid hrow
      clear hw3 hpr hin hown hrow HF hh
      go_wp2_with (at_builtin; refine wpList_append_row rfl (.tmp 32) (.tmp 34) 113 rfl 42 i1 (.slice none 0 0) 1 24 Tryd.underlying113 hi1 hy0 hy1 hy2 rfl (by decide) (rows i) (s.b i).pages.length (pv i) HROW.out.symm (HPR.out.alloc _) ⟨wr.heap.size, 0, none⟩ 1 1 [.slice (some ⟨d, 0, none⟩) 96 96] rfl rfl (At.one _ _ _ _ rfl) (by simp [Value.oneCell']) (by unfold maxLen; omega) (by omega) ?_)
      intro v' w4 hrow4 hg4 hv4
      obtain ⟨a4, c4, rfl, -⟩ := row_shape hrow4
      have hbecome := HW.out _ ((Below.refl _ _).alloc (Nat.le_refl _) _) _ w4 hrow4 hg4 (by simpa using hv4)
      have c04 := hg4.cell (a := ⟨hb, i * 6, none⟩) (cell_alloc _ c0) hnb
      have f04 : w4.frozen? ⟨hb, i * 6, none⟩ = false := (World.frozen?_of_block (hg4.block hb (by simp; exact Nat.lt_succ_of_lt (World.block_lt_of_cell? _ _ c0)) hnb)).trans ((World.frozen?_of_block (Below.heap_alloc _ _ hb (World.block_lt_of_cell? _ _ c0))).trans (hbf _))
      have HBE := Lib.hid hbecome
      clear hrow4 hg4 hv4 hbecome HW HPR HIN HROW hbf c0 hnb
      go_wp2
      go_end0
      exact ⟨rfl, HBE.out⟩

set_option maxRecDepth 100000 in
set_option maxHeartbeats 1000000 in
theorem lay_whole (h : ArrIn w F R g hb rows pv bv' s) (i : Nat) (hi : i < s.n) (l : List Nat) (a : Option Addr) (c : Nat) (hr : Rd w a l) (hc : l.length ≤ c) (h96 : l.length ≤ 96) (cut : Int) (hroom : (s.b i).pages.length < s.pages) (h0 : ¬ cut ≤ 0) (hge : l.length < cut.toNat) :
    Calls Tryd.prog 49 #[.pointer (some ⟨hb, i * 6, none⟩), .slice a l.length c, .int .i64 cut] w fun e w' => e = .returned (.tuple #[]) ∧ Become w F R g hb bv' { s with b := upd s.b i ((s.b i).lay l cut) } w' := by
  unfold Blk.lay
  rw [if_neg h0]
  obtain ⟨s', hs'⟩ : ∃ s', s' = { s with b := upd s.b i { s.b i with pages := (s.b i).pages ++ [pad l cut] } } := ⟨_, rfl⟩
  rw [← hs']
  have hfl := pad_length l cut h96
  have hflt := pad_lt l cut hr.1
  have hsp := pad_fill l cut
  have hrest := fun k => pad_getD l cut k
  have hat := (hr.take cut.toNat).at
  have hlen := hr.2.1
  obtain ⟨x, hx⟩ : ∃ x, x = (l.take cut.toNat).length := ⟨_, rfl⟩
  have hx2 : x = min cut.toNat l.length := by rw [hx, List.length_take]
  rw [← hx] at hsp hrest
  have hcs : ((l.take cut.toNat).map bv).length = x := by rw [List.length_map, hx]
  have hc1 := bv_one (l.take cut.toNat)
  have hpos : 0 < x → ∃ b off, a = some ⟨b, off, none⟩ := fun h1 => by
    obtain ⟨b, off, e, _⟩ := hr.2.2 (by omega)
    exact ⟨b, off, e⟩
  generalize (l.take cut.toNat).map bv = cs at hsp hat hcs hc1
  obtain ⟨f, hf⟩ : ∃ f, f = pad l cut := ⟨_, rfl⟩
  rw [← hf] at hfl hflt hsp hrest hs'
  clear hx hf
  -- what is left behind the bytes
  have hfin : ∀ d w3, OwnsPage w3 w.heap.size d (f.map bv) → Below w.heap.size w w3 → ∀ wA, Below w3.heap.size w3 wA → ∀ v' w4, w4.ownsRow 0 42 1 v' ((s.b i).pages.length + 1) (pv i ++ [.slice (some ⟨d, 0, none⟩) 96 96]) → wA.grownBy w4 (rows i).ownBlock →
      (∀ k, v'.ownBlock = some k → (rows i).ownBlock = some k ∨ wA.heap.size ≤ k) → Become w F R g hb bv' s' (w4.setCell ⟨hb, i * 6, none⟩ v') := by
    intro d w3 hown hB wA hA v' w4 hrow hg hv
    have hBA : Below w.heap.size w wA := hB.trans (hA.mono hB.size)
    have hin := h.below hBA
    have hd := (hown.lt d rfl)
    have hpage := (hown.page hflt hfl).keep (w' := wA) fun k hk => by cases hk; exact hA.block d hd.2
    have hset := hin.setRow i hi hg v' (pv i ++ [.slice (some ⟨d, 0, none⟩) 96 96]) { s.b i with pages := (s.b i).pages ++ [f] } (by simpa using hrow) hv (fun j l' hl => by
      rcases Nat.lt_or_ge j (s.b i).pages.length with h1 | h1
      · rw [List.getElem?_append_left h1] at hl
        obtain ⟨v, h2, h3⟩ := hin.page i hi j l' hl
        exact ⟨v, by rw [List.getElem?_append_left (List.getElem?_eq_some_iff.1 h2).1]; exact h2, h3⟩
      · have h2 := List.getElem?_eq_some_iff.1 hl
        have h3 : j = (s.b i).pages.length := by have := h2.1; simp at this; omega
        subst h3
        simp at hl
        subst hl
        have h4 : (pv i).length = (s.b i).pages.length := by simpa using (h.row i hi).1
        refine ⟨.slice (some ⟨d, 0, none⟩) 96 96, by rw [← h4]; simp, hpage, fun k hk => ?_⟩
        cases hk
        exact ⟨.inr ⟨hd.1, Nat.lt_of_lt_of_le hd.2 hA.size⟩, fun hR => absurd (h.bound d (h.rf d hR)) (Nat.not_lt.2 hd.1)⟩) rfl (by simp; omega)
    rw [ext_ext F hBA.size hg.size] at hset
    rw [hs']
    refine ⟨_, _, _, by rw [ext_setCell]; exact hset, ?_, by exact fun _ => Or.imp id fun h3 => Nat.le_trans hBA.size h3.1⟩
    exact ((Keep.below hBA).trans ⟨hg.os, hg.tape, hg.output, hg.size, fun k hk hF => hg.block k hk fun e => hF (.inl (h.rrow i hi k e.symm).1)⟩).setCell h.rhb _
  have hh := Lib.hid h
  have HF := Lib.hid hfin
  clear hfin hs' h
  have h1 : ¬ cut ≤ 0 := h0
  clear hr
  obtain ⟨i0, hi0, hz0, hz1, hz2⟩ := info_parts info_u8
  obtain ⟨i1, hi1, hy0, hy1, hy2⟩ := info_parts info_bytes
  go_enter Tryd.func49, Tryd.ntmps49
  go_wp2_with (at_make; refine wpList_make_full _ rfl _ _ 42 rfl w.heap.size 5 i0 (.int .u8 0) 1 Tryd.underlying42 hi0 hz0 hz1 .i64 .i64 96 96 96 rfl rfl rfl rfl (by rw [hz2]; decide) (by decide) (Nat.le_refl _) ?_)
  intro w1 hown hgr
  rw [made_fill f] at hown
  have hB : Below w.heap.size w w1 := (Below.refl _ _).grown hgr (Nat.le_refl _) (fun k hk => by cases hk)
  clear hi0 hz0 hz1 hz2 hgr
  obtain ⟨hheap, hl96, -⟩ := owns_heap hown
  have hat1 := hat.mono (w' := w1) fun p v hp => (hB.cell (World.block_lt_of_cell? w p hp)).trans hp
  obtain ⟨d, hd⟩ : ∃ d, d = w.heap.size := ⟨_, rfl⟩
  have hd1 : d < w1.heap.size := hd ▸ (hown.lt _ rfl).2
  rw [← hd] at hown hheap hB ⊢
  have hsz1 : (Tryd.prog.info? 5).map (·.size) = some 1 := by kernel_rfl
  have hps : 0 < cs.length → (some ⟨d, 0, none⟩ : Option Addr) = some ⟨d, 0, none⟩ ∧ ∃ ad, a = some ad ∧ ∀ j v, cs[j]? = some v → w1.cell? (ad.add j) = some v := fun h2 => by
    obtain ⟨b, off, e⟩ := hpos (by omega)
    exact ⟨rfl, _, e, hat1 _ e⟩
  have hft : 0 + cs.length ≤ (fill f 0).length := by omega
  have hcl : cs.length ≤ 96 := by omega
  have hpl : (s.b i).pages.length ≤ 32 := Nat.le_trans (hh.out.wf.len i hi) hh.out.wf.p32
  have hmn : cs.length = Nat.min x 96 := by rw [hcs]; exact (Nat.min_eq_left (by omega)).symm
  rw [← hcs] at hsp hrest
  have HS := Lib.hid hsp
  have HC := Lib.hid hcs
  have HM := Lib.hid hmn
  have HD := Lib.hid hd
  have HH := Lib.hid hheap
  have HP := Lib.hid hps
  have HR := Lib.hid hrest
  have H1 := Lib.hid hc1
  clear hps hrest hpos hc1 hsp hown hat hat1 hcs hl96 hmn hd hheap
  obtain rfl : x = l.length := by omega
  have hlt2 : (l.length : Int) < cut := by omega
  clear hx2
  go_wp2_with (refine wpList_copy_splice (o := ⟨some 18, _, _, _, _, _⟩) rfl (.tmp 11) (.tmp 17) 42 42 rfl 5 Tryd.underlying42 hsz1 (some ⟨d, 0, none⟩) a 96 96 l.length c rfl rfl d 0 (fill f 0) 5 HH.out cs HM.out HP.out hft H1.out d w hB (Nat.le_refl _) ?_)
  intro w2 HG2 hB2
  have hn2 : OwnsPage w2 d d (fill f cs.length) := heap_owns (by rw [← HS.out]; exact HG2.out) (by rw [fill_length _ _ hfl (by omega)]) (Nat.le_refl _)
  clear HG2 HH HP HM H1 hB hft
  go_wp2
  go_loopw [7] (fun i wr => ∃ k : Nat, cs.length ≤ k ∧ k ≤ 96 ∧ i = .int .i64 k ∧ OwnsPage wr d d (fill f k) ∧ Below d w wr) (fun i _ => 96 - (intOf i).toNat)
  case atStart => exact ⟨cs.length, Nat.le_refl _, by omega, rfl, hn2, hB2⟩
  case round =>
    obtain ⟨k, hk0, hk, rfl, hown, hB⟩ := hrel
    clear hn2 hB2
    by_cases hlt3 : k < 96
    · have hc3 := World.ownsRow.cellAt hown k (by omega)
      have hf3 := World.ownsRow.frozenAt hown k
      obtain ⟨u, hu⟩ : ∃ u, (fill f k)[k]? = some u := ⟨_, List.getElem?_eq_getElem (by rw [fill_length _ _ hfl hk]; exact hlt3)⟩
      rw [hu] at hc3
      obtain ⟨hst, hgr⟩ := World.ownsRow.stored hown k (bv (f.getD k 0))
      rw [fill_set _ _ hfl hlt3, HR.out k hk0 hlt3] at hst
      have hB3 := hB.setCell (p := ⟨d, k, none⟩) (Nat.le_refl d) (bv 255)
      have HS := Lib.hid hst
      have HB := Lib.hid hB3
      clear hst hB3 hgr hown hB hu
      go_wp2
      go_roundw
      case rel => exact ⟨k + 1, by omega, by omega, by go_num, HS.out, HB.out⟩
      case measure => simp [intOf]; omega
    · obtain rfl : k = 96 := by omega
      rw [fill_all _ hfl] at hown
      have hsz := (hown.lt d rfl).2
      have hin := hh.out.below (hB.mono (Nat.le_of_eq HD.out.symm))
      obtain ⟨ra, rc, hrow, hrc, c0, -⟩ := hin.blk hi
      have hbf := hin.bf
      have hw3 := HF.out d wr (by rw [← HD.out]; exact hown) (by rw [← HD.out]; exact hB)
      have hpr := hin.row i hi
      have hnb : some hb ≠ (rows i).ownBlock := fun e => (hin.rrow i hi hb e.symm).2.2 rfl
      have HW := Lib.hid hw3
      have HPR := Lib.hid hpr
      have HIN := Lib.hid hin
      have HROW := Lib.hid hrow
      clear hw3 hpr hin hown hrow HF hh
      go_wp2_with (at_builtin; refine wpList_append_row rfl (.tmp 32) (.tmp 34) 113 rfl 42 i1 (.slice none 0 0) 1 24 Tryd.underlying113 hi1 hy0 hy1 hy2 rfl (by decide) (rows i) (s.b i).pages.length (pv i) HROW.out.symm (HPR.out.alloc _) ⟨wr.heap.size, 0, none⟩ 1 1 [.slice (some ⟨d, 0, none⟩) 96 96] rfl rfl (At.one _ _ _ _ rfl) (by simp [Value.oneCell']) (by unfold maxLen; omega) (by omega) ?_)
      intro v' w4 hrow4 hg4 hv4
      obtain ⟨a4, c4, rfl, -⟩ := row_shape hrow4
      have hbecome := HW.out _ ((Below.refl _ _).alloc (Nat.le_refl _) _) _ w4 hrow4 hg4 (by simpa using hv4)
      have c04 := hg4.cell (a := ⟨hb, i * 6, none⟩) (cell_alloc _ c0) hnb
      have f04 : w4.frozen? ⟨hb, i * 6, none⟩ = false := (World.frozen?_of_block (hg4.block hb (by simp; exact Nat.lt_succ_of_lt (World.block_lt_of_cell? _ _ c0)) hnb)).trans ((World.frozen?_of_block (Below.heap_alloc _ _ hb (World.block_lt_of_cell? _ _ c0))).trans (hbf _))
      have HBE := Lib.hid hbecome
      clear hrow4 hg4 hv4 hbecome HW HPR HIN HROW hbf c0 hnb
      go_wp2
      go_end0
      exact ⟨rfl, HBE.out⟩

set_option maxRecDepth 100000 in
theorem lay_any (h : ArrIn w F R g hb rows pv bv' s) (i : Nat) (hi : i < s.n) (l : List Nat) (a : Option Addr) (c : Nat) (hr : Rd w a l) (hc : l.length ≤ c) (h96 : l.length ≤ 96) (cut : Int) (hroom : (s.b i).pages.length < s.pages) :
    Calls Tryd.prog 49 #[.pointer (some ⟨hb, i * 6, none⟩), .slice a l.length c, .int .i64 cut] w fun e w' => e = .returned (.tuple #[]) ∧ Become w F R g hb bv' { s with b := upd s.b i ((s.b i).lay l cut) } w' := by
  by_cases h0 : cut ≤ 0
  · unfold Blk.lay
    rw [if_pos h0, upd_id]
    have hfin := Lib.hid (Become.same h)
    clear h
    go_enter Tryd.func49, Tryd.ntmps49
    go_wp2
    refine bodyPost_ret (results_none rfl _ _ _) rfl ?_
    exact ⟨rfl, hfin.out⟩
  · rcases Nat.lt_or_ge l.length cut.toNat with hge | hlt
    · exact lay_whole h i hi l a c hr hc h96 cut hroom h0 hge
    · exact lay_part h i hi l a c hr hc h96 cut hroom h0 hlt
end
end Go.Proofs.YtkapnpcolmhdbaaDoor.Nd
