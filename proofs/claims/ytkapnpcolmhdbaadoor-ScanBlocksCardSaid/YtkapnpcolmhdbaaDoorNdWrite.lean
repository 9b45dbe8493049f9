/- The contract of (*Array).Program. -/
import Derived.Test.YtkapnpcolmhdbaaDoorNands
import Derived.Test.YtkapnpcolmhdbaaDoorNdLay
import Derived.Outline
namespace Go.Proofs.YtkapnpcolmhdbaaDoor.Nd
open Go.RowKit
open Drawbar Drawbar.Nand

set_option maxRecDepth 100000 in
theorem PageAt.below {w w' : World} {v : Value} {l : List Nat} (h : PageAt w v l) (hb : Below w.heap.size w w') : PageAt w' v l :=
  h.keep fun d hd => by
    obtain ⟨d2, o, cap, rfl, hc, hl, hr⟩ := h
    cases hd
    obtain ⟨b, off, e, hcell⟩ := hr.2.2 (by omega)
    cases e
    exact hb.block _ (World.block_lt_of_cell? w _ (hcell 0 (by omega)))

set_option maxRecDepth 100000 in
/-- Two new variables. -/
theorem boxes (w : World) (u v : Value) (t t2 : TypeId) :
    ((w.alloc (.cells #[u] t)).alloc (.cells #[v] t2)).cell? ⟨w.heap.size, 0, none⟩ = some u ∧ ((w.alloc (.cells #[u] t)).alloc (.cells #[v] t2)).frozen? ⟨w.heap.size, 0, none⟩ = false ∧
    ((w.alloc (.cells #[u] t)).alloc (.cells #[v] t2)).cell? ⟨w.heap.size + 1, 0, none⟩ = some v ∧ ((w.alloc (.cells #[u] t)).alloc (.cells #[v] t2)).frozen? ⟨w.heap.size + 1, 0, none⟩ = false ∧
    Below w.heap.size w ((w.alloc (.cells #[u] t)).alloc (.cells #[v] t2)) ∧ ((w.alloc (.cells #[u] t)).alloc (.cells #[v] t2)).heap.size = w.heap.size + 2 := by
  have e : (w.alloc (.cells #[u] t)).heap.size = w.heap.size + 1 := by simp
  have a1 := heap_alloc_new (w.alloc (.cells #[u] t)) (.cells #[v] t2)
  have a2 : ((w.alloc (.cells #[u] t)).alloc (.cells #[v] t2)).heap[w.heap.size]? = some (.cells #[u] t) := (Below.heap_alloc _ _ _ (by simp)).trans (heap_alloc_new w _)
  rw [e] at a1
  refine ⟨by unfold World.cell?; rw [a2]; rfl, by unfold World.frozen?; rw [a2]; rfl, by unfold World.cell?; rw [a1]; rfl, by unfold World.frozen?; rw [a1]; rfl, ((Below.refl _ _).alloc (Nat.le_refl _) _).alloc (by simp) _, by simp⟩

section
variable {w : World} {F R : Nat → Prop} {g hb : Nat} {rows : Nat → Value} {pv : Nat → List Value} {bv : Value} {s : Arr}

set_option maxRecDepth 100000 in
set_option maxHeartbeats 400000 in
theorem prog1_any (h : ArrIn w F R g hb rows pv bv s) (i : Nat) (hi : i < s.n) (x y : Nat) (v : Value) (p : List Nat) (cut : Int) (hx : w.cell? ⟨x, 0, none⟩ = some (.pointer (some ⟨hb, i * 6, none⟩))) (hy : w.cell? ⟨y, 0, none⟩ = some v) (hv : PageAt w v p)
    (hroom : (s.b i).pages.length < s.pages) :
    Calls Tryd.prog 48 #[.int .i64 cut, .pointer (some ⟨x, 0, none⟩), .pointer (some ⟨y, 0, none⟩)] w fun e w' => e = .returned (.tuple #[]) ∧ Become w F R g hb bv { s with b := upd s.b i ((s.b i).lay p cut) } w' := by
  obtain ⟨d, o, cap, rfl, hc, hl, hr⟩ := hv
  have hlay := lay_any h i hi p _ cap hr (by omega) (by omega) cut hroom
  rw [hl] at hlay
  generalize ({ s with b := upd s.b i ((s.b i).lay p cut) } : Arr) = s' at hlay ⊢
  have HL := Lib.hid hlay
  clear hlay h hr hl hc hroom
  go_enter Tryd.func48, Tryd.ntmps48
  go_wp2_with fail
  refine HL.out.mono ?_
  rintro e w' ⟨rfl, hbc⟩
  have HB := Lib.hid hbc
  clear hbc
  go_wp2
  go_end0
  exact ⟨rfl, HB.out⟩

set_option maxRecDepth 100000 in
set_option maxHeartbeats 1000000 in
theorem program_out (h : ArrIn w F R g hb rows pv bv s) (hid : Idle s) (i page : Int) (a : Option Addr) (n cap epoch : Nat) (hi : ¬ inB i s.n) :
    Calls Tryd.prog 16 #[.pointer (some ⟨g, 0, none⟩), .int .i64 i, .int .i64 page, .slice a n cap, .int .u64 epoch] w (Did w F g (1, s)) := by
  obtain ⟨P, hP⟩ : ∃ P, Did w F g (1, s) = P := ⟨_, rfl⟩
  have hfin := fun w' hw => did_same h hid 1 (w' := w') hw
  rw [hP] at hfin ⊢
  have HF := Lib.hid hfin
  have hA := h.below (w' := w.alloc (.cells #[.slice a n cap] 42)) ((Below.refl _ _).alloc (Nat.le_refl _) _)
  have hreach := reach_out g hb s.n i _ (hA.gc 0 _ rfl) hA.wf.n64 hi
  have HR := Lib.hid hreach
  clear hfin hP hA hreach h hi hid
  go_enter Tryd.func16, Tryd.ntmps16
  go_wp2_with fail
  refine HR.out.mono ?_
  rintro e w' ⟨rfl, rfl⟩
  go_wp2_with fail
  exact HF.out _ (((Below.refl _ _).alloc (Nat.le_refl _) _).alloc (by simp) _)

set_option maxRecDepth 100000 in
set_option maxHeartbeats 1000000 in
theorem program_off (h : ArrIn w F R g hb rows pv bv s) (hid : Idle s) (i : Nat) (page : Int) (a : Option Addr) (n cap epoch : Nat) (hi : i < s.n) (hoff : s.off = true) :
    Calls Tryd.prog 16 #[.pointer (some ⟨g, 0, none⟩), .int .i64 i, .int .i64 page, .slice a n cap, .int .u64 epoch] w (Did w F g (9, s)) := by
  obtain ⟨P, hP⟩ : ∃ P, Did w F g (9, s) = P := ⟨_, rfl⟩
  have hfin := fun w' hw => did_same h hid 9 (w' := w') hw
  rw [hP] at hfin ⊢
  have HF := Lib.hid hfin
  have hA := h.below (w' := w.alloc (.cells #[.slice a n cap] 42)) ((Below.refl _ _).alloc (Nat.le_refl _) _)
  have hreach := reach_off g hb s.n i _ (hA.gc 0 _ rfl) hA.wf.n64 hi (hoff ▸ hA.gc 4 _ rfl)
  have HR := Lib.hid hreach
  clear hfin hP hA hreach h hi hid
  go_enter Tryd.func16, Tryd.ntmps16
  go_wp2_with fail
  refine HR.out.mono ?_
  rintro e w' ⟨rfl, rfl⟩
  go_wp2_with fail
  exact HF.out _ (((Below.refl _ _).alloc (Nat.le_refl _) _).alloc (by simp) _)

set_option maxRecDepth 100000 in
set_option maxHeartbeats 1000000 in
theorem program_page (h : ArrIn w F R g hb rows pv bv s) (hid : Idle s) (i : Nat) (page : Int) (a : Option Addr) (n : Nat) (cap epoch : Nat) (hi : i < s.n) (hoff : s.off = false) (hp : page < 0 ∨ (s.pages : Int) - 1 < page) :
    Calls Tryd.prog 16 #[.pointer (some ⟨g, 0, none⟩), .int .i64 i, .int .i64 page, .slice a n cap, .int .u64 epoch] w (Did w F g (1, s)) := by
  have hA := h.below (w' := w.alloc (.cells #[.slice a n cap] 42)) ((Below.refl _ _).alloc (Nat.le_refl _) _)
  have hreach := reach_in g hb s.n i _ (hA.gc 0 _ rfl) hA.wf.n64 hi (hoff ▸ hA.gc 4 _ rfl)
  have HR := Lib.hid hreach
  obtain ⟨wB, hwB⟩ : ∃ wB, wB = (w.alloc (.cells #[.slice a n cap] 42)).alloc (.cells #[.pointer (some ⟨hb, i * 6, none⟩)] 111) := ⟨_, rfl⟩
  obtain ⟨x1, x2, x3, x4, hbB, hzB⟩ := boxes w (.slice a n cap) (.pointer (some ⟨hb, i * 6, none⟩)) 42 111
  rw [← hwB] at x1 x2 x3 x4 hbB hzB
  have hB := h.below hbB
  have HW := Lib.hid hwB
  have cg1 := hB.gc 1 _ rfl
  have cg2 := hB.gc 2 _ rfl
  have cgl := cg1
  rw [hwB] at cgl
  obtain ⟨ra, rc, hrow, hrc, b0, b1, -⟩ := hB.blk hi
  have hpg : (1 : Int) ≤ s.pages ∧ (s.pages : Int) ≤ 32 := ⟨by have := h.wf.p0; omega, by have := h.wf.p32; omega⟩
  have hlen : (s.b i).pages.length ≤ 32 := Nat.le_trans (h.wf.len i hi) h.wf.p32
  obtain ⟨P, hP⟩ : ∃ P, Did w F g (1, s) = P := ⟨_, rfl⟩
  have hfin := did_same h hid 1 (w' := wB) hbB
  rw [hP] at hfin ⊢
  have HF := Lib.hid hfin
  clear hP hfin hA hreach hwB hbB hzB hB h hid hrow hrc
  go_enter Tryd.func16, Tryd.ntmps16
  go_wp2_with fail
  refine HR.out.mono ?_
  rintro e w' ⟨rfl, rfl⟩
  go_wp2_with fail
  rw [← HW.out]
  refine (within_no _ _ _ _ hp).mono ?_
  rintro e w' ⟨rfl, rfl⟩
  go_wp2_with fail
  exact HF.out

set_option maxRecDepth 100000 in
set_option maxHeartbeats 1000000 in
theorem program_form (h : ArrIn w F R g hb rows pv bv s) (hid : Idle s) (i : Nat) (page : Int) (a : Option Addr) (n : Nat) (cap epoch : Nat) (hi : i < s.n) (hoff : s.off = false) (hp1 : 0 ≤ page) (hp2 : page ≤ (s.pages : Int) - 1) (h96 : n ≠ 96) :
    Calls Tryd.prog 16 #[.pointer (some ⟨g, 0, none⟩), .int .i64 i, .int .i64 page, .slice a n cap, .int .u64 epoch] w (Did w F g (3, s)) := by
  have hA := h.below (w' := w.alloc (.cells #[.slice a n cap] 42)) ((Below.refl _ _).alloc (Nat.le_refl _) _)
  have hreach := reach_in g hb s.n i _ (hA.gc 0 _ rfl) hA.wf.n64 hi (hoff ▸ hA.gc 4 _ rfl)
  have HR := Lib.hid hreach
  obtain ⟨wB, hwB⟩ : ∃ wB, wB = (w.alloc (.cells #[.slice a n cap] 42)).alloc (.cells #[.pointer (some ⟨hb, i * 6, none⟩)] 111) := ⟨_, rfl⟩
  obtain ⟨x1, x2, x3, x4, hbB, hzB⟩ := boxes w (.slice a n cap) (.pointer (some ⟨hb, i * 6, none⟩)) 42 111
  rw [← hwB] at x1 x2 x3 x4 hbB hzB
  have hB := h.below hbB
  have HW := Lib.hid hwB
  have cg1 := hB.gc 1 _ rfl
  have cg2 := hB.gc 2 _ rfl
  have cgl := cg1
  rw [hwB] at cgl
  obtain ⟨ra, rc, hrow, hrc, b0, b1, -⟩ := hB.blk hi
  have hpg : (1 : Int) ≤ s.pages ∧ (s.pages : Int) ≤ 32 := ⟨by have := h.wf.p0; omega, by have := h.wf.p32; omega⟩
  have hlen : (s.b i).pages.length ≤ 32 := Nat.le_trans (h.wf.len i hi) h.wf.p32
  obtain ⟨P, hP⟩ : ∃ P, Did w F g (3, s) = P := ⟨_, rfl⟩
  have hfin := did_same h hid 3 (w' := wB) hbB
  rw [hP] at hfin ⊢
  have HF := Lib.hid hfin
  clear hP hfin hA hreach hwB hbB hzB hB h hid hrow hrc
  go_enter Tryd.func16, Tryd.ntmps16
  go_wp2_with fail
  refine HR.out.mono ?_
  rintro e w' ⟨rfl, rfl⟩
  go_wp2_with fail
  rw [← HW.out]
  refine (within_yes _ _ _ _ hp1 hp2).mono ?_
  rintro e w' ⟨rfl, rfl⟩
  have h97 : ¬ ((n : Int) = 96) := by omega
  go_wp2_with fail
  exact HF.out

set_option maxRecDepth 100000 in
set_option maxHeartbeats 1000000 in
theorem program_order (h : ArrIn w F R g hb rows pv bv s) (hid : Idle s) (i : Nat) (page : Int) (a : Option Addr) (cap epoch : Nat) (hi : i < s.n) (hoff : s.off = false) (hp1 : 0 ≤ page) (hp2 : page ≤ (s.pages : Int) - 1) (ho : page ≠ (s.b i).pages.length) :
    Calls Tryd.prog 16 #[.pointer (some ⟨g, 0, none⟩), .int .i64 i, .int .i64 page, .slice a 96 cap, .int .u64 epoch] w (Did w F g (6, s)) := by
  have hA := h.below (w' := w.alloc (.cells #[.slice a 96 cap] 42)) ((Below.refl _ _).alloc (Nat.le_refl _) _)
  have hreach := reach_in g hb s.n i _ (hA.gc 0 _ rfl) hA.wf.n64 hi (hoff ▸ hA.gc 4 _ rfl)
  have HR := Lib.hid hreach
  obtain ⟨wB, hwB⟩ : ∃ wB, wB = (w.alloc (.cells #[.slice a 96 cap] 42)).alloc (.cells #[.pointer (some ⟨hb, i * 6, none⟩)] 111) := ⟨_, rfl⟩
  obtain ⟨x1, x2, x3, x4, hbB, hzB⟩ := boxes w (.slice a 96 cap) (.pointer (some ⟨hb, i * 6, none⟩)) 42 111
  rw [← hwB] at x1 x2 x3 x4 hbB hzB
  have hB := h.below hbB
  have HW := Lib.hid hwB
  have cg1 := hB.gc 1 _ rfl
  have cg2 := hB.gc 2 _ rfl
  have cgl := cg1
  rw [hwB] at cgl
  obtain ⟨ra, rc, hrow, hrc, b0, b1, -⟩ := hB.blk hi
  have hpg : (1 : Int) ≤ s.pages ∧ (s.pages : Int) ≤ 32 := ⟨by have := h.wf.p0; omega, by have := h.wf.p32; omega⟩
  have hlen : (s.b i).pages.length ≤ 32 := Nat.le_trans (h.wf.len i hi) h.wf.p32
  obtain ⟨P, hP⟩ : ∃ P, Did w F g (6, s) = P := ⟨_, rfl⟩
  have hfin := did_same h hid 6 (w' := wB) hbB
  rw [hP] at hfin ⊢
  have HF := Lib.hid hfin
  clear hP hfin hA hreach hwB hbB hzB hB h hid hrow hrc
  go_enter Tryd.func16, Tryd.ntmps16
  go_wp2_with fail
  refine HR.out.mono ?_
  rintro e w' ⟨rfl, rfl⟩
  go_wp2_with fail
  rw [← HW.out]
  refine (within_yes _ _ _ _ hp1 hp2).mono ?_
  rintro e w' ⟨rfl, rfl⟩
  go_wp2_with fail
  refine (next_any hb (i * 6) _ _ _ _ wB b0 rfl).mono ?_
  rintro e w' ⟨rfl, rfl⟩
  have ho2 : ¬ (page = ((s.b i).pages.length : Int)) := ho
  go_wp2_with fail
  exact HF.out

set_option maxRecDepth 100000 in
set_option maxHeartbeats 1000000 in
theorem program_torn (h : ArrIn w F R g hb rows pv bv s) (hid : Idle s) (i : Nat) (a : Option Addr) (cap epoch : Nat) (hi : i < s.n) (hoff : s.off = false) (hp3 : (s.b i).pages.length < s.pages) (ht : (s.b i).torn = true) :
    Calls Tryd.prog 16 #[.pointer (some ⟨g, 0, none⟩), .int .i64 i, .int .i64 (s.b i).pages.length, .slice a 96 cap, .int .u64 epoch] w (Did w F g (6, s)) := by
  have hA := h.below (w' := w.alloc (.cells #[.slice a 96 cap] 42)) ((Below.refl _ _).alloc (Nat.le_refl _) _)
  have hreach := reach_in g hb s.n i _ (hA.gc 0 _ rfl) hA.wf.n64 hi (hoff ▸ hA.gc 4 _ rfl)
  have HR := Lib.hid hreach
  obtain ⟨wB, hwB⟩ : ∃ wB, wB = (w.alloc (.cells #[.slice a 96 cap] 42)).alloc (.cells #[.pointer (some ⟨hb, i * 6, none⟩)] 111) := ⟨_, rfl⟩
  obtain ⟨x1, x2, x3, x4, hbB, hzB⟩ := boxes w (.slice a 96 cap) (.pointer (some ⟨hb, i * 6, none⟩)) 42 111
  rw [← hwB] at x1 x2 x3 x4 hbB hzB
  have hB := h.below hbB
  have HW := Lib.hid hwB
  have cg1 := hB.gc 1 _ rfl
  have cg2 := hB.gc 2 _ rfl
  have cgl := cg1
  rw [hwB] at cgl
  obtain ⟨ra, rc, hrow, hrc, b0, b1, -⟩ := hB.blk hi
  have hpg : (1 : Int) ≤ s.pages ∧ (s.pages : Int) ≤ 32 := ⟨by have := h.wf.p0; omega, by have := h.wf.p32; omega⟩
  have hlen : (s.b i).pages.length ≤ 32 := Nat.le_trans (h.wf.len i hi) h.wf.p32
  obtain ⟨P, hP⟩ : ∃ P, Did w F g (6, s) = P := ⟨_, rfl⟩
  have hfin := did_same h hid 6 (w' := wB) hbB
  rw [hP] at hfin ⊢
  have HF := Lib.hid hfin
  clear hP hfin hA hreach hwB hbB hzB hB h hid hrow hrc
  rw [ht] at b1
  go_enter Tryd.func16, Tryd.ntmps16
  go_wp2_with fail
  refine HR.out.mono ?_
  rintro e w' ⟨rfl, rfl⟩
  go_wp2_with fail
  rw [← HW.out]
  refine (within_yes _ _ _ _ (by omega) (by omega)).mono ?_
  rintro e w' ⟨rfl, rfl⟩
  go_wp2_with fail
  refine (next_any hb (i * 6) _ _ _ _ wB b0 rfl).mono ?_
  rintro e w' ⟨rfl, rfl⟩
  go_wp2_with fail
  exact HF.out

set_option maxRecDepth 100000 in
set_option maxHeartbeats 1000000 in
theorem program_fence (h : ArrIn w F R g hb rows pv bv s) (hid : Idle s) (i : Nat) (a : Option Addr) (cap epoch : Nat) (hi : i < s.n) (hoff : s.off = false) (hp3 : (s.b i).pages.length < s.pages) (ht : (s.b i).torn = false) (hf : epoch < s.fence) :
    Calls Tryd.prog 16 #[.pointer (some ⟨g, 0, none⟩), .int .i64 i, .int .i64 (s.b i).pages.length, .slice a 96 cap, .int .u64 epoch] w (Did w F g (7, s)) := by
  have hA := h.below (w' := w.alloc (.cells #[.slice a 96 cap] 42)) ((Below.refl _ _).alloc (Nat.le_refl _) _)
  have hreach := reach_in g hb s.n i _ (hA.gc 0 _ rfl) hA.wf.n64 hi (hoff ▸ hA.gc 4 _ rfl)
  have HR := Lib.hid hreach
  obtain ⟨wB, hwB⟩ : ∃ wB, wB = (w.alloc (.cells #[.slice a 96 cap] 42)).alloc (.cells #[.pointer (some ⟨hb, i * 6, none⟩)] 111) := ⟨_, rfl⟩
  obtain ⟨x1, x2, x3, x4, hbB, hzB⟩ := boxes w (.slice a 96 cap) (.pointer (some ⟨hb, i * 6, none⟩)) 42 111
  rw [← hwB] at x1 x2 x3 x4 hbB hzB
  have hB := h.below hbB
  have HW := Lib.hid hwB
  have cg1 := hB.gc 1 _ rfl
  have cg2 := hB.gc 2 _ rfl
  have cgl := cg1
  rw [hwB] at cgl
  obtain ⟨ra, rc, hrow, hrc, b0, b1, -⟩ := hB.blk hi
  have hpg : (1 : Int) ≤ s.pages ∧ (s.pages : Int) ≤ 32 := ⟨by have := h.wf.p0; omega, by have := h.wf.p32; omega⟩
  have hlen : (s.b i).pages.length ≤ 32 := Nat.le_trans (h.wf.len i hi) h.wf.p32
  obtain ⟨P, hP⟩ : ∃ P, Did w F g (7, s) = P := ⟨_, rfl⟩
  have hfin := did_same h hid 7 (w' := wB) hbB
  rw [hP] at hfin ⊢
  have HF := Lib.hid hfin
  clear hP hfin hA hreach hwB hbB hzB hB h hid hrow hrc
  rw [ht] at b1
  go_enter Tryd.func16, Tryd.ntmps16
  go_wp2_with fail
  refine HR.out.mono ?_
  rintro e w' ⟨rfl, rfl⟩
  go_wp2_with fail
  rw [← HW.out]
  refine (within_yes _ _ _ _ (by omega) (by omega)).mono ?_
  rintro e w' ⟨rfl, rfl⟩
  go_wp2_with fail
  refine (next_any hb (i * 6) _ _ _ _ wB b0 rfl).mono ?_
  rintro e w' ⟨rfl, rfl⟩
  have hf2 : (epoch : Int) < (s.fence : Int) := by omega
  go_wp2_with fail
  exact HF.out

def progR (s : Arr) (i : Nat) (l : List Nat) : Int × Arr :=
  let r := s.operate i (.lay i l) (fun b => b.lay l 96)
  if r.1 = 8 then (8, { r.2 with b := upd r.2.b i ((r.2.b i).lay [] 96) }) else r

set_option maxRecDepth 100000 in
set_option maxHeartbeats 2000000 in
theorem program_main (h : ArrIn w F R g hb rows pv bv s) (hid : Idle s) (i : Nat) (l : List Nat) (a : Option Addr) (cap epoch : Nat) (hi : i < s.n) (hoff : s.off = false) (hp3 : (s.b i).pages.length < s.pages) (ht : (s.b i).torn = false) (hf : s.fence ≤ epoch) (hr : Rd w a l) (hl : l.length = 96) :
    Calls Tryd.prog 16 #[.pointer (some ⟨g, 0, none⟩), .int .i64 i, .int .i64 (s.b i).pages.length, .slice a 96 cap, .int .u64 epoch] w (Did w F g (progR s i l)) := by
  have hA := h.below (w' := w.alloc (.cells #[.slice a 96 cap] 42)) ((Below.refl _ _).alloc (Nat.le_refl _) _)
  have hreach := reach_in g hb s.n i _ (hA.gc 0 _ rfl) hA.wf.n64 hi (hoff ▸ hA.gc 4 _ rfl)
  have HR := Lib.hid hreach
  obtain ⟨wB, hwB⟩ : ∃ wB, wB = (w.alloc (.cells #[.slice a 96 cap] 42)).alloc (.cells #[.pointer (some ⟨hb, i * 6, none⟩)] 111) := ⟨_, rfl⟩
  obtain ⟨x1, x2, x3, x4, hbB, hzB⟩ := boxes w (.slice a 96 cap) (.pointer (some ⟨hb, i * 6, none⟩)) 42 111
  rw [← hwB] at x1 x2 x3 x4 hbB hzB
  have hB := h.below hbB
  have HW := Lib.hid hwB
  have cg1 := hB.gc 1 _ rfl
  have cg2 := hB.gc 2 _ rfl
  have cgl := cg1
  rw [hwB] at cgl
  obtain ⟨ra, rc, hrow, hrc, b0, b1, -⟩ := hB.blk hi
  have hpg : (1 : Int) ≤ s.pages ∧ (s.pages : Int) ≤ 32 := ⟨by have := h.wf.p0; omega, by have := h.wf.p32; omega⟩
  have hlen : (s.b i).pages.length ≤ 32 := Nat.le_trans (h.wf.len i hi) h.wf.p32
  have hnil : a = none → cap = 0 := fun e => by have := hr.ofNil e; omega
  have hclone := clone_new l a cap wB (hr.below hbB) hnil
  rw [hl] at hclone
  -- what stands behind the clone
  have hD : ∀ w3 d o c3, Below wB.heap.size wB w3 → Rd w3 (some ⟨d, o, none⟩) l → wB.heap.size ≤ d → d < w3.heap.size → 96 ≤ c3 → ∀ wD, wD = w3.setCell ⟨w.heap.size, 0, none⟩ (.slice (some ⟨d, o, none⟩) 96 c3) →
      Below w.heap.size w wD ∧ wD.cell? ⟨w.heap.size + 1, 0, none⟩ = some (.pointer (some ⟨hb, i * 6, none⟩)) ∧ wD.cell? ⟨w.heap.size, 0, none⟩ = some (.slice (some ⟨d, o, none⟩) 96 c3) ∧ PageAt wD (.slice (some ⟨d, o, none⟩) 96 c3) l ∧ w.heap.size + 2 ≤ d ∧ d < wD.heap.size := by
    intro w3 d o c3 hb3 hr3 hd1 hd2 hc3 wD hwD
    have hy1 : w3.cell? ⟨w.heap.size, 0, none⟩ = some (.slice a 96 cap) := (hb3.cell (p := ⟨w.heap.size, 0, none⟩) (by show w.heap.size < _; omega)).trans x1
    have hy3 : w3.cell? ⟨w.heap.size + 1, 0, none⟩ = some (.pointer (some ⟨hb, i * 6, none⟩)) := (hb3.cell (p := ⟨w.heap.size + 1, 0, none⟩) (by show w.heap.size + 1 < _; omega)).trans x3
    subst hwD
    refine ⟨(hbB.trans (hb3.mono hbB.size)).setCell (Nat.le_refl _) _, ?_, World.cell?_setCell_same _ _ _ hy1, ?_, by omega, by simpa [World.setCell] using hd2⟩
    · rw [World.cell?_setCell_other _ _ _ _ (by intro e; have := congrArg Addr.block e; simp at this)]; exact hy3
    · exact ⟨d, o, c3, rfl, hc3, hl, hr3.keep (Below.heap_setCell _ _ _ _ (by show d ≠ w.heap.size; omega))⟩
  -- the operation
  have hop : ∀ d o c3 wD, Below w.heap.size w wD → wD.cell? ⟨w.heap.size + 1, 0, none⟩ = some (.pointer (some ⟨hb, i * 6, none⟩)) → wD.cell? ⟨w.heap.size, 0, none⟩ = some (.slice (some ⟨d, o, none⟩) 96 c3) → PageAt wD (.slice (some ⟨d, o, none⟩) 96 c3) l → w.heap.size + 2 ≤ d → d < wD.heap.size →
      Calls Tryd.prog 47 #[.pointer (some ⟨g, 0, none⟩), .pointer (some ⟨hb, i * 6, none⟩), .func (.func 48) #[] #[.pointer (some ⟨w.heap.size + 1, 0, none⟩), .pointer (some ⟨w.heap.size, 0, none⟩)]] wD
        (Oped wD (ext F w wD) R g hb (s.operate i (.lay i l) (fun b => b.lay l 96))) := by
    intro d o c3 wD hbD hx hy hpg2 hd1 hd2
    have hhD := h.below hbD
    have hnR : ∀ k, w.heap.size ≤ k → ¬ R k := fun k hk hR => absurd (h.bound k (h.rf k hR)) (Nat.not_lt.2 hk)
    have hF2 : ∀ k, w.heap.size ≤ k → k < wD.heap.size → ext F w wD k := fun k h1 h2 => .inr ⟨h1, h2⟩
    have hbp := World.block_lt_of_cell? wD _ hy
    have hbq := World.block_lt_of_cell? wD _ hx
    have hR0 : ¬ R w.heap.size := hnR _ (Nat.le_refl _)
    have hR1 : ¬ R (w.heap.size + 1) := hnR _ (Nat.le_succ _)
    have hRd : ¬ R d := hnR d (by omega)
    have hF0 : ext F w wD w.heap.size := hF2 _ (Nat.le_refl _) hbp
    have hF1 : ext F w wD (w.heap.size + 1) := hF2 _ (Nat.le_succ _) hbq
    have hFd : ext F w wD d := hF2 d (by omega) hd2
    refine operate_any hhD i hi 48 #[] #[.pointer (some ⟨w.heap.size + 1, 0, none⟩), .pointer (some ⟨w.heap.size, 0, none⟩)] (fun _ _ => rfl) (.lay i l)
      ⟨hi, _, _, _, rfl, hx, hy, hpg2, hF1, hR1, hF0, hR0, fun k hk => ?_⟩ _ ?_
    · cases hk
      exact ⟨hFd, hRd⟩
    · intro w4 h4 o4
      have hlen4 : ((s.tick i).b i).pages.length < (s.tick i).pages := by
        show (upd s.b i (s.b i).tick i).pages.length < s.pages
        rw [upd_same]; exact hp3
      have hc := prog1_any h4 i hi (w.heap.size + 1) w.heap.size _ l 96 ((World.cell?_of_block (o4.block _ hR1)).trans hx) ((World.cell?_of_block (o4.block _ hR0)).trans hy)
        (hpg2.keep fun k hk => o4.block k (by cases hk; exact hRd)) hlen4
      rw [show ({ s.tick i with b := upd (s.tick i).b i (((s.tick i).b i).lay l 96) } : Arr) = { s.tick i with b := upd s.b i ((s.b i).tick.lay l 96) } by
        unfold Arr.tick; dsimp only; rw [upd_same, upd_upd]] at hc
      exact hc
  have hn3 := operate_err s i (.lay i l) (fun b => b.lay l 96)
  have hnn := operate_n s i (.lay i l) (fun b => b.lay l 96)
  have hfl := fun h1 => operate_fail s i (.lay i l) (fun b => b.lay l 96) h1 (hid.idle hoff)
  have hidr := idle_operate s i (.lay i l) (fun b => b.lay l 96) hid hoff (fun j p e => by cases e; exact hp3)
  unfold progR
  dsimp only
  generalize s.operate i (.lay i l) (fun b => b.lay l 96) = r at hop hn3 hnn hfl hidr ⊢
  obtain ⟨re, sr⟩ := r
  dsimp only at hn3 hnn hfl hidr ⊢
  have hP : ∃ P : Ending → World → Prop, Did w F g (if re = 8 then (8, { sr with b := upd sr.b i ((sr.b i).lay [] 96) }) else (re, sr)) = P := ⟨_, rfl⟩
  obtain ⟨P, hP⟩ := hP
  rw [hP]
  have HP := Lib.hid hP
  clear hP
  have HD := Lib.hid hD
  have HO := Lib.hid hop
  have HC := Lib.hid hclone
  have HH := Lib.hid h
  have HB := Lib.hid hbB
  have HZ := Lib.hid hzB
  have HL := Lib.hid hl
  have hszw : w.heap.size + 2 ≤ wB.heap.size := by omega
  have hf2 : ¬ ((epoch : Int) < (s.fence : Int)) := by omega
  rw [ht] at b1
  have HNN := Lib.hid hnn
  have HFL := Lib.hid hfl
  have HID := Lib.hid hidr
  clear hD hop hclone hwB hbB hzB hB h hid hrow hrc hA hreach hoff hnil hr hl ht hf hnn hfl hidr
  rcases hn3 with rfl | rfl | rfl
  · go_enter Tryd.func16, Tryd.ntmps16
    go_wp2_with fail
    refine HR.out.mono ?_
    rintro e w' ⟨rfl, rfl⟩
    go_wp2_with fail
    rw [← HW.out]
    refine (within_yes _ _ _ _ (by omega) (by omega)).mono ?_
    rintro e w' ⟨rfl, rfl⟩
    go_wp2_with fail
    refine (next_any hb (i * 6) _ _ _ _ wB b0 rfl).mono ?_
    rintro e w' ⟨rfl, rfl⟩
    go_wp2_with fail
    have hC := HC.out
    refine hC.mono ?_
    rintro e w3 ⟨a3, c3, rfl, hc3, hrd3, hb3, hfr3⟩
    rw [HL.out] at hc3 hfr3 ⊢
    obtain ⟨d, o, rfl, hd2⟩ : ∃ d o, a3 = some ⟨d, o, none⟩ ∧ d < w3.heap.size := by
      obtain ⟨b, off, e, hcell⟩ := hrd3.2.2 (by rw [HL.out]; omega)
      exact ⟨b, off, e, World.block_lt_of_cell? w3 _ (hcell 0 (by rw [HL.out]; omega))⟩
    have hd1 : wB.heap.size ≤ d := hfr3 (by omega) _ rfl
    have y1 : w3.cell? ⟨w.heap.size, 0, none⟩ = some (.slice a 96 cap) := (hb3.cell (p := ⟨w.heap.size, 0, none⟩) (by show w.heap.size < _; omega)).trans x1
    have y2 : w3.frozen? ⟨w.heap.size, 0, none⟩ = false := (hb3.frozen (p := ⟨w.heap.size, 0, none⟩) (by show w.heap.size < _; omega)).trans x2
    have y3 : w3.cell? ⟨w.heap.size + 1, 0, none⟩ = some (.pointer (some ⟨hb, i * 6, none⟩)) := (hb3.cell (p := ⟨w.heap.size + 1, 0, none⟩) (by show w.heap.size + 1 < _; omega)).trans x3
    obtain ⟨hbD, z3, z1, zp, zd1, zd2⟩ := HD.out w3 d o c3 hb3 hrd3 hd1 hd2 hc3 _ rfl
    have hop := HO.out d o c3 _ hbD z3 z1 zp zd1 zd2
    have HOP := Lib.hid hop
    have HBD := Lib.hid hbD
    have HZ3 := Lib.hid z3
    clear hop hbD z3 z1 zp zd1 zd2 hb3 hrd3 hd1 hd2 hfr3 hC x1 x2 x3 x4 HD HO HC
    go_wp2_with fail
    refine HOP.out.mono ?_
    rintro e w5 ⟨rfl, bv5, hb5⟩
    dsimp only at hb5
    have hfin := become_did (Keep.below HBD.out) rfl (fun d hd => .inl (HH.out.rf d hd)) hb5 HID.out 9
    have hP2 : P (.returned (.int .i64 9)) w5 := by
      rw [← HP.out, if_neg (by decide)]
      exact hfin
    have HP2 := Lib.hid hP2
    clear hfin hP2 hb5 HBD HZ3 HOP HP HH HB HZ HL HNN HFL HID
    go_wp2
    exact HP2.out
  · go_enter Tryd.func16, Tryd.ntmps16
    go_wp2_with fail
    refine HR.out.mono ?_
    rintro e w' ⟨rfl, rfl⟩
    go_wp2_with fail
    rw [← HW.out]
    refine (within_yes _ _ _ _ (by omega) (by omega)).mono ?_
    rintro e w' ⟨rfl, rfl⟩
    go_wp2_with fail
    refine (next_any hb (i * 6) _ _ _ _ wB b0 rfl).mono ?_
    rintro e w' ⟨rfl, rfl⟩
    go_wp2_with fail
    have hC := HC.out
    refine hC.mono ?_
    rintro e w3 ⟨a3, c3, rfl, hc3, hrd3, hb3, hfr3⟩
    rw [HL.out] at hc3 hfr3 ⊢
    obtain ⟨d, o, rfl, hd2⟩ : ∃ d o, a3 = some ⟨d, o, none⟩ ∧ d < w3.heap.size := by
      obtain ⟨b, off, e, hcell⟩ := hrd3.2.2 (by rw [HL.out]; omega)
      exact ⟨b, off, e, World.block_lt_of_cell? w3 _ (hcell 0 (by rw [HL.out]; omega))⟩
    have hd1 : wB.heap.size ≤ d := hfr3 (by omega) _ rfl
    have y1 : w3.cell? ⟨w.heap.size, 0, none⟩ = some (.slice a 96 cap) := (hb3.cell (p := ⟨w.heap.size, 0, none⟩) (by show w.heap.size < _; omega)).trans x1
    have y2 : w3.frozen? ⟨w.heap.size, 0, none⟩ = false := (hb3.frozen (p := ⟨w.heap.size, 0, none⟩) (by show w.heap.size < _; omega)).trans x2
    have y3 : w3.cell? ⟨w.heap.size + 1, 0, none⟩ = some (.pointer (some ⟨hb, i * 6, none⟩)) := (hb3.cell (p := ⟨w.heap.size + 1, 0, none⟩) (by show w.heap.size + 1 < _; omega)).trans x3
    obtain ⟨hbD, z3, z1, zp, zd1, zd2⟩ := HD.out w3 d o c3 hb3 hrd3 hd1 hd2 hc3 _ rfl
    have hop := HO.out d o c3 _ hbD z3 z1 zp zd1 zd2
    have HOP := Lib.hid hop
    have HBD := Lib.hid hbD
    have HZ3 := Lib.hid z3
    clear hop hbD z3 z1 zp zd1 zd2 hb3 hrd3 hd1 hd2 hfr3 hC x1 x2 x3 x4 HD HO HC
    go_wp2_with fail
    refine HOP.out.mono ?_
    rintro e w5 ⟨rfl, bv5, hb5⟩
    dsimp only at hb5
    have hP1 : P = Did w F g (8, { sr with b := upd sr.b i ((sr.b i).lay [] 96) }) := by rw [← HP.out, if_pos (by simp)]
    obtain ⟨R5, rows5, pv5, h5, k5, hR5⟩ := hb5
    have hR1 : ¬ R (w.heap.size + 1) := fun hR => absurd (HH.out.bound _ (HH.out.rf _ hR)) (by omega)
    have hx5 := (World.cell?_of_block (k5.block _ (World.block_lt_of_cell? _ _ HZ3.out) hR1)).trans HZ3.out
    have hi5 : i < sr.n := by rw [HNN.out.1]; exact hi
    have hroom : (sr.b i).pages.length < sr.pages := by rw [(HFL.out (by simp)).1, HNN.out.2]; exact hp3
    have hlay := lay_any h5 i hi5 [] none 0 (rd_nil w5) (Nat.le_refl _) (by simp) 96 hroom
    have hfin : ∀ w6, Become w5 (ext (ext F w _) _ w5) R5 g hb bv5 { sr with b := upd sr.b i ((sr.b i).lay [] 96) } w6 → P (.returned (.int .i64 8)) w6 := fun w6 h6 => by
      rw [hP1]
      have hk := (Keep.below (F := F) HBD.out).trans ⟨k5.os, k5.tape, k5.output, k5.size, fun k hk hF => k5.block k hk fun hr => hF (.inl (HH.out.rf k hr))⟩
      exact become_did hk (ext_ext F HBD.out.size k5.size) (fun d hd => h5.rf d hd) h6 ⟨(fun _ => (HFL.out (by simp)).2), (fun j p hj => by have e := (HFL.out (by simp)).2; rw [show sr.begun = .lay j p from hj] at e; cases e)⟩ 8
    have HLAY := Lib.hid hlay
    have HF6 := Lib.hid hfin
    clear hfin hlay h5 k5 hR5 hP1 HBD HZ3 HOP HP HH HB HZ HL HNN HFL HID hR1 hroom
    go_wp2_with fail
    refine HLAY.out.mono ?_
    rintro e w6 ⟨rfl, h6⟩
    have HP6 := Lib.hid (HF6.out w6 h6)
    clear h6
    go_wp2
    exact HP6.out
  · go_enter Tryd.func16, Tryd.ntmps16
    go_wp2_with fail
    refine HR.out.mono ?_
    rintro e w' ⟨rfl, rfl⟩
    go_wp2_with fail
    rw [← HW.out]
    refine (within_yes _ _ _ _ (by omega) (by omega)).mono ?_
    rintro e w' ⟨rfl, rfl⟩
    go_wp2_with fail
    refine (next_any hb (i * 6) _ _ _ _ wB b0 rfl).mono ?_
    rintro e w' ⟨rfl, rfl⟩
    go_wp2_with fail
    have hC := HC.out
    refine hC.mono ?_
    rintro e w3 ⟨a3, c3, rfl, hc3, hrd3, hb3, hfr3⟩
    rw [HL.out] at hc3 hfr3 ⊢
    obtain ⟨d, o, rfl, hd2⟩ : ∃ d o, a3 = some ⟨d, o, none⟩ ∧ d < w3.heap.size := by
      obtain ⟨b, off, e, hcell⟩ := hrd3.2.2 (by rw [HL.out]; omega)
      exact ⟨b, off, e, World.block_lt_of_cell? w3 _ (hcell 0 (by rw [HL.out]; omega))⟩
    have hd1 : wB.heap.size ≤ d := hfr3 (by omega) _ rfl
    have y1 : w3.cell? ⟨w.heap.size, 0, none⟩ = some (.slice a 96 cap) := (hb3.cell (p := ⟨w.heap.size, 0, none⟩) (by show w.heap.size < _; omega)).trans x1
    have y2 : w3.frozen? ⟨w.heap.size, 0, none⟩ = false := (hb3.frozen (p := ⟨w.heap.size, 0, none⟩) (by show w.heap.size < _; omega)).trans x2
    have y3 : w3.cell? ⟨w.heap.size + 1, 0, none⟩ = some (.pointer (some ⟨hb, i * 6, none⟩)) := (hb3.cell (p := ⟨w.heap.size + 1, 0, none⟩) (by show w.heap.size + 1 < _; omega)).trans x3
    obtain ⟨hbD, z3, z1, zp, zd1, zd2⟩ := HD.out w3 d o c3 hb3 hrd3 hd1 hd2 hc3 _ rfl
    have hop := HO.out d o c3 _ hbD z3 z1 zp zd1 zd2
    have HOP := Lib.hid hop
    have HBD := Lib.hid hbD
    have HZ3 := Lib.hid z3
    clear hop hbD z3 z1 zp zd1 zd2 hb3 hrd3 hd1 hd2 hfr3 hC x1 x2 x3 x4 HD HO HC
    go_wp2_with fail
    refine HOP.out.mono ?_
    rintro e w5 ⟨rfl, bv5, hb5⟩
    dsimp only at hb5
    have hfin := become_did (Keep.below HBD.out) rfl (fun d hd => .inl (HH.out.rf d hd)) hb5 HID.out 0
    have hP2 : P (.returned (.int .i64 0)) w5 := by
      rw [← HP.out, if_neg (by decide)]
      exact hfin
    have HP2 := Lib.hid hP2
    clear hfin hP2 hb5 HBD HZ3 HOP HP HH HB HZ HL HNN HFL HID
    go_wp2
    exact HP2.out
end
end Go.Proofs.YtkapnpcolmhdbaaDoor.Nd
