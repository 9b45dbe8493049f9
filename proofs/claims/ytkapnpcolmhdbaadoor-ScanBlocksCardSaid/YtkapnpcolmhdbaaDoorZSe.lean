/- What a law's calls do to an array none of whose usable blocks fails, as plain data. The laws' geometries. An array in a law's hands: its memory, and what the law holds beside it. What the laws begin with: a geometry, a new array. The contract of the laws' awake. Geometries of any numbers: has it the form (the code's, and the document's). The document's Usable, with a sharper post: what it tells lies in a new block. The walk of the law ScanForeign. The walk of the law ScanErrs, over what array(h, nil) tells. The document's array of no happenings. -/
import Derived.Test.YtkapnpcolmhdbaaDoorBack
import Derived.Test.YtkapnpcolmhdbaaDoorZSd
import Derived.Lib.SlBytesConst
import Derived.Test.YtkapnpcolmhdbaaDoorPlans
import Derived.Deep.RegionHeld
import Derived.Deep.CutRange
import Derived.BigQuiet
import Derived.Deep.QuietTactic
namespace Drawbar.Scan
open Go.RowKit
open Drawbar Drawbar.Sheet Drawbar.Nand Go.Proofs.YtkapnpcolmhdbaaDoor.Nd

/-- Nothing is armed, cut or fenced, and no usable block fails. -/
structure Good (s : Arr) (us : List Int) : Prop where
  armed : s.armed = 0
  off : s.off = false
  begun : s.begun = .no
  fence : s.fence = 0
  ok : ∀ i : Nat, (i : Int) ∈ us → i < s.n ∧ (s.b i).doom = 0 ∧ (s.b i).fails = false
def putA (s : Arr) (i : Nat) (p : List Nat) : Arr := { s with b := upd s.b i { s.b i with pages := (s.b i).pages ++ [p] }, ops := wrap64 (s.ops + 1) }
def wipeA (s : Arr) (i : Nat) : Arr := { s with b := upd s.b i { s.b i with pages := [], torn := false, erases := wrap64 ((s.b i).erases + 1) }, ops := wrap64 (s.ops + 1) }
set_option maxRecDepth 100000 in
theorem pad_full {p : List Nat} (h : p.length = 96) : pad p 96 = p := by
  unfold pad
  rw [show ((96 : Int).toNat) = 96 from rfl, List.take_of_length_le (by omega), h]
  simp
set_option maxRecDepth 100000 in
theorem tick_good {b : Blk} (h : b.doom = 0) : b.tick = b := by
  unfold Blk.tick
  cases b
  simp at h
  subst h
  simp
set_option maxRecDepth 100000 in
theorem upd_same' (f : Nat → Blk) (i : Nat) : upd f i (f i) = f := by
  funext j
  unfold upd
  by_cases h : j = i
  · rw [if_pos h, h]
  · rw [if_neg h]
set_option maxRecDepth 100000 in
theorem arr_tick {s : Arr} (h0 : s.armed = 0) {i : Nat} (hd : (s.b i).doom = 0) : s.tick i = { s with ops := wrap64 (s.ops + 1) } := by
  unfold Arr.tick
  rw [tick_good hd, upd_same', h0]
set_option maxRecDepth 100000 in
theorem operate_good {s : Arr} (h0 : s.armed = 0) {i : Nat} (hd : (s.b i).doom = 0) (hf : (s.b i).fails = false) (bg : Begun) (what : Blk → Blk) :
    s.operate i bg what = (0, { s with b := upd s.b i (what (s.b i)), ops := wrap64 (s.ops + 1) }) := by
  have c1 : ¬ s.armed = 1 := by omega
  have c2 : ¬ (s.b i).fails = true := by rw [hf]; simp
  unfold Arr.operate
  rw [if_neg c1, tick_good hd, if_neg c2, arr_tick h0 hd]
set_option maxRecDepth 100000 in
theorem lay_full (b : Blk) {p : List Nat} (h : p.length = 96) : b.lay p 96 = { b with pages := b.pages ++ [p] } := by
  unfold Blk.lay
  rw [if_neg (by omega), pad_full h]
set_option maxRecDepth 100000 in
theorem erase_full {b : Blk} (h : b.fails = false) : b.erase 96 = { b with pages := [], torn := false, erases := wrap64 (b.erases + 1) } := by
  have c2 : ¬ ((96 : Int) < 96 ∨ b.fails = true) := by rw [h]; simp
  unfold Blk.erase
  rw [if_neg (by omega), if_neg c2]
set_option maxRecDepth 100000 in
theorem Good.fields {s s' : Arr} {us : List Int} (h : Good s us) (h1 : s'.armed = s.armed) (h2 : s'.off = s.off) (h3 : s'.begun = s.begun) (h4 : s'.fence = s.fence) (h5 : s'.n = s.n) (h6 : ∀ i, (s'.b i).doom = (s.b i).doom ∧ (s'.b i).fails = (s.b i).fails) : Good s' us :=
  ⟨h1.trans h.armed, h2.trans h.off, h3.trans h.begun, h4.trans h.fence, fun i hi => by have := h.ok i hi; rw [h5, (h6 i).1, (h6 i).2]; exact this⟩
set_option maxRecDepth 100000 in
theorem Good.put {s : Arr} {us : List Int} (h : Good s us) (i : Nat) (p : List Nat) : Good (putA s i p) us :=
  h.fields rfl rfl rfl rfl rfl fun j => by
    unfold putA upd
    dsimp only
    split
    · next e => rw [e]; exact ⟨rfl, rfl⟩
    · exact ⟨rfl, rfl⟩
set_option maxRecDepth 100000 in
theorem Good.wipe {s : Arr} {us : List Int} (h : Good s us) (i : Nat) : Good (wipeA s i) us :=
  h.fields rfl rfl rfl rfl rfl fun j => by
    unfold wipeA upd
    dsimp only
    split
    · next e => rw [e]; exact ⟨rfl, rfl⟩
    · exact ⟨rfl, rfl⟩
set_option maxRecDepth 100000 in
theorem Good.program {s : Arr} {us : List Int} (h : Good s us) {i : Nat} (hi : (i : Int) ∈ us) {p : List Nat} (hp : p.length = 96) (e : Nat) (hl : (s.b i).pages.length < s.pages) (ht : (s.b i).torn = false) (k : Int) (hk : k = (s.b i).pages.length) :
    s.program i k p e = (0, putA s i p) := by
  subst hk
  obtain ⟨h1, h2, h3⟩ := h.ok i hi
  have c1 : ¬ ¬ inB (i : Int) s.n := fun h => h ⟨by omega, by omega⟩
  have c2 : ¬ s.off = true := by rw [h.off]; simp
  have c3 : ¬ ¬ inB ((s.b i).pages.length : Int) s.pages := fun h => h ⟨by omega, by omega⟩
  have c4 : ¬ p.length ≠ 96 := by omega
  have c5 : ¬ (((s.b i).pages.length : Int) ≠ (s.b i).pages.length ∨ (s.b i).torn = true) := fun hh => hh.elim (fun h4 => h4 rfl) (fun h4 => by rw [ht] at h4; cases h4)
  have c6 : ¬ e < s.fence := by rw [h.fence]; omega
  unfold Arr.program
  simp only [Int.toNat_natCast]
  rw [if_neg c1, if_neg c2, if_neg c3, if_neg c4, if_neg c5, if_neg c6, operate_good h.armed h2 h3, lay_full _ hp]
  rfl
set_option maxRecDepth 100000 in
theorem Good.program_no {s : Arr} {us : List Int} (h : Good s us) {i : Nat} (hi : (i : Int) ∈ us) {p : List Nat} (hp : p.length = 96) (e : Nat) (k : Int) (hk : k = (s.b i).pages.length) (hn : s.pages ≤ (s.b i).pages.length ∨ (s.b i).torn = true) :
    ∃ z, s.program i k p e = (z, s) ∧ z ≠ 0 := by
  subst hk
  obtain ⟨h1, h2, h3⟩ := h.ok i hi
  have c1 : ¬ ¬ inB (i : Int) s.n := fun h => h ⟨by omega, by omega⟩
  have c2 : ¬ s.off = true := by rw [h.off]; simp
  have c4 : ¬ p.length ≠ 96 := by omega
  unfold Arr.program
  simp only [Int.toNat_natCast]
  rw [if_neg c1, if_neg c2]
  by_cases hin : inB ((s.b i).pages.length : Int) s.pages
  · have c5 : ((s.b i).pages.length : Int) ≠ (s.b i).pages.length ∨ (s.b i).torn = true := .inr (hn.resolve_left (by have := hin.2; omega))
    rw [if_neg (fun h => h hin), if_neg c4, if_pos c5]
    exact ⟨6, rfl, by omega⟩
  · rw [if_pos hin]
    exact ⟨1, rfl, by omega⟩
set_option maxRecDepth 100000 in
theorem Good.erase {s : Arr} {us : List Int} (h : Good s us) {i : Nat} (hi : (i : Int) ∈ us) (e : Nat) : s.erase i e = (0, wipeA s i) := by
  obtain ⟨h1, h2, h3⟩ := h.ok i hi
  have c1 : ¬ ¬ inB (i : Int) s.n := fun h => h ⟨by omega, by omega⟩
  have c2 : ¬ s.off = true := by rw [h.off]; simp
  have c6 : ¬ e < s.fence := by rw [h.fence]; omega
  unfold Arr.erase
  simp only [Int.toNat_natCast]
  rw [if_neg c1, if_neg c2, if_neg c6, operate_good h.armed h2 h3, erase_full h3]
  rfl
set_option maxRecDepth 100000 in
theorem put_i (s : Arr) (i : Nat) (p : List Nat) : ((putA s i p).b i).pages = (s.b i).pages ++ [p] ∧ ((putA s i p).b i).torn = (s.b i).torn := ⟨by unfold putA; simp only [upd_same], by unfold putA; simp only [upd_same]⟩
set_option maxRecDepth 100000 in
/-- What a block has behind these. -/
theorem blockF_other {m : Int} {s s' : Arr} {j : Nat} (h : s'.b j = s.b j) : blockF m s' j = blockF m s j := by unfold blockF; rw [h]
set_option maxRecDepth 100000 in
theorem foundTo_app (m : Int) (i : Nat) (ps qs : List (List Nat)) (k : Nat) (hk : k ≤ ps.length) : foundTo m i (ps ++ qs) k = foundTo m i ps k := by
  induction k with
  | zero => rfl
  | succ k ih =>
    rw [foundTo, foundTo, ih (by omega)]
    congr 2
    rw [List.getD_eq_getElem?_getD, List.getD_eq_getElem?_getD, List.getElem?_append_left (by omega)]
set_option maxRecDepth 100000 in
theorem blockF_put (m : Int) (s : Arr) (i : Nat) (p : List Nat) (ht : (s.b i).torn = false) : blockF m (putA s i p) i = blockF m s i ++ one m i (s.b i).pages.length p := by
  have c1 : ¬ (s.b i).torn = true := by rw [ht]; simp
  have c2 : ¬ ((putA s i p).b i).torn = true := by rw [(put_i s i p).2]; exact c1
  unfold blockF
  rw [if_neg c1, if_neg c2, (put_i s i p).1, List.length_append, List.length_singleton, foundTo, foundTo_app _ _ _ _ _ (Nat.le_refl _)]
  congr 2
  simp [List.getD_eq_getElem?_getD]
set_option maxRecDepth 100000 in
theorem blockF_wipe (m : Int) (s : Arr) (i : Nat) : blockF m (wipeA s i) i = [] := by
  unfold blockF wipeA
  simp only [upd_same]
  rfl
set_option maxRecDepth 100000 in
theorem put_b (s : Arr) (i j : Nat) (p : List Nat) (h : j ≠ i) : (putA s i p).b j = s.b j := upd_other _ _ _ _ h
set_option maxRecDepth 100000 in
theorem wipe_b (s : Arr) (i j : Nat) (h : j ≠ i) : (wipeA s i).b j = s.b j := upd_other _ _ _ _ h
set_option maxRecDepth 100000 in
theorem blockF_fresh {m : Int} {s : Arr} {j : Nat} (h : (s.b j).pages = []) : blockF m s j = [] := by
  unfold blockF
  rw [h]
  split <;> rfl
set_option maxRecDepth 100000 in
/-- A sheet's page. -/
theorem one_page (m : Int) (i j : Nat) (x : Sh) (hf : fm x = true) (hd : ∀ u ∈ x.da, u < 256) (hk : x.k ≠ 3) (ha : x.ad ≤ m) : one m i j (page x) = [⟨i, j, x⟩] := by
  unfold one adr
  rw [Sheet.read_page hf hd, if_pos ⟨rfl, hk, ha⟩]
set_option maxRecDepth 100000 in
theorem one_none (m : Int) (i j : Nat) (x : Sh) (hf : fm x = true) (hd : ∀ u ∈ x.da, u < 256) (h : x.k = 3 ∨ m < x.ad) : one m i j (page x) = [] := by
  unfold one adr
  rw [Sheet.read_page hf hd, if_neg (fun hh => by rcases h with h | h; exact hh.2.1 h; have := hh.2.2; dsimp only at this; omega)]
set_option maxRecDepth 100000 in
theorem one_raw (m : Int) (i j : Nat) (l : List Nat) (h : l.getD 95 0 ≠ 90) : one m i j l = [] := by
  have hr : readS l = (zeroS, 3) := by
    unfold readS
    exact if_neg fun hh => h hh.2
  unfold one adr
  rw [hr, if_neg (fun hh => by cases hh.1)]
set_option maxRecDepth 100000 in
/-- A new array. -/
theorem good_new (n pages : Nat) (bad : List Nat) (us : List Int) (hu : ∀ i : Nat, (i : Int) ∈ us → i < n ∧ i ∉ bad) : Good (newS n pages bad bad.length) us := by
  refine ⟨rfl, rfl, rfl, rfl, fun i hi => ?_⟩
  obtain ⟨h1, h2⟩ := hu i hi
  unfold newS Arr.new
  dsimp only
  rw [List.take_length, if_neg h2]
  exact ⟨h1, rfl, rfl⟩
set_option maxRecDepth 100000 in
theorem new_b (n pages : Nat) (bad : List Nat) (i : Nat) : ((newS n pages bad bad.length).b i).pages = [] ∧ ((newS n pages bad bad.length).b i).torn = false := by
  unfold newS Arr.new
  dsimp only
  split <;> exact ⟨rfl, rfl⟩
end Drawbar.Scan
namespace Drawbar.Scan
def gb (n : Nat) : Int := 5 + (n : Int) % 5
def gp (n : Nat) : Int := 2 + (n : Int) / 8 % 4
def gB (n : Nat) : List Int := if (n : Int) % 3 = 0 ∧ 5 < gb n then [3] else []
def gs (n : Nat) : Int := if (n : Int) % 4 = 0 ∧ 7 < gb n then 1 else 0
set_option maxRecDepth 100000 in
theorem gB_len (n : Nat) : (gB n).length ≤ 1 := by unfold gB; split <;> simp
def gC (n : Nat) : Int := Plan.cap (gb n) (gp n) (gs n) (gB n)
set_option maxRecDepth 100000 in
theorem geo_all : ((List.range 256).all fun n => Plan.form (gb n) (gp n) (gs n) (gB n) && decide (2 ≤ gC n)) = true := by decide +kernel
set_option maxRecDepth 100000 in
theorem geo_form (n : Nat) (hn : n < 256) : Plan.form (gb n) (gp n) (gs n) (gB n) = true ∧ 2 ≤ gC n := by
  have := List.all_eq_true.1 geo_all n (List.mem_range.2 hn)
  simpa using this
end Drawbar.Scan
namespace Go.Proofs.YtkapnpcolmhdbaaDoor.Sc
open Go.RowKit
open Drawbar Drawbar.Sheet Drawbar.Nand Drawbar.Scan Drawbar.Gm Go.Proofs.YtkapnpcolmhdbaaDoor.Nd

set_option maxRecDepth 100000 in
theorem info_geo : (Tryd.prog.info? 26).map (·.size) = some 4 := by kernel_rfl
/-- The blocks that are bad, in memory. -/
def Bads (w : World) (a : Option Addr) (l : List Int) : Prop := 0 < l.length → ∃ bb, a = some ⟨bb, 0, none⟩ ∧ ∀ j, j < l.length → w.cell? ⟨bb, j, none⟩ = some (.int .i64 (l.getD j 0))
set_option maxRecDepth 100000 in
theorem Bads.below {w w' : World} {a : Option Addr} {l : List Int} (h : Bads w a l) (hb : Below w.heap.size w w') : Bads w' a l := fun h0 => by
  obtain ⟨bb, rfl, hc⟩ := h h0
  exact ⟨bb, rfl, fun j hj => by rw [hb.cell (p := ⟨bb, j, none⟩) (World.block_lt_of_cell? w _ (hc j hj))]; exact hc j hj⟩
set_option maxRecDepth 100000 in
theorem Bads.rd {w : World} {a : Option Addr} {l : List Int} (h : Bads w a l) : Pn.RdI w a l := fun h0 => by
  obtain ⟨bb, rfl, hc⟩ := h h0
  exact ⟨bb, 0, rfl, fun i hi => by rw [Nat.zero_add]; exact hc i hi⟩
def Geos (w : World) (n : Nat) (e : Ending) (w' : World) : Prop := ∃ a c, e = .returned (Pn.geo (gb n) (gp n) (gs n) a (gB n).length c) ∧ Bads w' a (gB n) ∧ Below w.heap.size w w'

set_option maxRecDepth 100000 in
theorem heap2 (w : World) (o1 o2 : Obj) : ((w.alloc o1).alloc o2).heap[w.heap.size]? = some o1 :=
  (((Below.refl _ _).alloc (Nat.le_refl _) o2 : Below (w.alloc o1).heap.size (w.alloc o1) _).block _ (by simp)).trans (heap_alloc_new w o1)
set_option maxRecDepth 100000 in
theorem heap3 (w : World) (o1 o2 o3 : Obj) : (((w.alloc o1).alloc o2).alloc o3).heap[w.heap.size]? = some o1 :=
  ((((Below.refl _ _).alloc (Nat.le_refl _) o2).alloc (by simp) o3 : Below (w.alloc o1).heap.size (w.alloc o1) _).block _ (by simp)).trans (heap_alloc_new w o1)
set_option maxRecDepth 100000 in
theorem geos2 (n : Nat) (w : World) (o1 o2 : Obj) (x y z : Int) (hx : x = gb n) (hy : y = gp n) (hz : z = gs n) (hB : gB n = []) :
    Geos w n (.returned (.agg #[.int .i64 x, .int .i64 y, .int .i64 z, .slice none 0 0])) ((w.alloc o1).alloc o2) := by
  subst hx hy hz
  exact ⟨none, 0, by rw [hB]; rfl, by rw [hB]; exact fun h => absurd h (by simp), ((Below.refl _ _).alloc (Nat.le_refl _) _).alloc (by simp) _⟩
set_option maxRecDepth 100000 in
theorem geos3 (n : Nat) (w : World) (o1 o2 : Obj) (x y z : Int) (hx : x = gb n) (hy : y = gp n) (hz : z = gs n) (hB : gB n = [3]) :
    Geos w n (.returned (.agg #[.int .i64 x, .int .i64 y, .int .i64 z, .slice (some ⟨w.heap.size + 1 + 1, 0, none⟩) 1 1])) (((w.alloc o1).alloc o2).alloc (.cells #[.int .i64 3] 3)) := by
  subst hx hy hz
  refine ⟨_, 1, by rw [hB]; rfl, ?_, (((Below.refl _ _).alloc (Nat.le_refl _) _).alloc (by simp) _).alloc (by simp; omega) _⟩
  rw [hB]
  intro _
  refine ⟨_, rfl, fun j hj => ?_⟩
  obtain rfl : j = 0 := by simp at hj; omega
  have := heap_alloc_new ((w.alloc o1).alloc o2) (.cells #[.int .i64 3] 3)
  unfold World.cell?
  rw [show w.heap.size + 1 + 1 = ((w.alloc o1).alloc o2).heap.size by simp, this]
  rfl
set_option maxRecDepth 100000 in
set_option maxHeartbeats 2000000 in
theorem geometry_any (n : Nat) (hn : n < 256) (w : World) : Calls Tryd.prog 6 #[.int .u8 n] w (Geos w n) := by
  have h0 : (0 : Int) ≤ n := by omega
  have h1 : (n : Int) ≤ 255 := by omega
  go_enter Tryd.func6, Tryd.ntmps6
  go_wp2
  all_goals
    refine bodyPost_ret (results_cell_row rfl _ _ w.heap.size 26 _ (0, 0) _ rfl (by first | exact heap3 _ _ _ _ | exact heap2 _ _ _) Tryd.underlying26 rfl (by exact info_geo)) rfl ?_
    first
      | exact geos3 n w _ _ _ _ _ rfl rfl (by unfold gs gb; first | rw [if_pos (by omega)] | rw [if_neg (by omega)]) (by unfold gB gb; rw [if_pos (by omega)])
      | exact geos2 n w _ _ _ _ _ rfl rfl (by unfold gs gb; first | rw [if_pos (by omega)] | rw [if_neg (by omega)]) (by unfold gB gb; rw [if_neg (by omega)])
end Go.Proofs.YtkapnpcolmhdbaaDoor.Sc
namespace Go.Proofs.YtkapnpcolmhdbaaDoor.Nd
open Go.RowKit
open Drawbar Drawbar.Nand
set_option maxRecDepth 100000 in
/-- A store outside of the array's memory. -/
theorem ArrAt.store {w : World} {F : Nat → Prop} {g : Nat} {s : Arr} (h : ArrAt w F g s) {b o : Nat} (v : Value) (hb : ¬ F b) : ArrAt (w.setCell ⟨b, o, none⟩ v) F g s := by
  have hbd := fun d hd => h.bound d hd
  obtain ⟨hid, R, hbk, rows, pv, bv, h⟩ := h
  exact ⟨hid, R, hbk, rows, pv, bv, h.keep (fun d hd => Below.heap_setCell _ _ _ _ (fun e => hb (by subst e; exact hd))) (fun _ h => h) (fun d hd => by simpa [World.setCell] using hbd d hd)⟩
end Go.Proofs.YtkapnpcolmhdbaaDoor.Nd
namespace Go.Proofs.YtkapnpcolmhdbaaDoor.Sc
open Go.RowKit
open Drawbar Drawbar.Sheet Drawbar.Nand Drawbar.Scan Go.Proofs.YtkapnpcolmhdbaaDoor.Nd
set_option maxRecDepth 100000 in
theorem Tab.low {B : Nat} {w w' : World} (hT : Tab w) (hb : Below B w w') (h0 : 0 < B) : Tab w' := hT.below hb h0
/-- An array of a law's: its memory lies from B on, and holds none of the blocks K. -/
structure Free (B : Nat) (K : List Nat) (w : World) (g : Nat) (s : Arr) : Prop where
  pos : 0 < B
  size : B ≤ w.heap.size
  tab : Tab w
  low : ∀ k, k ∈ K → k < w.heap.size
  arr : ∃ F, ArrAt w F g s ∧ (∀ k, F k → B ≤ k) ∧ ∀ k, k ∈ K → ¬ F k
/-- What a call does: the blocks K stand. -/
structure Did2 (B : Nat) (K : List Nat) (w : World) (g : Nat) (s : Arr) (w' : World) : Prop where
  free : Free B K w' g s
  below : Below B w w'
  keep : ∀ k, k ∈ K → w'.heap[k]? = w.heap[k]?
set_option maxRecDepth 100000 in
theorem Did.two {B : Nat} {K : List Nat} {w w' : World} {g : Nat} {s : Arr} {r : Int × Arr} {e : Ending} {F : Nat → Prop} (h : Free B K w g s) (hF : ∀ k, F k → B ≤ k) (hK : ∀ k, k ∈ K → ¬ F k) (hd : Did w F g r e w') :
    e = .returned (.int .i64 r.1) ∧ Did2 B K w g r.2 w' := by
  obtain ⟨he, ha, hk⟩ := hd
  have hs := hk.size
  have h0 := h.size
  have hB : Below B w w' := hk.toBelow hF h.size
  refine ⟨he, ⟨h.pos, Nat.le_trans h.size hs, Tab.low h.tab hB h.pos, fun k hk2 => Nat.lt_of_lt_of_le (h.low k hk2) hs, _, ha, fun k hk2 => ?_, fun k hk2 hf => ?_⟩, hB, fun k hk2 => hk.block k (h.low k hk2) (hK k hk2)⟩
  · rcases hk2 with h2 | h2
    · exact hF k h2
    · omega
  · have := h.low k hk2
    rcases hf with h2 | h2
    · exact hK k hk2 h2
    · omega
set_option maxRecDepth 100000 in
theorem Free.keep {B : Nat} {K : List Nat} {w w' : World} {g : Nat} {s : Arr} (h : Free B K w g s) (hb : Below w.heap.size w w') : Free B K w' g s := by
  obtain ⟨h0, h1, h2, h3, F, ha, hF, hK⟩ := h
  exact ⟨h0, Nat.le_trans h1 hb.size, h2.below hb h2.pos, fun k hk => Nat.lt_of_lt_of_le (h3 k hk) hb.size, F, ha.keep hb, hF, hK⟩
set_option maxRecDepth 100000 in
/-- One more block that the law holds. -/
theorem Free.more {B : Nat} {K : List Nat} {w w' : World} {g : Nat} {s : Arr} (h : Free B K w g s) (hb : Below w.heap.size w w') (k : Nat) (h1 : w.heap.size ≤ k) (h2 : k < w'.heap.size) : Free B (k :: K) w' g s := by
  have hk := h.keep hb
  obtain ⟨F, ha, hF, hK⟩ := h.arr
  refine ⟨hk.pos, hk.size, hk.tab, fun j hj => ?_, F, ha.keep hb, hF, fun j hj => ?_⟩
  · rcases List.mem_cons.1 hj with rfl | hj
    · exact h2
    · exact hk.low j hj
  · rcases List.mem_cons.1 hj with rfl | hj
    · exact fun hf => by have := ha.bound j hf; omega
    · exact hK j hj
set_option maxRecDepth 100000 in
theorem Free.drop {B k : Nat} {K : List Nat} {w : World} {g : Nat} {s : Arr} (h : Free B (k :: K) w g s) : Free B K w g s := by
  obtain ⟨h0, h1, h2, h3, F, ha, hF, hK⟩ := h
  exact ⟨h0, h1, h2, fun j hj => h3 j (List.mem_cons_of_mem _ hj), F, ha, hF, fun j hj => hK j (List.mem_cons_of_mem _ hj)⟩
set_option maxRecDepth 100000 in
/-- A store into a block that the law holds. -/
theorem Free.store {B : Nat} {K : List Nat} {w : World} {g : Nat} {s : Arr} (h : Free B K w g s) {b o : Nat} (v : Value) (hb : b ∈ K) (hB : B ≤ b) : Free B K (w.setCell ⟨b, o, none⟩ v) g s := by
  obtain ⟨h0, h1, h2, h3, F, ha, hF, hK⟩ := h
  have hsz : (w.setCell ⟨b, o, none⟩ v).heap.size = w.heap.size := by simp [World.setCell]
  exact ⟨h0, by rw [hsz]; exact h1, Tab.low h2 (one_below w b o v hB) h0, fun k hk => by rw [hsz]; exact h3 k hk, F, ha.store v (hK b hb), hF, hK⟩

set_option maxRecDepth 100000 in
theorem restart_f {B : Nat} {K : List Nat} {w : World} {g : Nat} {s : Arr} (h : Free B K w g s) (cut : Int) :
    Calls Tryd.prog 26 #[.pointer (some ⟨g, 0, none⟩), .int .i64 cut] w (fun e w' => e = .returned (.int .i64 0) ∧ Did2 B K w g (s.restart cut) w') := by
  obtain ⟨F, ha, hF, hK⟩ := h.arr
  exact (restart_at ha cut).mono fun e w' hd => Did.two h hF hK hd
set_option maxRecDepth 100000 in
theorem arm_f {B : Nat} {K : List Nat} {w : World} {g : Nat} {s : Arr} (h : Free B K w g s) (n : Nat) (hn : n ≤ 9223372036854775807) :
    Calls Tryd.prog 25 #[.pointer (some ⟨g, 0, none⟩), .int .i64 n] w (fun e w' => e = .returned (.int .i64 0) ∧ Did2 B K w g { s with armed := n } w') := by
  obtain ⟨F, ha, hF, hK⟩ := h.arr
  have e : s.arm n = (0, { s with armed := n }) := by
    unfold Arr.arm
    rw [if_neg (by omega), Int.toNat_natCast]
  have hc := arm_at ha n (by omega)
  rw [e] at hc
  exact hc.mono fun e w' hd => Did.two h hF hK hd
set_option maxRecDepth 100000 in
theorem program_f {B : Nat} {K : List Nat} {w : World} {g : Nat} {s : Arr} (h : Free B K w g s) (i page : Int) (l : List Nat) (a : Option Addr) (cap epoch : Nat) (hr : Rd w a l) (n : Nat) (hn : l.length = n) :
    Calls Tryd.prog 16 #[.pointer (some ⟨g, 0, none⟩), .int .i64 i, .int .i64 page, .slice a n cap, .int .u64 epoch] w (fun e w' => e = .returned (.int .i64 (s.program i page l epoch).1) ∧ Did2 B K w g (s.program i page l epoch).2 w') := by
  obtain ⟨F, ha, hF, hK⟩ := h.arr
  exact (program_at ha i page l a cap epoch hr n hn).mono fun e w' hd => Did.two h hF hK hd
set_option maxRecDepth 100000 in
theorem erase_f {B : Nat} {K : List Nat} {w : World} {g : Nat} {s : Arr} (h : Free B K w g s) (i : Int) (epoch : Nat) :
    Calls Tryd.prog 23 #[.pointer (some ⟨g, 0, none⟩), .int .i64 i, .int .u64 epoch] w (fun e w' => e = .returned (.int .i64 (s.erase i epoch).1) ∧ Did2 B K w g (s.erase i epoch).2 w') := by
  obtain ⟨F, ha, hF, hK⟩ := h.arr
  exact (erase_at ha i epoch).mono fun e w' hd => Did.two h hF hK hd
end Go.Proofs.YtkapnpcolmhdbaaDoor.Sc
namespace Go.Proofs.YtkapnpcolmhdbaaDoor.Sc
open Go.RowKit
open Drawbar Drawbar.Sheet Drawbar.Nand Drawbar.Scan Drawbar.Gm Go.Proofs.YtkapnpcolmhdbaaDoor.Nd

def Yes (w : World) (e : Ending) (w' : World) : Prop := e = .returned (.bool true) ∧ Below w.heap.size w w'
def gBn (n : Nat) : List Nat := (gB n).map Int.toNat
def gN (n : Nat) : Nat := 5 + n % 5
def gP (n : Nat) : Nat := 2 + n / 8 % 4
set_option maxRecDepth 100000 in
theorem gb_eq (n : Nat) : gb n = (gN n : Nat) := by unfold gb gN; omega
set_option maxRecDepth 100000 in
theorem gp_eq (n : Nat) : gp n = (gP n : Nat) := by unfold gp gP; omega
def gus (n : Nat) : List Int := usb (gb n) (gB n)
def gCn (n : Nat) : Nat := (gC n).toNat
def S0 (n : Nat) : Arr := newS (gN n) (gP n) (gBn n) (gBn n).length
set_option maxRecDepth 100000 in
theorem gC_eq (n : Nat) (hn : n < 256) : gC n = (gCn n : Nat) ∧ 2 ≤ gCn n := by
  have := (geo_form n hn).2
  unfold gCn
  omega
set_option maxRecDepth 100000 in
theorem gN_le (n : Nat) : 5 ≤ gN n ∧ gN n ≤ 9 := by unfold gN; omega
set_option maxRecDepth 100000 in
theorem gP_le (n : Nat) : 2 ≤ gP n ∧ gP n ≤ 5 := by unfold gP; omega
set_option maxRecDepth 100000 in
theorem gB_cases (n : Nat) : gB n = [] ∨ (gB n = [3] ∧ 6 ≤ gN n) := by
  unfold gB gb
  split
  · next h => exact .inr ⟨rfl, by unfold gN; omega⟩
  · exact .inl rfl
set_option maxRecDepth 100000 in
theorem gus_mem (n : Nat) (i : Int) : i ∈ gus n ↔ 2 ≤ i ∧ i < gN n ∧ i ∉ gB n := by
  have h1 := gN_le n
  unfold gus usb
  rw [Plan.mem_us, gb_eq]
  unfold Plan.kk
  constructor <;> rintro ⟨a, b, c⟩ <;> exact ⟨a, by omega, c⟩
set_option maxRecDepth 100000 in
theorem gus_rng (n : Nat) (i : Int) (h : i ∈ gus n) : 2 ≤ i ∧ i < gN n := ⟨((gus_mem n i).1 h).1, ((gus_mem n i).1 h).2.1⟩
set_option maxRecDepth 100000 in
theorem gus_nodup (n : Nat) : (gus n).Nodup := us_nodup _ _
set_option maxRecDepth 100000 in
theorem gus_len : ∀ n, n < 256 → 3 ≤ (gus n).length ∧ (gus n).length ≤ 7 := by
  have h : ((List.range 256).all fun n => decide (3 ≤ (gus n).length) && decide ((gus n).length ≤ 7)) = true := by decide +kernel
  intro n hn
  have := List.all_eq_true.1 h n (List.mem_range.2 hn)
  simpa using this
set_option maxRecDepth 100000 in
theorem good_S0 (n : Nat) : Scan.Good (S0 n) (gus n) := good_new _ _ _ _ fun i hi => by
  have h := (gus_mem n i).1 hi
  refine ⟨by omega, fun hb => ?_⟩
  unfold gBn at hb
  obtain ⟨x, hx, rfl⟩ := List.mem_map.1 hb
  rcases gB_cases n with e | ⟨e, _⟩
  · rw [e] at hx; cases hx
  · rw [e] at hx
    obtain rfl := List.mem_singleton.1 hx
    exact h.2.2 (by rw [e]; simp)
set_option maxRecDepth 100000 in
theorem S0_b (n i : Nat) : ((S0 n).b i).pages = [] ∧ ((S0 n).b i).torn = false := new_b _ _ _ _
set_option maxRecDepth 100000 in
theorem S0_n (n : Nat) : (S0 n).n = gN n ∧ (S0 n).pages = gP n := ⟨rfl, rfl⟩

set_option maxRecDepth 100000 in
theorem geom_of {w : World} {s : Arr} {n : Nat} (hn : n < 256) {a : Option Addr} (hB : Bads w a (gB n)) (h1 : s.n = gN n) (h2 : s.pages = gP n) : Geom w s (gb n) (gp n) (gs n) (gB n) a (gCn n) where
  rd := hB.rd
  len := Nat.le_trans (gB_len n) (by omega)
  small := ⟨by have := gN_le n; rw [gb_eq]; omega, by have := gP_le n; rw [gp_eq]; omega, by unfold gs; split <;> omega⟩
  form := (geo_form n hn).1
  cap := (gC_eq n hn).1
  n := by rw [h1, gb_eq]
  pages := by rw [h2, gp_eq]

set_option maxRecDepth 100000 in
theorem new_geo (n : Nat) (w : World) (hT : Tab w) (a : Option Addr) (c : Nat) (hB : Bads w a (gB n)) :
    Calls Tryd.prog 15 #[.int .i64 (gb n), .int .i64 (gp n), .slice a (gB n).length c] w (fun e w' => ∃ g, e = .returned (.tuple #[.pointer (some ⟨g, 0, none⟩), .int .i64 0]) ∧ Free w.heap.size [] w' g (S0 n) ∧ Below w.heap.size w w') := by
  have h1 := gN_le n
  have h2 := gP_le n
  have hl : (gBn n).length = (gB n).length := by unfold gBn; rw [List.length_map]
  have h := Nd.new_any (gN n) (gP n) (gBn n) a c w (by omega) (by omega) (by omega) (by omega) (fun x hx => by
    unfold gBn at hx
    obtain ⟨y, hy, rfl⟩ := List.mem_map.1 hx
    rcases gB_cases n with e | ⟨e, h6⟩
    · rw [e] at hy; cases hy
    · rw [e] at hy; obtain rfl := List.mem_singleton.1 hy; omega) (by have := gB_len n; omega) (fun h0 => by
    rw [hl] at h0
    obtain ⟨bb, rfl, hc⟩ := hB h0
    refine ⟨bb, rfl, fun j hj => ?_⟩
    rw [hl] at hj
    rw [hc j hj]
    rcases gB_cases n with e | ⟨e, h6⟩
    · rw [e] at hj; exact absurd hj (by simp)
    · unfold gBn
      rw [e] at hj ⊢
      obtain rfl : j = 0 := by simp at hj; omega
      rfl)
  rw [hl, ← gb_eq, ← gp_eq] at h
  refine h.mono ?_
  rintro e w' ⟨g, he, ha, hb⟩
  rw [← hl] at ha
  exact ⟨g, he, ⟨hT.pos, hb.size, hT.below hb hT.pos, (fun k hk => by cases hk), _, ha, (fun k hk => hk.1), (fun k hk => by cases hk)⟩, hb⟩
end Go.Proofs.YtkapnpcolmhdbaaDoor.Sc
namespace Drawbar.Scan
open Go.RowKit
open Drawbar Drawbar.Sheet Drawbar.Nand Go.Proofs.YtkapnpcolmhdbaaDoor.Nd
set_option maxRecDepth 100000 in
theorem held_two {m : Int} {s : Arr} {us : List Int} {a b : Int} {r : List Int} (h : us = a :: b :: r) (hr : ∀ i ∈ r, blockF m s i.toNat = []) : heldI m s us = blockF m s a.toNat ++ blockF m s b.toNat := by
  subst h
  unfold heldI
  rw [List.flatMap_cons, List.flatMap_cons]
  have : r.flatMap (fun i => blockF m s i.toNat) = [] := List.flatMap_eq_nil_iff.2 hr
  rw [this, List.append_nil]
set_option maxRecDepth 100000 in
theorem of_neg (L : List Fnd) : of (-1) L = [] := of_none fun x _ => by omega
set_option maxRecDepth 100000 in
theorem spoilt_plain {L : List Fnd} (h : ∀ x ∈ L, x.s.fr = -1) (i : Int) : spoilt L i = false := by
  cases ho : of i L with
  | nil => exact spoilt_nil ho
  | cons y r =>
    rw [spoilt_cons ho, ho, List.all_cons]
    have hy : y ∈ L := (mem_of.1 (by rw [ho]; simp : y ∈ of i L)).1
    rw [h y hy]
    unfold okS stands
    rw [of_neg]
    simp
set_option maxRecDepth 100000 in
theorem takeS_none {us : List Int} {L : List Fnd} (h : ∀ i, spoilt L i = false) : takeS us L = ([], L) := by
  induction us with
  | nil => rfl
  | cons i us ih => rw [takeS_no (h i), ih]
set_option maxRecDepth 100000 in
theorem best_one (x : Fnd) (a : Int) : best [x] a = if x.s.ad = a then some x else none := rfl
end Drawbar.Scan
namespace Go.Proofs.YtkapnpcolmhdbaaDoor.Sc
open Go.RowKit
open Drawbar Drawbar.Sheet Drawbar.Nand Drawbar.Scan Drawbar.Gm Go.Proofs.YtkapnpcolmhdbaaDoor.Nd

def xA : Sh := ⟨1, 0, 7, 1, -1, [120]⟩
set_option maxRecDepth 100000 in
theorem xA_fm : fm xA = true := by decide
set_option maxRecDepth 100000 in
theorem xA_lt : ∀ u ∈ xA.da, u < 256 := by decide
def sA : Arr := putA (S0 1) 2 (page xA)
set_option maxRecDepth 100000 in
theorem sA_program : (S0 1).program 2 0 (page xA) 0 = (0, sA) := (good_S0 1).program (i := 2) (by decide +kernel) (page_length xA (by decide)) 0 (by rw [(S0_b 1 2).1, (S0_n 1).2]; decide) (S0_b 1 2).2 0 (by rw [(S0_b 1 2).1]; rfl)
set_option maxRecDepth 100000 in
theorem held_sA : heldI 4 sA (gus 1) = [⟨2, 0, xA⟩] := by
  rw [held_two (a := 2) (b := 3) (r := [4, 5]) (by decide +kernel) (fun i hi => by
    have : i.toNat ≠ 2 := by simp at hi; omega
    exact (blockF_other (put_b (S0 1) 2 i.toNat (page xA) this)).trans (blockF_fresh (S0_b 1 _).1))]
  rw [show ((2 : Int).toNat) = 2 from rfl, show ((3 : Int).toNat) = 3 from rfl]
  unfold sA
  rw [blockF_put _ _ _ _ (S0_b 1 2).2, blockF_other (put_b _ _ _ _ (by omega)), blockF_fresh (S0_b 1 2).1, blockF_fresh (S0_b 1 3).1, (S0_b 1 2).1, one_page _ _ _ _ xA_fm xA_lt (by decide) (by decide)]
  rfl
set_option maxRecDepth 100000 in
theorem take_sA : takeS (gus 1) [(⟨2, 0, xA⟩ : Fnd)] = ([], [⟨2, 0, xA⟩]) := takeS_none (spoilt_plain (by simp [xA]))

set_option maxRecDepth 100000 in
theorem len_sA : (whereS 4 sA.n (best [(⟨2, 0, xA⟩ : Fnd)])).len = 1 := by decide
set_option maxRecDepth 100000 in
theorem keys_of {w : World} {b n : Nat} {pg : Int → Option Fnd} (h : PagesAt w b n pg) (l : List Int) (hl : l.Nodup) (hm : ∀ a, a ∈ l ↔ (pg a).isSome = true) (ty : TypeId) : (Builtin.len_ #[52] ty #[.map (some b)]).run Tryd.prog w = .ok (.int .i64 l.length) w := by
  obtain ⟨f, h1, h2, h3⟩ := h
  refine h1.len Tryd.underlying3 Tryd.underlying52 l hl (fun a => ?_) ty
  rw [hm]
  cases hp : pg a with
  | none => rw [h2 a hp]; exact Iff.rfl
  | some x => obtain ⟨av, cv, h4, _⟩ := h3 a x hp; rw [h4]; rfl
set_option maxRecDepth 100000 in
theorem page_of {w : World} {b n : Nat} {pg : Int → Option Fnd} (h : PagesAt w b n pg) (a : Int) (ha : (Lit.int .i64 a).wf = true) (x : Fnd) (hx : pg a = some x) :
    ∃ av cv, (Instr.lookup 52 (.map (some b)) (.int .i64 a) false).run Tryd.prog w = .ok (fv x av cv) w ∧ DaAt w (.slice av x.s.da.length cv) x.s.da := by
  obtain ⟨f, h1, h2, h3⟩ := h
  obtain ⟨av, cv, h4, h5⟩ := h3 a x hx
  have := h1.look Tryd.underlying3 Tryd.underlying52 (zero_found w) a ha
  rw [h4] at this
  exact ⟨av, cv, this, h5⟩
set_option maxRecDepth 100000 in
theorem field_s (v0 v1 v2 v3 v4 v5 v6 v7 : Value) (w : World) : (Instr.field 46 (.agg #[v0, v1, v2, v3, v4, v5, v6, v7]) 1).run Tryd.prog w = .ok (.agg #[v2, v3, v4, v5, v6, v7]) w := by kernel_rfl
set_option maxRecDepth 100000 in
theorem field_da (v0 v1 v2 v3 v4 : Value) (a : Option Addr) (n c : Nat) (w : World) : (Instr.field 44 (.agg #[v0, v1, v2, v3, v4, .slice a n c]) 5).run Tryd.prog w = .ok (.slice a n c) w := by kernel_rfl
set_option maxRecDepth 100000 in
theorem field_at (v0 v1 v2 v3 v4 v5 v6 v7 : Value) (w : World) : (Instr.field 46 (.agg #[v0, v1, v2, v3, v4, v5, v6, v7]) 0).run Tryd.prog w = .ok (.agg #[v0, v1]) w := by kernel_rfl
set_option maxRecDepth 100000 in
theorem field_sq (v0 v1 v3 v4 v5 : Value) (q : IntKind) (n : Int) (w : World) : (Instr.field 44 (.agg #[v0, v1, .int q n, v3, v4, v5]) 2).run Tryd.prog w = .ok (.int q n) w := by kernel_rfl
set_option maxRecDepth 100000 in
set_option maxHeartbeats 4000000 in
theorem awake_any (w : World) (hT : Tab w) : Calls Tryd.prog 5 #[] w (Yes w) := by
  have kc := fun (w : World) (C : Array Value) (n c : Nat) => Lib.run_convert_bytes_const (P := Tryd.prog) w 42 5 C n c Tryd.underlying42 Tryd.underlying5
  have hG : Calls Tryd.prog 6 #[.int .u8 1] w (Geos w 1) := geometry_any 1 (by omega) w
  have e1 : gb 1 = 6 := rfl
  have e2 : gp 1 = 2 := rfl
  have e3 : gs 1 = 0 := rfl
  have e4 : gB 1 = [] := rfl
  have hN := fun W (hb : Below w.heap.size w W) a c (hB : Bads W a (gB 1)) => new_geo 1 W (hT.below hb hT.pos) a c hB
  unfold Geos at hG
  unfold Pn.geo at hG
  rw [e1, e2, e3, e4] at hG
  rw [e1, e2, e4] at hN
  simp only [List.length_nil] at hG hN
  have HG := Lib.hid hG
  have HN := Lib.hid hN
  have HT := Lib.hid hT
  clear hG hN hT e1 e2 e3 e4
  go_enter Tryd.func5, Tryd.ntmps5
  go_wp2_with fail
  (with_reducible refine HG.out.mono ?_)
  rintro e w1 ⟨a, c, rfl, hB, hb1⟩
  obtain ⟨w2, hw2⟩ : ∃ w2, w2 = w1.alloc (.cells #[.int .i64 6, .int .i64 2, .int .i64 0, .slice a 0 c] 26) := ⟨_, rfl⟩
  have hb12 : Below w1.heap.size w1 w2 := by rw [hw2]; exact (Below.refl _ _).alloc (Nat.le_refl _) _
  have HNN := Lib.hid (HN.out w2 (hb1.trans (hb12.mono hb1.size)) a c (hB.below hb12))
  rw [hw2] at HNN
  have HB := Lib.hid (And.intro hw2 (And.intro hb1 (And.intro hb12 hB)))
  clear hB hb1 hb12 hw2
  go_wp2_with fail
  (with_reducible refine HNN.out.mono ?_)
  rintro e w3 ⟨g, rfl, hF, hb3⟩
  rw [← HB.out.1] at hF hb3
  have hB3 : Below w.heap.size w w3 := HB.out.2.1.trans ((HB.out.2.2.1.mono HB.out.2.1.size).trans (hb3.mono (Nat.le_trans HB.out.2.1.size HB.out.2.2.1.size)))
  have hlt2 : w1.heap.size < w2.heap.size := by rw [HB.out.1]; simp
  have hgeo : w3.heap[w1.heap.size]? = some (.cells #[.int .i64 6, .int .i64 2, .int .i64 0, .slice a 0 c] 26) := (hb3.block _ hlt2).trans (by rw [HB.out.1]; exact heap_alloc_new _ _)
  obtain ⟨w4, hw4⟩ : ∃ w4, w4 = w3.alloc (.cells #[.int .u8 120] 5 (1, 2)) := ⟨_, rfl⟩
  have hb34 : Below w3.heap.size w3 w4 := by rw [hw4]; exact (Below.refl _ _).alloc (Nat.le_refl _) _
  have hrd : Rd w4 (some ⟨w3.heap.size, 0, none⟩) [120] := ⟨by simp, by simp, fun _ => ⟨_, 0, rfl, fun i hi => by
    obtain rfl : i = 0 := by simp at hi; omega
    rw [hw4]
    unfold World.cell?
    rw [heap_alloc_new]
    rfl⟩⟩
  have HL := Lib.hid (show Calls Tryd.prog 17 #[.agg #[.int .u8 1, .int .u64 0, .int .u64 7, .int .i64 1, .int .i64 (-1), .slice (some ⟨w3.heap.size, 0, none⟩) 1 1]] w4 (Gives w4 (page xA) 96) from lay_gives xA _ 1 w4 xA_fm hrd (by decide) (fun h => by cases h) (HT.out.below (hB3.trans (hb34.mono hB3.size)) HT.out.pos))
  have HF := Lib.hid (And.intro hF (And.intro hB3 (And.intro hgeo hb34)))
  rw [hw4] at HL
  have HW4 := Lib.hid hw4
  clear hF hB3 hgeo hb34 hw4 hrd hb3 hlt2
  go_wp2_with fail
  (with_reducible refine HL.out.mono ?_)
  rintro e w5 ⟨a5, k5, rfl, hk5, hr5, hb5, -⟩
  rw [← HW4.out] at hb5
  obtain ⟨hF3, hB3, hgeo, hb34⟩ := HF.out
  have hb35 := hb34.trans (hb5.mono hb34.size)
  have hP := program_f (hF3.keep hb35) 2 0 (page xA) a5 k5 0 hr5 96 (page_length xA (by decide))
  rw [sA_program] at hP
  have HP := Lib.hid (show Calls Tryd.prog 16 #[.pointer (some ⟨g, 0, none⟩), .int .i64 2, .int .i64 0, .slice a5 96 k5, .int .u64 0] w5 (fun e w' => e = .returned (.int .i64 0) ∧ Did2 w2.heap.size [] w5 g sA w') from hP)
  have hglt : w1.heap.size < w3.heap.size := (Array.getElem?_eq_some_iff.1 hgeo).1
  have hB2 : w1.heap.size < w2.heap.size := by rw [HB.out.1]; simp
  have hgeo5 := (hb35.block _ hglt).trans hgeo
  have HF5 := Lib.hid (And.intro hgeo5 (And.intro (hB3.trans (hb35.mono hB3.size)) (And.intro (Nat.lt_of_lt_of_le hglt hb35.size) hB2)))
  clear hP hF3 hB3 hgeo hb34 hb35 hgeo5 hglt hb5 hr5 hk5 hB2
  go_wp2_with fail
  (with_reducible refine HP.out.mono ?_)
  rintro e w6 ⟨rfl, hD6⟩
  obtain ⟨hgeo5, hB5, hglt5, hB2⟩ := HF5.out
  have hb6 := hD6.below
  have hgeo6 := (hb6.block _ hB2).trans hgeo5
  have hwlt : w.heap.size ≤ w2.heap.size := Nat.le_trans HB.out.2.1.size HB.out.2.2.1.size
  have hB6 := hB5.trans (hb6.mono hwlt)
  obtain ⟨F, hA, -, -⟩ := hD6.free.arr
  have hgm : Geom w6 sA 6 2 0 [] a 4 := geom_of (n := 1) (by omega) (s := sA) (fun h => absurd h (by decide)) rfl rfl
  have hAll := all_on (c := c) hA hgm rfl hD6.free.tab (by show (heldI 4 sA (gus 1)).length ≤ _; rw [held_sA]; decide)
  rw [show usb 6 [] = gus 1 from rfl, show ((4 : Nat) : Int) = 4 from rfl, held_sA] at hAll
  unfold Pn.geo AllOk at hAll
  rw [take_sA, show most [(⟨2, 0, xA⟩ : Fnd)] = 7 from rfl] at hAll
  simp only [List.length_nil] at hAll
  have HA := Lib.hid hAll
  obtain ⟨⟨t0, t1, t2, t3⟩, -⟩ := four_cells hgeo6
  have HB6 := Lib.hid hB6
  clear hAll hgm hA hgeo5 hB5 hglt5 hB2 hb6 hgeo6 hwlt hB6 hD6
  go_wp2_with fail
  (with_reducible refine HA.out.mono ?_)
  rintro e w7 ⟨g0, pb0, cb0, pb, N, sa, sc, rfl, hM, hP, hR, hb7⟩
  obtain ⟨w8, hw8⟩ : ∃ w8, w8 = w7.alloc (.cells #[.pointer (some ⟨g0, 0, none⟩), .map (some pb), .int .u64 7, .slice sa 0 sc] 54) := ⟨_, rfl⟩
  have hbs : Below w7.heap.size w7 w8 := by rw [hw8]; exact (Below.refl _ _).alloc (Nat.le_refl _) _
  have hP8 := hP.below hbs
  have hlen : (Builtin.len_ #[52] 3 #[.map (some pb)]).run Tryd.prog w8 = .ok (.int .i64 1) w8 := keys_of hP8 [1] (by simp) (fun a => by
    rw [best_one]
    show a ∈ [1] ↔ (if (1 : Int) = a then _ else none : Option Fnd).isSome = true
    by_cases e : (1 : Int) = a
    · rw [if_pos e]; simp [e]
    · rw [if_neg e]; simp; omega) 3
  obtain ⟨av, cv, hlk, hda⟩ := page_of hP8 1 (wf_of (by omega) (by omega)) ⟨2, 0, xA⟩ rfl
  obtain ⟨a9, c9, he9, hr9, -, -⟩ := hda
  cases he9
  have hlk : (Instr.lookup 52 (.map (some pb)) (.int .i64 1) false).run Tryd.prog w8 = .ok (.agg #[.int .i64 2, .int .i64 0, .int .u8 1, .int .u64 0, .int .u64 7, .int .i64 1, .int .i64 (-1), .slice av 1 cv]) w8 := hlk
  have hcv : (convert 42 9 (.slice av 1 cv)).run Tryd.prog w8 = .ok (.string { data := #[120] }) w8 := conv_str _ _ _ cv hr9
  have hML := Pm.len_any (hM.below hbs)
  rw [len_sA] at hML
  have HML := Lib.hid (show Calls Tryd.prog 13 #[.pointer (some ⟨g0, 0, none⟩)] w8 (fun e w' => e = .returned (.int .i64 1) ∧ w8 = w') from hML)
  have HBF := Lib.hid (HB6.out.trans ((hb7.trans (hbs.mono hb7.size)).mono HB6.out.size))
  rw [hw8] at hlen hlk hcv HML
  have hf1 := fun (w : World) => field_s (.int .i64 2) (.int .i64 0) (.int .u8 1) (.int .u64 0) (.int .u64 7) (.int .i64 1) (.int .i64 (-1)) (.slice av 1 cv) w
  have hf2 := fun (w : World) => field_da (.int .u8 1) (.int .u64 0) (.int .u64 7) (.int .i64 1) (.int .i64 (-1)) av 1 cv w
  clear hM hP hR hb7 hbs hP8 hr9 hML
  go_wp2_with fail
  (with_reducible refine HML.out.mono ?_)
  rintro e w9 ⟨rfl, rfl⟩
  go_wp2
  go_ret
  exact ⟨rfl, by rw [← hw8]; exact HBF.out⟩
end Go.Proofs.YtkapnpcolmhdbaaDoor.Sc
namespace Go.Proofs.YtkapnpcolmhdbaaDoor.Sc
open Go.RowKit
open Drawbar Drawbar.Sheet Drawbar.Nand Drawbar.Scan Drawbar.Gm Go.Proofs.YtkapnpcolmhdbaaDoor.Nd
/-- The three ranges of a geometry. -/
def rng (b p s : Int) : Prop := 4 ≤ b ∧ b ≤ 64 ∧ 2 ≤ p ∧ p ≤ 32 ∧ 0 ≤ s ∧ s ≤ 8
set_option maxRecDepth 100000 in
theorem form_rng {b p s : Int} {B : List Int} (h : ¬ rng b p s) : Plan.form b p s B = false := by
  unfold Plan.form
  exact decide_eq_false fun k => h ⟨k.1, k.2.1, k.2.2.1, k.2.2.2.1, k.2.2.2.2.1, k.2.2.2.2.2.1⟩
set_option maxRecDepth 100000 in
theorem small_rng {b p s : Int} (h : rng b p s) : Plan.Small b p s := by unfold rng at h; exact ⟨by omega, by omega, by omega⟩
set_option maxRecDepth 100000 in
theorem form_no (b p s : Int) (a : Option Addr) (n c : Nat) (w : World) (h : ¬ rng b p s) :
    Calls Tryd.prog 64 #[Pn.geo b p s a n c] w fun e w' => e = .returned (.bool false) ∧ Below w.heap.size w w' := by
  have hbx : Below w.heap.size w (w.alloc (Pn.boxed b p s a n c)) := (Below.refl _ _).alloc (Nat.le_refl _) _
  obtain ⟨q0, q1, q2, q3⟩ := Pn.boxed_cells w b p s a n c _ (Below.refl _ _)
  have hw1 := fun W => Pn.within_any b 4 64 W
  have hw2 := fun W => Pn.within_any p 2 32 W
  have hw3 := fun W => Pn.within_any s 0 8 W
  have hd : (decide (4 ≤ b ∧ b ≤ 64) && decide (2 ≤ p ∧ p ≤ 32) && decide (0 ≤ s ∧ s ≤ 8)) = false := by
    rw [Bool.eq_false_iff]
    intro k
    simp only [Bool.and_eq_true, decide_eq_true_eq] at k
    exact h ⟨k.1.1.1, k.1.1.2, k.1.2.1, k.1.2.2, k.2.1, k.2.2⟩
  unfold Pn.geo
  generalize decide (4 ≤ b ∧ b ≤ 64) = d1 at *
  generalize decide (2 ≤ p ∧ p ≤ 32) = d2 at *
  generalize decide (0 ≤ s ∧ s ≤ 8) = d3 at *
  have H1 := Lib.hid hw1
  have H2 := Lib.hid hw2
  have H3 := Lib.hid hw3
  have HF := Lib.hid hbx
  clear hw1 hw2 hw3 hbx h
  cases d1
  · clear hd
    go_enter Tryd.func64, Tryd.ntmps64
    go_wp2_with (go_at_call 79; first | ((with_reducible refine (H1.out _).mono ?_); rintro e w1 ⟨rfl, rfl⟩))
    go_ret
    exact ⟨rfl, HF.out⟩
  cases d2
  · clear hd
    go_enter Tryd.func64, Tryd.ntmps64
    go_wp2_with (go_at_call 79; first | ((with_reducible refine (H1.out _).mono ?_); rintro e w1 ⟨rfl, rfl⟩) | ((with_reducible refine (H2.out _).mono ?_); rintro e w1 ⟨rfl, rfl⟩))
    go_ret
    exact ⟨rfl, HF.out⟩
  cases d3
  · clear hd
    go_enter Tryd.func64, Tryd.ntmps64
    go_wp2_with (go_at_call 79; first | ((with_reducible refine (H1.out _).mono ?_); rintro e w1 ⟨rfl, rfl⟩) | ((with_reducible refine (H2.out _).mono ?_); rintro e w1 ⟨rfl, rfl⟩) | ((with_reducible refine (H3.out _).mono ?_); rintro e w1 ⟨rfl, rfl⟩))
    go_ret
    exact ⟨rfl, HF.out⟩
  cases hd
set_option maxRecDepth 100000 in
/-- A geometry of any numbers. -/
theorem form_gen (b p s : Int) (B : List Int) (a : Option Addr) (c : Nat) (w : World) (h : Pn.RdI w a B) (hB : B.length ≤ 1000) :
    Calls Tryd.prog 64 #[Pn.geo b p s a B.length c] w fun e w' => e = .returned (.bool (Plan.form b p s B)) ∧ Below w.heap.size w w' := by
  by_cases hr : rng b p s
  · exact Pn.form_any b p s B a c w h hB (small_rng hr)
  · rw [form_rng hr]; exact form_no b p s a B.length c w hr
set_option maxRecDepth 100000 in
/-- All, of an array that isn't off and holds little, and a geometry of any numbers: OK just if it is its own. -/
theorem all_gen {w : World} {F : Nat → Prop} {g : Nat} {ar : Arr} (hA : ArrAt w F g ar) (b p s : Int) (B : List Int) (a : Option Addr) (c : Nat) (h : Pn.RdI w a B) (hB : B.length ≤ 1000) (hoff : ar.off = false) (hT : Tab w) (hl9 : ∀ C, (heldI C ar (usb b B)).length ≤ 100000) :
    Calls Tryd.prog 11 #[.pointer (some ⟨g, 0, none⟩), Pn.geo b p s a B.length c] w fun e w' => ∃ (x0 : Option Addr) (x1 : Option Nat) (x2 : Nat) (x3 : Option Addr) (x4 x5 : Nat), e = .returned (.tuple #[.agg #[.pointer x0, .map x1, .int .u64 x2, .slice x3 x4 x5], .int .i64 (if Plan.form b p s B = true ∧ (ar.n : Int) = b ∧ (ar.pages : Int) = p then 0 else 1)]) ∧ Below w.heap.size w w' := by
  by_cases hc : Plan.form b p s B = true ∧ (ar.n : Int) = b ∧ (ar.pages : Int) = p
  · rw [if_pos hc]
    obtain ⟨h1, h2, h3⟩ := hc
    have hr : rng b p s := by
      by_cases hr : rng b p s
      · exact hr
      · rw [form_rng hr] at h1; cases h1
    have hcap : Plan.cap b p s B = (Plan.cap b p s B).toNat := by
      have : 0 < Plan.cap b p s B := by unfold Plan.form at h1; exact (of_decide_eq_true h1).2.2.2.2.2.2.2
      omega
    have hgm : Geom w ar b p s B a (Plan.cap b p s B).toNat := ⟨h, hB, small_rng hr, h1, hcap, h2, h3⟩
    exact (all_on (c := c) hA hgm hoff hT (hl9 _)).mono fun e w' ⟨g0, pb0, cb0, pb, N, a', c', he, _, _, _, hb⟩ => ⟨_, _, _, _, _, _, he, hb⟩
  · rw [if_neg hc]
    have hbx : Below w.heap.size w ((w.alloc (Pn.boxed b p s a B.length c)).alloc zst) := ((Below.refl _ _).alloc (Nat.le_refl _) _).alloc (by simp) _
    have hF := fits_any (hA.keep hbx) b p s a B.length c (Plan.form b p s B) (fun W hb => form_gen b p s B a c W ((h.below hbx).below hb) hB)
    rw [if_neg hc] at hF
    exact (all_early 1 (.inr rfl) hF).mono fun e w' ⟨he, hb⟩ => ⟨none, none, 0, none, 0, 0, he, hb⟩
set_option maxRecDepth 100000 in
/-- An operation at which the power is cut. -/
theorem erase_cut {s : Arr} (i : Nat) (hi : i < s.n) (hoff : s.off = false) (hf : s.fence = 0) (ha : s.armed = 1) (e : Nat) : (s.erase i e).2.off = true ∧ (s.erase i e).2.n = s.n ∧ (s.erase i e).2.pages = s.pages := by
  have c1 : ¬ ¬ inB (i : Int) s.n := fun h => h ⟨by omega, by omega⟩
  have c2 : ¬ s.off = true := by rw [hoff]; simp
  have c6 : ¬ e < s.fence := by rw [hf]; omega
  unfold Arr.erase
  rw [if_neg c1, if_neg c2, if_neg c6]
  unfold Arr.operate
  rw [if_pos ha]
  exact ⟨rfl, rfl, rfl⟩
end Go.Proofs.YtkapnpcolmhdbaaDoor.Sc
namespace Go.Proofs.YtkapnpcolmhdbaaDoor.Pn
open Go.RowKit
open Drawbar Drawbar.Plan
def NewIntsF (w : World) (l : List Int) (e : Ending) (w' : World) : Prop := ∃ a c, e = .returned (.slice a l.length c) ∧ RdI w' a l ∧ Below w.heap.size w w' ∧ ∀ k, a = some k → w.heap.size ≤ k.block ∧ k.block < w'.heap.size
set_option maxRecDepth 100000 in
set_option maxHeartbeats 2000000 in
theorem refusable_fr (b p s : Int) (B : List Int) (a : Option Addr) (c : Nat) (w : World) (h : RdI w a B) (hB : B.length ≤ 1000) (hb64 : b ≤ 64) :
    Calls Tryd.prog 19 #[geo b p s a B.length c] w (NewIntsF w (us B (kk b))) := by
  obtain ⟨i0, hi, hz0, hz1, hz2⟩ := info_parts info_int
  have hK := kk_le b
  have hlt := kk_lt b
  rw [show min b 64 = b by omega] at hlt
  unfold geo
  generalize hq : kk b = q at hK hlt
  go_enter Tryd.func19, Tryd.ntmps19
  go_wp2
  go_loopw [3, 4, 5, 6] (fun v i _ _ wr => ∃ k : Nat, k ≤ q ∧ i = .int .i64 ((k : Int) + 2) ∧ Below (w.heap.size + 1) (w.alloc (.cells #[.int .i64 b, .int .i64 p, .int .i64 s, .slice a B.length c] 26)) wr ∧ wr.ownsRow (w.heap.size + 1) 3 1 v (us B k).length ((us B k).map iv)) (fun _ i _ _ _ => q + 2 - (intOf i).toNat)
  case atStart => exact ⟨0, Nat.zero_le _, rfl, Below.refl _ _, World.ownsRow_nil _ _ _ 1⟩
  case round =>
    obtain ⟨k, hk, rfl, hb, hown⟩ := hrel
    have hb1 : Below (w.alloc (.cells #[.int .i64 b, .int .i64 p, .int .i64 s, .slice a B.length c] 26)).heap.size (w.alloc (.cells #[.int .i64 b, .int .i64 p, .int .i64 s, .slice a B.length c] 26)) wr := by simpa using hb
    have hR := (h.alloc (.cells #[.int .i64 b, .int .i64 p, .int .i64 s, .slice a B.length c] 26)).below hb1
    have g0 : wr.cell? ⟨w.heap.size, 0, none⟩ = some (.int .i64 b) := by rw [hb1.cell (by simp)]; simp
    have g3 : wr.cell? ⟨w.heap.size, 3, none⟩ = some (.slice a B.length c) := by rw [hb1.cell (by simp)]; simp
    have hl1 : (us B k).length ≤ k := us_length B k
    clear h
    by_cases hlt2 : k < q
    · have i1 : (k : Int) + 2 < b := (hlt k).2 hlt2
      have i2 : k < 62 := by omega
      clear hlt
      go_wp2
      go_loop [5, 6] (fun v i => ∃ m : Nat, m ≤ B.length ∧ i = .int .i64 m ∧ v = .bool (decide (((k : Int) + 2) ∈ B.take m))) (fun _ i => B.length - (intOf i).toNat)
      case atStart => exact ⟨0, Nat.zero_le _, rfl, by simp⟩
      case round =>
        obtain ⟨m, hm, rfl, rfl⟩ := hrel
        by_cases hlt3 : m < B.length
        · obtain ⟨bb, off, rfl, hc⟩ := hR (by omega)
          have h1 := hc m hlt3
          have ht : B.take (m + 1) = B.take m ++ [B.getD m 0] := by
            rw [List.take_succ_eq_append_getElem hlt3, List.getD_eq_getElem?_getD, List.getElem?_eq_getElem hlt3]; rfl
          have i3 : (m : Int) < (B.length : Int) := by omega
          have hD : (((k : Int) + 2) ∈ B.take (m + 1)) ↔ (((k : Int) + 2) ∈ B.take m) ∨ B.getD m 0 = (k : Int) + 2 := by rw [ht]; simp [eq_comm]
          generalize B.getD m 0 = y at h1 hD
          clear hc hR ht
          by_cases hin : ((k : Int) + 2) ∈ B.take m
          · have hd : decide (((k : Int) + 2) ∈ B.take m) = true := decide_eq_true hin
            have hd2 := Lib.hid (show decide (((k : Int) + 2) ∈ B.take (m + 1)) = true from decide_eq_true (hD.2 (.inl hin)))
            clear hin hD
            go_wp2
            go_round
            case rel => exact ⟨m + 1, by omega, by go_num, by rw [hd2.out]⟩
            case measure => simp [intOf]; omega
          · have hd : decide (((k : Int) + 2) ∈ B.take m) = false := decide_eq_false hin
            have hd2 := Lib.hid (show decide (((k : Int) + 2) ∈ B.take (m + 1)) = (y == (k : Int) + 2) by
              rw [Bool.eq_iff_iff]; simp only [decide_eq_true_eq, beq_iff_eq, hD, hin, false_or])
            clear hin hD
            go_wp2
            all_goals
              go_round
              case rel => exact ⟨m + 1, by omega, by go_num, by rw [hd2.out]⟩
              case measure => simp [intOf]; omega
        · have i3 : ¬ (m : Int) < (B.length : Int) := by omega
          have hBm : B.take m = B := List.take_of_length_le (by omega)
          by_cases hmm : ((k : Int) + 2) ∈ B
          · have hu : us B (k + 1) = us B k := by show us B k ++ _ = _; rw [if_pos hmm, List.append_nil]
            have hd : decide (((k : Int) + 2) ∈ B.take m) = true := decide_eq_true (by rw [hBm]; exact hmm)
            have HU := Lib.hid hu
            clear hu hmm hBm hR
            go_wp2
            go_roundw
            case rel => exact ⟨k + 1, by omega, by go_num, hb, by rw [HU.out]; exact hown⟩
            case measure => simp [intOf]; omega
          · have hu : us B (k + 1) = us B k ++ [(k : Int) + 2] := by show us B k ++ _ = _; rw [if_neg hmm]
            have hd : decide (((k : Int) + 2) ∈ B.take m) = false := decide_eq_false (by rw [hBm]; exact hmm)
            have hsz := hb.size
            have HU := Lib.hid hu
            clear hu hmm hBm hR
            go_wp2_with (at_builtin; refine wpList_append_ownz rfl (.tmp 32) (.tmp 34) 24 rfl (w.heap.size + 1) 3 i0 (.int .i64 0) 1 8 Tryd.underlying24 hi hz0 hz1 hz2 rfl (by decide) _ (us B k).length ((us B k).map iv) rfl (hown.alloc _) (some ⟨wr.heap.size, 0, none⟩) 1 1 [iv ((k : Int) + 2)] rfl (fun h => by cases h) rfl (At.one wr _ _) (by simp [Value.oneCell', iv]) (by unfold maxLen; omega) (by omega) (by simp at hsz ⊢; omega) ?_; intro v6 w6 hown6 hb6)
            go_roundw
            case rel =>
              refine ⟨k + 1, by omega, by go_num, hb.trans (((Below.refl _ _).alloc (by simpa using hsz) _).trans hb6), ?_⟩
              rw [HU.out, List.map_append, List.length_append]
              exact hown6
            case measure => simp [intOf]; omega
    · have i1 : ¬ (k : Int) + 2 < b := fun h => hlt2 ((hlt k).1 h)
      obtain rfl : k = q := by omega
      obtain ⟨a2, c2, rfl⟩ := shape_int hown
      clear hlt
      go_wp2
      go_ret
      exact ⟨a2, c2, rfl, rdI_of_own hown, ((Below.refl _ _).alloc (Nat.le_refl _) _).trans (hb.mono (Nat.le_succ _)), fun k hk => by have := hown.lt k.block (by rw [hk]; rfl); omega⟩
end Go.Proofs.YtkapnpcolmhdbaaDoor.Pn
namespace Drawbar.Scan
open Go.RowKit
open Drawbar Drawbar.Sheet Drawbar.Nand Go.Proofs.YtkapnpcolmhdbaaDoor.Nd Go.Proofs.YtkapnpcolmhdbaaDoor.Sc
def x5 (k : Nat) : Sh := ⟨1, 0, 5, k, -1, []⟩
def x9 : Sh := ⟨3, 9, 9, 0, -1, []⟩
set_option maxRecDepth 100000 in
theorem x5_fm (k : Nat) (h : k ≤ 65535) : fm (x5 k) = true := by
  unfold fm x5
  simp
  omega
set_option maxRecDepth 100000 in
theorem x9_fm : fm x9 = true := by decide
set_option maxRecDepth 100000 in
/-- The first two usable blocks. -/
theorem gus_two (n : Nat) (hn : n < 256) : ∃ (a b : Nat) (r : List Int), gus n = (a : Int) :: (b : Int) :: r ∧ a ≠ b ∧ (∀ i ∈ r, i.toNat ≠ a ∧ i.toNat ≠ b) ∧ a < gN n ∧ b < gN n ∧ a < 64 ∧ b < 64 := by
  have hl := (gus_len n hn).1
  have hr := gus_rng n
  have hnd := gus_nodup n
  have h9 := gN_le n
  generalize gus n = u at *
  match u, hl, hr, hnd with
  | a :: b :: r, _, hr, hnd =>
    have ha := hr a (by simp)
    have hb := hr b (by simp)
    obtain ⟨h1, h2⟩ := List.nodup_cons.1 hnd
    obtain ⟨h3, _⟩ := List.nodup_cons.1 h2
    refine ⟨a.toNat, b.toNat, r, by rw [Int.toNat_of_nonneg (by omega), Int.toNat_of_nonneg (by omega)], fun e => h1 (by rw [show a = b by omega]; simp), fun i hi => ?_, by omega, by omega, by omega, by omega⟩
    have := hr i (by simp [hi])
    exact ⟨fun e => h1 (by rw [show a = i by omega]; simp [hi]), fun e => h3 (by rw [show b = i by omega]; exact hi)⟩
set_option maxRecDepth 100000 in
theorem most_one (x : Fnd) : most [x] = x.s.sq := by simp [most]
end Drawbar.Scan
namespace Go.Proofs.YtkapnpcolmhdbaaDoor.Sc
open Go.RowKit
open Drawbar Drawbar.Sheet Drawbar.Nand Drawbar.Scan Drawbar.Gm Go.Proofs.YtkapnpcolmhdbaaDoor.Nd

section
variable {n a b : Nat} {r : List Int} {q : List Nat} {k : Nat}
def s1 (n a : Nat) (q : List Nat) : Arr := putA (S0 n) a q
def s2 (n a : Nat) (q : List Nat) (k : Nat) : Arr := putA (s1 n a q) a (page (x5 k))
def s3 (n a b : Nat) (q : List Nat) (k : Nat) : Arr := putA (s2 n a q k) b (page x9)
set_option maxRecDepth 100000 in
theorem f_one (hu : gus n = (a : Int) :: (b : Int) :: r) (hq : q.length = 96) : (S0 n).program a 0 q 0 = (0, s1 n a q) :=
  (good_S0 n).program (i := a) (by rw [hu]; simp) hq 0 (by rw [(S0_b n a).1, (S0_n n).2]; have := gP_le n; simp; omega) (S0_b n a).2 0 (by rw [(S0_b n a).1]; rfl)
set_option maxRecDepth 100000 in
theorem f_two (hu : gus n = (a : Int) :: (b : Int) :: r) : (s1 n a q).program a 1 (page (x5 k)) 0 = (0, s2 n a q k) :=
  ((good_S0 n).put a q).program (i := a) (by rw [hu]; simp) (page_length _ (by simp [x5])) 0 (by rw [(put_i _ _ _).1, (S0_b n a).1]; have := gP_le n; show 1 < gP n; omega) (by rw [(put_i _ _ _).2]; exact (S0_b n a).2) 1 (by rw [(put_i _ _ _).1, (S0_b n a).1]; rfl)
set_option maxRecDepth 100000 in
theorem f_three (hu : gus n = (a : Int) :: (b : Int) :: r) (hab : a ≠ b) : (s2 n a q k).program b 0 (page x9) 0 = (0, s3 n a b q k) := by
  have e1 : (s2 n a q k).b b = (S0 n).b b := (put_b _ _ _ _ hab.symm).trans (put_b _ _ _ _ hab.symm)
  exact (((good_S0 n).put a q).put a _).program (i := b) (by rw [hu]; simp) (page_length _ (by simp [x9])) 0 (by
    show ((s2 n a q k).b b).pages.length < gP n
    rw [e1, (S0_b n b).1]; have := gP_le n; simp; omega) (by
    show ((s2 n a q k).b b).torn = false
    rw [e1]; exact (S0_b n b).2) 0 (by
    show (0 : Int) = ((s2 n a q k).b b).pages.length
    rw [e1, (S0_b n b).1]; rfl)
set_option maxRecDepth 100000 in
theorem f_held (hu : gus n = (a : Int) :: (b : Int) :: r) (hab : a ≠ b) (hr : ∀ i ∈ r, i.toNat ≠ a ∧ i.toNat ≠ b) (hq : q.getD 95 0 ≠ 90) (hk : k ≤ 65535) (C : Nat) :
    heldI C (s3 n a b q k) (gus n) = if k ≤ C then [⟨a, 1, x5 k⟩] else [] := by
  have e1 : ∀ i, i ≠ b → (s3 n a b q k).b i = (s2 n a q k).b i := fun i hi => put_b _ _ _ _ hi
  have e2 : ∀ i, i ≠ a → (s2 n a q k).b i = (S0 n).b i := fun i hi => (put_b _ _ _ _ hi).trans (put_b _ _ _ _ hi)
  rw [held_two hu fun i hi => (blockF_other ((e1 _ (hr i hi).2).trans (e2 _ (hr i hi).1))).trans (blockF_fresh (S0_b n _).1)]
  rw [Int.toNat_natCast, Int.toNat_natCast]
  have hb : blockF C (s3 n a b q k) b = [] := by
    have h := blockF_put C (s2 n a q k) b (page x9) (by rw [e2 b hab.symm]; exact (S0_b n b).2)
    rw [blockF_other (e2 b hab.symm), blockF_fresh (S0_b n b).1, one_none C b _ x9 x9_fm (by simp [x9]) (.inl rfl), List.append_nil] at h
    exact h
  have ha : blockF C (s3 n a b q k) a = one C a 1 (page (x5 k)) := by
    have t1 : ((s1 n a q).b a).torn = false := (put_i (S0 n) a q).2.trans (S0_b n a).2
    have p1 : ((s1 n a q).b a).pages = [q] := (put_i (S0 n) a q).1.trans (by rw [(S0_b n a).1]; rfl)
    have h1 := blockF_put C (S0 n) a q (S0_b n a).2
    rw [blockF_fresh (S0_b n a).1, one_raw C a _ q hq] at h1
    rw [List.append_nil] at h1
    change blockF C (s1 n a q) a = [] at h1
    have h2 := blockF_put C (s1 n a q) a (page (x5 k)) t1
    rw [h1, p1, List.nil_append, List.length_singleton] at h2
    exact (blockF_other (e1 a hab)).trans h2
  rw [ha, hb, List.append_nil]
  split
  · exact one_page _ _ _ _ (x5_fm k hk) (by simp [x5]) (by simp [x5]) (by simp [x5]; omega)
  · exact one_none _ _ _ _ (x5_fm k hk) (by simp [x5]) (.inr (by simp [x5]; omega))
end
end Go.Proofs.YtkapnpcolmhdbaaDoor.Sc
namespace Go.Proofs.YtkapnpcolmhdbaaDoor.Sc
open Go.RowKit
open Drawbar Drawbar.Sheet Drawbar.Nand Drawbar.Scan Drawbar.Gm Go.Proofs.YtkapnpcolmhdbaaDoor.Nd
set_option maxRecDepth 100000 in
theorem two_gus : ∀ n, n < 256 → (2 : Int) ∈ gus n := by
  have h : ((List.range 256).all fun n => decide ((2 : Int) ∈ gus n)) = true := by decide +kernel
  intro n hn
  exact of_decide_eq_true (List.all_eq_true.1 h n (List.mem_range.2 hn))
set_option maxRecDepth 100000 in
theorem held_S0 (C : Int) (n : Nat) (us : List Int) : heldI C (S0 n) us = [] := by
  unfold heldI
  rw [List.flatMap_eq_nil_iff]
  exact fun i _ => blockF_fresh (S0_b n _).1
def xE : Sh := ⟨1, 0, 0, 0, -1, []⟩
set_option maxRecDepth 100000 in
theorem xE_fm : fm xE = true := by decide
def sE (n : Nat) : Arr := putA (S0 n) 2 (page xE)
set_option maxRecDepth 100000 in
theorem sE_prog (n : Nat) (hn : n < 256) : (S0 n).program 2 0 (page xE) 0 = (0, sE n) :=
  (good_S0 n).program (i := 2) (two_gus n hn) (page_length _ (by simp [xE])) 0 (by rw [(S0_b n 2).1]; have := gP_le n; show 0 < gP n; omega) (S0_b n 2).2 0 (by rw [(S0_b n 2).1]; rfl)
set_option maxRecDepth 100000 in
theorem sE_cut (n : Nat) (hn : n < 256) : ({ sE n with armed := 1 }.erase 2 0).2.off = true ∧ ({ sE n with armed := 1 }.erase 2 0).2.n = gN n ∧ ({ sE n with armed := 1 }.erase 2 0).2.pages = gP n := by
  have hg := (good_S0 n).put 2 (page xE)
  exact erase_cut (s := { sE n with armed := 1 }) 2 (by have := (gus_rng n 2 (two_gus n hn)).2; show 2 < gN n; omega) hg.off hg.fence rfl 0
/-- What the law's array tells of no happenings. -/
def ArrNil (n : Nat) : Prop := ∀ W ga gc, Tab W → Bads W ga (gB n) → Calls Tryd.prog 7 #[.agg #[.int .i64 (gb n), .int .i64 (gp n), .int .i64 (gs n), .slice ga (gB n).length gc], .slice none 0 0] W
  fun e w' => ∃ g oa ol oc, e = .returned (.tuple #[.pointer (some ⟨g, 0, none⟩), .slice oa ol oc]) ∧ Free W.heap.size [] w' g (S0 n) ∧ Below W.heap.size W w'
end Go.Proofs.YtkapnpcolmhdbaaDoor.Sc
namespace Go.Proofs.YtkapnpcolmhdbaaDoor.Sc
open Go.RowKit
open Drawbar Drawbar.Sheet Drawbar.Nand Drawbar.Scan Drawbar.Gm Go.Proofs.YtkapnpcolmhdbaaDoor.Nd
set_option maxRecDepth 100000 in
theorem info_rb : (Tryd.prog.info? 76).map (fun i => (i.zero, i.size, i.bytes)) = some (some (.agg #[.slice none 0 0, .int .i64 0, .bool false, .bool false, .bool false, .int .i64 0]), 6, 48) := by kernel_rfl
def zrb : Array Value := #[Value.slice none 0 0, .int .i64 0, .bool false, .bool false, .bool false, .int .i64 0]
set_option maxRecDepth 100000 in
theorem made_rb (n i k : Nat) (hi : i < n) (hk : k < 6) (v : Value) (h : zrb[k]? = some v) : (madeCells #[Value.slice none 0 0, .int .i64 0, .bool false, .bool false, .bool false, .int .i64 0] (n * 6)).toList[i * 6 + k]? = some v := by
  have hlt : i * 6 + k < n * 6 := by omega
  unfold madeCells
  have hm : (i * 6 + k) % 6 = k := by omega
  simp [hlt, hm]
  match k, hk, h with
  | 0, _, h => simpa [zrb] using h
  | 1, _, h => simpa [zrb] using h
  | 2, _, h => simpa [zrb] using h
  | 3, _, h => simpa [zrb] using h
  | 4, _, h => simpa [zrb] using h
  | 5, _, h => simpa [zrb] using h
/-- A row of the document's blocks, as far as it is read. -/
def Row0 (w : World) (rb N : Nat) : Prop :=
  (∀ i, i < N → w.cell? ⟨rb, i * 6, none⟩ = some (.slice none 0 0) ∧ w.cell? ⟨rb, i * 6 + 2, none⟩ = some (.bool false) ∧ (∃ v, w.cell? ⟨rb, i * 6 + 3, none⟩ = some v) ∧ ∃ v, w.cell? ⟨rb, i * 6 + 4, none⟩ = some v) ∧ ∀ o, w.frozen? ⟨rb, o, none⟩ = false
set_option maxRecDepth 100000 in
theorem some_set {w : World} {p q : Addr} {x v : Value} (h : w.cell? q = some v) : ∃ v', (w.setCell p x).cell? q = some v' := by
  by_cases e : p = q
  · subst e; exact ⟨x, World.cell?_setCell_same w p x h⟩
  · exact ⟨v, (World.cell?_setCell_other w p q x e).trans h⟩
set_option maxRecDepth 100000 in
theorem Row0.set {w : World} {rb N : Nat} (h : Row0 w rb N) (i k : Nat) (hk : k = 3 ∨ k = 4) (x : Value) : Row0 (w.setCell ⟨rb, i * 6 + k, none⟩ x) rb N := by
  refine ⟨fun j hj => ?_, fun o => by rw [World.frozen?_setCell]; exact h.2 o⟩
  obtain ⟨h0, h2, ⟨v3, h3⟩, v4, h4⟩ := h.1 j hj
  refine ⟨?_, ?_, some_set h3, some_set h4⟩
  · exact (World.cell?_setCell_other w _ _ x (fun e => by injection e with _ e2 _; omega)).trans h0
  · exact (World.cell?_setCell_other w _ _ x (fun e => by injection e with _ e2 _; omega)).trans h2
set_option maxRecDepth 100000 in
theorem Row0.keep {w w' : World} {rb N : Nat} (h : Row0 w rb N) (e : w'.heap[rb]? = w.heap[rb]?) : Row0 w' rb N := by
  refine ⟨fun j hj => ?_, fun o => (World.frozen?_of_block (w := w) (w' := w') (a := ⟨rb, o, none⟩) e).trans (h.2 o)⟩
  obtain ⟨h0, h2, ⟨v3, h3⟩, v4, h4⟩ := h.1 j hj
  exact ⟨(World.cell?_of_block (a := ⟨rb, _, none⟩) e).trans h0, (World.cell?_of_block (a := ⟨rb, _, none⟩) e).trans h2, ⟨v3, (World.cell?_of_block (a := ⟨rb, _, none⟩) e).trans h3⟩, v4, (World.cell?_of_block (a := ⟨rb, _, none⟩) e).trans h4⟩
/-- What the document's New makes. -/
def NewM (w : World) (N : Nat) (e : Ending) (w' : World) : Prop :=
  ∃ m rb, e = .returned (.tuple #[.pointer (some ⟨m, 0, none⟩), .int .i64 0]) ∧ Row0 w' rb N ∧ w'.cell? ⟨m, 0, none⟩ = some (.slice (some ⟨rb, 0, none⟩) N N) ∧ Below w.heap.size w w'
set_option maxRecDepth 100000 in
set_option maxHeartbeats 4000000 in
theorem refnew_any (N P : Nat) (B : List Int) (a : Option Addr) (c : Nat) (w : World) (h1 : 0 < N) (h2 : N ≤ 64) (h3 : 0 < P) (h4 : P ≤ 32) (hB : B = [] ∨ (B = [3] ∧ 3 < N)) (hr : Pn.RdI w a B) :
    Calls Tryd.prog 18 #[.int .i64 N, .int .i64 P, .slice a B.length c] w (NewM w N) := by
  obtain ⟨i0, hi0, hz0, hz1, hz2⟩ := info_parts info_rb
  have hn1 : (1 : Int) ≤ N ∧ (N : Int) ≤ 64 := by omega
  have hn2 : (1 : Int) ≤ P ∧ (P : Int) ≤ 32 := by omega
  have HR := Lib.hid hr
  have HBB := Lib.hid hB
  have hl1 : B.length ≤ 1 := by rcases hB with rfl | ⟨rfl, -⟩ <;> simp
  clear hr hB
  go_enter Tryd.func18, Tryd.ntmps18
  go_wp2_with (at_make; refine wpList_make_full _ rfl _ _ 77 rfl w.heap.size 76 i0 (.agg #[Value.slice none 0 0, .int .i64 0, .bool false, .bool false, .bool false, .int .i64 0]) 6 Tryd.underlying77 hi0 hz0 hz1 .i64 .i64 N N N rfl rfl rfl rfl ?c1 ?c2 (Nat.le_refl _) ?_)
  case c1 => rw [hz2]; omega
  case c2 => unfold maxLen; omega
  intro w1 hown hgr
  have hrow : Row0 w1 w.heap.size N := ⟨fun i hi => ⟨(hown.cellAt (i * 6) (by omega)).trans (made_rb N i 0 hi (by omega) _ rfl), (hown.cellAt (i * 6 + 2) (by omega)).trans (made_rb N i 2 hi (by omega) _ rfl), ⟨_, (hown.cellAt (i * 6 + 3) (by omega)).trans (made_rb N i 3 hi (by omega) _ rfl)⟩, _, (hown.cellAt (i * 6 + 4) (by omega)).trans (made_rb N i 4 hi (by omega) _ rfl)⟩, fun o => hown.frozenAt o⟩
  have hB1 : Below w.heap.size w w1 := (Below.refl _ _).grown hgr (Nat.le_refl _) (fun k hk => by cases hk)
  have hsz : w.heap.size < w1.heap.size := (hown.lt _ rfl).2
  have H1 := Lib.hid (And.intro hrow (And.intro hB1 hsz))
  clear hown hgr hi0 hz0 hz1 hz2 hrow hB1
  obtain ⟨w2, hw2⟩ : ∃ w2, w2 = w1.alloc (.cells #[.slice (some ⟨w.heap.size, 0, none⟩) N N, .int .i64 P, .int .u64 0, .int .i64 0, .int .i64 0, .bool false, .int .i64 0, .int .i64 (-1), .string { data := #[] }] 79) := ⟨_, rfl⟩
  have hb12 : Below w1.heap.size w1 w2 := by rw [hw2]; exact (Below.refl _ _).alloc (Nat.le_refl _) _
  have hm2 : w2.cell? ⟨w1.heap.size, 0, none⟩ = some (.slice (some ⟨w.heap.size, 0, none⟩) N N) := by rw [hw2]; unfold World.cell?; rw [heap_alloc_new]; rfl
  have H2 := Lib.hid (And.intro (H1.out.1.keep (hb12.block _ H1.out.2.2)) (And.intro hm2 (H1.out.2.1.trans (hb12.mono H1.out.2.1.size))))
  have HW2 := Lib.hid hw2
  clear hw2 hb12 hm2
  go_wp2_with fail
  rw [← HW2.out]
  go_loopw [9] (fun iv wr => ∃ j : Nat, j ≤ B.length ∧ iv = .int .i64 j ∧ Row0 wr w.heap.size N ∧ wr.cell? ⟨w1.heap.size, 0, none⟩ = some (.slice (some ⟨w.heap.size, 0, none⟩) N N) ∧ Below w.heap.size w wr) (fun iv _ => B.length - (intOf iv).toNat)
  case atStart => exact ⟨0, Nat.zero_le _, rfl, H2.out⟩
  case round =>
    obtain ⟨j, hj, rfl, hrow, hm, hb⟩ := hrel
    by_cases hjl : j < B.length
    · have hjl2 : (j : Int) < (B.length : Int) := by omega
      obtain ⟨hB3, hN3⟩ : B = [3] ∧ 3 < N := by
        rcases HBB.out with h | h
        · rw [h] at hjl; simp at hjl
        · exact h
      have hj0 : j = 0 := by omega
      have hg3 : B.getD j 0 = 3 := by rw [hB3, hj0]; rfl
      obtain ⟨ab, ao, rfl, hcell⟩ := HR.out (by omega)
      have hq0 := hcell j hjl
      rw [hg3] at hq0
      have hq : wr.cell? ⟨ab, ao + j, none⟩ = some (.int .i64 3) := (hb.cell (p := ⟨ab, ao + j, none⟩) (World.block_lt_of_cell? w _ hq0)).trans hq0
      have hab : ab < w.heap.size := World.block_lt_of_cell? w _ hq0
      have hJ0 := Lib.hid hj0
      clear hB3 hg3 hj0
      obtain ⟨-, -, ⟨v3, h3⟩, v4, h4⟩ := hrow.1 3 hN3
      have hN3i : (3 : Int) < (N : Int) := by omega
      have hR1 := hrow.set 3 3 (.inl rfl) (.bool true)
      have hR2 := hR1.set 3 4 (.inr rfl) (.bool true)
      have hf := hrow.2
      have HRW := Lib.hid (And.intro hR1 hR2)
      have hd : w1.heap.size ≠ w.heap.size := by have := H1.out.2.2; omega
      have hq1 := (World.cell?_setCell_far wr ⟨w.heap.size, 21, none⟩ ⟨ab, ao + j, none⟩ (.bool true) (by show w.heap.size ≠ ab; omega)).trans hq
      have hm1 := (World.cell?_setCell_far wr ⟨w.heap.size, 21, none⟩ ⟨w1.heap.size, 0, none⟩ (.bool true) (by show w.heap.size ≠ w1.heap.size; omega)).trans hm
      have hf1 : wr.frozen? ⟨w.heap.size, 21, none⟩ = false := hf 21
      have hB1 := hb.setCell (p := ⟨w.heap.size, 21, none⟩) (Nat.le_refl _) (.bool true)
      have hK := And.intro (hR1.keep (w' := (wr.setCell ⟨w.heap.size, 21, none⟩ (.bool true)).drew) rfl) (And.intro (show (wr.setCell ⟨w.heap.size, 21, none⟩ (.bool true)).drew.cell? ⟨w1.heap.size, 0, none⟩ = _ from hm1) (And.intro (show (wr.setCell ⟨w.heap.size, 21, none⟩ (.bool true)).drew.cell? ⟨ab, ao + j, none⟩ = _ from hq1) hB1.drew))
      have HK := Lib.hid hK
      have hs0 := And.intro hm hq
      clear hR1 hR2 hcell hq0 hf hB1 hK HRW hrow hb h4
      go_upto_region 9 with fail
      go_cut [] from 48 to 57 (fun wx => Row0 wx w.heap.size N ∧ wx.cell? ⟨w1.heap.size, 0, none⟩ = some (.slice (some ⟨w.heap.size, 0, none⟩) N N) ∧ wx.cell? ⟨ab, ao + j, none⟩ = some (.int .i64 3) ∧ Below w.heap.size w wx)
      case first =>
        go_region_held (fun W => W.cell? ⟨w1.heap.size, 0, none⟩ = some (.slice (some ⟨w.heap.size, 0, none⟩) N N) ∧ W.cell? ⟨ab, ao + j, none⟩ = some (.int .i64 3)) (first | exact hs0 | exact And.intro hm1 hq1) (first | fail)
        all_goals
          go_wp2_with fail
          go_meet
          exact HK.out
      case rest =>
        obtain ⟨hR3, hm3, hq3, hb3⟩ := hcut
        obtain ⟨-, -, -, v4', h4'⟩ := hR3.1 3 hN3
        have hq4 := (World.cell?_setCell_far wc ⟨w.heap.size, 22, none⟩ ⟨ab, ao + j, none⟩ (.bool true) (by show w.heap.size ≠ ab; omega)).trans hq3
        have hm4 := (World.cell?_setCell_far wc ⟨w.heap.size, 22, none⟩ ⟨w1.heap.size, 0, none⟩ (.bool true) (by show w.heap.size ≠ w1.heap.size; omega)).trans hm3
        have hf4 : wc.frozen? ⟨w.heap.size, 22, none⟩ = false := hR3.2 22
        have hB4 := hb3.setCell (p := ⟨w.heap.size, 22, none⟩) (Nat.le_refl _) (.bool true)
        have hR4 := hR3.set 3 4 (.inr rfl) (.bool true)
        have hs3 := And.intro hm3 hq3
        have HK4 := Lib.hid (And.intro (hR4.keep (w' := (wc.setCell ⟨w.heap.size, 22, none⟩ (.bool true)).drew) rfl) (And.intro (show (wc.setCell ⟨w.heap.size, 22, none⟩ (.bool true)).drew.cell? ⟨w1.heap.size, 0, none⟩ = _ from hm4) hB4.drew))
        clear hR3 hR4 hB4 hb3 hs0 hm1 hq1 hf1 hm hq h3
        go_wp2_with fail
        go_region_held (fun W => W.cell? ⟨w1.heap.size, 0, none⟩ = some (.slice (some ⟨w.heap.size, 0, none⟩) N N) ∧ W.cell? ⟨ab, ao + j, none⟩ = some (.int .i64 3)) (first | exact hs3 | exact And.intro hm4 hq4) (first | fail)
        all_goals
          go_wp2_with fail
          go_roundw
          case rel => exact ⟨j + 1, by omega, by go_num, HK4.out⟩
          case measure => simp [intOf]; omega
    · obtain rfl : j = B.length := by omega
      have hjl2 : ¬ ((B.length : Int) < (B.length : Int)) := by omega
      have HF := Lib.hid (show NewM w N (.returned (.tuple #[.pointer (some ⟨w1.heap.size, 0, none⟩), .int .i64 0])) wr from ⟨_, _, rfl, hrow, hm, hb⟩)
      clear hm hrow hb
      go_wp2
      go_ret2
      exact HF.out
end Go.Proofs.YtkapnpcolmhdbaaDoor.Sc
