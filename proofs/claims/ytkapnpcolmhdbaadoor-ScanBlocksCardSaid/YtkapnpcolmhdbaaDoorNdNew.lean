/- The contract of nand.New. -/
import Derived.Test.YtkapnpcolmhdbaaDoorNands
import Derived.OwnWalk
import Derived.Outline
namespace Go.Proofs.YtkapnpcolmhdbaaDoor.Nd
open Go.RowKit
open Drawbar Drawbar.Nand

def badBlk : Blk := ⟨[], false, 0, 0, true, true⟩
/-- A new array, the first k of bad marked. -/
def newS (n pages : Nat) (bad : List Nat) (k : Nat) : Arr := Arr.new n pages (fun j => if j ∈ bad.take k then badBlk else fresh)

def zblk : Value := .agg #[.slice none 0 0, .bool false, .int .i64 0, .int .i64 0, .bool false, .bool false]
set_option maxRecDepth 100000 in
theorem info_blk : (Tryd.prog.info? 115).map (fun i => (i.zero, i.size, i.bytes)) = some (some zblk, 6, 56) := by kernel_rfl

set_option maxRecDepth 100000 in
theorem made_blk (n i k : Nat) (hi : i < n) (v : Value) (h : (bcells fresh (.slice none 0 0))[k]? = some v) : (madeCells #[Value.slice none 0 0, .bool false, .int .i64 0, .int .i64 0, .bool false, .bool false] (n * 6)).toList[i * 6 + k]? = some v := by
  have hk : k < 6 := by simpa [bcells] using (List.getElem?_eq_some_iff.1 h).1
  have hlt : i * 6 + k < n * 6 := by omega
  unfold madeCells
  have hm : (i * 6 + k) % 6 = k := by omega
  simp [hlt, hm]
  match k, hk, h with
  | 0, _, h => simpa [bcells, fresh] using h
  | 1, _, h => simpa [bcells, fresh] using h
  | 2, _, h => simpa [bcells, fresh] using h
  | 3, _, h => simpa [bcells, fresh] using h
  | 4, _, h => simpa [bcells, fresh] using h
  | 5, _, h => simpa [bcells, fresh] using h

set_option maxRecDepth 100000 in
theorem wf_new (n pages : Nat) (b : Nat → Blk) (h1 : 0 < n) (h2 : n ≤ 64) (h3 : 0 < pages) (h4 : pages ≤ 32) (hb : ∀ i, (b i).doom = 0 ∧ (b i).pages = []) : Wf (Arr.new n pages b) :=
  ⟨h1, h2, h3, h4, by simp [Arr.new], by simp [Arr.new], fun i _ => by show (b i).doom ≤ _; rw [(hb i).1]; omega, fun i _ => by show (b i).pages.length ≤ _; rw [(hb i).2]; simp⟩

set_option maxRecDepth 100000 in
/-- The array as New lays it. -/
theorem arr_new (w w1 : World) (n pages : Nat) (h1 : 0 < n) (h2 : n ≤ 64) (h3 : 0 < pages) (h4 : pages ≤ 32)
    (hown : w1.ownsRow w.heap.size 115 6 (.slice (some ⟨w.heap.size, 0, none⟩) n n) n (madeCells #[Value.slice none 0 0, .bool false, .int .i64 0, .int .i64 0, .bool false, .bool false] (n * 6)).toList) :
    ArrIn (w1.alloc (.cells #[.slice (some ⟨w.heap.size, 0, none⟩) n n, .int .i64 pages, .int .u64 0, .int .i64 0, .bool false, .nilFunc, .int .i64 0, .int .i64 0] 110)) (fun d => w.heap.size ≤ d ∧ d < w1.heap.size + 1) (fun d => d = w.heap.size ∨ d = w1.heap.size) w1.heap.size w.heap.size (fun _ => .slice none 0 0) (fun _ => []) .nilFunc (Arr.new n pages (fun _ => fresh)) := by
  have hsz : w.heap.size < w1.heap.size := (hown.lt _ rfl).2
  have hg := heap_alloc_new w1 (.cells #[.slice (some ⟨w.heap.size, 0, none⟩) n n, .int .i64 pages, .int .u64 0, .int .i64 0, .bool false, .nilFunc, .int .i64 0, .int .i64 0] 110)
  have hold : ∀ d, d < w1.heap.size → (w1.alloc (.cells #[.slice (some ⟨w.heap.size, 0, none⟩) n n, .int .i64 pages, .int .u64 0, .int .i64 0, .bool false, .nilFunc, .int .i64 0, .int .i64 0] 110)).heap[d]? = w1.heap[d]? := fun d hd => Below.heap_alloc _ _ d hd
  have hs2 : (w1.alloc (.cells #[.slice (some ⟨w.heap.size, 0, none⟩) n n, .int .i64 pages, .int .u64 0, .int .i64 0, .bool false, .nilFunc, .int .i64 0, .int .i64 0] 110)).heap.size = w1.heap.size + 1 := by simp
  generalize hw2 : w1.alloc (.cells #[.slice (some ⟨w.heap.size, 0, none⟩) n n, .int .i64 pages, .int .u64 0, .int .i64 0, .bool false, .nilFunc, .int .i64 0, .int .i64 0] 110) = w2 at *
  clear hw2
  constructor
  · exact wf_new n pages _ h1 h2 h3 h4 (fun _ => ⟨rfl, rfl⟩)
  · intro k v hv
    unfold World.cell?
    rw [hg]
    simpa [gcells, Arr.new] using hv
  · intro k
    unfold World.frozen?
    rw [hg]
    simp
  · intro i hi k v hv
    rw [World.cell?_of_block (a := ⟨w.heap.size, _, none⟩) (hold _ hsz)]
    have hk : k < 6 := by simpa [bcells] using (List.getElem?_eq_some_iff.1 hv).1
    have hi' : i < n := hi
    rw [hown.cellAt (i * 6 + k) (by omega)]
    exact made_blk n i k hi v hv
  · intro k
    rw [World.frozen?_of_block (a := ⟨w.heap.size, _, none⟩) (hold _ hsz)]
    exact hown.frozenAt k
  · intro i _; exact World.ownsRow_nil _ _ _ _
  · intro i _ j l hl; simp [Arr.new, fresh] at hl
  · rfl
  · rintro d (rfl | rfl)
    · exact ⟨Nat.le_refl _, by omega⟩
    · exact ⟨by omega, by omega⟩
  · exact .inr rfl
  · exact .inl rfl
  · intro i _ d hd; cases hd
  · omega
  · intro i j _ _ _ d hd; cases hd
  · intro d hd; rw [hs2]; exact hd.2

/-- What New answers. -/
def Made (w : World) (s : Arr) (e : Ending) (w' : World) : Prop :=
  ∃ g, e = .returned (.tuple #[.pointer (some ⟨g, 0, none⟩), .int .i64 0]) ∧ ArrAt w' (fun d => w.heap.size ≤ d ∧ d < w'.heap.size) g s ∧ Below w.heap.size w w'

set_option maxRecDepth 100000 in
theorem newS_step (n pages : Nat) (bad : List Nat) (k : Nat) (h : k < bad.length) : newS n pages bad (k + 1) = { newS n pages bad k with b := upd (newS n pages bad k).b (bad.getD k 0) badBlk } := by
  unfold newS Arr.new
  congr 1
  funext j
  rw [take_getD bad k h]
  unfold upd
  by_cases e : j = bad.getD k 0
  · rw [if_pos (by rw [e]; simp), if_pos e]
  · rw [if_neg e]
    by_cases e2 : j ∈ bad.take k
    · rw [if_pos (List.mem_append_left _ e2)]
      exact (if_pos e2).symm
    · rw [if_neg (by simp only [List.mem_append, List.mem_singleton]; exact fun h => h.elim e2 e)]
      exact (if_neg e2).symm

set_option maxRecDepth 100000 in
set_option maxHeartbeats 1000000 in
theorem new_any (n pages : Nat) (bad : List Nat) (a : Option Addr) (cap : Nat) (w : World) (h1 : 0 < n) (h2 : n ≤ 64) (h3 : 0 < pages) (h4 : pages ≤ 32) (hb : ∀ x ∈ bad, x < n) (hlen : bad.length < 1000000)
    (hcell : 0 < bad.length → ∃ bb, a = some ⟨bb, 0, none⟩ ∧ ∀ j, j < bad.length → w.cell? ⟨bb, j, none⟩ = some (.int .i64 (bad.getD j 0 : Nat))) :
    Calls Tryd.prog 15 #[.int .i64 n, .int .i64 pages, .slice a bad.length cap] w (Made w (newS n pages bad bad.length)) := by
  obtain ⟨i0, hi0, hz0, hz1, hz2⟩ := info_parts info_blk
  have hn1 : (1 : Int) ≤ n ∧ (n : Int) ≤ 64 := by omega
  have hn2 : (1 : Int) ≤ pages ∧ (pages : Int) ≤ 32 := by omega
  have HB := Lib.hid hb
  have HCELL := Lib.hid hcell
  clear hb hcell
  go_enter Tryd.func15, Tryd.ntmps15
  go_wp2_with (first
    | (go_at_call 42; refine (within_yes _ _ _ _ (by omega) (by omega)).mono ?_; rintro e w' ⟨rfl, rfl⟩)
    | (at_make; refine wpList_make_full _ rfl _ _ 108 rfl w.heap.size 115 i0 (.agg #[Value.slice none 0 0, .bool false, .int .i64 0, .int .i64 0, .bool false, .bool false]) 6 Tryd.underlying108 hi0 hz0 hz1 .i64 .i64 n n n rfl rfl rfl rfl (by rw [hz2]; omega) (by unfold maxLen; omega) (Nat.le_refl _) ?_))
  intro w1 hown hgr
  have hin := arr_new w w1 n pages h1 h2 h3 h4 hown
  have hB : Below w.heap.size w w1 := (Below.refl _ _).grown hgr (Nat.le_refl _) (fun k hk => by cases hk)
  have hsz : w.heap.size < w1.heap.size := (hown.lt _ rfl).2
  have hin0 : Arr.new n pages (fun _ => fresh) = newS n pages bad 0 := by unfold newS; simp
  rw [hin0] at hin
  have hB2 : Below w.heap.size w (w1.alloc (.cells #[.slice (some ⟨w.heap.size, 0, none⟩) n n, .int .i64 pages, .int .u64 0, .int .i64 0, .bool false, .nilFunc, .int .i64 0, .int .i64 0] 110)) := hB.alloc hB.size _
  obtain ⟨g, hg⟩ : ∃ g, g = w1.heap.size := ⟨_, rfl⟩
  obtain ⟨hbk, hhb⟩ : ∃ hbk, hbk = w.heap.size := ⟨_, rfl⟩
  have HG := Lib.hid hg
  have HHB := Lib.hid hhb
  rw [← hg, ← hhb] at hin
  rw [← hhb] at hB2
  rw [← hhb]
  have hlen2 : (bad.length : Int) ≤ 1000000 := by omega
  clear hin0 hown hgr hB hi0 hz0 hz1 hz2 hg hhb
  go_wp2
  rw [← HG.out]
  go_loopw [27] (fun iv wr => ∃ (k : Nat) (F R : Nat → Prop), k ≤ bad.length ∧ iv = .int .i64 k ∧ Below hbk w wr ∧ ArrIn wr F R g hbk (fun _ => .slice none 0 0) (fun _ => []) .nilFunc (newS n pages bad k) ∧ Hid (F = fun d => hbk ≤ d ∧ d < wr.heap.size)) (fun iv _ => bad.length - (intOf iv).toNat)
  case atStart => exact ⟨0, _, _, Nat.zero_le _, rfl, hB2, hin, Lib.hid (by rw [HG.out]; funext d; simp)⟩
  case round =>
    obtain ⟨k, F, R, hk, rfl, hBr, hir, HFr⟩ := hrel
    clear hin hB2
    by_cases hlt : k < bad.length
    · obtain ⟨bb, rfl, hcell⟩ := HCELL.out (by omega)
      have hc0 := hcell k hlt
      have hx := HB.out _ (getD_mem bad k hlt)
      have hbw : bb < hbk := by rw [HHB.out]; exact World.block_lt_of_cell? w _ hc0
      have hc := (hBr.cell (p := ⟨bb, k, none⟩) hbw).trans hc0
      have hst := newS_step n pages bad k hlt
      generalize bad.getD k 0 = x at hc hx hst
      have c0 := hir.gc 0 _ rfl
      obtain ⟨ra, rc, hrow, hrc, b0, b1, b2, b3, b4, b5⟩ := hir.blk (i := x) hx
      have hbf := hir.bf
      have h4 := hir.setB x 4 (.bool true) { (newS n pages bad k).b x with fails := true } hx (by omega) rfl rfl (hir.wf.doom x hx)
      have h5 := h4.setB x 5 (.bool true) badBlk hx (by omega) (by
        show bcells badBlk _ = List.set (bcells (upd _ x _ x) _) 5 _
        rw [upd_same]
        unfold newS Arr.new
        dsimp only
        split <;> rfl) (by
        show _ = (upd _ x _ x).pages
        rw [upd_same]
        unfold newS Arr.new
        dsimp only
        split <;> rfl) (by decide)
      dsimp only at h5
      rw [upd_upd, ← hst] at h5
      have hgk : hbk ≤ hbk := Nat.le_refl _
      have hB5 := (hBr.setCell (p := ⟨hbk, x * 6 + 4, none⟩) hgk (.bool true)).setCell (p := ⟨hbk, x * 6 + 5, none⟩) hgk (.bool true)
      have H5 := Lib.hid h5
      have HB5 := Lib.hid hB5
      have hblk := block_in g hbk n x wr c0 h2 hx
      have HBL := Lib.hid hblk
      have HFF : Hid (F = fun d => hbk ≤ d ∧ d < ((wr.setCell ⟨hbk, x * 6 + 4, none⟩ (.bool true)).setCell ⟨hbk, x * 6 + 5, none⟩ (.bool true)).heap.size) := Lib.hid (by rw [HFr.out]; funext d; simp [World.setCell])
      clear hrow b0 b1 b2 b3 hir h4 h5 hB5 hst hblk hc0 hcell c0 hbw hBr
      go_wp2_with (go_at_call 43; refine HBL.out.mono ?_; rintro e w' ⟨rfl, rfl⟩)
      go_roundw
      case rel => exact ⟨k + 1, F, R, by omega, by go_num, HB5.out, H5.out, HFF⟩
      case measure => simp [intOf]; omega
    · obtain rfl : k = bad.length := by omega
      have hfin : Made w (newS n pages bad bad.length) (.returned (.tuple #[.pointer (some ⟨g, 0, none⟩), .int .i64 0])) wr := by
        have hB9 := hBr
        have hi9 := hir
        rw [HFr.out] at hi9
        rw [HHB.out] at hB9 hi9
        exact ⟨g, rfl, ⟨⟨(fun _ => rfl), (fun _ _ h => by cases h)⟩, R, _, _, _, _, hi9⟩, hB9⟩
      have HF9 := Lib.hid hfin
      clear hfin hir hBr
      go_wp2
      go_ret2
      exact HF9.out
end Go.Proofs.YtkapnpcolmhdbaaDoor.Nd
