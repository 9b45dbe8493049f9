/- The contract of New (package pmap). -/
import Derived.Test.YtfehioapjoihkaaPSet
namespace Go.Proofs.Ytfehioapjoihkaa
open Go.RowKit
open Drawbar Drawbar.Pm

theorem info_place : (Try.prog.info? 34).map (fun i => (i.zero, i.size, i.bytes)) = some (some (.agg #[.int .i64 0, .int .i64 0]), 2, 16) := by kernel_rfl
theorem info_int : (Try.prog.info? 3).map (fun i => (i.zero, i.size, i.bytes)) = some (some (.int .i64 0), 1, 8) := by kernel_rfl

theorem made_two (n k : Nat) (h : k < n * 2) : (madeCells #[Value.int .i64 0, .int .i64 0] (n * 2))[k]? = some (.int .i64 0) := by
  unfold madeCells
  have : k % 2 = 0 ∨ k % 2 = 1 := by omega
  rcases this with e | e <;> simp [h, e]
theorem made_one (n k : Nat) (h : k < n) : (madeCells #[Value.int .i64 0] (n * 1))[k]? = some (.int .i64 0) := by
  unfold madeCells
  simp [h, Nat.mod_one]
theorem make_places (n : Nat) (h : n ≤ 65536) (W : World) : (Instr.makeSlice 28 (.int .i64 n) (.int .i64 n)).run Try.prog W = .ok (.slice (some ⟨W.heap.size, 0, none⟩) n n) (W.alloc (.cells (madeCells #[Value.int .i64 0, .int .i64 0] (n * 2)) 34)) := by
  obtain ⟨i0, hi0, hz0, hz1, hz2⟩ := info_parts info_place
  have hr := run_make (P := Try.prog) W 28 34 i0 _ Try.underlying28 hi0 hz0 .i64 .i64 n n (by omega) (Int.le_refl _) (by rw [hz2]; omega) (by omega)
  rw [hz1] at hr
  simp only [Int.toNat_natCast] at hr
  exact hr
theorem make_counts (n : Nat) (h : n ≤ 65536) (W : World) : (Instr.makeSlice 43 (.int .i64 n) (.int .i64 n)).run Try.prog W = .ok (.slice (some ⟨W.heap.size, 0, none⟩) n n) (W.alloc (.cells (madeCells #[Value.int .i64 0] (n * 1)) 3)) := by
  obtain ⟨i0, hi0, hz0, hz1, hz2⟩ := info_parts info_int
  have hr := run_make (P := Try.prog) W 43 3 i0 _ Try.underlying43 hi0 hz0 .i64 .i64 n n (by omega) (Int.le_refl _) (by rw [hz2]; omega) (by omega)
  rw [hz1] at hr
  simp only [Int.toNat_natCast] at hr
  exact hr

theorem Raw.setB {w : World} {pb cb n m : Nat} {pl : Nat → Int × Int} {ct : Nat → Int} (h : Raw w pb cb n m pl ct) (k : Nat) (hk : k < n) (x : Int) :
    Raw (w.setCell ⟨pb, k * 2, none⟩ (.int .i64 x)) pb cb n m (fun j => if j = k then (x, (pl k).2) else pl j) ct := by
  have hoth : (w.setCell ⟨pb, k * 2, none⟩ (.int .i64 x)).heap[cb]? = w.heap[cb]? := Below.heap_setCell _ _ _ _ h.ne.symm
  refine ⟨fun j hj => ?_, fun o => by rw [World.frozen?_setCell]; exact h.pf o, fun c hc => (World.cell?_of_block (a := ⟨cb, c, none⟩) hoth).trans (h.ct c hc), fun o => (World.frozen?_of_block (a := ⟨cb, o, none⟩) hoth).trans (h.cf o), h.ne⟩
  by_cases e : j = k
  · subst e
    rw [World.cell?_setCell_same _ _ _ (h.pl j hj).1, World.cell?_setCell_other _ _ _ _ (off_ne (by omega)), if_pos rfl]
    exact ⟨rfl, (h.pl j hj).2⟩
  · rw [World.cell?_setCell_other _ _ _ _ (off_ne (by omega)), World.cell?_setCell_other _ _ _ _ (off_ne (by omega)), if_neg e]
    exact h.pl j hj

/-- What New has laid, ahead of its loop. -/
structure Laid (w w4 : World) (g pb cb n m : Nat) : Prop where
  c0 : w4.cell? ⟨g, 0, none⟩ = some (.slice (some ⟨pb, 0, none⟩) n n)
  c1 : w4.cell? ⟨g, 1, none⟩ = some (.slice (some ⟨cb, 0, none⟩) m m)
  raw : Raw w4 pb cb n m (fun _ => (0, 0)) (fun _ => 0)
  gp : g ≠ pb
  gc : g ≠ cb
  g9 : w.heap.size ≤ g
  p9 : w.heap.size ≤ pb
  c9 : w.heap.size ≤ cb
  below : Below w.heap.size w w4

theorem cell_in_row (w : World) (cs : Array Value) (t : TypeId) (b o : Nat) (h : w.heap[b]? = some (.cells cs t (0, 0))) : w.cell? ⟨b, o, none⟩ = cs[o]? ∧ w.frozen? ⟨b, o, none⟩ = false := by
  unfold World.cell? World.frozen?
  rw [h]
  simp

theorem laid_of (w w4 : World) (g pb cb n m : Nat) (hp : w4.heap[pb]? = some (.cells (madeCells #[Value.int .i64 0, .int .i64 0] (n * 2)) 34 (0, 0))) (hc : w4.heap[cb]? = some (.cells (madeCells #[Value.int .i64 0] (m * 1)) 3 (0, 0)))
    (hg : w4.heap[g]? = some (.cells #[.slice (some ⟨pb, 0, none⟩) n n, .slice (some ⟨cb, 0, none⟩) m m] 70 (0, 0))) (h1 : g ≠ pb) (h2 : g ≠ cb) (h3 : pb ≠ cb) (h4 : w.heap.size ≤ g) (h5 : w.heap.size ≤ pb) (h6 : w.heap.size ≤ cb) (hb : Below w.heap.size w w4) : Laid w w4 g pb cb n m :=
  ⟨(cell_in_row _ _ _ _ 0 hg).1, (cell_in_row _ _ _ _ 1 hg).1,
    ⟨fun k hk => ⟨(cell_in_row _ _ _ _ _ hp).1.trans (made_two n _ (by omega)), (cell_in_row _ _ _ _ _ hp).1.trans (made_two n _ (by omega))⟩, fun o => (cell_in_row _ _ _ _ o hp).2, fun b hb => (cell_in_row _ _ _ _ b hc).1.trans (made_one m b hb), fun o => (cell_in_row _ _ _ _ o hc).2, h3⟩, h1, h2, h4, h5, h6, hb⟩

theorem heap_at (w : World) (o1 o2 : Obj) : ((w.alloc o1).alloc o2).heap[w.heap.size + 1]? = some o2 := by
  have := heap_alloc_new (w.alloc o1) o2
  simpa using this
theorem heap_at2 (w : World) (o1 o2 o3 : Obj) : (((w.alloc o1).alloc o2).alloc o3).heap[w.heap.size + 1 + 1]? = some o3 := by
  have := heap_alloc_new ((w.alloc o1).alloc o2) o3
  simpa using this
theorem below3 (w : World) (o1 o2 o3 : Obj) : Below w.heap.size w (((w.alloc o1).alloc o2).alloc o3).drew :=
  Below.drewB ((((Below.refl _ _).alloc (Nat.le_refl _) _).alloc (by simp) _).alloc (by simp; omega) _)

/-- What New answers. -/
def Made (w : World) (s : St) (e : Ending) (w' : World) : Prop :=
  ∃ g pb cb, e = .returned (.tuple #[.pointer (some ⟨g, 0, none⟩), .int .i64 0]) ∧ MapAt w' g pb cb s ∧ w.heap.size ≤ g ∧ w.heap.size ≤ pb ∧ w.heap.size ≤ cb ∧ Below w.heap.size w w'

theorem new_no (a b : Int) (w : World) (h : a < 1 ∨ 65536 < a ∨ b < 1 ∨ 64 < b) :
    Calls Try.prog 12 #[.int .i64 a, .int .i64 b] w fun e w' => e = .returned (.tuple #[.pointer none, .int .i64 1]) ∧ w = w' := by
  by_cases h1 : a < 1 ∨ 65536 < a
  · have H1 := Lib.hid h1
    clear h h1
    go_enter Try.func12, Try.ntmps12
    go_wp2_with (go_at_call 28; (with_reducible refine (within_no _ _ _ _ H1.out).mono ?_); rintro e w' ⟨rfl, rfl⟩)
    go_ret2
    exact ⟨rfl, rfl⟩
  · have h2 : b < 1 ∨ 64 < b := by omega
    have g1 : 1 ≤ a := by omega
    have g2 : a ≤ 65536 := by omega
    have H1 := Lib.hid h2
    clear h h1 h2
    go_enter Try.func12, Try.ntmps12
    go_wp2_with (go_at_call 28; first | ((with_reducible refine (within_yes a 1 65536 _ g1 g2).mono ?_); rintro e w' ⟨rfl, rfl⟩) | ((with_reducible refine (within_no b 1 64 _ H1.out).mono ?_); rintro e w' ⟨rfl, rfl⟩))
    go_ret2
    exact ⟨rfl, rfl⟩

set_option maxHeartbeats 2000000 in
theorem new_any (n m : Nat) (w : World) (h1 : 0 < n) (h2 : n ≤ 65536) (h3 : 0 < m) (h4 : m ≤ 64) :
    Calls Try.prog 12 #[.int .i64 n, .int .i64 m] w (Made w (St.new n m)) := by
  have g1 : (1 : Int) ≤ n := by omega
  have g2 : (n : Int) ≤ 65536 := by omega
  have g3 : (1 : Int) ≤ m := by omega
  have g4 : (m : Int) ≤ 64 := by omega
  have mp := make_places n h2
  have mc := make_counts m (by omega)
  have HL := Lib.hid (laid_of w)
  generalize hPL : madeCells #[Value.int .i64 0, .int .i64 0] (n * 2) = PL at mp
  generalize hCT : madeCells #[Value.int .i64 0] (m * 1) = CT at mc
  have HPL := Lib.hid hPL
  have HCT := Lib.hid hCT
  clear hPL hCT
  go_enter Try.func12, Try.ntmps12
  go_wp2_with (first
    | (go_at_call 28; first | ((with_reducible refine (within_yes n 1 65536 _ g1 g2).mono ?_); rintro e w' ⟨rfl, rfl⟩) | ((with_reducible refine (within_yes m 1 64 _ g3 g4).mono ?_); rintro e w' ⟨rfl, rfl⟩)))
  go_region
  · go_wp2_with fail
    have hl : Laid w _ (w.heap.size + 1 + 1) w.heap.size (w.heap.size + 1) n m := HL.out ((((w.alloc (.cells PL 34)).alloc (.cells CT 3)).alloc (.cells #[.slice (some ⟨w.heap.size, 0, none⟩) n n, .slice (some ⟨w.heap.size + 1, 0, none⟩) m m] 70)).drew) _ _ _ n m
      (by rw [HPL.out]; show (((w.alloc _).alloc _).alloc _).heap[w.heap.size]? = _; rw [Below.heap_alloc _ _ _ (by simp; omega), Below.heap_alloc _ _ _ (by simp)]; exact heap_alloc_new _ _)
      (by rw [HCT.out]; show (((w.alloc _).alloc _).alloc _).heap[w.heap.size + 1]? = _; rw [Below.heap_alloc _ _ _ (by simp)]; exact heap_at w _ _)
      (heap_at2 w _ _ _) (by omega) (by omega) (by omega) (by omega) (Nat.le_refl _) (by omega) (below3 w _ _ _)
    generalize ((((w.alloc (.cells PL 34)).alloc (.cells CT 3)).alloc (.cells #[.slice (some ⟨w.heap.size, 0, none⟩) n n, .slice (some ⟨w.heap.size + 1, 0, none⟩) m m] 70)).drew) = w4 at hl ⊢
    generalize w.heap.size + 1 + 1 = g at hl ⊢
    generalize w.heap.size + 1 = cb at hl ⊢
    obtain ⟨pb, hpb⟩ : ∃ pb, pb = w.heap.size := ⟨_, rfl⟩
    rw [← hpb]
    have HLD : Hid (Laid w w4 g pb cb n m) := Lib.hid (by rw [hpb]; exact hl)
    clear hl hpb mp mc HL
    have hgl : g < w4.heap.size := World.block_lt_of_cell? w4 _ HLD.out.c0
    have hpl : pb < w4.heap.size := World.block_lt_of_cell? w4 _ (HLD.out.raw.pl 0 h1).1
    go_loopw [27] (fun iv wr => ∃ k : Nat, k ≤ n ∧ iv = .int .i64 k ∧ Hid (Raw wr pb cb n m (fun j => if j < k then (-1, 0) else (0, 0)) (fun _ => 0)) ∧ Hid (Only (fun d => d = pb) w4 wr)) (fun iv _ => n - (intOf iv).toNat)
    case atStart => exact ⟨0, Nat.zero_le _, rfl, Lib.hid (by simpa using HLD.out.raw), Lib.hid (Only.refl _ _)⟩
    case round =>
      obtain ⟨k, hk, rfl, HR, HO⟩ := hrel
      have c0 : wr.cell? ⟨g, 0, none⟩ = some (.slice (some ⟨pb, 0, none⟩) n n) := (World.cell?_of_block (a := ⟨g, 0, none⟩) (HO.out.block g hgl HLD.out.gp)).trans HLD.out.c0
      have pf := HR.out.pf
      by_cases hlt : k < n
      · obtain ⟨p0, p1⟩ := HR.out.pl k hlt
        rw [if_neg (Nat.lt_irrefl _)] at p0 p1
        have HR2 : Hid (Raw (wr.setCell ⟨pb, k * 2, none⟩ (.int .i64 (-1))) pb cb n m (fun j => if j < k + 1 then (-1, 0) else (0, 0)) (fun _ => 0)) := by
          have := HR.out.setB k hlt (-1)
          rw [if_neg (Nat.lt_irrefl _)] at this
          refine Lib.hid ⟨fun j hj => ?_, this.pf, this.ct, this.cf, this.ne⟩
          have h9 := this.pl j hj
          by_cases e : j = k
          · subst e; rw [if_pos (Nat.lt_succ_self _)]; rw [if_pos rfl] at h9; exact h9
          · rw [if_neg e] at h9
            by_cases e2 : j < k
            · rw [if_pos (by omega)]; rw [if_pos e2] at h9; exact h9
            · rw [if_neg (by omega)]; rw [if_neg e2] at h9; exact h9
        have HO2 := Lib.hid (HO.out.setCell (g := pb) (o := k * 2) rfl (.int .i64 (-1)))
        have i1 : (k : Int) < n := by omega
        go_wp2
        go_roundw
        case rel => exact ⟨k + 1, by omega, by go_num, HR2, HO2⟩
        case measure => simp [intOf]; omega
      · obtain rfl : k = n := by omega
        have hfin : Made w (St.new k m) (.returned (.tuple #[.pointer (some ⟨g, 0, none⟩), .int .i64 0])) wr := by
          have hl := HLD.out
          refine ⟨g, pb, cb, rfl, ⟨Wf.new h1 h2 h3 h4, c0, ?_, ?_, hl.gp, hl.gc⟩, hl.g9, hl.p9, hl.c9, hl.below.trans (HO.out.toBelow (fun d hd => by rw [hd]; exact hl.p9) hl.below.size)⟩
          · exact (World.cell?_of_block (a := ⟨g, 1, none⟩) (HO.out.block g hgl hl.gp)).trans hl.c1
          · have hr := HR.out
            refine ⟨fun j hj => ?_, hr.pf, fun b hb => ?_, hr.cf, hr.ne⟩
            · have h9 := hr.pl j hj
              rw [if_pos (show j < k from hj)] at h9
              exact h9
            · have h9 := hr.ct b hb
              rw [show (St.new k m).cnt b = 0 from cntTo_none _ fun _ _ => rfl]
              exact h9
        have HF := Lib.hid hfin
        have i1 : ¬ (k : Int) < k := by omega
        clear hfin
        go_wp2
        go_ret2
        exact HF.out
  · go_wp2_with fail
    have hl : Laid w _ (w.heap.size + 1 + 1) (w.heap.size + 1) w.heap.size n m := HL.out ((((w.alloc (.cells CT 3)).alloc (.cells PL 34)).alloc (.cells #[.slice (some ⟨w.heap.size + 1, 0, none⟩) n n, .slice (some ⟨w.heap.size, 0, none⟩) m m] 70)).drew) _ _ _ n m
      (by rw [HPL.out]; show (((w.alloc _).alloc _).alloc _).heap[w.heap.size + 1]? = _; rw [Below.heap_alloc _ _ _ (by simp)]; exact heap_at w _ _)
      (by rw [HCT.out]; show (((w.alloc _).alloc _).alloc _).heap[w.heap.size]? = _; rw [Below.heap_alloc _ _ _ (by simp; omega), Below.heap_alloc _ _ _ (by simp)]; exact heap_alloc_new _ _)
      (heap_at2 w _ _ _) (by omega) (by omega) (by omega) (by omega) (by omega) (Nat.le_refl _) (below3 w _ _ _)
    generalize ((((w.alloc (.cells CT 3)).alloc (.cells PL 34)).alloc (.cells #[.slice (some ⟨w.heap.size + 1, 0, none⟩) n n, .slice (some ⟨w.heap.size, 0, none⟩) m m] 70)).drew) = w4 at hl ⊢
    generalize w.heap.size + 1 + 1 = g at hl ⊢
    generalize w.heap.size + 1 = pb at hl ⊢
    obtain ⟨cb, hcb⟩ : ∃ cb, cb = w.heap.size := ⟨_, rfl⟩
    rw [← hcb]
    have HLD : Hid (Laid w w4 g pb cb n m) := Lib.hid (by rw [hcb]; exact hl)
    clear hl hcb mp mc HL
    have hgl : g < w4.heap.size := World.block_lt_of_cell? w4 _ HLD.out.c0
    have hpl : pb < w4.heap.size := World.block_lt_of_cell? w4 _ (HLD.out.raw.pl 0 h1).1
    go_loopw [27] (fun iv wr => ∃ k : Nat, k ≤ n ∧ iv = .int .i64 k ∧ Hid (Raw wr pb cb n m (fun j => if j < k then (-1, 0) else (0, 0)) (fun _ => 0)) ∧ Hid (Only (fun d => d = pb) w4 wr)) (fun iv _ => n - (intOf iv).toNat)
    case atStart => exact ⟨0, Nat.zero_le _, rfl, Lib.hid (by simpa using HLD.out.raw), Lib.hid (Only.refl _ _)⟩
    case round =>
      obtain ⟨k, hk, rfl, HR, HO⟩ := hrel
      have c0 : wr.cell? ⟨g, 0, none⟩ = some (.slice (some ⟨pb, 0, none⟩) n n) := (World.cell?_of_block (a := ⟨g, 0, none⟩) (HO.out.block g hgl HLD.out.gp)).trans HLD.out.c0
      have pf := HR.out.pf
      by_cases hlt : k < n
      · obtain ⟨p0, p1⟩ := HR.out.pl k hlt
        rw [if_neg (Nat.lt_irrefl _)] at p0 p1
        have HR2 : Hid (Raw (wr.setCell ⟨pb, k * 2, none⟩ (.int .i64 (-1))) pb cb n m (fun j => if j < k + 1 then (-1, 0) else (0, 0)) (fun _ => 0)) := by
          have := HR.out.setB k hlt (-1)
          rw [if_neg (Nat.lt_irrefl _)] at this
          refine Lib.hid ⟨fun j hj => ?_, this.pf, this.ct, this.cf, this.ne⟩
          have h9 := this.pl j hj
          by_cases e : j = k
          · subst e; rw [if_pos (Nat.lt_succ_self _)]; rw [if_pos rfl] at h9; exact h9
          · rw [if_neg e] at h9
            by_cases e2 : j < k
            · rw [if_pos (by omega)]; rw [if_pos e2] at h9; exact h9
            · rw [if_neg (by omega)]; rw [if_neg e2] at h9; exact h9
        have HO2 := Lib.hid (HO.out.setCell (g := pb) (o := k * 2) rfl (.int .i64 (-1)))
        have i1 : (k : Int) < n := by omega
        go_wp2
        go_roundw
        case rel => exact ⟨k + 1, by omega, by go_num, HR2, HO2⟩
        case measure => simp [intOf]; omega
      · obtain rfl : k = n := by omega
        have hfin : Made w (St.new k m) (.returned (.tuple #[.pointer (some ⟨g, 0, none⟩), .int .i64 0])) wr := by
          have hl := HLD.out
          refine ⟨g, pb, cb, rfl, ⟨Wf.new h1 h2 h3 h4, c0, ?_, ?_, hl.gp, hl.gc⟩, hl.g9, hl.p9, hl.c9, hl.below.trans (HO.out.toBelow (fun d hd => by rw [hd]; exact hl.p9) hl.below.size)⟩
          · exact (World.cell?_of_block (a := ⟨g, 1, none⟩) (HO.out.block g hgl hl.gp)).trans hl.c1
          · have hr := HR.out
            refine ⟨fun j hj => ?_, hr.pf, fun b hb => ?_, hr.cf, hr.ne⟩
            · have h9 := hr.pl j hj
              rw [if_pos (show j < k from hj)] at h9
              exact h9
            · have h9 := hr.ct b hb
              rw [show (St.new k m).cnt b = 0 from cntTo_none _ fun _ _ => rfl]
              exact h9
        have HF := Lib.hid hfin
        have i1 : ¬ (k : Int) < k := by omega
        clear hfin
        go_wp2
        go_ret2
        exact HF.out
end Go.Proofs.Ytfehioapjoihkaa
