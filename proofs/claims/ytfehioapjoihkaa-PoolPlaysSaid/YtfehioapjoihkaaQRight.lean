/- The law's rows, and the contract of drawbarlaw08.right. -/
import Derived.Test.YtfehioapjoihkaaQLeastLaw
import Derived.RegionTactic
import Derived.ChangeAlike
import Derived.Deep.RegionHeld
namespace Drawbar.Pl
/-- As the law writes how a block stands. -/
def hv : Option Nat → Nat
  | none => 0
  | some v => v
def opn (s : St) (k : Nat) : Int := (s.to 2 k).getLastD (-1)
theorem opn_yes {s : St} {k : Nat} (h : s.at_ k = some 2) : opn s (k + 1) = k := by unfold opn; rw [to_succ, if_pos h]; simp
theorem opn_no {s : St} {k : Nat} (h : s.at_ k ≠ some 2) : opn s (k + 1) = opn s k := by unfold opn; rw [to_succ, if_neg h, List.append_nil]
theorem to_len (s : St) (v k : Nat) : (s.to v k).length ≤ k := by
  unfold St.to
  have := List.length_filter_le (fun t => decide (s.at_ t = some v)) (upto k)
  rw [upto_len] at this
  exact this
end Drawbar.Pl
namespace Go.Proofs.Ytfehioapjoihkaa
open Go.RowKit
open Drawbar Drawbar.Pl
/-- The law's rows. -/
structure Tab (w : World) (ab ib : Nat) (hf : Nat → Nat) (jf : Nat → Bool) : Prop where
  h : ∀ k, k < 64 → w.cell? ⟨ab, k, none⟩ = some (.int .u8 (hf k))
  j : ∀ k, k < 64 → w.cell? ⟨ib, k, none⟩ = some (.bool (jf k))
  hz : ∀ o, w.frozen? ⟨ab, o, none⟩ = false
  jz : ∀ o, w.frozen? ⟨ib, o, none⟩ = false
  ne : ab ≠ ib
section
variable {w w' : World} {ab ib : Nat} {hf hf' : Nat → Nat} {jf jf' : Nat → Bool}
theorem Tab.al (t : Tab w ab ib hf jf) : ab < w.heap.size := World.block_lt_of_cell? w _ (t.h 0 (by decide))
theorem Tab.il (t : Tab w ab ib hf jf) : ib < w.heap.size := World.block_lt_of_cell? w _ (t.j 0 (by decide))
theorem Tab.keep (t : Tab w ab ib hf jf) (h1 : w'.heap[ab]? = w.heap[ab]?) (h2 : w'.heap[ib]? = w.heap[ib]?) : Tab w' ab ib hf jf :=
  ⟨fun k hk => (World.cell?_of_block (a := ⟨ab, k, none⟩) h1).trans (t.h k hk), fun k hk => (World.cell?_of_block (a := ⟨ib, k, none⟩) h2).trans (t.j k hk), fun o => (World.frozen?_of_block (a := ⟨ab, o, none⟩) h1).trans (t.hz o), fun o => (World.frozen?_of_block (a := ⟨ib, o, none⟩) h2).trans (t.jz o), t.ne⟩
theorem Tab.below (t : Tab w ab ib hf jf) (hb : Below w.heap.size w w') : Tab w' ab ib hf jf := t.keep (hb.block ab t.al) (hb.block ib t.il)
theorem Tab.congr (t : Tab w ab ib hf jf) (h1 : ∀ k, k < 64 → hf k = hf' k) (h2 : ∀ k, k < 64 → jf k = jf' k) : Tab w ab ib hf' jf' :=
  ⟨fun k hk => by rw [← h1 k hk]; exact t.h k hk, fun k hk => by rw [← h2 k hk]; exact t.j k hk, t.hz, t.jz, t.ne⟩
theorem Tab.setH (t : Tab w ab ib hf jf) (k v : Nat) (hk : k < 64) : Tab (w.setCell ⟨ab, k, none⟩ (.int .u8 v)) ab ib (fun c => if c = k then v else hf c) jf := by
  have hoth : (w.setCell ⟨ab, k, none⟩ (.int .u8 v)).heap[ib]? = w.heap[ib]? := Below.heap_setCell _ _ _ _ t.ne.symm
  refine ⟨fun c hc => ?_, fun c hc => (World.cell?_of_block (a := ⟨ib, c, none⟩) hoth).trans (t.j c hc), fun o => by rw [World.frozen?_setCell]; exact t.hz o, fun o => (World.frozen?_of_block (a := ⟨ib, o, none⟩) hoth).trans (t.jz o), t.ne⟩
  by_cases e : c = k
  · subst e; rw [World.cell?_setCell_same _ _ _ (t.h c hc), if_pos rfl]
  · rw [World.cell?_setCell_other _ _ _ _ (off_ne (Ne.symm e)), if_neg e]; exact t.h c hc
theorem Tab.setJ (t : Tab w ab ib hf jf) (k : Nat) (v : Bool) (hk : k < 64) : Tab (w.setCell ⟨ib, k, none⟩ (.bool v)) ab ib hf (fun c => if c = k then v else jf c) := by
  have hoth : (w.setCell ⟨ib, k, none⟩ (.bool v)).heap[ab]? = w.heap[ab]? := Below.heap_setCell _ _ _ _ t.ne
  refine ⟨fun c hc => (World.cell?_of_block (a := ⟨ab, c, none⟩) hoth).trans (t.h c hc), fun c hc => ?_, fun o => (World.frozen?_of_block (a := ⟨ab, o, none⟩) hoth).trans (t.hz o), fun o => by rw [World.frozen?_setCell]; exact t.jz o, t.ne⟩
  by_cases e : c = k
  · subst e; rw [World.cell?_setCell_same _ _ _ (t.j c hc), if_pos rfl]
  · rw [World.cell?_setCell_other _ _ _ _ (off_ne (Ne.symm e)), if_neg e]; exact t.j c hc
end
def hfOf (s : St) (k : Nat) : Nat := hv (s.at_ k)
def jfOf (s : St) (k : Nat) : Bool := (s.at_ k).isSome
set_option maxHeartbeats 4000000 in
set_option maxRecDepth 100000 in
theorem qright_any (g mb ab ib c1 c2 : Nat) (s : St) (w : World) (h : PoolAt w g mb s) (t : Tab w ab ib (hfOf s) (jfOf s)) :
    Calls Try.prog 23 #[.pointer (some ⟨g, 0, none⟩), .slice (some ⟨ab, 0, none⟩) 64 c1, .slice (some ⟨ib, 0, none⟩) 64 c2] w (QYes w) := by
  have H := Lib.hid h
  have T := Lib.hid t
  clear h t
  go_enter Try.func23, Try.ntmps23
  go_wp2_with fail
  go_loopw [8, 9] (fun ov kv wr => ∃ k : Nat, kv = .int .i64 k ∧ k ≤ 64 ∧ ov = .int .i64 (opn s k) ∧ Hid (∀ v, v < 4 → wr.cell? ⟨w.heap.size, v, none⟩ = some (.int .i64 (s.to v k).length)) ∧ Hid (∀ o, wr.frozen? ⟨w.heap.size, o, none⟩ = false) ∧ Hid (Below w.heap.size w wr) ∧ w.heap.size + 1 ≤ wr.heap.size) (fun _ kv _ => 64 - (intOf kv).toNat)
  case atStart => exact ⟨0, rfl, by decide, rfl, Lib.hid (fun v hv => by
      have : v = 0 ∨ v = 1 ∨ v = 2 ∨ v = 3 := by omega
      rcases this with rfl | rfl | rfl | rfl <;> simp [St.to, upto]), Lib.hid (fun o => by simp), Lib.hid ((Below.refl _ _).alloc (Nat.le_refl _) _), by simp⟩
  case round =>
    obtain ⟨k, rfl, hk, rfl, HN, HZ, HB, hsz⟩ := hrel
    have HP := Lib.hid (H.out.below HB.out)
    have HT := Lib.hid (T.out.below HB.out)
    by_cases hlt : k < 64
    · have j1 : (k : Int) < 64 := by omega
      have t0 := HT.out.h k hlt
      have t1 := HT.out.j k hlt
      unfold hfOf at t0
      unfold jfOf at t1
      cases hu : s.at_ k with
      | none =>
        rw [hu] at t0 t1
        simp only [hv, Option.isSome_none] at t0 t1
        have hh : Calls Try.prog 24 #[.pointer (some ⟨g, 0, none⟩), .int .i64 k] wr fun e w' => e = .returned (.int .u8 3) ∧ wr = w' := by
          have := how_in g mb s wr HP.out k (wf_in ⟨by omega, by omega⟩)
          rw [hu] at this
          exact this
        have HH := Lib.hid hh
        have ho : opn s (k + 1) = opn s k := opn_no (by rw [hu]; intro h; cases h)
        have hN : Hid (∀ v, v < 4 → wr.cell? ⟨w.heap.size, v, none⟩ = some (.int .i64 (s.to v (k + 1)).length)) := Lib.hid fun v hv => by
          rw [to_succ, hu, if_neg (by intro h; cases h), List.append_nil]; exact HN.out v hv
        have HO := Lib.hid ho
        clear hh hu ho HN HP HT
        go_wp2_with fail
        refine HH.out.mono ?_
        rintro e w4 ⟨rfl, rfl⟩
        go_wp2_with fail
        go_roundw
        case rel => exact ⟨k + 1, by go_num, by omega, by rw [HO.out], hN, HZ, HB, hsz⟩
        case measure => simp [intOf]; omega
      | some v =>
        rw [hu] at t0 t1
        simp only [hv, Option.isSome_some] at t0 t1
        have hv4 : v < 4 := (H.out.wf.rng k v hu).2.2
        have hn := HN.out v hv4
        have hz := HZ.out v
        have hl64 := to_len s v k
        have ht : (s.to v (k + 1)).length = (s.to v k).length + 1 := by rw [to_succ, if_pos hu, List.length_append]; rfl
        have HN2 : Hid (∀ (W : World), W = wr.setCell ⟨w.heap.size, v, none⟩ (.int .i64 ((s.to v k).length + 1 : Int)) → ∀ u, u < 4 → W.cell? ⟨w.heap.size, u, none⟩ = some (.int .i64 (s.to u (k + 1)).length)) := Lib.hid fun W hW u hu4 => by
          subst hW
          by_cases e : u = v
          · subst e; rw [World.cell?_setCell_same _ _ _ hn, ht]; rfl
          · rw [World.cell?_setCell_other _ _ _ _ (off_ne (Ne.symm e)), HN.out u hu4, to_succ, hu, if_neg (by intro h; cases h; exact e rfl), List.append_nil]
        have HB2 : Hid (∀ (W : World), W = wr.setCell ⟨w.heap.size, v, none⟩ (.int .i64 ((s.to v k).length + 1 : Int)) → Below w.heap.size w W ∧ (∀ o, W.frozen? ⟨w.heap.size, o, none⟩ = false) ∧ w.heap.size + 1 ≤ W.heap.size) := Lib.hid fun W hW => by
          subst hW
          exact ⟨HB.out.setCell (Nat.le_refl _) _, fun o => by rw [World.frozen?_setCell]; exact HZ.out o, by simpa [World.setCell] using hsz⟩
        have HU := Lib.hid hu
        generalize (s.to v k).length = x at *
        have na : ab ≠ w.heap.size := by have := T.out.al; omega
        clear ht HN HZ HB HP HT hu
        go_upto_region 10 with fail
        have hW := HN2.out _ rfl
        obtain ⟨b1, z1, s1⟩ := HB2.out _ rfl
        clear HN2 HB2 hn hz
        generalize wr.setCell ⟨w.heap.size, v, none⟩ (.int .i64 ((x : Int) + 1)) = W at *
        have t3 := (T.out.below b1).h k hlt
        unfold hfOf at t3
        rw [HU.out] at t3
        simp only [hv] at t3
        have hh : ∀ q : Nat, Calls Try.prog 24 #[.pointer (some ⟨g, 0, none⟩), .int .i64 k] (W.drewN q) fun e w' => e = .returned (.int .u8 v) ∧ W.drewN q = w' := fun q => by
          have := how_in g mb s (W.drewN q) ((H.out.below b1).keep rfl rfl) k (wf_in ⟨by omega, by omega⟩)
          rw [HU.out] at this
          exact this
        have HH := Lib.hid hh
        have HW := Lib.hid hW
        have HB1 := Lib.hid b1
        have HZ1 := Lib.hid z1
        clear hh hW b1 z1 t0 t1
        by_cases h2 : v = 2
        · subst h2
          have ho : opn s (k + 1) = k := opn_yes HU.out
          have HO := Lib.hid ho
          clear ho
          go_wp2_with fail
          go_quiet ((go_at_call 24; exact quiet_same (HH.out _)))
          go_wp2_with fail
          go_roundw
          case rel => exact ⟨k + 1, by go_num, by omega, by rw [HO.out], HW, HZ1, Lib.hid (below_drewN HB1.out _), s1⟩
          case measure => simp [intOf]; omega
        · have hq : ((v : Int) == 2) = false := by simp; omega
          have ho : opn s (k + 1) = opn s k := opn_no (by rw [HU.out]; intro h; cases h; exact h2 rfl)
          have HO := Lib.hid ho
          clear ho h2
          go_wp2_with fail
          go_quiet ((go_at_call 24; exact quiet_same (HH.out _)))
          go_wp2_with fail
          go_roundw
          case rel => exact ⟨k + 1, by go_num, by omega, by rw [HO.out], HW, HZ1, Lib.hid (below_drewN HB1.out _), s1⟩
          case measure => simp [intOf]; omega
    · obtain rfl : k = 64 := by omega
      have ho := open_in g mb s wr HP.out
      have hoo : opn s 64 = (s.those 2).getLastD (-1) := rfl
      have HO := Lib.hid ho
      have HL : Hid (∀ v, v < 4 → wr.cell? ⟨w.heap.size, v, none⟩ = some (.int .i64 (s.those v).length)) := HN
      clear ho HN HT
      rcases those_open H.out.wf with h0 | ⟨o, h0, ha, -⟩
      · rw [h0] at hoo
        have hoo : opn s 64 = -1 := hoo
        rw [hoo]
        have HO2 := Lib.hid (those_as.1 h0)
        rw [HO2.out] at HO
        clear hoo h0 HO2
        go_wp2_with fail
        refine HO.out.mono ?_
        rintro e w5 ⟨rfl, hb5⟩
        have HB5 := Lib.hid (HB.out.trans (hb5.mono HB.out.size))
        have hP5 := HP.out.below hb5
        have hcell := fun v (hv : v < 4) => (hb5.cell (p := ⟨w.heap.size, v, none⟩) (by have := hb5.size; show w.heap.size < wr.heap.size; omega)).trans (HL.out v hv)
        have d0 := hcell 0 (by decide)
        have d1 := hcell 1 (by decide)
        have d2 := hcell 2 (by decide)
        have d3 := hcell 3 (by decide)
        have hC0 : ∀ W, Below w5.heap.size w5 W → Calls Try.prog 27 #[.pointer (some ⟨g, 0, none⟩), .int .u8 0] W fun e w' => e = .returned (.int .i64 (s.those 0).length) ∧ Below w5.heap.size w5 w' := fun W hW => (count_in_ g mb s W (hP5.below hW) 0).mono fun e w' ⟨h1, h2⟩ => ⟨h1, hW.trans (h2.mono hW.size)⟩
        have hC1 : ∀ W, Below w5.heap.size w5 W → Calls Try.prog 27 #[.pointer (some ⟨g, 0, none⟩), .int .u8 1] W fun e w' => e = .returned (.int .i64 (s.those 1).length) ∧ Below w5.heap.size w5 w' := fun W hW => (count_in_ g mb s W (hP5.below hW) 1).mono fun e w' ⟨h1, h2⟩ => ⟨h1, hW.trans (h2.mono hW.size)⟩
        have hC2 : ∀ W, Below w5.heap.size w5 W → Calls Try.prog 27 #[.pointer (some ⟨g, 0, none⟩), .int .u8 2] W fun e w' => e = .returned (.int .i64 (s.those 2).length) ∧ Below w5.heap.size w5 w' := fun W hW => (count_in_ g mb s W (hP5.below hW) 2).mono fun e w' ⟨h1, h2⟩ => ⟨h1, hW.trans (h2.mono hW.size)⟩
        have hC3 : ∀ W, Below w5.heap.size w5 W → Calls Try.prog 27 #[.pointer (some ⟨g, 0, none⟩), .int .u8 3] W fun e w' => e = .returned (.int .i64 (s.those 3).length) ∧ Below w5.heap.size w5 w' := fun W hW => (count_in_ g mb s W (hP5.below hW) 3).mono fun e w' ⟨h1, h2⟩ => ⟨h1, hW.trans (h2.mono hW.size)⟩
        have z5 : w.heap.size < w5.heap.size := by have := hb5.size; omega
        have HSS : Hid (∀ W, Below w5.heap.size w5 W → W.cell? ⟨w.heap.size, 0, none⟩ = some (.int .i64 (s.those 0).length) ∧ W.cell? ⟨w.heap.size, 1, none⟩ = some (.int .i64 (s.those 1).length) ∧ W.cell? ⟨w.heap.size, 2, none⟩ = some (.int .i64 (s.those 2).length) ∧ W.cell? ⟨w.heap.size, 3, none⟩ = some (.int .i64 (s.those 3).length)) :=
          Lib.hid fun W hW => ⟨(hW.cell (p := ⟨w.heap.size, 0, none⟩) z5).trans d0, (hW.cell (p := ⟨w.heap.size, 1, none⟩) z5).trans d1, (hW.cell (p := ⟨w.heap.size, 2, none⟩) z5).trans d2, (hW.cell (p := ⟨w.heap.size, 3, none⟩) z5).trans d3⟩
        have HC0 := Lib.hid hC0
        have HC1 := Lib.hid hC1
        have HC2 := Lib.hid hC2
        have HC3 := Lib.hid hC3
        have hb0 : Below w5.heap.size w5 w5.drew := (Below.refl _ _).drew
        have hq0 := HSS.out _ hb0
        clear hcell hP5 hC0 hC1 hC2 hC3 hb5 d0 d1 d2 d3 HL HO HP HB
        generalize (s.those 0).length = n0 at *
        generalize (s.those 1).length = n1 at *
        generalize (s.those 2).length = n2 at *
        generalize (s.those 3).length = n3 at *
        go_wp2_with fail
        first | (go_region_held (fun W => W.cell? ⟨w.heap.size, 0, none⟩ = some (.int .i64 n0) ∧ W.cell? ⟨w.heap.size, 1, none⟩ = some (.int .i64 n1) ∧ W.cell? ⟨w.heap.size, 2, none⟩ = some (.int .i64 n2) ∧ W.cell? ⟨w.heap.size, 3, none⟩ = some (.int .i64 n3)) (first | exact hq0 | exact hq9) (first
          | (go_at_call 27; ((with_reducible first | refine (HC0.out _ hb0).mono ?_ | refine (HC1.out _ hb9).mono ?_ | refine (HC2.out _ hb9).mono ?_ | refine (HC3.out _ hb9).mono ?_); rintro e w9 ⟨rfl, hb9⟩; have hq9 := HSS.out _ hb9)))) | fail
        all_goals
          clear hq9 hq0 hb0
          go_wp2
          go_ret
          exact ⟨rfl, HB5.out.trans (hb9.mono HB5.out.size)⟩
      · rw [h0] at hoo
        have hoo : opn s 64 = o := hoo
        have hog := H.out.wf.rng o 2 ha
        have o0 : (0 : Int) ≤ o := hog.1
        rw [hoo]
        have HO2 := Lib.hid (those_as.2 o h0)
        rw [HO2.out] at HO
        clear hoo h0 HO2 hog ha
        go_wp2_with fail
        refine HO.out.mono ?_
        rintro e w5 ⟨rfl, hb5⟩
        have HB5 := Lib.hid (HB.out.trans (hb5.mono HB.out.size))
        have hP5 := HP.out.below hb5
        have hcell := fun v (hv : v < 4) => (hb5.cell (p := ⟨w.heap.size, v, none⟩) (by have := hb5.size; show w.heap.size < wr.heap.size; omega)).trans (HL.out v hv)
        have d0 := hcell 0 (by decide)
        have d1 := hcell 1 (by decide)
        have d2 := hcell 2 (by decide)
        have d3 := hcell 3 (by decide)
        have hC0 : ∀ W, Below w5.heap.size w5 W → Calls Try.prog 27 #[.pointer (some ⟨g, 0, none⟩), .int .u8 0] W fun e w' => e = .returned (.int .i64 (s.those 0).length) ∧ Below w5.heap.size w5 w' := fun W hW => (count_in_ g mb s W (hP5.below hW) 0).mono fun e w' ⟨h1, h2⟩ => ⟨h1, hW.trans (h2.mono hW.size)⟩
        have hC1 : ∀ W, Below w5.heap.size w5 W → Calls Try.prog 27 #[.pointer (some ⟨g, 0, none⟩), .int .u8 1] W fun e w' => e = .returned (.int .i64 (s.those 1).length) ∧ Below w5.heap.size w5 w' := fun W hW => (count_in_ g mb s W (hP5.below hW) 1).mono fun e w' ⟨h1, h2⟩ => ⟨h1, hW.trans (h2.mono hW.size)⟩
        have hC2 : ∀ W, Below w5.heap.size w5 W → Calls Try.prog 27 #[.pointer (some ⟨g, 0, none⟩), .int .u8 2] W fun e w' => e = .returned (.int .i64 (s.those 2).length) ∧ Below w5.heap.size w5 w' := fun W hW => (count_in_ g mb s W (hP5.below hW) 2).mono fun e w' ⟨h1, h2⟩ => ⟨h1, hW.trans (h2.mono hW.size)⟩
        have hC3 : ∀ W, Below w5.heap.size w5 W → Calls Try.prog 27 #[.pointer (some ⟨g, 0, none⟩), .int .u8 3] W fun e w' => e = .returned (.int .i64 (s.those 3).length) ∧ Below w5.heap.size w5 w' := fun W hW => (count_in_ g mb s W (hP5.below hW) 3).mono fun e w' ⟨h1, h2⟩ => ⟨h1, hW.trans (h2.mono hW.size)⟩
        have z5 : w.heap.size < w5.heap.size := by have := hb5.size; omega
        have HSS : Hid (∀ W, Below w5.heap.size w5 W → W.cell? ⟨w.heap.size, 0, none⟩ = some (.int .i64 (s.those 0).length) ∧ W.cell? ⟨w.heap.size, 1, none⟩ = some (.int .i64 (s.those 1).length) ∧ W.cell? ⟨w.heap.size, 2, none⟩ = some (.int .i64 (s.those 2).length) ∧ W.cell? ⟨w.heap.size, 3, none⟩ = some (.int .i64 (s.those 3).length)) :=
          Lib.hid fun W hW => ⟨(hW.cell (p := ⟨w.heap.size, 0, none⟩) z5).trans d0, (hW.cell (p := ⟨w.heap.size, 1, none⟩) z5).trans d1, (hW.cell (p := ⟨w.heap.size, 2, none⟩) z5).trans d2, (hW.cell (p := ⟨w.heap.size, 3, none⟩) z5).trans d3⟩
        have HC0 := Lib.hid hC0
        have HC1 := Lib.hid hC1
        have HC2 := Lib.hid hC2
        have HC3 := Lib.hid hC3
        have hb0 : Below w5.heap.size w5 w5.drew := (Below.refl _ _).drew
        have hq0 := HSS.out _ hb0
        clear hcell hP5 hC0 hC1 hC2 hC3 hb5 d0 d1 d2 d3 HL HO HP HB
        generalize (s.those 0).length = n0 at *
        generalize (s.those 1).length = n1 at *
        generalize (s.those 2).length = n2 at *
        generalize (s.those 3).length = n3 at *
        go_wp2_with fail
        first | (go_region_held (fun W => W.cell? ⟨w.heap.size, 0, none⟩ = some (.int .i64 n0) ∧ W.cell? ⟨w.heap.size, 1, none⟩ = some (.int .i64 n1) ∧ W.cell? ⟨w.heap.size, 2, none⟩ = some (.int .i64 n2) ∧ W.cell? ⟨w.heap.size, 3, none⟩ = some (.int .i64 n3)) (first | exact hq0 | exact hq9) (first
          | (go_at_call 27; ((with_reducible first | refine (HC0.out _ hb0).mono ?_ | refine (HC1.out _ hb9).mono ?_ | refine (HC2.out _ hb9).mono ?_ | refine (HC3.out _ hb9).mono ?_); rintro e w9 ⟨rfl, hb9⟩; have hq9 := HSS.out _ hb9)))) | fail
        all_goals
          clear hq9 hq0 hb0
          go_wp2
          go_ret
          exact ⟨rfl, HB5.out.trans (hb9.mono HB5.out.size)⟩
end Go.Proofs.Ytfehioapjoihkaa
