/- The law PmapPlays answers true. -/
import Derived.Test.YtfehioapjoihkaaPRight
import Derived.Deep.CutRange
namespace Go.Proofs.Ytfehioapjoihkaa
open Go.RowKit
open Drawbar Drawbar.Pm

theorem info_bool : (Try.prog.info? 4).map (fun i => (i.zero, i.size, i.bytes)) = some (some (.bool false), 1, 1) := by kernel_rfl
theorem made_bool (n k : Nat) (h : k < n) : (madeCells #[Value.bool false] (n * 1))[k]? = some (.bool false) := by
  unfold madeCells
  simp [h, Nat.mod_one]
theorem make_bools (n : Nat) (h : n ≤ 65536) (W : World) : (Instr.makeSlice 29 (.int .i64 n) (.int .i64 n)).run Try.prog W = .ok (.slice (some ⟨W.heap.size, 0, none⟩) n n) (W.alloc (.cells (madeCells #[Value.bool false] (n * 1)) 4)) := by
  obtain ⟨i0, hi0, hz0, hz1, hz2⟩ := info_parts info_bool
  have hr := run_make (P := Try.prog) W 29 4 i0 _ Try.underlying29 hi0 hz0 .i64 .i64 n n (by omega) (Int.le_refl _) (by rw [hz2]; omega) (by omega)
  rw [hz1] at hr
  simp only [Int.toNat_natCast] at hr
  exact hr

/-- What the law holds at first. -/
theorem hold_new {w0 w w' : World} {g pb cb n m : Nat} (h : Mine w0.heap.size w g pb cb (St.new n m)) (hl : Below w0.heap.size w0 w) (hw : w' = (w.alloc (.cells (madeCells #[Value.int .i64 0, .int .i64 0] (n * 2)) 34)).alloc (.cells (madeCells #[Value.bool false] (n * 1)) 4)) :
    Hold w0 w' g pb cb w.heap.size (w.heap.size + 1) (St.new n m) := by
  subst hw
  have b1 := below_alloc w (.cells (madeCells #[Value.int .i64 0, .int .i64 0] (n * 2)) 34)
  have b2 := below_alloc (w.alloc (.cells (madeCells #[Value.int .i64 0, .int .i64 0] (n * 2)) 34)) (.cells (madeCells #[Value.bool false] (n * 1)) 4)
  have hA := (b2.block w.heap.size (by simp)).trans (heap_alloc_new w (.cells (madeCells #[Value.int .i64 0, .int .i64 0] (n * 2)) 34))
  have hB := heap_at w (.cells (madeCells #[Value.int .i64 0, .int .i64 0] (n * 2)) 34) (.cells (madeCells #[Value.bool false] (n * 1)) 4)
  have g1 := h.at_.gl
  have g2 := h.at_.pbl
  have g3 := h.at_.cbl
  have g4 := hl.size
  refine ⟨(h.below b1).below b2, ⟨fun k hk => ⟨(cell_in_row _ _ _ _ _ hA).1.trans (made_two n _ (by have : k < n := hk; omega)), (cell_in_row _ _ _ _ _ hA).1.trans (made_two n _ (by have : k < n := hk; omega))⟩, fun o => (cell_in_row _ _ _ _ o hA).2, fun k hk => (cell_in_row _ _ _ _ k hB).1.trans (made_bool n k hk), fun o => (cell_in_row _ _ _ _ o hB).2, by omega⟩,
    by omega, by omega, by omega, by omega, by omega, by omega, g4, by omega, Apart.new n m, hl.trans ((b1.mono g4).trans (b2.mono (by simp; omega)))⟩

/-- A number taken near. -/
theorem near_lt (a : Int) (n : Nat) (h0 : 0 < n) (h9 : n ≤ 65536) : ∃ x : Nat, wrap64 ((IntKind.u64.wrap a).tmod (n : Int)) = (x : Int) ∧ x < n := by
  have h := wrap_u64_nonneg a
  rw [Int.tmod_eq_emod_of_nonneg h]
  have h1 := Int.emod_nonneg (IntKind.u64.wrap a) (by omega : (n : Int) ≠ 0)
  have h2 := Int.emod_lt_of_pos (IntKind.u64.wrap a) (by omega : (0 : Int) < (n : Int))
  generalize IntKind.u64.wrap a % (n : Int) = y at *
  exact ⟨y.toNat, by unfold wrap64; omega, by omega⟩

/-- The map and the law's rows are told one more. -/
theorem Hold.put {w0 w w' : World} {g pb cb ab hb : Nat} {s : St} (h : Hold w0 w g pb cb ab hb s) (k : Nat) (hk : k < s.addrs) (v : Pl) (hbc : Become w g pb cb (s.put k v) w') (ha : Apart (s.put k v)) :
    Hold w0 (((w'.setCell ⟨ab, k * 2, none⟩ (.int .i64 (tellB v))).setCell ⟨ab, k * 2 + 1, none⟩ (.int .i64 (pgOf v))).setCell ⟨hb, k, none⟩ (.bool v.isSome)) g pb cb ab hb (s.put k v) := by
  have h0 := h.mine.at_.wf.a0
  have o1 : Only (fun d => d = ab ∨ d = hb) w' (((w'.setCell ⟨ab, k * 2, none⟩ (.int .i64 (tellB v))).setCell ⟨ab, k * 2 + 1, none⟩ (.int .i64 (pgOf v))).setCell ⟨hb, k, none⟩ (.bool v.isSome)) :=
    (((Only.refl _ _).setCell (.inl rfl) _).setCell (.inl rfl) _).setCell (.inr rfl) _
  have hag := h.ag
  have hap := h.ap
  have hac := h.ac
  have hhg := h.hg
  have hhp := h.hp
  have hhc := h.hc
  have m1 := h.mine.become hbc
  have l1 := h.low.trans (h.mine.low hbc h.low.size)
  have r1 := h.rows.keep (hbc.2.block _ (h.rows.al h0) (by unfold Two; omega)) (hbc.2.block _ (h.rows.hl h0) (by unfold Two; omega))
  exact ⟨⟨m1.at_.only o1 (by omega) (by omega) (by omega), m1.g9, m1.p9, m1.c9⟩, r1.set k hk v, hag, hap, hac, hhg, hhp, hhc, h.a9, h.h9, ha,
    l1.trans (o1.toBelow (fun d hd => by rcases hd with rfl | rfl; exact h.a9; exact h.h9) l1.size)⟩

set_option maxRecDepth 100000 in
/-- The law's call is no New: its numbers are wrong. -/
theorem plays_bad (A B : Int) (v : Value) (w : World) (h : A < 1 ∨ 65536 < A ∨ B < 1 ∨ 64 < B) : Calls Try.prog 3 #[.int .i64 A, .int .i64 B, v] w (Yes w) := by
  have hn := fun w => new_no A B w h
  have HN := Lib.hid hn
  clear hn
  by_cases h1 : A < 1
  · clear h
    go_enter Try.func3, Try.ntmps3
    go_wp2_with fail
    refine (awake_any _).mono ?_
    rintro e w1 ⟨rfl, b1⟩
    go_wp2_with fail
    refine (HN.out _).mono ?_
    rintro e w2 ⟨rfl, rfl⟩
    have B1 := Lib.hid b1
    clear b1
    go_wp2
    go_ret
    exact ⟨rfl, B1.out⟩
  · by_cases h2 : 65536 < A
    · clear h
      go_enter Try.func3, Try.ntmps3
      go_wp2_with fail
      refine (awake_any _).mono ?_
      rintro e w1 ⟨rfl, b1⟩
      go_wp2_with fail
      refine (HN.out _).mono ?_
      rintro e w2 ⟨rfl, rfl⟩
      have B1 := Lib.hid b1
      clear b1
      go_wp2
      go_ret
      exact ⟨rfl, B1.out⟩
    · by_cases h3 : B < 1
      · clear h
        go_enter Try.func3, Try.ntmps3
        go_wp2_with fail
        refine (awake_any _).mono ?_
        rintro e w1 ⟨rfl, b1⟩
        go_wp2_with fail
        refine (HN.out _).mono ?_
        rintro e w2 ⟨rfl, rfl⟩
        have B1 := Lib.hid b1
        clear b1
        go_wp2
        go_ret
        exact ⟨rfl, B1.out⟩
      · have h4 : 64 < B := by omega
        clear h
        go_enter Try.func3, Try.ntmps3
        go_wp2_with fail
        refine (awake_any _).mono ?_
        rintro e w1 ⟨rfl, b1⟩
        go_wp2_with fail
        refine (HN.out _).mono ?_
        rintro e w2 ⟨rfl, rfl⟩
        have B1 := Lib.hid b1
        clear b1
        go_wp2
        go_ret
        exact ⟨rfl, B1.out⟩

/-- A call of the script in a variable. -/
structure Box5 (w : World) (bx : Nat) (k X Y Z : Int) (n : Bool) : Prop where
  c0 : w.cell? ⟨bx, 0, none⟩ = some (.int .u8 k)
  c1 : w.cell? ⟨bx, 1, none⟩ = some (.int .i64 X)
  c2 : w.cell? ⟨bx, 2, none⟩ = some (.int .i64 Y)
  c3 : w.cell? ⟨bx, 3, none⟩ = some (.int .i64 Z)
  c4 : w.cell? ⟨bx, 4, none⟩ = some (.bool n)
theorem Box5.keep {w w' : World} {bx : Nat} {k X Y Z : Int} {n : Bool} (h : Box5 w bx k X Y Z n) (hk : w'.heap[bx]? = w.heap[bx]?) : Box5 w' bx k X Y Z n :=
  ⟨(World.cell?_of_block (a := ⟨bx, 0, none⟩) hk).trans h.c0, (World.cell?_of_block (a := ⟨bx, 1, none⟩) hk).trans h.c1, (World.cell?_of_block (a := ⟨bx, 2, none⟩) hk).trans h.c2, (World.cell?_of_block (a := ⟨bx, 3, none⟩) hk).trans h.c3, (World.cell?_of_block (a := ⟨bx, 4, none⟩) hk).trans h.c4⟩
theorem Box5.lt {w : World} {bx : Nat} {k X Y Z : Int} {n : Bool} (h : Box5 w bx k X Y Z n) : bx < w.heap.size := World.block_lt_of_cell? w _ h.c0
theorem Box5.below {w w' : World} {bx : Nat} {k X Y Z : Int} {n : Bool} (h : Box5 w bx k X Y Z n) (hb : Below w.heap.size w w') : Box5 w' bx k X Y Z n := h.keep (hb.block bx h.lt)
theorem Box5.new (w : World) (k X Y Z : Int) (n : Bool) : Box5 (w.alloc (.cells #[.int .u8 k, .int .i64 X, .int .i64 Y, .int .i64 Z, .bool n] 31)) w.heap.size k X Y Z n := ⟨by simp, by simp, by simp, by simp, by simp⟩
/-- This address has this place. -/
def Same (v : Pl) (Y Z : Int) : Prop := ∃ b p : Nat, v = some (b, p) ∧ Y = b ∧ Z = p

set_option maxHeartbeats 8000000 in
set_option maxRecDepth 100000 in
theorem plays_any (n m : Nat) (l : List ActA) (a : Option Addr) (c : Nat) (w : World) (n0 : 0 < n) (n9 : n ≤ 65536) (m0 : 0 < m) (m9 : m ≤ 64) (hs : ActAs w a l) : Calls Try.prog 3 #[.int .i64 n, .int .i64 m, .slice a l.length c] w (Yes w) := by
  have hn := fun w => new_any n m w n0 n9 m0 m9
  have HN := Lib.hid hn
  have x1 : (1 : Int) ≤ n := by omega
  have x2 : (n : Int) ≤ 65536 := by omega
  have x3 : (1 : Int) ≤ m := by omega
  have x4 : (m : Int) ≤ 64 := by omega
  have HS := Lib.hid hs
  clear hn hs
  by_cases h300 : 300 < n
  · have x5 : (300 : Int) < n := by omega
    go_enter Try.func3, Try.ntmps3
    go_wp2_with fail
    refine (awake_any _).mono ?_
    rintro e w1 ⟨rfl, b1⟩
    have B1 := Lib.hid b1
    clear b1
    go_wp2_with fail
    refine (HN.out _).mono ?_
    intro e w2 hm
    obtain ⟨g, pb, cb, rfl, h2, b2⟩ := hm.mine
    have B2 := Lib.hid (B1.out.trans (b2.mono B1.out.size))
    clear hm h2 b2
    go_wp2
    go_ret
    exact ⟨rfl, B2.out⟩
  · have x5 : (n : Int) ≤ 300 := by omega
    have mp := make_places n (by omega)
    have mb := make_bools n (by omega)
    go_enter Try.func3, Try.ntmps3
    go_wp2_with fail
    refine (awake_any _).mono ?_
    rintro e w1 ⟨rfl, b1⟩
    have B1 := Lib.hid b1
    clear b1
    go_wp2_with fail
    refine (HN.out _).mono ?_
    intro e w2 hm
    obtain ⟨g, pb, cb, rfl, h2, b2⟩ := hm.mine
    have M2 : Mine w.heap.size w2 g pb cb (St.new n m) := ⟨h2.at_, Nat.le_trans B1.out.size h2.g9, Nat.le_trans B1.out.size h2.p9, Nat.le_trans B1.out.size h2.c9⟩
    have HH : Hid (∀ w', w' = _ → Hold w w' g pb cb w2.heap.size (w2.heap.size + 1) (St.new n m)) := Lib.hid fun w' hw => hold_new M2 (B1.out.trans (b2.mono B1.out.size)) hw
    clear hm h2 b2 M2 B1 HN
    generalize madeCells #[Value.int .i64 0, .int .i64 0] (n * 2) = PL at mp HH
    generalize madeCells #[Value.bool false] (n * 1) = BL at mb HH
    go_wp2
    have HH2 : Hid (Hold w ((w2.alloc (.cells PL 34)).alloc (.cells BL 4)) g pb cb w2.heap.size (w2.heap.size + 1) (St.new n m)) := Lib.hid (HH.out _ rfl)
    clear HH mp mb
    generalize (w2.alloc (.cells PL 34)).alloc (.cells BL 4) = w3 at HH2 ⊢
    generalize w2.heap.size + 1 = hb at HH2 ⊢
    generalize w2.heap.size = ab at HH2 ⊢
    go_loopg [11] 60 (fun kx iv wr => ∃ (i : Nat) (s : St), iv = .int .i64 i ∧ i ≤ 60 ∧ i ≤ l.length ∧ 60 - i ≤ kx ∧ s.addrs = n ∧ s.blocks = m ∧ Hid (Hold w wr g pb cb ab hb s))
    case atStart => exact ⟨0, _, rfl, Nat.zero_le _, Nat.zero_le _, Nat.le_refl _, rfl, rfl, HH2⟩
    case round =>
      obtain ⟨i, s, rfl, hi, hil, hkx, hsa, hsb, HR⟩ := hrel
      clear HH2
      have HSA := Lib.hid hsa
      have HSB := Lib.hid hsb
      clear hsa hsb
      by_cases hgo : i < l.length ∧ i < 60
      · obtain ⟨g1, g2⟩ := hgo
        have i1 : (i : Int) < (l.length : Int) := by omega
        have i2 : (i : Int) < 60 := by omega
        obtain ⟨r, hr⟩ : ∃ r, l[i]? = some r := ⟨_, List.getElem?_eq_getElem g1⟩
        obtain ⟨hok, sb, so, rfl, hc⟩ := HS.out i r hr
        have cell : ∀ j v, r.cells[j]? = some v → j < 5 → wr.cell? ⟨sb, so + i * 5 + j, none⟩ = some v := fun j v hv hj => (HR.out.low.cell (p := ⟨sb, so + i * 5 + j, none⟩) (World.block_lt_of_cell? w _ ((hc j hj).trans hv))).trans ((hc j hj).trans hv)
        have k0 : wr.cell? ⟨sb, so + i * 5, none⟩ = some (.int .u8 r.kind) := cell 0 _ rfl (by omega)
        have k1 := cell 1 _ rfl (by omega)
        have k2 := cell 2 _ rfl (by omega)
        have k3 := cell 3 _ rfl (by omega)
        have k4 := cell 4 _ rfl (by omega)
        have ha := bounds_i64 hok.addr
        have hbb := bounds_i64 hok.b
        have hp := bounds_i64 hok.p
        have hk := bounds_u8 hok.kind
        have HA := Lib.hid ha
        have HBB := Lib.hid hbb
        have HP := Lib.hid hp
        obtain ⟨rk, ra, rb, rp, rn⟩ := r
        dsimp only at k0 k1 k2 k3 k4 HA HBB HP hk
        clear cell hc hr hok ha hbb hp
        obtain ⟨nx, ex, hnx⟩ := near_lt ra n n0 n9
        obtain ⟨ny, ey, hny⟩ := near_lt rb m m0 (by omega)
        obtain ⟨nz, ez, hnz⟩ := near_lt rp 32 (by omega) (by omega)
        replace ez : wrap64 ((IntKind.u64.wrap rp).tmod 32) = (nz : Int) := ez
        have hsb : sb < wr.heap.size := World.block_lt_of_cell? wr _ k0
        go_upto_if 71 with (fail)
        go_cut [] from 56 to 215 (fun wx => ∃ X Y Z : Int, wx = wr.alloc (.cells #[.int .u8 rk, .int .i64 X, .int .i64 Y, .int .i64 Z, .bool rn] 31))
        case first =>
          cases rn with
          | true =>
            go_wp2_with fail
            go_meet
            exact ⟨nx, ny, nz, rfl⟩
          | false =>
            go_wp2_with fail
            go_meet
            exact ⟨ra, rb, rp, rfl⟩
        case rest =>
          obtain ⟨X, Y, Z, rfl⟩ := hcut
          clear ex ey ez hnx hny hnz k0 k1 k2 k3 k4 HA HBB HP hsb
          have hX : ((∃ k : Nat, X = k ∧ k < n) ∨ X < 0) ∨ (n : Int) ≤ X := by
            by_cases h1 : X < 0
            · exact .inl (.inr h1)
            · by_cases h2 : X < n
              · exact .inl (.inl ⟨X.toNat, by omega, by omega⟩)
              · exact .inr (by omega)
          have HX := Lib.hid hX
          clear hX
          by_cases hk5 : rk % 6 = 5
          · have k5 : (rk % 6 == 5) = true := by simp [hk5]
            clear hk5
            rcases HX.out with (⟨k, rfl, hkn⟩ | hx) | hx
            · have kn1 : (k : Int) < n := by omega
              have kn0 : (0 : Int) ≤ k := by omega
              clear HX
              as_aux_lemma =>
                go_wp2_with fail
                have b1 := below_alloc wr (.cells #[.int .u8 rk, .int .i64 k, .int .i64 Y, .int .i64 Z, .bool rn] 31)
                have b2 := below_alloc (wr.alloc (.cells #[.int .u8 rk, .int .i64 k, .int .i64 Y, .int .i64 Z, .bool rn] 31)) (.cells #[.int .i64 Y, .int .i64 Z] 34)
                have X2 := (Box5.new wr rk k Y Z rn).below b2
                have P2 : Box ((wr.alloc (.cells #[.int .u8 rk, .int .i64 k, .int .i64 Y, .int .i64 Z, .bool rn] 31)).alloc (.cells #[.int .i64 Y, .int .i64 Z] 34)) (wr.alloc (.cells #[.int .u8 rk, .int .i64 k, .int .i64 Y, .int .i64 Z, .bool rn] 31)).heap.size Y Z := Box.new _ Y Z
                have H2 := (HR.out.below b1).below b2
                have n1 := HR.out.mine.at_.pbl
                have n2 := HR.out.mine.at_.cbl
                have n3 := HR.out.rows.al HR.out.mine.at_.wf.a0
                have n4 := HR.out.rows.hl HR.out.mine.at_.wf.a0
                rw [show (wr.alloc (.cells #[.int .u8 rk, .int .i64 k, .int .i64 Y, .int .i64 Z, .bool rn] 31)).heap.size = wr.heap.size + 1 by simp] at P2
                generalize (wr.alloc (.cells #[.int .u8 rk, .int .i64 k, .int .i64 Y, .int .i64 Z, .bool rn] 31)).alloc (.cells #[.int .i64 Y, .int .i64 Z] 34) = W2 at X2 P2 H2 ⊢
                clear b1 b2 HR
                generalize wr.heap.size = bx at X2 P2 n1 n2 n3 n4 ⊢
                have HAP := Lib.hid (H2.apart.drop k)
                have hka : k < s.addrs := by rw [HSA.out]; exact hkn
                refine (drop_in H2.mine.at_ k hka).mono ?_
                rintro e W3 ⟨rfl, hbc⟩
                clear P2
                have HF := Lib.hid (H2.put k hka (none) hbc HAP.out)
                have r3 := H2.rows.keep (w' := W3) (hbc.2.block _ (H2.rows.al H2.mine.at_.wf.a0) (by have := H2.ap; have := H2.ac; unfold Two; omega)) (hbc.2.block _ (H2.rows.hl H2.mine.at_.wf.a0) (by have := H2.hp; have := H2.hc; unfold Two; omega))
                have X3 := X2.keep (w' := W3) (hbc.2.block _ X2.lt (by unfold Two; omega))
                obtain ⟨r0, r1⟩ := r3.at_ k hka
                have r2 := r3.has k hka
                have af := r3.af
                have hf := r3.hf
                have ne9 := r3.ne
                have ne8 := r3.ne.symm
                have x1 := X3.c1
                have m1 : bx ≠ ab := by omega
                have m2 : bx ≠ hb := by omega
                generalize (s.at_ k).isSome = u1 at r2
                generalize tellB (s.at_ k) = u2 at r0
                generalize pgOf (s.at_ k) = u3 at r1
                clear r3 X3 X2  H2 hbc HAP
                clear hka n1 n2 n3 n4
                have hr := right_any HF.out
                rw [show (s.put k none).addrs = n from HSA.out, show (s.put k none).blocks = m from HSB.out] at hr
                have HRR := Lib.hid hr
                clear hr
                go_wp2_with fail
                refine HRR.out.mono ?_
                rintro e W9 ⟨rfl, hb9⟩
                have HF9 := Lib.hid (HF.out.below hb9)
                clear hb9 HF HRR
                go_wp2_with fail
                go_roundg (60 - (i + 1))
                case measure => omega
                case rel => exact ⟨i + 1, s.put k none, by go_num, by omega, by omega, Nat.le_refl _, HSA.out, HSB.out, HF9⟩
            · have hx0 : ¬ (0 : Int) ≤ X := by omega
              clear HX
              as_aux_lemma =>
                go_wp2_with fail
                have b1 := below_alloc wr (.cells #[.int .u8 rk, .int .i64 X, .int .i64 Y, .int .i64 Z, .bool rn] 31)
                have b2 := below_alloc (wr.alloc (.cells #[.int .u8 rk, .int .i64 X, .int .i64 Y, .int .i64 Z, .bool rn] 31)) (.cells #[.int .i64 Y, .int .i64 Z] 34)
                have X2 := (Box5.new wr rk X Y Z rn).below b2
                have P2 : Box ((wr.alloc (.cells #[.int .u8 rk, .int .i64 X, .int .i64 Y, .int .i64 Z, .bool rn] 31)).alloc (.cells #[.int .i64 Y, .int .i64 Z] 34)) (wr.alloc (.cells #[.int .u8 rk, .int .i64 X, .int .i64 Y, .int .i64 Z, .bool rn] 31)).heap.size Y Z := Box.new _ Y Z
                have H2 := (HR.out.below b1).below b2
                have n1 := HR.out.mine.at_.pbl
                have n2 := HR.out.mine.at_.cbl
                have n3 := HR.out.rows.al HR.out.mine.at_.wf.a0
                have n4 := HR.out.rows.hl HR.out.mine.at_.wf.a0
                rw [show (wr.alloc (.cells #[.int .u8 rk, .int .i64 X, .int .i64 Y, .int .i64 Z, .bool rn] 31)).heap.size = wr.heap.size + 1 by simp] at P2
                generalize (wr.alloc (.cells #[.int .u8 rk, .int .i64 X, .int .i64 Y, .int .i64 Z, .bool rn] 31)).alloc (.cells #[.int .i64 Y, .int .i64 Z] 34) = W2 at X2 P2 H2 ⊢
                clear b1 b2 HR
                generalize wr.heap.size = bx at X2 P2 n1 n2 n3 n4 ⊢
                refine (drop_out H2.mine.at_ X (by have := HSA.out; unfold inR; omega)).mono ?_
                rintro e W3 ⟨rfl, rfl⟩
                have HF := Lib.hid H2
                clear P2 X2 H2 n1 n2 n3 n4
                have hr := right_any HF.out
                rw [show (s).addrs = n from HSA.out, show (s).blocks = m from HSB.out] at hr
                have HRR := Lib.hid hr
                clear hr
                go_wp2_with fail
                refine HRR.out.mono ?_
                rintro e W9 ⟨rfl, hb9⟩
                have HF9 := Lib.hid (HF.out.below hb9)
                clear hb9 HF HRR
                go_wp2_with fail
                go_roundg (60 - (i + 1))
                case measure => omega
                case rel => exact ⟨i + 1, s, by go_num, by omega, by omega, Nat.le_refl _, HSA.out, HSB.out, HF9⟩
            · have hx0 : (0 : Int) ≤ X := by omega
              have hx1 : ¬ X < n := by omega
              clear HX
              as_aux_lemma =>
                go_wp2_with fail
                have b1 := below_alloc wr (.cells #[.int .u8 rk, .int .i64 X, .int .i64 Y, .int .i64 Z, .bool rn] 31)
                have b2 := below_alloc (wr.alloc (.cells #[.int .u8 rk, .int .i64 X, .int .i64 Y, .int .i64 Z, .bool rn] 31)) (.cells #[.int .i64 Y, .int .i64 Z] 34)
                have X2 := (Box5.new wr rk X Y Z rn).below b2
                have P2 : Box ((wr.alloc (.cells #[.int .u8 rk, .int .i64 X, .int .i64 Y, .int .i64 Z, .bool rn] 31)).alloc (.cells #[.int .i64 Y, .int .i64 Z] 34)) (wr.alloc (.cells #[.int .u8 rk, .int .i64 X, .int .i64 Y, .int .i64 Z, .bool rn] 31)).heap.size Y Z := Box.new _ Y Z
                have H2 := (HR.out.below b1).below b2
                have n1 := HR.out.mine.at_.pbl
                have n2 := HR.out.mine.at_.cbl
                have n3 := HR.out.rows.al HR.out.mine.at_.wf.a0
                have n4 := HR.out.rows.hl HR.out.mine.at_.wf.a0
                rw [show (wr.alloc (.cells #[.int .u8 rk, .int .i64 X, .int .i64 Y, .int .i64 Z, .bool rn] 31)).heap.size = wr.heap.size + 1 by simp] at P2
                generalize (wr.alloc (.cells #[.int .u8 rk, .int .i64 X, .int .i64 Y, .int .i64 Z, .bool rn] 31)).alloc (.cells #[.int .i64 Y, .int .i64 Z] 34) = W2 at X2 P2 H2 ⊢
                clear b1 b2 HR
                generalize wr.heap.size = bx at X2 P2 n1 n2 n3 n4 ⊢
                refine (drop_out H2.mine.at_ X (by have := HSA.out; unfold inR; omega)).mono ?_
                rintro e W3 ⟨rfl, rfl⟩
                have HF := Lib.hid H2
                clear P2 X2 H2 n1 n2 n3 n4
                have hr := right_any HF.out
                rw [show (s).addrs = n from HSA.out, show (s).blocks = m from HSB.out] at hr
                have HRR := Lib.hid hr
                clear hr
                go_wp2_with fail
                refine HRR.out.mono ?_
                rintro e W9 ⟨rfl, hb9⟩
                have HF9 := Lib.hid (HF.out.below hb9)
                clear hb9 HF HRR
                go_wp2_with fail
                go_roundg (60 - (i + 1))
                case measure => omega
                case rel => exact ⟨i + 1, s, by go_num, by omega, by omega, Nat.le_refl _, HSA.out, HSB.out, HF9⟩
          · have k5 : (rk % 6 == 5) = false := by simp [hk5]
            clear hk5
            rcases HX.out with (⟨k, rfl, hkn⟩ | hx) | hx
            · have kn1 : (k : Int) < n := by omega
              have kn0 : (0 : Int) ≤ k := by omega
              clear HX
              go_wp2_with fail
              have b1 := below_alloc wr (.cells #[.int .u8 rk, .int .i64 k, .int .i64 Y, .int .i64 Z, .bool rn] 31)
              have b2 := below_alloc (wr.alloc (.cells #[.int .u8 rk, .int .i64 k, .int .i64 Y, .int .i64 Z, .bool rn] 31)) (.cells #[.int .i64 Y, .int .i64 Z] 34)
              have X2 := (Box5.new wr rk k Y Z rn).below b2
              have P2 : Box ((wr.alloc (.cells #[.int .u8 rk, .int .i64 k, .int .i64 Y, .int .i64 Z, .bool rn] 31)).alloc (.cells #[.int .i64 Y, .int .i64 Z] 34)) (wr.alloc (.cells #[.int .u8 rk, .int .i64 k, .int .i64 Y, .int .i64 Z, .bool rn] 31)).heap.size Y Z := Box.new _ Y Z
              have H2 := (HR.out.below b1).below b2
              have n1 := HR.out.mine.at_.pbl
              have n2 := HR.out.mine.at_.cbl
              have n3 := HR.out.rows.al HR.out.mine.at_.wf.a0
              have n4 := HR.out.rows.hl HR.out.mine.at_.wf.a0
              rw [show (wr.alloc (.cells #[.int .u8 rk, .int .i64 k, .int .i64 Y, .int .i64 Z, .bool rn] 31)).heap.size = wr.heap.size + 1 by simp] at P2
              generalize (wr.alloc (.cells #[.int .u8 rk, .int .i64 k, .int .i64 Y, .int .i64 Z, .bool rn] 31)).alloc (.cells #[.int .i64 Y, .int .i64 Z] 34) = W2 at X2 P2 H2 ⊢
              clear b1 b2 HR
              generalize wr.heap.size = bx at X2 P2 n1 n2 n3 n4 ⊢
              have HH2 := Lib.hid H2
              have HX2 := Lib.hid X2
              have HP2 := Lib.hid P2
              clear H2 X2 P2
              go_loopg [16] n (fun kx jv wr => ∃ j : Nat, jv = .int .i64 j ∧ j ≤ n ∧ n - j ≤ kx ∧ Hid (∀ t, t < j → (t : Int) ≠ k → ¬ Same (s.at_ t) Y Z) ∧ Hid (Below W2.heap.size W2 wr))
              case atStart => exact ⟨0, rfl, Nat.zero_le _, Nat.le_refl _, Lib.hid (fun t h => absurd h (Nat.not_lt_zero t)), Lib.hid (Below.refl _ _)⟩
              case round =>
                obtain ⟨j, rfl, hj, hjx, HN, BR⟩ := hrel
                have HH3 := Lib.hid (HH2.out.below BR.out)
                have HX3 := Lib.hid (HX2.out.below BR.out)
                have HP3 := Lib.hid (HP2.out.below BR.out)
                by_cases hlt : j < n
                · have j1 : (j : Int) < n := by omega
                  as_aux_lemma =>
                    have hja : j < s.addrs := by rw [HSA.out]; exact hlt
                    obtain ⟨r0, r1⟩ := HH3.out.rows.at_ j hja
                    have r2 := HH3.out.rows.has j hja
                    have x1 := HX3.out.c1
                    have p0 := HP3.out.c0
                    have p1 := HP3.out.c1
                    have BD := Lib.hid (Below.drewB BR.out)
                    have go : (t : (j : Int) ≠ k → ¬ Same (s.at_ j) Y Z) → Hid (∀ t, t < j + 1 → (t : Int) ≠ k → ¬ Same (s.at_ t) Y Z) := fun h => Lib.hid fun t ht => by
                      by_cases e : t = j
                      · subst e; exact h
                      · exact HN.out t (by omega)
                    have GO := Lib.hid go
                    clear go hja
                    cases hv : s.at_ j with
                    | none =>
                      rw [hv] at r0 r1 r2
                      simp only [tellB, pgOf, Option.isSome] at r0 r1 r2
                      have HN2 := GO.out fun _ => by rw [hv]; rintro ⟨b, p, h, _⟩; cases h
                      clear hv GO HH3 HX3 HP3 HN BR
                      go_wp2_with fail
                      go_region
                      go_wp2_with fail
                      go_roundg (n - (j + 1))
                      case measure => omega
                      case rel => exact ⟨j + 1, by go_num, by omega, Nat.le_refl _, HN2, BD⟩
                    | some v =>
                      obtain ⟨b, p⟩ := v
                      rw [hv] at r0 r1 r2
                      simp only [tellB, pgOf, Option.isSome] at r0 r1 r2
                      by_cases hY : Y = b ∧ Z = p
                      · by_cases hjX : (j : Int) = k
                        · have HN2 := GO.out fun h => absurd hjX h
                          have e9 : ((j : Int) == (k : Int)) = true := by simp [hjX]
                          have e8 : ((j : Int) != (k : Int)) = false := by simp [hjX]
                          obtain ⟨rfl, rfl⟩ := hY
                          clear hv GO HH3 HX3 HP3 HN BR hjX
                          go_wp2_with fail
                          go_region
                          go_wp2_with fail
                          go_roundg (n - (j + 1))
                          case measure => omega
                          case rel => exact ⟨j + 1, by go_num, by omega, Nat.le_refl _, HN2, BD⟩
                        · have e9 : ((j : Int) == (k : Int)) = false := by simp [hjX]
                          have e8 : ((j : Int) != (k : Int)) = true := by simp [hjX]
                          obtain ⟨rfl, rfl⟩ := hY
                          have HL := Lib.hid (Below.drewB HH3.out.low)
                          clear hv GO HH3 HX3 HP3 HN BR hjX
                          go_wp2_with fail
                          go_region
                          go_wp2
                          go_ret
                          exact ⟨rfl, HL.out⟩
                      · have HN2 := GO.out fun _ => by rw [hv]; rintro ⟨b', p', h, h1, h2⟩; cases h; exact hY ⟨h1, h2⟩
                        by_cases hYb : (b : Int) = Y
                        · have e6 : ¬ (p : Int) = Z := fun h => hY ⟨hYb.symm, h.symm⟩
                          obtain rfl : Y = b := hYb.symm
                          clear hv GO HH3 HX3 HP3 HN BR hY hYb
                          go_wp2_with fail
                          go_region
                          go_wp2_with fail
                          go_roundg (n - (j + 1))
                          case measure => omega
                          case rel => exact ⟨j + 1, by go_num, by omega, Nat.le_refl _, HN2, BD⟩
                        · clear hv GO HH3 HX3 HP3 HN BR hY
                          go_wp2_with fail
                          go_region
                          go_wp2_with fail
                          go_roundg (n - (j + 1))
                          case measure => omega
                          case rel => exact ⟨j + 1, by go_num, by omega, Nat.le_refl _, HN2, BD⟩
                · obtain rfl : n = j := by omega
                  have j1 : ¬ (n : Int) < n := by omega
                  have x0 := HX3.out.c0
                  have x1 := HX3.out.c1
                  have x2 := HX3.out.c2
                  have x3 := HX3.out.c3
                  have p0 := HP3.out.c0
                  have p1 := HP3.out.c1
                  have n5 := HX3.out.lt
                  have n6 := HP3.out.lt
                  have hka : k < s.addrs := by rw [HSA.out]; exact hkn
                  by_cases hY0 : 0 ≤ Y
                  · by_cases hY1 : Y < m
                    · by_cases hZ0 : 0 ≤ Z
                      · by_cases hZ1 : Z < 32
                        · obtain ⟨b, rfl⟩ : ∃ b : Nat, Y = b := ⟨Y.toNat, by omega⟩
                          obtain ⟨p, rfl⟩ : ∃ p : Nat, Z = p := ⟨Z.toNat, by omega⟩
                          have hset := set_in HH3.out.mine.at_ k b p hka (by have := HSB.out; omega) (by omega)
                          have HAP := Lib.hid (HH3.out.apart.set k (b, p) fun t ht h => by
                            by_cases htn : t < n
                            · exact HN.out t htn (by omega) ⟨b, p, h, rfl, rfl⟩
                            · rw [HH3.out.mine.at_.wf.out t (by have := HSA.out; omega)] at h; cases h)
                          have HST := Lib.hid hset
                          clear hset
                          go_wp2_with fail
                          refine HST.out.mono ?_
                          rintro e W4 ⟨rfl, hbc⟩
                          have H3 := HH3.out
                          have X3' := HX3.out
                          have P3' := HP3.out
                          clear HST HH3 HX3 HP3 HN BR x0 x1 x2 x3 p0 p1 n5 n6 HH2 HX2 HP2
                          as_aux_lemma =>
                            have HF := Lib.hid (H3.put k hka (some (b, p)) hbc HAP.out)
                            have r3 := H3.rows.keep (w' := W4) (hbc.2.block _ (H3.rows.al H3.mine.at_.wf.a0) (by have := H3.ap; have := H3.ac; unfold Two; omega)) (hbc.2.block _ (H3.rows.hl H3.mine.at_.wf.a0) (by have := H3.hp; have := H3.hc; unfold Two; omega))
                            have X4 := X3'.keep (w' := W4) (hbc.2.block _ X3'.lt (by unfold Two; omega))
                            have P4 := P3'.only hbc.2 (by unfold Two; omega)
                            obtain ⟨r0, r1⟩ := r3.at_ k hka
                            have r2 := r3.has k hka
                            have af := r3.af
                            have hf := r3.hf
                            have ne9 := r3.ne
                            have ne8 := r3.ne.symm
                            have x1 := X4.c1
                            have p0 := P4.c0
                            have p1 := P4.c1
                            have m3 : bx + 1 ≠ ab := by omega
                            have m4 : bx + 1 ≠ hb := by omega
                            have m1 : bx ≠ ab := by omega
                            have m2 : bx ≠ hb := by omega
                            generalize (s.at_ k).isSome = u1 at r2
                            generalize tellB (s.at_ k) = u2 at r0
                            generalize pgOf (s.at_ k) = u3 at r1
                            clear r3 X4 P4 X3' P3' H3 hbc HAP
                            clear hka n1 n2 n3 n4
                            have hr := right_any HF.out
                            rw [show (s.put k (some (b, p))).addrs = n from HSA.out, show (s.put k (some (b, p))).blocks = m from HSB.out] at hr
                            have HRR := Lib.hid hr
                            clear hr
                            go_wp2_with fail
                            refine HRR.out.mono ?_
                            rintro e W9 ⟨rfl, hb9⟩
                            have HF9 := Lib.hid (HF.out.below hb9)
                            clear hb9 HF HRR
                            go_wp2_with fail
                            go_roundg (60 - (i + 1))
                            case measure => omega
                            case rel => exact ⟨i + 1, s.put k (some (b, p)), by go_num, by omega, by omega, Nat.le_refl _, HSA.out, HSB.out, HF9⟩
                        · have hz2 : ¬ Z < 32 := hZ1
                          as_aux_lemma =>
                            obtain ⟨b, rfl⟩ : ∃ b : Nat, Y = b := ⟨Y.toNat, by omega⟩
                            go_wp2_with fail
                            refine (set_noPage HH3.out.mine.at_ k b Z hka (by have := HSB.out; omega) (by unfold inR; omega)).mono ?_
                            rintro e W4 ⟨rfl, hb4⟩
                            have HF := Lib.hid (HH3.out.below hb4)
                            have HY4 := HX3.out.below hb4
                            have y1 := HY4.c1
                            clear hb4 HH3 HX3 HP3 HN BR x0 x1 x2 x3 p0 p1 n5 n6 HH2 HX2 HP2 HY4
                            have hr := right_any HF.out
                            rw [show (s).addrs = n from HSA.out, show (s).blocks = m from HSB.out] at hr
                            have HRR := Lib.hid hr
                            clear hr
                            go_wp2_with fail
                            refine HRR.out.mono ?_
                            rintro e W9 ⟨rfl, hb9⟩
                            have HF9 := Lib.hid (HF.out.below hb9)
                            clear hb9 HF HRR
                            go_wp2_with fail
                            go_roundg (60 - (i + 1))
                            case measure => omega
                            case rel => exact ⟨i + 1, s, by go_num, by omega, by omega, Nat.le_refl _, HSA.out, HSB.out, HF9⟩
                      · have hz2 : ¬ 0 ≤ Z := hZ0
                        as_aux_lemma =>
                          obtain ⟨b, rfl⟩ : ∃ b : Nat, Y = b := ⟨Y.toNat, by omega⟩
                          go_wp2_with fail
                          refine (set_noPage HH3.out.mine.at_ k b Z hka (by have := HSB.out; omega) (by unfold inR; omega)).mono ?_
                          rintro e W4 ⟨rfl, hb4⟩
                          have HF := Lib.hid (HH3.out.below hb4)
                          have HY4 := HX3.out.below hb4
                          have y1 := HY4.c1
                          clear hb4 HH3 HX3 HP3 HN BR x0 x1 x2 x3 p0 p1 n5 n6 HH2 HX2 HP2 HY4
                          have hr := right_any HF.out
                          rw [show (s).addrs = n from HSA.out, show (s).blocks = m from HSB.out] at hr
                          have HRR := Lib.hid hr
                          clear hr
                          go_wp2_with fail
                          refine HRR.out.mono ?_
                          rintro e W9 ⟨rfl, hb9⟩
                          have HF9 := Lib.hid (HF.out.below hb9)
                          clear hb9 HF HRR
                          go_wp2_with fail
                          go_roundg (60 - (i + 1))
                          case measure => omega
                          case rel => exact ⟨i + 1, s, by go_num, by omega, by omega, Nat.le_refl _, HSA.out, HSB.out, HF9⟩
                    · have hy2 : ¬ Y < m := hY1
                      as_aux_lemma =>
                        go_wp2_with fail
                        refine (set_noBlock HH3.out.mine.at_ k Y Z hka (by have := HSB.out; unfold inR; omega)).mono ?_
                        rintro e W4 ⟨rfl, hb4⟩
                        have HF := Lib.hid (HH3.out.below hb4)
                        have HY4 := HX3.out.below hb4
                        have y1 := HY4.c1
                        clear hb4 HH3 HX3 HP3 HN BR x0 x1 x2 x3 p0 p1 n5 n6 HH2 HX2 HP2 HY4
                        have hr := right_any HF.out
                        rw [show (s).addrs = n from HSA.out, show (s).blocks = m from HSB.out] at hr
                        have HRR := Lib.hid hr
                        clear hr
                        go_wp2_with fail
                        refine HRR.out.mono ?_
                        rintro e W9 ⟨rfl, hb9⟩
                        have HF9 := Lib.hid (HF.out.below hb9)
                        clear hb9 HF HRR
                        go_wp2_with fail
                        go_roundg (60 - (i + 1))
                        case measure => omega
                        case rel => exact ⟨i + 1, s, by go_num, by omega, by omega, Nat.le_refl _, HSA.out, HSB.out, HF9⟩
                  · have hy2 : ¬ 0 ≤ Y := hY0
                    as_aux_lemma =>
                      go_wp2_with fail
                      refine (set_noBlock HH3.out.mine.at_ k Y Z hka (by have := HSB.out; unfold inR; omega)).mono ?_
                      rintro e W4 ⟨rfl, hb4⟩
                      have HF := Lib.hid (HH3.out.below hb4)
                      have HY4 := HX3.out.below hb4
                      have y1 := HY4.c1
                      clear hb4 HH3 HX3 HP3 HN BR x0 x1 x2 x3 p0 p1 n5 n6 HH2 HX2 HP2 HY4
                      have hr := right_any HF.out
                      rw [show (s).addrs = n from HSA.out, show (s).blocks = m from HSB.out] at hr
                      have HRR := Lib.hid hr
                      clear hr
                      go_wp2_with fail
                      refine HRR.out.mono ?_
                      rintro e W9 ⟨rfl, hb9⟩
                      have HF9 := Lib.hid (HF.out.below hb9)
                      clear hb9 HF HRR
                      go_wp2_with fail
                      go_roundg (60 - (i + 1))
                      case measure => omega
                      case rel => exact ⟨i + 1, s, by go_num, by omega, by omega, Nat.le_refl _, HSA.out, HSB.out, HF9⟩
            · have hx0 : ¬ (0 : Int) ≤ X := by omega
              clear HX
              go_wp2_with fail
              have b1 := below_alloc wr (.cells #[.int .u8 rk, .int .i64 X, .int .i64 Y, .int .i64 Z, .bool rn] 31)
              have b2 := below_alloc (wr.alloc (.cells #[.int .u8 rk, .int .i64 X, .int .i64 Y, .int .i64 Z, .bool rn] 31)) (.cells #[.int .i64 Y, .int .i64 Z] 34)
              have X2 := (Box5.new wr rk X Y Z rn).below b2
              have P2 : Box ((wr.alloc (.cells #[.int .u8 rk, .int .i64 X, .int .i64 Y, .int .i64 Z, .bool rn] 31)).alloc (.cells #[.int .i64 Y, .int .i64 Z] 34)) (wr.alloc (.cells #[.int .u8 rk, .int .i64 X, .int .i64 Y, .int .i64 Z, .bool rn] 31)).heap.size Y Z := Box.new _ Y Z
              have H2 := (HR.out.below b1).below b2
              have n1 := HR.out.mine.at_.pbl
              have n2 := HR.out.mine.at_.cbl
              have n3 := HR.out.rows.al HR.out.mine.at_.wf.a0
              have n4 := HR.out.rows.hl HR.out.mine.at_.wf.a0
              rw [show (wr.alloc (.cells #[.int .u8 rk, .int .i64 X, .int .i64 Y, .int .i64 Z, .bool rn] 31)).heap.size = wr.heap.size + 1 by simp] at P2
              generalize (wr.alloc (.cells #[.int .u8 rk, .int .i64 X, .int .i64 Y, .int .i64 Z, .bool rn] 31)).alloc (.cells #[.int .i64 Y, .int .i64 Z] 34) = W2 at X2 P2 H2 ⊢
              clear b1 b2 HR
              generalize wr.heap.size = bx at X2 P2 n1 n2 n3 n4 ⊢
              have HH2 := Lib.hid H2
              have HX2 := Lib.hid X2
              have HP2 := Lib.hid P2
              clear H2 X2 P2
              go_loopg [16] n (fun kx jv wr => ∃ j : Nat, jv = .int .i64 j ∧ j ≤ n ∧ n - j ≤ kx ∧ Hid (∀ t, t < j → (t : Int) ≠ X → ¬ Same (s.at_ t) Y Z) ∧ Hid (Below W2.heap.size W2 wr))
              case atStart => exact ⟨0, rfl, Nat.zero_le _, Nat.le_refl _, Lib.hid (fun t h => absurd h (Nat.not_lt_zero t)), Lib.hid (Below.refl _ _)⟩
              case round =>
                obtain ⟨j, rfl, hj, hjx, HN, BR⟩ := hrel
                have HH3 := Lib.hid (HH2.out.below BR.out)
                have HX3 := Lib.hid (HX2.out.below BR.out)
                have HP3 := Lib.hid (HP2.out.below BR.out)
                by_cases hlt : j < n
                · have j1 : (j : Int) < n := by omega
                  as_aux_lemma =>
                    have hja : j < s.addrs := by rw [HSA.out]; exact hlt
                    obtain ⟨r0, r1⟩ := HH3.out.rows.at_ j hja
                    have r2 := HH3.out.rows.has j hja
                    have x1 := HX3.out.c1
                    have p0 := HP3.out.c0
                    have p1 := HP3.out.c1
                    have BD := Lib.hid (Below.drewB BR.out)
                    have go : (t : (j : Int) ≠ X → ¬ Same (s.at_ j) Y Z) → Hid (∀ t, t < j + 1 → (t : Int) ≠ X → ¬ Same (s.at_ t) Y Z) := fun h => Lib.hid fun t ht => by
                      by_cases e : t = j
                      · subst e; exact h
                      · exact HN.out t (by omega)
                    have GO := Lib.hid go
                    clear go hja
                    cases hv : s.at_ j with
                    | none =>
                      rw [hv] at r0 r1 r2
                      simp only [tellB, pgOf, Option.isSome] at r0 r1 r2
                      have HN2 := GO.out fun _ => by rw [hv]; rintro ⟨b, p, h, _⟩; cases h
                      clear hv GO HH3 HX3 HP3 HN BR
                      go_wp2_with fail
                      go_region
                      go_wp2_with fail
                      go_roundg (n - (j + 1))
                      case measure => omega
                      case rel => exact ⟨j + 1, by go_num, by omega, Nat.le_refl _, HN2, BD⟩
                    | some v =>
                      obtain ⟨b, p⟩ := v
                      rw [hv] at r0 r1 r2
                      simp only [tellB, pgOf, Option.isSome] at r0 r1 r2
                      by_cases hY : Y = b ∧ Z = p
                      · by_cases hjX : (j : Int) = X
                        · have HN2 := GO.out fun h => absurd hjX h
                          have e9 : ((j : Int) == X) = true := by simp [hjX]
                          have e8 : ((j : Int) != X) = false := by simp [hjX]
                          obtain ⟨rfl, rfl⟩ := hY
                          clear hv GO HH3 HX3 HP3 HN BR hjX
                          go_wp2_with fail
                          go_region
                          go_wp2_with fail
                          go_roundg (n - (j + 1))
                          case measure => omega
                          case rel => exact ⟨j + 1, by go_num, by omega, Nat.le_refl _, HN2, BD⟩
                        · have e9 : ((j : Int) == X) = false := by simp [hjX]
                          have e8 : ((j : Int) != X) = true := by simp [hjX]
                          obtain ⟨rfl, rfl⟩ := hY
                          have HL := Lib.hid (Below.drewB HH3.out.low)
                          clear hv GO HH3 HX3 HP3 HN BR hjX
                          go_wp2_with fail
                          go_region
                          go_wp2
                          go_ret
                          exact ⟨rfl, HL.out⟩
                      · have HN2 := GO.out fun _ => by rw [hv]; rintro ⟨b', p', h, h1, h2⟩; cases h; exact hY ⟨h1, h2⟩
                        by_cases hYb : (b : Int) = Y
                        · have e6 : ¬ (p : Int) = Z := fun h => hY ⟨hYb.symm, h.symm⟩
                          obtain rfl : Y = b := hYb.symm
                          clear hv GO HH3 HX3 HP3 HN BR hY hYb
                          go_wp2_with fail
                          go_region
                          go_wp2_with fail
                          go_roundg (n - (j + 1))
                          case measure => omega
                          case rel => exact ⟨j + 1, by go_num, by omega, Nat.le_refl _, HN2, BD⟩
                        · clear hv GO HH3 HX3 HP3 HN BR hY
                          go_wp2_with fail
                          go_region
                          go_wp2_with fail
                          go_roundg (n - (j + 1))
                          case measure => omega
                          case rel => exact ⟨j + 1, by go_num, by omega, Nat.le_refl _, HN2, BD⟩
                · obtain rfl : n = j := by omega
                  have j1 : ¬ (n : Int) < n := by omega
                  have x0 := HX3.out.c0
                  have x1 := HX3.out.c1
                  have x2 := HX3.out.c2
                  have x3 := HX3.out.c3
                  have p0 := HP3.out.c0
                  have p1 := HP3.out.c1
                  have n5 := HX3.out.lt
                  have n6 := HP3.out.lt
                  as_aux_lemma =>
                    go_wp2_with fail
                    refine (set_noAddr HH3.out.mine.at_ X Y Z (by have := HSA.out; unfold inR; omega)).mono ?_
                    rintro e W4 ⟨rfl, hb4⟩
                    have HF := Lib.hid (HH3.out.below hb4)
                    have HY4 := HX3.out.below hb4
                    have y1 := HY4.c1
                    clear hb4 HH3 HX3 HP3 HN BR x0 x1 x2 x3 p0 p1 n5 n6 HH2 HX2 HP2 HY4
                    have hr := right_any HF.out
                    rw [show (s).addrs = n from HSA.out, show (s).blocks = m from HSB.out] at hr
                    have HRR := Lib.hid hr
                    clear hr
                    go_wp2_with fail
                    refine HRR.out.mono ?_
                    rintro e W9 ⟨rfl, hb9⟩
                    have HF9 := Lib.hid (HF.out.below hb9)
                    clear hb9 HF HRR
                    go_wp2_with fail
                    go_roundg (60 - (i + 1))
                    case measure => omega
                    case rel => exact ⟨i + 1, s, by go_num, by omega, by omega, Nat.le_refl _, HSA.out, HSB.out, HF9⟩
            · have hx0 : (0 : Int) ≤ X := by omega
              have hx1 : ¬ X < n := by omega
              clear HX
              go_wp2_with fail
              have b1 := below_alloc wr (.cells #[.int .u8 rk, .int .i64 X, .int .i64 Y, .int .i64 Z, .bool rn] 31)
              have b2 := below_alloc (wr.alloc (.cells #[.int .u8 rk, .int .i64 X, .int .i64 Y, .int .i64 Z, .bool rn] 31)) (.cells #[.int .i64 Y, .int .i64 Z] 34)
              have X2 := (Box5.new wr rk X Y Z rn).below b2
              have P2 : Box ((wr.alloc (.cells #[.int .u8 rk, .int .i64 X, .int .i64 Y, .int .i64 Z, .bool rn] 31)).alloc (.cells #[.int .i64 Y, .int .i64 Z] 34)) (wr.alloc (.cells #[.int .u8 rk, .int .i64 X, .int .i64 Y, .int .i64 Z, .bool rn] 31)).heap.size Y Z := Box.new _ Y Z
              have H2 := (HR.out.below b1).below b2
              have n1 := HR.out.mine.at_.pbl
              have n2 := HR.out.mine.at_.cbl
              have n3 := HR.out.rows.al HR.out.mine.at_.wf.a0
              have n4 := HR.out.rows.hl HR.out.mine.at_.wf.a0
              rw [show (wr.alloc (.cells #[.int .u8 rk, .int .i64 X, .int .i64 Y, .int .i64 Z, .bool rn] 31)).heap.size = wr.heap.size + 1 by simp] at P2
              generalize (wr.alloc (.cells #[.int .u8 rk, .int .i64 X, .int .i64 Y, .int .i64 Z, .bool rn] 31)).alloc (.cells #[.int .i64 Y, .int .i64 Z] 34) = W2 at X2 P2 H2 ⊢
              clear b1 b2 HR
              generalize wr.heap.size = bx at X2 P2 n1 n2 n3 n4 ⊢
              have HH2 := Lib.hid H2
              have HX2 := Lib.hid X2
              have HP2 := Lib.hid P2
              clear H2 X2 P2
              go_loopg [16] n (fun kx jv wr => ∃ j : Nat, jv = .int .i64 j ∧ j ≤ n ∧ n - j ≤ kx ∧ Hid (∀ t, t < j → (t : Int) ≠ X → ¬ Same (s.at_ t) Y Z) ∧ Hid (Below W2.heap.size W2 wr))
              case atStart => exact ⟨0, rfl, Nat.zero_le _, Nat.le_refl _, Lib.hid (fun t h => absurd h (Nat.not_lt_zero t)), Lib.hid (Below.refl _ _)⟩
              case round =>
                obtain ⟨j, rfl, hj, hjx, HN, BR⟩ := hrel
                have HH3 := Lib.hid (HH2.out.below BR.out)
                have HX3 := Lib.hid (HX2.out.below BR.out)
                have HP3 := Lib.hid (HP2.out.below BR.out)
                by_cases hlt : j < n
                · have j1 : (j : Int) < n := by omega
                  as_aux_lemma =>
                    have hja : j < s.addrs := by rw [HSA.out]; exact hlt
                    obtain ⟨r0, r1⟩ := HH3.out.rows.at_ j hja
                    have r2 := HH3.out.rows.has j hja
                    have x1 := HX3.out.c1
                    have p0 := HP3.out.c0
                    have p1 := HP3.out.c1
                    have BD := Lib.hid (Below.drewB BR.out)
                    have go : (t : (j : Int) ≠ X → ¬ Same (s.at_ j) Y Z) → Hid (∀ t, t < j + 1 → (t : Int) ≠ X → ¬ Same (s.at_ t) Y Z) := fun h => Lib.hid fun t ht => by
                      by_cases e : t = j
                      · subst e; exact h
                      · exact HN.out t (by omega)
                    have GO := Lib.hid go
                    clear go hja
                    cases hv : s.at_ j with
                    | none =>
                      rw [hv] at r0 r1 r2
                      simp only [tellB, pgOf, Option.isSome] at r0 r1 r2
                      have HN2 := GO.out fun _ => by rw [hv]; rintro ⟨b, p, h, _⟩; cases h
                      clear hv GO HH3 HX3 HP3 HN BR
                      go_wp2_with fail
                      go_region
                      go_wp2_with fail
                      go_roundg (n - (j + 1))
                      case measure => omega
                      case rel => exact ⟨j + 1, by go_num, by omega, Nat.le_refl _, HN2, BD⟩
                    | some v =>
                      obtain ⟨b, p⟩ := v
                      rw [hv] at r0 r1 r2
                      simp only [tellB, pgOf, Option.isSome] at r0 r1 r2
                      by_cases hY : Y = b ∧ Z = p
                      · by_cases hjX : (j : Int) = X
                        · have HN2 := GO.out fun h => absurd hjX h
                          have e9 : ((j : Int) == X) = true := by simp [hjX]
                          have e8 : ((j : Int) != X) = false := by simp [hjX]
                          obtain ⟨rfl, rfl⟩ := hY
                          clear hv GO HH3 HX3 HP3 HN BR hjX
                          go_wp2_with fail
                          go_region
                          go_wp2_with fail
                          go_roundg (n - (j + 1))
                          case measure => omega
                          case rel => exact ⟨j + 1, by go_num, by omega, Nat.le_refl _, HN2, BD⟩
                        · have e9 : ((j : Int) == X) = false := by simp [hjX]
                          have e8 : ((j : Int) != X) = true := by simp [hjX]
                          obtain ⟨rfl, rfl⟩ := hY
                          have HL := Lib.hid (Below.drewB HH3.out.low)
                          clear hv GO HH3 HX3 HP3 HN BR hjX
                          go_wp2_with fail
                          go_region
                          go_wp2
                          go_ret
                          exact ⟨rfl, HL.out⟩
                      · have HN2 := GO.out fun _ => by rw [hv]; rintro ⟨b', p', h, h1, h2⟩; cases h; exact hY ⟨h1, h2⟩
                        by_cases hYb : (b : Int) = Y
                        · have e6 : ¬ (p : Int) = Z := fun h => hY ⟨hYb.symm, h.symm⟩
                          obtain rfl : Y = b := hYb.symm
                          clear hv GO HH3 HX3 HP3 HN BR hY hYb
                          go_wp2_with fail
                          go_region
                          go_wp2_with fail
                          go_roundg (n - (j + 1))
                          case measure => omega
                          case rel => exact ⟨j + 1, by go_num, by omega, Nat.le_refl _, HN2, BD⟩
                        · clear hv GO HH3 HX3 HP3 HN BR hY
                          go_wp2_with fail
                          go_region
                          go_wp2_with fail
                          go_roundg (n - (j + 1))
                          case measure => omega
                          case rel => exact ⟨j + 1, by go_num, by omega, Nat.le_refl _, HN2, BD⟩
                · obtain rfl : n = j := by omega
                  have j1 : ¬ (n : Int) < n := by omega
                  have x0 := HX3.out.c0
                  have x1 := HX3.out.c1
                  have x2 := HX3.out.c2
                  have x3 := HX3.out.c3
                  have p0 := HP3.out.c0
                  have p1 := HP3.out.c1
                  have n5 := HX3.out.lt
                  have n6 := HP3.out.lt
                  as_aux_lemma =>
                    go_wp2_with fail
                    refine (set_noAddr HH3.out.mine.at_ X Y Z (by have := HSA.out; unfold inR; omega)).mono ?_
                    rintro e W4 ⟨rfl, hb4⟩
                    have HF := Lib.hid (HH3.out.below hb4)
                    have HY4 := HX3.out.below hb4
                    have y1 := HY4.c1
                    clear hb4 HH3 HX3 HP3 HN BR x0 x1 x2 x3 p0 p1 n5 n6 HH2 HX2 HP2 HY4
                    have hr := right_any HF.out
                    rw [show (s).addrs = n from HSA.out, show (s).blocks = m from HSB.out] at hr
                    have HRR := Lib.hid hr
                    clear hr
                    go_wp2_with fail
                    refine HRR.out.mono ?_
                    rintro e W9 ⟨rfl, hb9⟩
                    have HF9 := Lib.hid (HF.out.below hb9)
                    clear hb9 HF HRR
                    go_wp2_with fail
                    go_roundg (60 - (i + 1))
                    case measure => omega
                    case rel => exact ⟨i + 1, s, by go_num, by omega, by omega, Nat.le_refl _, HSA.out, HSB.out, HF9⟩
      · have hget := get_out HR.out.mine.at_ n (by have := HSA.out; unfold inR; omega)
        have HG : Hid (Calls Try.prog 16 #[.pointer (some ⟨g, 0, none⟩), .int .i64 n] wr fun e w' => e = .returned (.tuple #[.agg #[.int .i64 0, .int .i64 0], .bool false]) ∧ Below wr.heap.size wr w') := Lib.hid hget
        clear hget
        by_cases h1 : i < l.length
        · have i1 : (i : Int) < l.length := by omega
          have i2 : ¬ (i : Int) < 60 := by omega
          clear hgo h1
          as_aux_lemma =>
            go_wp2_with fail
            refine HG.out.mono ?_
            rintro e W2 ⟨rfl, hb2⟩
            have H3 := (HR.out.below hb2).below (below_alloc W2 (.cells #[.int .i64 0, .int .i64 0] 34))
            have hc1 := count_out H3.mine.at_ (-1) (by unfold inR; omega)
            have hc2 := count_out H3.mine.at_ m (by have := HSB.out; unfold inR; omega)
            have HC1 := Lib.hid hc1
            have HC2 := Lib.hid hc2
            have HL := Lib.hid H3.low
            clear hb2 H3 hc1 hc2 HR HG
            go_wp2_with fail
            refine HC1.out.mono ?_
            rintro e W3 ⟨rfl, rfl⟩
            go_wp2_with fail
            refine HC2.out.mono ?_
            rintro e W3 ⟨rfl, rfl⟩
            go_wp2
            go_ret
            exact ⟨rfl, HL.out⟩
        · have i1 : ¬ (i : Int) < l.length := by omega
          clear hgo h1
          as_aux_lemma =>
            go_wp2_with fail
            refine HG.out.mono ?_
            rintro e W2 ⟨rfl, hb2⟩
            have H3 := (HR.out.below hb2).below (below_alloc W2 (.cells #[.int .i64 0, .int .i64 0] 34))
            have hc1 := count_out H3.mine.at_ (-1) (by unfold inR; omega)
            have hc2 := count_out H3.mine.at_ m (by have := HSB.out; unfold inR; omega)
            have HC1 := Lib.hid hc1
            have HC2 := Lib.hid hc2
            have HL := Lib.hid H3.low
            clear hb2 H3 hc1 hc2 HR HG
            go_wp2_with fail
            refine HC1.out.mono ?_
            rintro e W3 ⟨rfl, rfl⟩
            go_wp2_with fail
            refine HC2.out.mono ?_
            rintro e W3 ⟨rfl, rfl⟩
            go_wp2
            go_ret
            exact ⟨rfl, HL.out⟩
end Go.Proofs.Ytfehioapjoihkaa
