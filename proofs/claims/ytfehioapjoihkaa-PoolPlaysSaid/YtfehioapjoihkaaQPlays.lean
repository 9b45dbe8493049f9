/- The law PoolPlays answers true. -/
import Derived.Test.YtfehioapjoihkaaQRight
import Derived.Deep.CutRange
import Derived.Shelf.GgSortFunc.SW
namespace Go.Proofs.Ytfehioapjoihkaa
open Go.RowKit
open Drawbar Drawbar.Pl

theorem qinfo_bool : (Try.prog.info? 4).map (fun i => (i.zero, i.size, i.bytes)) = some (some (.bool false), 1, 1) := by kernel_rfl
theorem qinfo_u8 : (Try.prog.info? 5).map (fun i => (i.zero, i.size, i.bytes)) = some (some (.int .u8 0), 1, 1) := by kernel_rfl
theorem qmade (v : Value) (n k : Nat) (h : k < n) : (madeCells #[v] (n * 1))[k]? = some v := by
  unfold madeCells
  simp [h, Nat.mod_one]
theorem qmake_bools (W : World) : (Instr.makeSlice 29 (.int .i64 64) (.int .i64 64)).run Try.prog W = .ok (.slice (some ⟨W.heap.size, 0, none⟩) 64 64) (W.alloc (.cells (madeCells #[Value.bool false] (64 * 1)) 4)) := by
  obtain ⟨i0, hi0, hz0, hz1, hz2⟩ := info_parts qinfo_bool
  have hr := run_make (P := Try.prog) W 29 4 i0 _ Try.underlying29 hi0 hz0 .i64 .i64 64 64 (by omega) (Int.le_refl _) (by rw [hz2]; omega) (by omega)
  rw [hz1] at hr
  exact hr
theorem qmake_bytes (W : World) : (Instr.makeSlice 54 (.int .i64 64) (.int .i64 64)).run Try.prog W = .ok (.slice (some ⟨W.heap.size, 0, none⟩) 64 64) (W.alloc (.cells (madeCells #[Value.int .u8 0] (64 * 1)) 5)) := by
  obtain ⟨i0, hi0, hz0, hz1, hz2⟩ := info_parts qinfo_u8
  have hr := run_make (P := Try.prog) W 54 5 i0 _ Try.underlying54 hi0 hz0 .i64 .i64 64 64 (by omega) (Int.le_refl _) (by rw [hz2]; omega) (by omega)
  rw [hz1] at hr
  exact hr
theorem qnear_lt (a : Int) (n : Nat) (h0 : 0 < n) (h9 : n ≤ 65536) : ∃ x : Nat, wrap64 ((IntKind.u64.wrap a).tmod (n : Int)) = (x : Int) ∧ x < n := by
  have h := wrap_u64_nonneg a
  rw [Int.tmod_eq_emod_of_nonneg h]
  have h1 := Int.emod_nonneg (IntKind.u64.wrap a) (by omega : (n : Int) ≠ 0)
  have h2 := Int.emod_lt_of_pos (IntKind.u64.wrap a) (by omega : (0 : Int) < (n : Int))
  generalize IntKind.u64.wrap a % (n : Int) = y at *
  exact ⟨y.toNat, by unfold wrap64; omega, by omega⟩
theorem qcell_in_row (w : World) (cs : Array Value) (t : TypeId) (b o : Nat) (h : w.heap[b]? = some (.cells cs t (0, 0))) : w.cell? ⟨b, o, none⟩ = cs[o]? ∧ w.frozen? ⟨b, o, none⟩ = false := by
  unfold World.cell? World.frozen?
  rw [h]
  simp
theorem Own.only {B : Nat} {w w' : World} {g mb : Nat} {s : St} {F : Nat → Prop} (h : Own B w g mb s) (ho : Only F w w') (h1 : ¬ F g) (h2 : ¬ F mb) : Own B w' g mb s := ⟨h.at_.keep (ho.block g h.at_.gl h1) (ho.block mb h.at_.ml h2), h.g9, h.m9⟩
theorem Tab.only {w w' : World} {ab ib : Nat} {hf : Nat → Nat} {jf : Nat → Bool} {F : Nat → Prop} (h : Tab w ab ib hf jf) (ho : Only F w w') (h1 : ¬ F ab) (h2 : ¬ F ib) : Tab w' ab ib hf jf := h.keep (ho.block ab h.al h1) (ho.block ib h.il h2)
theorem tab_new (w : World) : Tab ((w.alloc (.cells (madeCells #[Value.int .u8 0] (64 * 1)) 5)).alloc (.cells (madeCells #[Value.bool false] (64 * 1)) 4)) w.heap.size (w.heap.size + 1) (fun _ => 0) (fun _ => false) := by
  have b2 := (Below.refl _ (w.alloc (.cells (madeCells #[Value.int .u8 0] (64 * 1)) 5))).alloc (Nat.le_refl _) (.cells (madeCells #[Value.bool false] (64 * 1)) 4)
  have hA := (b2.block w.heap.size (by simp)).trans (heap_alloc_new w (.cells (madeCells #[Value.int .u8 0] (64 * 1)) 5))
  have hB := heap_alloc_new (w.alloc (.cells (madeCells #[Value.int .u8 0] (64 * 1)) 5)) (.cells (madeCells #[Value.bool false] (64 * 1)) 4)
  rw [World.size_alloc] at hB
  exact ⟨fun k hk => (qcell_in_row _ _ _ _ k hA).1.trans (qmade _ 64 k hk), fun k hk => (qcell_in_row _ _ _ _ k hB).1.trans (qmade _ 64 k hk), fun o => (qcell_in_row _ _ _ _ o hA).2, fun o => (qcell_in_row _ _ _ _ o hB).2, by omega⟩
/-- What the law holds. -/
structure Keeps (w0 w : World) (g mb ab ib : Nat) (s : St) : Prop where
  own : Own w0.heap.size w g mb s
  tab : Tab w ab ib (hfOf s) (jfOf s)
  a9 : w0.heap.size ≤ ab
  i9 : w0.heap.size ≤ ib
  am : ab ≠ mb
  im : ib ≠ mb
  ag : ab ≠ g
  ig : ib ≠ g
  low : Below w0.heap.size w0 w
theorem Keeps.below {w0 w w' : World} {g mb ab ib : Nat} {s : St} (h : Keeps w0 w g mb ab ib s) (hb : Below w.heap.size w w') : Keeps w0 w' g mb ab ib s :=
  ⟨h.own.below hb, h.tab.below hb, h.a9, h.i9, h.am, h.im, h.ag, h.ig, h.low.trans (hb.mono h.low.size)⟩

def RiseTo (l : List Int) (k : Nat) (r : Bool) : Prop := r = true ↔ ∀ i, i < k → okAt l i
/-- The rows, of blocks that are told one more. -/
theorem Tab.more {w : World} {ab ib : Nat} {l : List Int} {k x : Nat} (t : Tab w ab ib (fun _ => 0) (jfOf (St.new (l.take k)))) (hk : k < l.length) (hx : l.getD k 0 = x) (h64 : x < 64) :
    Tab (w.setCell ⟨ib, x, none⟩ (.bool true)) ab ib (fun _ => 0) (jfOf (St.new (l.take (k + 1)))) := by
  refine (t.setJ x true h64).congr (fun _ _ => rfl) fun c hc => ?_
  unfold jfOf
  rw [new_take l k hk, put_at, hx]
  by_cases e : c = x
  · subst e; simp
  · rw [if_neg e, if_neg (by omega)]
theorem Tab.full {w : World} {ab ib : Nat} {l : List Int} (t : Tab w ab ib (fun _ => 0) (jfOf (St.new (l.take l.length)))) : Tab w ab ib (hfOf (St.new l)) (jfOf (St.new l)) := by
  rw [List.take_length] at t
  refine t.congr (fun c _ => ?_) (fun _ _ => rfl)
  unfold hfOf St.new
  dsimp only
  split <;> rfl

def mixF (s : St) (k c : Nat) : Nat := if c < k then hv (s.close.at_ c) else hv (s.at_ c)
theorem mix_here (s : St) (k : Nat) : mixF s k k = hv (s.at_ k) := if_neg (Nat.lt_irrefl k)
theorem mix_zero (s : St) (c : Nat) : mixF s 0 c = hfOf s c := if_neg (Nat.not_lt_zero c)
theorem mix_skip {s : St} {k : Nat} (h : s.at_ k ≠ some 2) (c : Nat) : mixF s k c = mixF s (k + 1) c := by
  unfold mixF
  by_cases e : c = k
  · subst e; rw [if_neg (Nat.lt_irrefl c), if_pos (Nat.lt_succ_self c), close_at, if_neg h]
  · by_cases h1 : c < k
    · rw [if_pos h1, if_pos (by omega)]
    · rw [if_neg h1, if_neg (by omega)]
theorem mix_store {s : St} {k : Nat} (h : s.at_ k = some 2) (c : Nat) : (if c = k then 1 else mixF s k c) = mixF s (k + 1) c := by
  unfold mixF
  by_cases e : c = k
  · subst e; rw [if_pos rfl, if_pos (Nat.lt_succ_self c), close_at, if_pos h]; rfl
  · rw [if_neg e]
    by_cases h1 : c < k
    · rw [if_pos h1, if_pos (by omega)]
    · rw [if_neg h1, if_neg (by omega)]
theorem mix_done {s : St} {k x H : Nat} (h1 : H = 2 → k = 64) (h2 : H ≠ 2 → k = 0) (c : Nat) (hc : c < 64) : (if c = x then H else mixF s k c) = hfOf (s.set x H) c := by
  unfold hfOf
  rw [set_at]
  by_cases e : c = x
  · subst e; rw [if_pos rfl, if_pos rfl]; rfl
  · rw [if_neg e, if_neg (by omega)]
    unfold mixF
    by_cases h : H = 2
    · obtain rfl := h1 h
      rw [if_pos hc, close_at]
      simp [h]
    · obtain rfl := h2 h
      rw [if_neg (Nat.not_lt_zero c)]
      simp [h]

set_option maxHeartbeats 8000000 in
set_option maxRecDepth 100000 in
theorem qplays_any (l : List Int) (q : List ActB) (a a1 : Option Addr) (c cc : Nat) (w : World) (hs : Nums .i64 w a l) (hq : ActBs w a1 q) : Calls Try.prog 7 #[.slice a l.length c, .slice a1 q.length cc] w (QYes w) := by
  by_cases h100 : 100 < l.length
  · have i1 : (100 : Int) < l.length := by omega
    clear hs hq
    go_enter Try.func7, Try.ntmps7
    go_wp2_with fail
    refine (qawake_any _).mono ?_
    rintro e w1 ⟨rfl, b1⟩
    have B1 := Lib.hid b1
    clear b1
    go_wp2_with fail
    refine (qawake_any _).mono ?_
    rintro e w2 ⟨rfl, b2⟩
    have B2 := Lib.hid (B1.out.trans (b2.mono B1.out.size))
    clear b2
    go_wp2
    go_ret
    exact ⟨rfl, B2.out⟩
  · have i1 : ¬ (100 : Int) < l.length := by omega
    have n100 : l.length ≤ 100 := by omega
    have HS := Lib.hid hs
    have HQ := Lib.hid hq
    clear hs hq h100
    go_enter Try.func7, Try.ntmps7
    go_wp2_with fail
    refine (qawake_any _).mono ?_
    rintro e w1 ⟨rfl, b1⟩
    have B1 := Lib.hid b1
    clear b1
    go_wp2_with fail
    go_loopw [5, 6] (fun rv iv wr => ∃ (k : Nat) (r : Bool), iv = .int .i64 k ∧ k ≤ l.length ∧ rv = .bool r ∧ Hid (RiseTo l k r) ∧ Hid (Below w.heap.size w wr)) (fun _ iv _ => l.length - (intOf iv).toNat)
    case atStart => exact ⟨0, true, rfl, Nat.zero_le _, rfl, Lib.hid ⟨fun _ i hi => absurd hi (Nat.not_lt_zero i), fun _ => rfl⟩, B1⟩
    case round =>
      obtain ⟨k, r, rfl, hk, rfl, HR, HB⟩ := hrel
      by_cases hlt : k < l.length
      · have j1 : (k : Int) < l.length := by omega
        obtain ⟨ab, ao, rfl, hc⟩ := HS.out.2 (by omega)
        have c0 := hc k hlt
        have hab : ab < w.heap.size := World.block_lt_of_cell? w _ c0
        have c1 := (HB.out.cell (p := ⟨ab, ao + k, none⟩) hab).trans c0
        have no : ¬ okAt l k → Hid (RiseTo l (k + 1) false) := fun h => Lib.hid ⟨fun h2 => Bool.noConfusion h2, fun h2 => absurd (h2 k (by omega)) h⟩
        have yes : r = true → okAt l k → Hid (RiseTo l (k + 1) true) := fun h1 h => Lib.hid ⟨fun _ i hi => by
          by_cases e : i = k
          · subst e; exact h
          · exact HR.out.1 h1 i (by omega), fun _ => rfl⟩
        have NO := Lib.hid no
        have YES := Lib.hid yes
        clear no yes
        cases r with
        | false =>
          have HN : Hid (RiseTo l (k + 1) false) := Lib.hid ⟨fun h2 => Bool.noConfusion h2, fun h2 => absurd (HR.out.2 fun i hi => h2 i (by omega)) (by decide)⟩
          clear hc c0 NO YES HR
          go_wp2_with fail
          go_quiet (fail)
          go_wp2_with fail
          go_roundw
          case rel => exact ⟨k + 1, false, by go_num, by omega, by first | rfl | (simp; omega), HN, Lib.hid (below_drewN HB.out _)⟩
          case measure => simp [intOf]; omega
        | true =>
          by_cases h0 : 0 ≤ l.getD k 0
          · by_cases h6 : l.getD k 0 < 64
            · by_cases hz : k = 0
              · subst hz
                rw [show ao + 0 = ao from rfl] at c1
                have HN := YES.out rfl ⟨h0, h6, .inl rfl⟩
                clear hc NO YES HR c0
                generalize l.getD 0 0 = x at *
                go_wp2_with fail
                go_quiet (fail)
                go_wp2_with fail
                go_roundw
                case rel => exact ⟨1, true, by go_num, by omega, by first | rfl | (simp; omega), HN, Lib.hid (below_drewN HB.out _)⟩
                case measure => simp [intOf]; omega
              · have d0 := hc (k - 1) (by omega)
                have d1 := (HB.out.cell (p := ⟨ab, ao + (k - 1), none⟩) hab).trans d0
                have e1 : ((k : Int) - 1) = ((k - 1 : Nat) : Int) := by omega
                have kz : ((k : Int) == 0) = false := by simp; omega
                have k9 : k - 1 < l.length := by omega
                by_cases hp : l.getD (k - 1) 0 < l.getD k 0
                · have HN := YES.out rfl ⟨h0, h6, .inr hp⟩
                  clear hc NO YES HR d0 c0 hz
                  generalize l.getD k 0 = x at *
                  generalize l.getD (k - 1) 0 = y at *
                  go_wp2_with fail
                  go_quiet (fail)
                  go_wp2_with fail
                  go_roundw
                  case rel => exact ⟨k + 1, true, by go_num, by omega, by first | rfl | (simp; omega), HN, Lib.hid (below_drewN HB.out _)⟩
                  case measure => simp [intOf]; omega
                · have HN := NO.out fun h => by rcases h.2.2 with h | h; exact hz h; exact hp h
                  clear hc NO YES HR d0 c0 hz
                  generalize l.getD k 0 = x at *
                  generalize l.getD (k - 1) 0 = y at *
                  have qp : decide (y < x) = false := decide_eq_false hp
                  clear hp
                  go_wp2_with fail
                  go_quiet (fail)
                  go_wp2_with fail
                  go_roundw
                  case rel => exact ⟨k + 1, false, by go_num, by omega, by first | rfl | (simp; omega), HN, Lib.hid (below_drewN HB.out _)⟩
                  case measure => simp [intOf]; omega
            · have HN := NO.out fun h => h6 h.2.1
              clear hc NO YES HR c0
              generalize l.getD k 0 = x at *
              have q6 : decide (x < 64) = false := decide_eq_false h6
              clear h6
              go_wp2_with fail
              go_quiet (fail)
              go_wp2_with fail
              go_roundw
              case rel => exact ⟨k + 1, false, by go_num, by omega, by first | rfl | (simp; omega), HN, Lib.hid (below_drewN HB.out _)⟩
              case measure => simp [intOf]; omega
          · have HN := NO.out fun h => h0 h.1
            clear hc NO YES HR c0
            generalize l.getD k 0 = x at *
            have q0 : decide (0 ≤ x) = false := decide_eq_false h0
            clear h0
            go_wp2_with fail
            go_quiet (fail)
            go_wp2_with fail
            go_roundw
            case rel => exact ⟨k + 1, false, by go_num, by omega, by first | rfl | (simp; omega), HN, Lib.hid (below_drewN HB.out _)⟩
            case measure => simp [intOf]; omega
      · obtain rfl : l.length = k := by omega
        have j1 : ¬ (l.length : Int) < l.length := by omega
        have hr : r = true ↔ Rise l := HR.out
        have hrd : RdI wr a l := RdI.below (w := w) HS.out.2 HB.out
        cases r with
        | false =>
          have hn := new_not l a c wr hrd (by unfold maxLen; omega) (fun h => Bool.noConfusion (hr.2 h))
          have HN := Lib.hid hn
          clear hn hr hrd HR
          go_wp2_with fail
          refine HN.out.mono ?_
          rintro e w' ⟨rfl, rfl⟩
          go_wp2
          go_ret
          exact ⟨rfl, HB.out⟩
        | true =>
          have hri := hr.1 rfl
          have HM := Lib.hid hri.mem
          have hn := new_rise l a c wr hrd hri
          have HN := Lib.hid hn
          have n64 := hri.le
          clear hn hr hrd HR hri
          go_wp2_with fail
          refine HN.out.mono ?_
          intro e w2 hm
          obtain ⟨g, mb, rfl, h2, b2⟩ := hm.own
          have g2 := h2.at_.gl
          have m2 := h2.at_.ml
          have B2 : Below w.heap.size w w2 := HB.out.trans (b2.mono HB.out.size)
          have O2 : Own w.heap.size w2 g mb (St.new l) := ⟨h2.at_, Nat.le_trans HB.out.size h2.g9, Nat.le_trans HB.out.size h2.m9⟩
          have hz2 := B2.size
          have mp := qmake_bytes w2
          have mq := qmake_bools (w2.alloc (.cells (madeCells #[Value.int .u8 0] (64 * 1)) 5))
          have hT := tab_new w2
          have b3 : Below w2.heap.size w2 ((w2.alloc (.cells (madeCells #[Value.int .u8 0] (64 * 1)) 5)).alloc (.cells (madeCells #[Value.bool false] (64 * 1)) 4)) := ((Below.refl _ _).alloc (Nat.le_refl _) _).alloc (by simp) _
          generalize madeCells #[Value.int .u8 0] (64 * 1) = PL at mp mq hT b3
          generalize madeCells #[Value.bool false] (64 * 1) = BL at mp mq hT b3
          have HT := Lib.hid hT
          have HB3 := Lib.hid b3
          have HO2 := Lib.hid O2
          have HB2 := Lib.hid B2
          clear hm h2 b2 HN hT b3 O2 B2 HB
          go_wp2
          clear mp mq
          have HO3 := Lib.hid (HO2.out.below HB3.out)
          have HB4 := Lib.hid (HB2.out.trans (HB3.out.mono hz2))
          clear HO2 HB2 HB3
          generalize (w2.alloc (.cells PL 5)).alloc (.cells BL 4) = w3 at *
          have na : w2.heap.size ≠ mb ∧ w2.heap.size ≠ g ∧ w2.heap.size + 1 ≠ mb ∧ w2.heap.size + 1 ≠ g := by omega
          obtain ⟨ab, hab⟩ : ∃ x, w2.heap.size = x := ⟨_, rfl⟩
          rw [hab] at HT na hz2 ⊢
          obtain ⟨ib, hib⟩ : ∃ x, ab + 1 = x := ⟨_, rfl⟩
          rw [hib] at HT na ⊢
          have hz3 : w.heap.size ≤ ib := by omega
          have hai : ab ≠ ib := by omega
          clear hab hib g2 m2
          obtain ⟨na1, na2, na3, na4⟩ := na
          have HT0 : Hid (Tab w3 ab ib (fun _ => 0) (jfOf (St.new (l.take 0)))) := Lib.hid (HT.out.congr (fun _ _ => rfl) fun _ _ => rfl)
          clear HT
          go_loopw [11] (fun iv wr => ∃ k : Nat, iv = .int .i64 k ∧ k ≤ l.length ∧ Hid (Tab wr ab ib (fun _ => 0) (jfOf (St.new (l.take k)))) ∧ Hid (Own w.heap.size wr g mb (St.new l)) ∧ Hid (Below w.heap.size w wr)) (fun iv _ => l.length - (intOf iv).toNat)
          case atStart => exact ⟨0, rfl, Nat.zero_le _, HT0, HO3, HB4⟩
          case round =>
            obtain ⟨k, rfl, hk, HT, HO, HB⟩ := hrel
            clear HT0 HO3 HB4
            by_cases hlt : k < l.length
            · have j1 : (k : Int) < l.length := by omega
              have hin := HM.out (l.getD k 0) (by rw [List.getD_eq_getElem?_getD, List.getElem?_eq_getElem hlt]; exact List.getElem_mem hlt)
              obtain ⟨bb, bo, rfl, hc⟩ := HS.out.2 (by omega)
              have c0 := hc k hlt
              have hbb : bb < w.heap.size := World.block_lt_of_cell? w _ c0
              have c1 := (HB.out.cell (p := ⟨bb, bo + k, none⟩) hbb).trans c0
              obtain ⟨x, hx⟩ : ∃ x : Nat, l.getD k 0 = x := ⟨(l.getD k 0).toNat, by omega⟩
              rw [hx] at c1 hin
              have x64 : x < 64 := by omega
              have x64i : (x : Int) < 64 := by omega
              have t0 := HT.out.j x x64
              have tz := HT.out.jz x
              have ho : Only (fun d => d = ib) wr (wr.setCell ⟨ib, x, none⟩ (.bool true)) := (Only.refl (fun d => d = ib) wr).setCell (show (fun d => d = ib) ib from rfl) _
              have HT2 := Lib.hid (HT.out.more hlt hx x64)
              have HO2 := Lib.hid (HO.out.only ho (Ne.symm na4) (Ne.symm na3))
              have HB2 : Hid (Below w.heap.size w (wr.setCell ⟨ib, x, none⟩ (.bool true))) := Lib.hid (HB.out.setCell hz3 _)
              clear hc c0 hx ho HT HO
              go_wp2_with fail
              go_roundw
              case rel => exact ⟨k + 1, by go_num, by omega, HT2, HO2, HB2⟩
              case measure => simp [intOf]; omega
            · obtain rfl : l.length = k := by omega
              have j1 : ¬ (l.length : Int) < l.length := by omega
              have HK : Hid (Keeps w wr g mb ab ib (St.new l)) := Lib.hid ⟨HO.out, HT.out.full, hz2, hz3, na1, na3, na2, na4, HB.out⟩
              clear HO HT HB na1 na2 na3 na4 hai
              go_wp2_with fail
              go_loopg [12] 60 (fun kx iv wr => ∃ (i : Nat) (s : St), iv = .int .i64 i ∧ i ≤ 60 ∧ i ≤ q.length ∧ 60 - i ≤ kx ∧ Hid (Keeps w wr g mb ab ib s))
              case atStart => exact ⟨0, _, rfl, Nat.zero_le _, Nat.zero_le _, Nat.le_refl _, HK⟩
              case round =>
                obtain ⟨i, s, rfl, hi, hiq, hkx, HR⟩ := hrel
                clear HK
                by_cases hgo : i < q.length ∧ i < 60
                · obtain ⟨g1, g2⟩ := hgo
                  have j2 : (i : Int) < q.length := by omega
                  have j3 : (i : Int) < 60 := by omega
                  obtain ⟨r, hr⟩ : ∃ r, q[i]? = some r := ⟨_, List.getElem?_eq_getElem g1⟩
                  obtain ⟨hok, sb, so, rfl, hc⟩ := HQ.out i r hr
                  have cell : ∀ j v, r.cells[j]? = some v → j < 2 → wr.cell? ⟨sb, so + i * 2 + j, none⟩ = some v := fun j v hv hj => (HR.out.low.cell (p := ⟨sb, so + i * 2 + j, none⟩) (World.block_lt_of_cell? w _ ((hc j hj).trans hv))).trans ((hc j hj).trans hv)
                  have k0 : wr.cell? ⟨sb, so + i * 2, none⟩ = some (.int .i64 r.b) := cell 0 _ rfl (by omega)
                  have k1 := cell 1 _ rfl (by omega)
                  have WB := Lib.hid hok.b
                  have hh := bounds_u8 hok.how
                  obtain ⟨rb, rh⟩ := r
                  dsimp only at k0 k1 WB hh
                  clear cell hc hr hok
                  have hsb : sb < wr.heap.size := World.block_lt_of_cell? wr _ k0
                  go_upto_region 21 with (fail)
                  go_cut [109] from 88 to 205 (fun v wx => ∃ z : Bool, v = .bool z ∧ (z = true → 0 < l.length) ∧ wx = wr.alloc (.cells #[.int .i64 rb, .int .u8 rh] 56))
                  case first =>
                    by_cases hl0 : 0 < l.length
                    · have j4 : (0 : Int) < l.length := by omega
                      go_wp2_with fail
                      all_goals
                        go_meet
                        exact ⟨_, rfl, fun _ => hl0, rfl⟩
                    · have j4 : ¬ (0 : Int) < l.length := by omega
                      go_wp2_with fail
                      all_goals
                        go_meet
                        exact ⟨false, rfl, fun h => Bool.noConfusion h, rfl⟩
                  case rest =>
                  obtain ⟨z, rfl, hz, rfl⟩ := hcut
                  go_upto_if 109 with (fail)
                  go_cut [] from 88 to 205 (fun wx => ∃ X H : Int, (Lit.int .i64 X).wf = true ∧ 0 ≤ H ∧ H < 256 ∧ wx = wr.alloc (.cells #[.int .i64 X, .int .u8 H] 56))
                  case first =>
                    cases z with
                    | true =>
                      have hl0 := hz rfl
                      have j4 : (0 : Int) < l.length := by omega
                      obtain ⟨nx, ex, hnx⟩ := qnear_lt rb l.length hl0 (by omega)
                      obtain ⟨bb, bo, rfl, hc⟩ := HS.out.2 hl0
                      have d0 := hc nx hnx
                      have hbb : bb < w.heap.size := World.block_lt_of_cell? w _ d0
                      have d1 := (HR.out.low.cell (p := ⟨bb, bo + nx, none⟩) hbb).trans d0
                      have WX := Lib.hid (HS.out.1 (l.getD nx 0) (by rw [List.getD_eq_getElem?_getD, List.getElem?_eq_getElem hnx]; exact List.getElem_mem hnx))
                      have hbr : bb < wr.heap.size := World.block_lt_of_cell? wr _ d1
                      have nxi : (nx : Int) < l.length := by omega
                      generalize l.getD nx 0 = X at *
                      clear hc d0 hz
                      go_wp2_with fail
                      go_meet
                      exact ⟨X, rh % 5, WX.out, by omega, by omega, rfl⟩
                    | false =>
                      clear hz
                      go_wp2_with fail
                      go_meet
                      exact ⟨rb, rh, WB.out, by omega, by omega, rfl⟩
                  case rest =>
                    obtain ⟨X, H, hX, hH0, hH9, rfl⟩ := hcut
                    have hfx := (Below.refl wr.heap.size wr).alloc (Nat.le_refl _) (.cells #[.int .i64 X, .int .u8 H] 56)
                    have HK1 := Lib.hid (HR.out.below hfx)
                    have x0 : (wr.alloc (.cells #[.int .i64 X, .int .u8 H] 56)).cell? ⟨wr.heap.size, 0, none⟩ = some (.int .i64 X) := by simp
                    have x1 : (wr.alloc (.cells #[.int .i64 X, .int .u8 H] 56)).cell? ⟨wr.heap.size, 1, none⟩ = some (.int .u8 H) := by simp
                    have nx1 := HR.out.own.at_.gl
                    have nx2 := HR.out.own.at_.ml
                    have nx3 := HR.out.tab.al
                    have nx4 := HR.out.tab.il
                    clear hfx HR k0 k1 WB hh hsb
                    generalize wr.alloc (.cells #[.int .i64 X, .int .u8 H] 56) = W1 at *
                    generalize wr.heap.size = bx at *
                    obtain ⟨H, rfl⟩ : ∃ n : Nat, H = n := ⟨H.toNat, by omega⟩
                    have hH : H < 256 := by omega
                    by_cases hbad : s.at_ X = none ∨ 3 < H
                    · have HT := Lib.hid (set_bad g mb s W1 HK1.out.own.at_ X hX H hH hbad)
                      have HRR := Lib.hid (qright_any g mb ab ib 64 64 s W1 HK1.out.own.at_ HK1.out.tab)
                      by_cases ha : X < 0
                      · as_aux_lemma =>
                          clear hbad
                          go_wp2_with fail
                          refine HT.out.mono ?_
                          rintro e W4 ⟨rfl, rfl⟩
                          go_wp2_with fail
                          refine HRR.out.mono ?_
                          rintro e W9 ⟨rfl, hb9⟩
                          have HK9 := Lib.hid (HK1.out.below hb9)
                          clear hb9 HRR HT HK1
                          go_wp2_with fail
                          go_roundg (60 - (i + 1))
                          case measure => omega
                          case rel => exact ⟨i + 1, s, by go_num, by omega, by omega, Nat.le_refl _, HK9⟩
                      · by_cases hb : 63 < X
                        · as_aux_lemma =>
                            clear hbad
                            go_wp2_with fail
                            refine HT.out.mono ?_
                            rintro e W4 ⟨rfl, rfl⟩
                            go_wp2_with fail
                            refine HRR.out.mono ?_
                            rintro e W9 ⟨rfl, hb9⟩
                            have HK9 := Lib.hid (HK1.out.below hb9)
                            clear hb9 HRR HT HK1
                            go_wp2_with fail
                            go_roundg (60 - (i + 1))
                            case measure => omega
                            case rel => exact ⟨i + 1, s, by go_num, by omega, by omega, Nat.le_refl _, HK9⟩
                        · obtain ⟨x, rfl⟩ : ∃ n : Nat, X = n := ⟨X.toNat, by omega⟩
                          have x64 : x < 64 := by omega
                          have x64i : (x : Int) < 64 := by omega
                          have t0 := HK1.out.tab.j x x64
                          unfold jfOf at t0
                          cases hu : s.at_ x with
                          | none =>
                            as_aux_lemma =>
                              rw [hu] at t0
                              simp only [Option.isSome_none] at t0
                              clear hbad hu
                              go_wp2_with fail
                              refine HT.out.mono ?_
                              rintro e W4 ⟨rfl, rfl⟩
                              go_wp2_with fail
                              refine HRR.out.mono ?_
                              rintro e W9 ⟨rfl, hb9⟩
                              have HK9 := Lib.hid (HK1.out.below hb9)
                              clear hb9 HRR HT HK1
                              go_wp2_with fail
                              go_roundg (60 - (i + 1))
                              case measure => omega
                              case rel => exact ⟨i + 1, s, by go_num, by omega, by omega, Nat.le_refl _, HK9⟩
                          | some u =>
                            as_aux_lemma =>
                              rw [hu] at t0 hbad
                              simp only [Option.isSome_some] at t0
                              have h3 : (3 : Int) < H := by rcases hbad with h | h; cases h; omega
                              clear hbad hu
                              go_wp2_with fail
                              refine HT.out.mono ?_
                              rintro e W4 ⟨rfl, rfl⟩
                              go_wp2_with fail
                              refine HRR.out.mono ?_
                              rintro e W9 ⟨rfl, hb9⟩
                              have HK9 := Lib.hid (HK1.out.below hb9)
                              clear hb9 HRR HT HK1
                              go_wp2_with fail
                              go_roundg (60 - (i + 1))
                              case measure => omega
                              case rel => exact ⟨i + 1, s, by go_num, by omega, by omega, Nat.le_refl _, HK9⟩
                    · have hne : s.at_ X ≠ none := fun h => hbad (.inl h)
                      have hH3 : H ≤ 3 := by omega
                      obtain ⟨u, hu⟩ := Option.ne_none_iff_exists'.1 hne
                      have hrg := HK1.out.own.at_.wf.rng X u hu
                      obtain ⟨x, rfl⟩ : ∃ n : Nat, X = n := ⟨X.toNat, by omega⟩
                      have x64 : x < 64 := by omega
                      have x64i : (x : Int) < 64 := by omega
                      have x63 : ¬ (63 : Int) < x := by omega
                      have x00 : ¬ (x : Int) < 0 := by omega
                      have h3 : ¬ (3 : Int) < H := by omega
                      have t0 := HK1.out.tab.j x x64
                      have t1 := HK1.out.tab.h x x64
                      unfold jfOf at t0
                      unfold hfOf at t1
                      rw [hu] at t0 t1
                      simp only [Option.isSome_some, hv] at t0 t1
                      clear hbad hne
                      by_cases hd : u = 3 ∧ H ≠ 3
                      · as_aux_lemma =>
                          obtain ⟨rfl, hH4⟩ := hd
                          have HT := Lib.hid (set_dead g mb s W1 HK1.out.own.at_ x hX H (by omega) hu)
                          have HRR := Lib.hid (qright_any g mb ab ib 64 64 s W1 HK1.out.own.at_ HK1.out.tab)
                          have q4 : ((H : Int) != 3) = true := by simp; omega
                          clear hu hH4 hrg
                          go_wp2_with fail
                          refine HT.out.mono ?_
                          rintro e W4 ⟨rfl, rfl⟩
                          go_wp2_with fail
                          refine HRR.out.mono ?_
                          rintro e W9 ⟨rfl, hb9⟩
                          have HK9 := Lib.hid (HK1.out.below hb9)
                          clear hb9 HRR HT HK1
                          go_wp2_with fail
                          go_roundg (60 - (i + 1))
                          case measure => omega
                          case rel => exact ⟨i + 1, s, by go_num, by omega, by omega, Nat.le_refl _, HK9⟩
                      · have HT := Lib.hid (set_in_ g mb s W1 HK1.out.own.at_ x u hu H (by omega) (fun h => by
                          by_cases e : H = 3
                          · exact e
                          · exact absurd ⟨h, e⟩ hd))
                        have HT0 := HT
                        clear HT
                        have hbx := World.block_lt_of_cell? W1 _ x0
                        have HU := Lib.hid hu
                        clear hu
                        by_cases hu3 : u = 3 ∧ H = 3
                        · have q5 : ((u : Int) == 3) = true := by simp [hu3.1]
                          have q4 : ((H : Int) != 3) = false := by simp [hu3.2]
                          clear hu3 hd
                          as_aux_lemma =>
                            go_wp2_with fail
                            refine HT0.out.mono ?_
                            rintro e W2 ⟨rfl, hT⟩
                            have ho := hT.2
                            have HO2 := Lib.hid (HK1.out.own.turn hT)
                            have hb2 := HK1.out.low.trans (HK1.out.own.low hT HK1.out.low.size)
                            have HB2 := Lib.hid hb2
                            have tb := HK1.out.tab.only ho HK1.out.am HK1.out.im
                            have HTB := Lib.hid tb
                            have y0 := (World.cell?_of_block (a := ⟨bx, 0, none⟩) (ho.block bx hbx (by omega))).trans x0
                            have y1 := (World.cell?_of_block (a := ⟨bx, 1, none⟩) (ho.block bx hbx (by omega))).trans x1
                            have t2 := tb.j x x64
                            have t3 := tb.h x x64
                            unfold jfOf at t2
                            unfold hfOf at t3
                            rw [HU.out] at t2 t3
                            simp only [Option.isSome_some, hv] at t2 t3
                            have hbx2 : bx < W2.heap.size := World.block_lt_of_cell? W2 _ y0
                            clear hT ho hb2 tb t0 t1 x0 x1 HT0 hrg
                            go_wp2_with fail
                            have Y0 := Lib.hid y0
                            have Y1 := Lib.hid y1
                            clear t2 t3 y0 y1
                            go_loopg [15] 64 (fun kx kv wr => ∃ k : Nat, kv = .int .i64 k ∧ k ≤ 64 ∧ 64 - k ≤ kx ∧ (H ≠ 2 → k = 0) ∧ Hid (Tab wr ab ib (mixF s k) (jfOf s)) ∧ Hid (Only (fun d => d = ab) W2 wr))
                            case atStart => exact ⟨0, rfl, by decide, by decide, fun _ => rfl, Lib.hid (HTB.out.congr (fun c _ => (mix_zero s c).symm) fun _ _ => rfl), Lib.hid (Only.refl _ _)⟩
                            case round =>
                              obtain ⟨k, rfl, hk, hkk, hk2, HTK, HON⟩ := hrel
                              have y0 := (World.cell?_of_block (a := ⟨bx, 0, none⟩) (HON.out.block bx hbx2 (by omega))).trans Y0.out
                              have y1 := (World.cell?_of_block (a := ⟨bx, 1, none⟩) (HON.out.block bx hbx2 (by omega))).trans Y1.out
                              by_cases hgo : k < 64 ∧ H = 2
                              · obtain ⟨g1, hH2⟩ := hgo
                                have k64 : (k : Int) < 64 := by omega
                                have q2 : ((H : Int) == 2) = true := by simp [hH2]
                                have t2 := HTK.out.j k g1
                                have t3 := HTK.out.h k g1
                                have tz := HTK.out.hz k
                                unfold jfOf at t2
                                rw [mix_here] at t3
                                cases hu2 : s.at_ k with
                                | none =>
                                  rw [hu2] at t2 t3
                                  simp only [Option.isSome_none, hv] at t2 t3
                                  have HTN := Lib.hid (HTK.out.congr (fun c _ => mix_skip (by rw [hu2]; intro h; cases h) c) fun _ _ => rfl)
                                  clear hu2 HTK
                                  go_wp2_with fail
                                  go_roundg (64 - (k + 1))
                                  case measure => omega
                                  case rel => exact ⟨k + 1, by go_num, by omega, by omega, fun h => absurd hH2 h, HTN, HON⟩
                                | some v =>
                                  rw [hu2] at t2 t3
                                  simp only [Option.isSome_some, hv] at t2 t3
                                  by_cases hv2 : v = 2
                                  · have q3 : ((v : Int) == 2) = true := by simp [hv2]
                                    have HTN := Lib.hid ((HTK.out.setH k 1 g1).congr (fun c _ => mix_store (by rw [hu2, hv2]) c) fun _ _ => rfl)
                                    have HON2 := Lib.hid (HON.out.setCell (g := ab) (o := k) rfl (.int .u8 1))
                                    clear hu2 HTK hv2
                                    go_wp2_with fail
                                    go_roundg (64 - (k + 1))
                                    case measure => omega
                                    case rel => exact ⟨k + 1, by go_num, by omega, by omega, fun h => absurd hH2 h, HTN, HON2⟩
                                  · have q3 : ((v : Int) == 2) = false := by simp; omega
                                    have HTN := Lib.hid (HTK.out.congr (fun c _ => mix_skip (by rw [hu2]; intro h; cases h; exact hv2 rfl) c) fun _ _ => rfl)
                                    clear hu2 HTK hv2
                                    go_wp2_with fail
                                    go_roundg (64 - (k + 1))
                                    case measure => omega
                                    case rel => exact ⟨k + 1, by go_num, by omega, by omega, fun h => absurd hH2 h, HTN, HON⟩
                              · have ho := HON.out.setCell (g := ab) (o := x) rfl (.int .u8 H)
                                have tb := (HTK.out.setH x H x64).congr (jf' := jfOf (s.set x H)) (fun c hc => mix_done (s := s) (k := k) (x := x) (H := H) (fun h => by omega) hk2 c hc) (fun c _ => by
                                  unfold jfOf
                                  rw [set_some (by rw [HU.out]; rfl)])
                                have HK5 : Hid (Keeps w _ g mb ab ib (s.set x H)) := Lib.hid ⟨HO2.out.only ho (Ne.symm HK1.out.ag) (Ne.symm HK1.out.am), tb, HK1.out.a9, HK1.out.i9, HK1.out.am, HK1.out.im, HK1.out.ag, HK1.out.ig, HB2.out.trans (ho.toBelow (fun d hd => by rw [hd]; exact HK1.out.a9) HB2.out.size)⟩
                                have HRR := Lib.hid (qright_any g mb ab ib 64 64 _ _ HK5.out.own.at_ HK5.out.tab)
                                have t3 := HTK.out.h x x64
                                have tz := HTK.out.hz x
                                clear ho tb HTK HTB HO2 HB2
                                by_cases h64 : k < 64
                                · have k64 : (k : Int) < 64 := by omega
                                  have q2 : ((H : Int) == 2) = false := by simp; omega
                                  clear hgo
                                  go_wp2_with fail
                                  refine HRR.out.mono ?_
                                  rintro e W9 ⟨rfl, hb9⟩
                                  have HK9 := Lib.hid (HK5.out.below hb9)
                                  clear hb9 HRR HK5 HK1
                                  go_wp2_with fail
                                  go_roundg (60 - (i + 1))
                                  case measure => omega
                                  case rel => exact ⟨i + 1, s.set x H, by go_num, by omega, by omega, Nat.le_refl _, HK9⟩
                                · obtain rfl : k = 64 := by omega
                                  clear hgo
                                  go_wp2_with fail
                                  refine HRR.out.mono ?_
                                  rintro e W9 ⟨rfl, hb9⟩
                                  have HK9 := Lib.hid (HK5.out.below hb9)
                                  clear hb9 HRR HK5 HK1
                                  go_wp2_with fail
                                  go_roundg (60 - (i + 1))
                                  case measure => omega
                                  case rel => exact ⟨i + 1, s.set x H, by go_num, by omega, by omega, Nat.le_refl _, HK9⟩
                        · by_cases hu4 : u = 3
                          · exfalso
                            by_cases e : H = 3
                            · exact hu3 ⟨hu4, e⟩
                            · exact hd ⟨hu4, e⟩
                          · have q5 : ((u : Int) == 3) = false := by simp; omega
                            clear hu3 hu4 hd
                            as_aux_lemma =>
                              go_wp2_with fail
                              refine HT0.out.mono ?_
                              rintro e W2 ⟨rfl, hT⟩
                              have ho := hT.2
                              have HO2 := Lib.hid (HK1.out.own.turn hT)
                              have hb2 := HK1.out.low.trans (HK1.out.own.low hT HK1.out.low.size)
                              have HB2 := Lib.hid hb2
                              have tb := HK1.out.tab.only ho HK1.out.am HK1.out.im
                              have HTB := Lib.hid tb
                              have y0 := (World.cell?_of_block (a := ⟨bx, 0, none⟩) (ho.block bx hbx (by omega))).trans x0
                              have y1 := (World.cell?_of_block (a := ⟨bx, 1, none⟩) (ho.block bx hbx (by omega))).trans x1
                              have t2 := tb.j x x64
                              have t3 := tb.h x x64
                              unfold jfOf at t2
                              unfold hfOf at t3
                              rw [HU.out] at t2 t3
                              simp only [Option.isSome_some, hv] at t2 t3
                              have hbx2 : bx < W2.heap.size := World.block_lt_of_cell? W2 _ y0
                              clear hT ho hb2 tb t0 t1 x0 x1 HT0 hrg
                              go_wp2_with fail
                              have Y0 := Lib.hid y0
                              have Y1 := Lib.hid y1
                              clear t2 t3 y0 y1
                              go_loopg [15] 64 (fun kx kv wr => ∃ k : Nat, kv = .int .i64 k ∧ k ≤ 64 ∧ 64 - k ≤ kx ∧ (H ≠ 2 → k = 0) ∧ Hid (Tab wr ab ib (mixF s k) (jfOf s)) ∧ Hid (Only (fun d => d = ab) W2 wr))
                              case atStart => exact ⟨0, rfl, by decide, by decide, fun _ => rfl, Lib.hid (HTB.out.congr (fun c _ => (mix_zero s c).symm) fun _ _ => rfl), Lib.hid (Only.refl _ _)⟩
                              case round =>
                                obtain ⟨k, rfl, hk, hkk, hk2, HTK, HON⟩ := hrel
                                have y0 := (World.cell?_of_block (a := ⟨bx, 0, none⟩) (HON.out.block bx hbx2 (by omega))).trans Y0.out
                                have y1 := (World.cell?_of_block (a := ⟨bx, 1, none⟩) (HON.out.block bx hbx2 (by omega))).trans Y1.out
                                by_cases hgo : k < 64 ∧ H = 2
                                · obtain ⟨g1, hH2⟩ := hgo
                                  have k64 : (k : Int) < 64 := by omega
                                  have q2 : ((H : Int) == 2) = true := by simp [hH2]
                                  have t2 := HTK.out.j k g1
                                  have t3 := HTK.out.h k g1
                                  have tz := HTK.out.hz k
                                  unfold jfOf at t2
                                  rw [mix_here] at t3
                                  cases hu2 : s.at_ k with
                                  | none =>
                                    rw [hu2] at t2 t3
                                    simp only [Option.isSome_none, hv] at t2 t3
                                    have HTN := Lib.hid (HTK.out.congr (fun c _ => mix_skip (by rw [hu2]; intro h; cases h) c) fun _ _ => rfl)
                                    clear hu2 HTK
                                    go_wp2_with fail
                                    go_roundg (64 - (k + 1))
                                    case measure => omega
                                    case rel => exact ⟨k + 1, by go_num, by omega, by omega, fun h => absurd hH2 h, HTN, HON⟩
                                  | some v =>
                                    rw [hu2] at t2 t3
                                    simp only [Option.isSome_some, hv] at t2 t3
                                    by_cases hv2 : v = 2
                                    · have q3 : ((v : Int) == 2) = true := by simp [hv2]
                                      have HTN := Lib.hid ((HTK.out.setH k 1 g1).congr (fun c _ => mix_store (by rw [hu2, hv2]) c) fun _ _ => rfl)
                                      have HON2 := Lib.hid (HON.out.setCell (g := ab) (o := k) rfl (.int .u8 1))
                                      clear hu2 HTK hv2
                                      go_wp2_with fail
                                      go_roundg (64 - (k + 1))
                                      case measure => omega
                                      case rel => exact ⟨k + 1, by go_num, by omega, by omega, fun h => absurd hH2 h, HTN, HON2⟩
                                    · have q3 : ((v : Int) == 2) = false := by simp; omega
                                      have HTN := Lib.hid (HTK.out.congr (fun c _ => mix_skip (by rw [hu2]; intro h; cases h; exact hv2 rfl) c) fun _ _ => rfl)
                                      clear hu2 HTK hv2
                                      go_wp2_with fail
                                      go_roundg (64 - (k + 1))
                                      case measure => omega
                                      case rel => exact ⟨k + 1, by go_num, by omega, by omega, fun h => absurd hH2 h, HTN, HON⟩
                                · have ho := HON.out.setCell (g := ab) (o := x) rfl (.int .u8 H)
                                  have tb := (HTK.out.setH x H x64).congr (jf' := jfOf (s.set x H)) (fun c hc => mix_done (s := s) (k := k) (x := x) (H := H) (fun h => by omega) hk2 c hc) (fun c _ => by
                                    unfold jfOf
                                    rw [set_some (by rw [HU.out]; rfl)])
                                  have HK5 : Hid (Keeps w _ g mb ab ib (s.set x H)) := Lib.hid ⟨HO2.out.only ho (Ne.symm HK1.out.ag) (Ne.symm HK1.out.am), tb, HK1.out.a9, HK1.out.i9, HK1.out.am, HK1.out.im, HK1.out.ag, HK1.out.ig, HB2.out.trans (ho.toBelow (fun d hd => by rw [hd]; exact HK1.out.a9) HB2.out.size)⟩
                                  have HRR := Lib.hid (qright_any g mb ab ib 64 64 _ _ HK5.out.own.at_ HK5.out.tab)
                                  have t3 := HTK.out.h x x64
                                  have tz := HTK.out.hz x
                                  clear ho tb HTK HTB HO2 HB2
                                  by_cases h64 : k < 64
                                  · have k64 : (k : Int) < 64 := by omega
                                    have q2 : ((H : Int) == 2) = false := by simp; omega
                                    clear hgo
                                    go_wp2_with fail
                                    refine HRR.out.mono ?_
                                    rintro e W9 ⟨rfl, hb9⟩
                                    have HK9 := Lib.hid (HK5.out.below hb9)
                                    clear hb9 HRR HK5 HK1
                                    go_wp2_with fail
                                    go_roundg (60 - (i + 1))
                                    case measure => omega
                                    case rel => exact ⟨i + 1, s.set x H, by go_num, by omega, by omega, Nat.le_refl _, HK9⟩
                                  · obtain rfl : k = 64 := by omega
                                    clear hgo
                                    go_wp2_with fail
                                    refine HRR.out.mono ?_
                                    rintro e W9 ⟨rfl, hb9⟩
                                    have HK9 := Lib.hid (HK5.out.below hb9)
                                    clear hb9 HRR HK5 HK1
                                    go_wp2_with fail
                                    go_roundg (60 - (i + 1))
                                    case measure => omega
                                    case rel => exact ⟨i + 1, s.set x H, by go_num, by omega, by omega, Nat.le_refl _, HK9⟩
                · have HW1 := Lib.hid (how_in g mb s wr HR.out.own.at_ 64 (by decide))
                  have HW2 := Lib.hid (how_in g mb s wr HR.out.own.at_ (-1) (by decide))
                  have e64 : s.at_ 64 = none := by
                    cases h : s.at_ 64 with
                    | none => rfl
                    | some v => have := HR.out.own.at_.wf.rng 64 v h; omega
                  have em1 : s.at_ (-1) = none := by
                    cases h : s.at_ (-1) with
                    | none => rfl
                    | some v => have := HR.out.own.at_.wf.rng (-1) v h; omega
                  rw [e64] at HW1
                  rw [em1] at HW2
                  have HV1 : Hid (Calls Try.prog 24 #[.pointer (some ⟨g, 0, none⟩), .int .i64 64] wr fun e w' => e = .returned (.int .u8 3) ∧ wr = w') := HW1
                  have HV2 : Hid (Calls Try.prog 24 #[.pointer (some ⟨g, 0, none⟩), .int .i64 (-1)] wr fun e w' => e = .returned (.int .u8 3) ∧ wr = w') := HW2
                  have HL := Lib.hid HR.out.low
                  clear HW1 HW2 e64 em1 HR
                  by_cases h1 : i < q.length
                  · have j2 : (i : Int) < q.length := by omega
                    have j3 : ¬ (i : Int) < 60 := by omega
                    clear hgo
                    go_wp2_with fail
                    refine HV1.out.mono ?_
                    rintro e W4 ⟨rfl, rfl⟩
                    go_wp2_with fail
                    refine HV2.out.mono ?_
                    rintro e W4 ⟨rfl, rfl⟩
                    go_wp2
                    go_ret
                    exact ⟨rfl, HL.out⟩
                  · have j2 : ¬ (i : Int) < q.length := by omega
                    clear hgo
                    go_wp2_with fail
                    refine HV1.out.mono ?_
                    rintro e W4 ⟨rfl, rfl⟩
                    go_wp2_with fail
                    refine HV2.out.mono ?_
                    rintro e W4 ⟨rfl, rfl⟩
                    go_wp2
                    go_ret
                    exact ⟨rfl, HL.out⟩
end Go.Proofs.Ytfehioapjoihkaa
