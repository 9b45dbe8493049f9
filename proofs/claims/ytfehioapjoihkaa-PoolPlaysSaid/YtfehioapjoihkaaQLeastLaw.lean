/- The law PoolLeast answers true. -/
import Derived.Test.YtfehioapjoihkaaQAwake
import Derived.Test.YtfehioapjoihkaaArgs
import Derived.Deep.QuietTactic
import Derived.BigQuiet
namespace Drawbar.Pl
def upto (n : Nat) : List Int := (List.range n).map Int.ofNat
theorem upto_succ (n : Nat) : upto (n + 1) = upto n ++ [(n : Int)] := by unfold upto; rw [List.range_succ, List.map_append]; rfl
theorem upto_len (n : Nat) : (upto n).length = n := by simp [upto]
theorem upto_at (n i : Nat) (h : i < n) : (upto n).getD i 0 = i := by simp [upto, List.getD_eq_getElem?_getD, h]
theorem mem_upto (n : Nat) (t : Int) : t ∈ upto n ↔ 0 ≤ t ∧ t < n := by
  unfold upto
  rw [List.mem_map]
  constructor
  · rintro ⟨k, hk, rfl⟩; have := List.mem_range.1 hk; exact ⟨Int.natCast_nonneg k, Int.ofNat_lt.2 this⟩
  · intro h; exact ⟨t.toNat, List.mem_range.2 (by omega), Int.toNat_of_nonneg h.1⟩
theorem rise_upto (n : Nat) (h : n ≤ 64) : Rise (upto n) := fun i hi => by
  rw [upto_len] at hi
  unfold okAt
  rw [upto_at n i hi]
  refine ⟨by omega, by omega, ?_⟩
  by_cases e : i = 0
  · exact .inl e
  · rw [upto_at n (i - 1) (by omega)]; exact .inr (by omega)
/-- The first k blocks are said, of n. -/
structure Said (s : St) (n k : Nat) : Prop where
  free : ∀ t : Nat, k ≤ t → t < n → s.at_ t = some 0
  is_ : ∀ t : Int, (s.at_ t).isSome = true ↔ 0 ≤ t ∧ t < n
theorem Said.first (n : Nat) : Said (St.new (upto n)) n 0 where
  free t _ h := by unfold St.new; exact if_pos ((mem_upto n t).2 ⟨by omega, by omega⟩)
  is_ t := by
    unfold St.new
    dsimp only
    by_cases h : t ∈ upto n
    · rw [if_pos h]; exact ⟨fun _ => (mem_upto n t).1 h, fun _ => rfl⟩
    · rw [if_neg h]; exact ⟨(by intro h; cases h), fun h2 => absurd ((mem_upto n t).2 h2) h⟩
theorem set_some {s : St} {b : Int} {v : Nat} (h : (s.at_ b).isSome = true) (t : Int) : ((s.set b v).at_ t).isSome = (s.at_ t).isSome := by
  rw [set_at]
  by_cases e : t = b
  · subst e; rw [if_pos rfl, h]; rfl
  · rw [if_neg e]
    split
    · rename_i h2; rw [h2.2]; rfl
    · rfl
theorem Said.step {s : St} {n k : Nat} (h : Said s n k) (hk : k < n) (v : Nat) : Said (s.set k v) n (k + 1) where
  free t h1 h2 := by
    rw [set_at, if_neg (by omega), h.free t (by omega) h2]
    simp
  is_ t := by rw [set_some ((h.is_ k).2 ⟨by omega, by omega⟩)]; exact h.is_ t
def St.to (s : St) (v k : Nat) : List Int := (upto k).filter fun t => decide (s.at_ t = some v)
theorem to_all (s : St) (v : Nat) : s.to v 64 = s.those v := rfl
theorem to_succ (s : St) (v k : Nat) : s.to v (k + 1) = s.to v k ++ if s.at_ k = some v then [(k : Int)] else [] := by
  unfold St.to
  rw [upto_succ, List.filter_append]
  congr 1
  by_cases h : s.at_ k = some v <;> simp [h]
theorem to_pos (s : St) (v k : Nat) : ∀ b ∈ s.to v k, 0 ≤ b := fun b hb => ((mem_upto k b).1 (List.mem_filter.1 hb).1).1
/-- The law's best. -/
def bestOf (r : Int × Bool) : Int := if r.2 then r.1 else -1
theorem least_stop {s : St} {n m : Nat} (h : Said s n m) (wt : List Int) (v k : Nat) (hk : n ≤ k ∨ wt.length ≤ k) : ∀ j, leastIn wt (s.to v (k + j)) = leastIn wt (s.to v k) := by
  intro j
  induction j with
  | zero => rfl
  | succ j ih =>
    rw [← Nat.add_assoc, to_succ]
    by_cases e : s.at_ (k + j : Nat) = some v
    · rw [if_pos e, leastIn_snoc, ih]
      unfold stepL
      refine if_neg fun hh => ?_
      have h1 := (h.is_ (k + j : Nat)).1 (by rw [e]; rfl)
      rcases hk with hk | hk
      · omega
      · have := hh.1; omega
    · rw [if_neg e, List.append_nil, ih]
theorem least_end {s : St} {n m : Nat} (h : Said s n m) (wt : List Int) (v k : Nat) (hk : n ≤ k ∨ wt.length ≤ k) (h64 : k ≤ 64) : leastIn wt (s.those v) = leastIn wt (s.to v k) := by
  rw [← to_all, show (64 : Nat) = k + (64 - k) by omega]
  exact least_stop h wt v k hk _
end Drawbar.Pl
namespace Go.Proofs.Ytfehioapjoihkaa
open Go.RowKit
open Drawbar Drawbar.Pl
theorem quiet_same {P : Program} {f : FuncId} {args : Array Value} {w : World} {n : Nat} {v : Value}
    (h : Calls P f args (w.drewN n) fun e w' => e = .returned v ∧ w.drewN n = w') : Calls P f args (w.drewN n) fun e w'' => e = .returned v ∧ ∃ m, w'' = w.drewN m :=
  h.mono fun _ _ ⟨he, hm⟩ => ⟨he, n, hm.symm⟩
theorem below_drewN {B : Nat} {a w : World} (h : Below B a w) (n : Nat) : Below B a (w.drewN n) := ⟨h.os, h.tape, h.output, h.size, h.block⟩
theorem RdI.mono {w w1 : World} {a : Option Addr} {l : List Int} (h : RdI w a l) (hb : Below w.heap.size w w1) : RdI w1 a l := h.below hb
theorem rd_of_own {w : World} {base : Nat} {v : Value} {n : Nat} {l : List Int} (h : w.ownsRow base 3 1 v n (l.map (Value.int .i64))) : ∃ a c, v = .slice a l.length c ∧ RdI w a l := by
  rcases shape_int h with ⟨rfl, rfl⟩ | ⟨g, c, rfl, -, -⟩
  · exact ⟨none, 0, rfl, rdI_nil _ _⟩
  · have hn : n = l.length := by have := h.1; simpa using this.symm
    subst hn
    exact ⟨_, c, rfl, fun _ => ⟨g, 0, rfl, fun i hi => by rw [Nat.zero_add]; exact (icells_of_own h i hi).1⟩⟩
set_option maxHeartbeats 4000000 in
set_option maxRecDepth 100000 in
theorem least_any (l wt : List Int) (a wa : Option Addr) (c wc y : Nat) (w : World) (hy : y < 256) (hs : Nums .u8 w a l) (hw : RdI w wa wt) : Calls Try.prog 8 #[.slice a l.length c, .slice wa wt.length wc, .int .u8 y] w (QYes w) := by
  obtain ⟨i0, hi, hz0, hz1, hz2⟩ := info_parts info_int
  by_cases h60 : 60 < l.length
  · have i1 : (60 : Int) < l.length := by omega
    clear hs hw hi
    go_enter Try.func8, Try.ntmps8
    go_wp2_with fail
    refine (qawake_any _).mono ?_
    rintro e w1 ⟨rfl, b1⟩
    have B1 := Lib.hid b1
    clear b1
    go_wp2_with fail
    refine (qawake_any _).mono ?_
    rintro e w2 ⟨rfl, b2⟩
    have B2 := Lib.hid (B1.out.trans (b2.mono B1.out.size))
    clear b2
    go_wp2
    go_ret
    exact ⟨rfl, B2.out⟩
  · have i1 : ¬ (60 : Int) < l.length := by omega
    have n60 : l.length ≤ 60 := by omega
    have HS := Lib.hid hs
    have HW := Lib.hid hw
    clear hs hw h60
    go_enter Try.func8, Try.ntmps8
    go_wp2_with fail
    refine (qawake_any _).mono ?_
    rintro e w1 ⟨rfl, b1⟩
    have B1 := Lib.hid b1
    clear b1
    go_wp2_with fail
    go_loopw [7, 8] (fun bv iv wr => ∃ k : Nat, iv = .int .i64 k ∧ k ≤ l.length ∧ wr.ownsRow w1.heap.size 3 1 bv k ((upto k).map (Value.int .i64)) ∧ Hid (Below w1.heap.size w1 wr)) (fun _ iv _ => l.length - (intOf iv).toNat)
    case atStart => exact ⟨0, rfl, Nat.zero_le _, World.ownsRow_nil _ _ _ 1, Lib.hid (Below.refl _ _)⟩
    case round =>
      obtain ⟨k, rfl, hk, hown, HB⟩ := hrel
      by_cases hlt : k < l.length
      · have j1 : (k : Int) < l.length := by omega
        have hbs := HB.out.size
        go_wp2_with (at_builtin; refine wpList_append_ownz rfl (.tmp 30) (.tmp 32) 43 rfl w1.heap.size 3 i0 (.int .i64 0) 1 8 Try.underlying43 hi hz0 hz1 hz2 rfl (by decide) _ k ((upto k).map (Value.int .i64)) rfl (hown.alloc _) (some ⟨wr.heap.size, 0, none⟩) 1 1 [.int .i64 (k : Int)] rfl (fun h => by cases h) rfl (at_onei wr k) (by simp [Value.oneCell']) (by unfold maxLen; omega) (by omega) (by simp; omega) ?_; intro v6 w6 hown6 hb6)
        go_roundw
        case rel => exact ⟨k + 1, by go_num, by omega, by rw [upto_succ, List.map_append]; exact hown6, Lib.hid (HB.out.trans (((Below.refl _ _).alloc hbs _).trans hb6))⟩
        case measure => simp [intOf]; omega
      · obtain rfl : l.length = k := by omega
        have j1 : ¬ (l.length : Int) < l.length := by omega
        obtain ⟨ba, bc, rfl, hrd⟩ := rd_of_own hown
        have hn := new_rise _ ba bc wr hrd (rise_upto l.length (by omega))
        rw [upto_len] at hn ⊢
        have HN := Lib.hid hn
        have HB2 := Lib.hid (B1.out.trans (HB.out.mono B1.out.size))
        clear hn hrd hown HB
        go_wp2_with fail
        refine HN.out.mono ?_
        intro e w2 hm
        obtain ⟨g, mb, rfl, h2, b2⟩ := hm.own
        have HO2 : Hid (Own w.heap.size w2 g mb (St.new (upto l.length))) := Lib.hid ⟨h2.at_, Nat.le_trans HB2.out.size h2.g9, Nat.le_trans HB2.out.size h2.m9⟩
        have HB3 : Hid (Below w.heap.size w w2) := Lib.hid (HB2.out.trans (b2.mono HB2.out.size))
        clear hm h2 b2 HN B1 HB2
        go_wp2_with fail
        go_loopw [11] (fun iv wr => ∃ (k : Nat) (s : St), iv = .int .i64 k ∧ k ≤ l.length ∧ Hid (Said s l.length k) ∧ Hid (Own w.heap.size wr g mb s) ∧ Hid (Below w.heap.size w wr)) (fun iv _ => l.length - (intOf iv).toNat)
        case atStart => exact ⟨0, _, rfl, Nat.zero_le _, Lib.hid (Said.first _), HO2, HB3⟩
        case round =>
          obtain ⟨k, s, rfl, hk, HD, HO, HB⟩ := hrel
          clear HO2 HB3 j1
          by_cases hlt : k < l.length
          · have j1 : (k : Int) < l.length := by omega
            have hx := HS.out.1 (l.getD k 0) (by rw [List.getD_eq_getElem?_getD, List.getElem?_eq_getElem hlt]; exact List.getElem_mem hlt)
            have hxb := bounds_u8 hx
            obtain ⟨ab, ao, rfl, hc⟩ := HS.out.2 (by omega)
            have c0 := hc k hlt
            have hab : ab < w.heap.size := World.block_lt_of_cell? w _ c0
            have c1 := (HB.out.cell (p := ⟨ab, ao + k, none⟩) hab).trans c0
            obtain ⟨x, hxn⟩ : ∃ x : Nat, l.getD k 0 = x := ⟨(l.getD k 0).toNat, by omega⟩
            rw [hxn] at c1 hxb
            clear hc c0 hx hxn
            obtain ⟨v, hv⟩ : ∃ v, v = x % 4 := ⟨_, rfl⟩
            have ev : (x : Int) % 4 = (v : Int) := by omega
            have hv4 : v < 4 := by omega
            clear hv
            have HT := Lib.hid (set_in_ g mb s wr HO.out.at_ k 0 (HD.out.free k (Nat.le_refl _) hlt) v hv4 (fun h => by cases h))
            have HD2 := Lib.hid (HD.out.step hlt v)
            go_wp2_with fail
            refine HT.out.mono ?_
            rintro e w4 ⟨rfl, hb4⟩
            have HO4 := Lib.hid (HO.out.turn hb4)
            have HB4 := Lib.hid (HB.out.trans (HO.out.low hb4 HB.out.size))
            clear hb4 HT HO HB HD
            go_wp2_with fail
            go_roundw
            case rel => exact ⟨k + 1, _, by go_num, by omega, HD2, HO4, HB4⟩
            case measure => simp [intOf]; omega
          · obtain rfl : l.length = k := by omega
            have j1 : ¬ (l.length : Int) < l.length := by omega
            obtain ⟨v, hv⟩ : ∃ v, v = y % 4 := ⟨_, rfl⟩
            have ev : (y : Int) % 4 = (v : Int) := by omega
            have hv4 : v < 4 := by omega
            clear hv
            go_wp2_with fail
            go_loopw [12, 13] (fun mv iv wr => ∃ k : Nat, iv = .int .i64 k ∧ k ≤ l.length ∧ mv = .int .i64 (bestOf (leastIn wt (s.to v k))) ∧ Hid (Own w.heap.size wr g mb s) ∧ Hid (Below w.heap.size w wr)) (fun _ iv _ => l.length - (intOf iv).toNat)
            case atStart => exact ⟨0, rfl, Nat.zero_le _, rfl, HO, HB⟩
            case round =>
              obtain ⟨k, rfl, hk, rfl, HO5, HB5⟩ := hrel
              clear HO HB j1
              have hgood := leastIn_in wt (s.to v k) (to_pos s v k)
              by_cases hgo : k < l.length ∧ k < wt.length
              · obtain ⟨g1, g2⟩ := hgo
                have j1 : (k : Int) < l.length := by omega
                have j2 : (k : Int) < wt.length := by omega
                obtain ⟨u, hu⟩ := Option.isSome_iff_exists.1 ((HD.out.is_ k).2 ⟨by omega, by omega⟩)
                have hh2 : ∀ q : Nat, Calls Try.prog 24 #[.pointer (some ⟨g, 0, none⟩), .int .i64 k] (wr.drewN q) fun e w' => e = .returned (.int .u8 u) ∧ wr.drewN q = w' := fun q => by
                  have := how_in g mb s (wr.drewN q) (HO5.out.at_.keep rfl rfl) k (wf_in ⟨by omega, by omega⟩)
                  rw [hu] at this
                  exact this
                have HH := Lib.hid hh2
                have hto := to_succ s v k
                have hub := (HO5.out.at_.wf.rng k u hu).2.2
                rw [hu] at hto
                clear hh2 hu
                by_cases huv : u = v
                · subst huv
                  rw [if_pos rfl] at hto
                  have hst := leastIn_snoc wt (s.to u k) k
                  rw [← hto] at hst
                  unfold stepL at hst
                  clear hto
                  obtain ⟨⟨m, f⟩, hacc⟩ : ∃ r, leastIn wt (s.to u k) = r := ⟨_, rfl⟩
                  rw [hacc] at hst hgood ⊢
                  simp only [Int.toNat_natCast] at hst hgood
                  cases f with
                  | false =>
                    rw [if_pos ⟨j2, .inl rfl⟩] at hst
                    have HT := Lib.hid hst
                    have HA := Lib.hid hacc
                    simp only [bestOf, Bool.false_eq_true, if_false]
                    have b0 : (-1 : Int) < 0 := by decide
                    clear hst hacc hgood
                    go_wp2_with fail
                    go_quiet ((go_at_call 24; exact quiet_same (HH.out _)))
                    go_wp2_with fail
                    go_roundw
                    case rel => exact ⟨k + 1, by go_num, by omega, by rw [HT.out]; rfl, Lib.hid (HO5.out.below (below_drewN (Below.refl _ _) _)), Lib.hid (below_drewN HB5.out _)⟩
                    case measure => simp [intOf]; omega
                  | true =>
                    obtain ⟨g3, g4⟩ := hgood rfl
                    obtain ⟨m, rfl⟩ : ∃ n : Nat, m = n := ⟨m.toNat, by omega⟩
                    simp only [bestOf, if_true]
                    have b0 : decide ((m : Int) < 0) = false := decide_eq_false (by omega)
                    simp only [Int.toNat_natCast] at hst
                    have g5 : m < wt.length := by omega
                    obtain ⟨ab, ao, rfl, hwc⟩ := HW.out (by omega)
                    have d1 := hwc k g2
                    have d2 := hwc m g5
                    have hab : ab < w.heap.size := World.block_lt_of_cell? w _ d1
                    have e1 := (HB5.out.cell (p := ⟨ab, ao + k, none⟩) hab).trans d1
                    have e2 := (HB5.out.cell (p := ⟨ab, ao + m, none⟩) hab).trans d2
                    clear hwc d1 d2 hgood
                    by_cases hlt2 : wt.getD k 0 < wt.getD m 0
                    · rw [if_pos ⟨j2, .inr hlt2⟩] at hst
                      have HT := Lib.hid hst
                      have HA := Lib.hid hacc
                      clear hst hacc
                      generalize wt.getD k 0 = wb at *
                      generalize wt.getD m 0 = wm at *
                      go_wp2_with fail
                      go_quiet ((go_at_call 24; exact quiet_same (HH.out _)))
                      go_wp2_with fail
                      go_roundw
                      case rel => exact ⟨k + 1, by go_num, by omega, by rw [HT.out]; rfl, Lib.hid (HO5.out.below (below_drewN (Below.refl _ _) _)), Lib.hid (below_drewN HB5.out _)⟩
                      case measure => simp [intOf]; omega
                    · rw [if_neg (by rintro ⟨_, h | h⟩; cases h; exact hlt2 h)] at hst
                      have HT := Lib.hid hst
                      have HA := Lib.hid hacc
                      clear hst hacc
                      generalize wt.getD k 0 = wb at *
                      generalize wt.getD m 0 = wm at *
                      go_wp2_with fail
                      go_quiet ((go_at_call 24; exact quiet_same (HH.out _)))
                      go_wp2_with fail
                      go_roundw
                      case rel => exact ⟨k + 1, by go_num, by omega, by rw [HT.out]; rfl, Lib.hid (HO5.out.below (below_drewN (Below.refl _ _) _)), Lib.hid (below_drewN HB5.out _)⟩
                      case measure => simp [intOf]; omega
                · rw [if_neg (by intro e; cases e; exact huv rfl), List.append_nil] at hto
                  have HT := Lib.hid hto
                  have huv2 : ((u : Int) == (v : Int)) = false := by simp; omega
                  obtain ⟨best, hbe⟩ : ∃ r, bestOf (leastIn wt (s.to v k)) = r := ⟨_, rfl⟩
                  have HBE := Lib.hid hbe
                  rw [hbe]
                  clear hbe
                  clear hto hgood huv
                  go_wp2_with fail
                  go_quiet ((go_at_call 24; exact quiet_same (HH.out _)))
                  go_wp2_with fail
                  go_roundw
                  case rel => exact ⟨k + 1, by go_num, by omega, by rw [HT.out, HBE.out], Lib.hid (HO5.out.below (below_drewN (Below.refl _ _) _)), Lib.hid (below_drewN HB5.out _)⟩
                  case measure => simp [intOf]; omega
              · have hend := least_end HD.out wt v k (by omega) (by omega)
                have hl := least_of (.pointer (some ⟨g, 0, none⟩)) v (s.those v) wt wa wc wr (HW.out.mono HB5.out) (fun b hb => by
                  have := (mem_those HO5.out.at_.wf v b).1 hb
                  have := HO5.out.at_.wf.rng b v this
                  exact ⟨this.1, this.2.1⟩) (those_le s v) (those_in g mb s wr HO5.out.at_ v)
                rw [hend] at hl
                obtain ⟨⟨m, f⟩, hacc⟩ : ∃ r, leastIn wt (s.to v k) = r := ⟨_, rfl⟩
                rw [hacc] at hl hgood ⊢
                have HL := Lib.hid hl
                clear hl hend hacc
                by_cases h1 : k < l.length
                · have j1 : (k : Int) < l.length := by omega
                  have j2 : decide ((k : Int) < wt.length) = false := decide_eq_false (by omega)
                  have j3 : ¬ (k : Int) < wt.length := by omega
                  clear hgo
                  cases f with
                  | false =>
                    simp only [bestOf, Bool.false_eq_true, if_false]
                    clear hgood
                    go_wp2_with fail
                    refine HL.out.mono ?_
                    rintro e w6 ⟨rfl, hb6⟩
                    have HB6 := Lib.hid (HB5.out.trans (hb6.mono HB5.out.size))
                    clear hb6 HL
                    unfold leastV
                    go_wp2
                    go_ret
                    exact ⟨rfl, HB6.out⟩
                  | true =>
                    obtain ⟨g3, g4⟩ := hgood rfl
                    simp only [bestOf, if_true]
                    have b0 : (0 : Int) ≤ m := g3
                    clear hgood g3 g4
                    go_wp2_with fail
                    refine HL.out.mono ?_
                    rintro e w6 ⟨rfl, hb6⟩
                    have HB6 := Lib.hid (HB5.out.trans (hb6.mono HB5.out.size))
                    clear hb6 HL
                    unfold leastV
                    go_wp2
                    go_ret
                    exact ⟨rfl, HB6.out⟩
                · have j1 : ¬ (k : Int) < l.length := by omega
                  have j0 : decide ((k : Int) < l.length) = false := decide_eq_false (by omega)
                  clear hgo
                  cases f with
                  | false =>
                    simp only [bestOf, Bool.false_eq_true, if_false]
                    clear hgood
                    go_wp2_with fail
                    refine HL.out.mono ?_
                    rintro e w6 ⟨rfl, hb6⟩
                    have HB6 := Lib.hid (HB5.out.trans (hb6.mono HB5.out.size))
                    clear hb6 HL
                    unfold leastV
                    go_wp2
                    go_ret
                    exact ⟨rfl, HB6.out⟩
                  | true =>
                    obtain ⟨g3, g4⟩ := hgood rfl
                    simp only [bestOf, if_true]
                    have b0 : (0 : Int) ≤ m := g3
                    clear hgood g3 g4
                    go_wp2_with fail
                    refine HL.out.mono ?_
                    rintro e w6 ⟨rfl, hb6⟩
                    have HB6 := Lib.hid (HB5.out.trans (hb6.mono HB5.out.size))
                    clear hb6 HL
                    unfold leastV
                    go_wp2
                    go_ret
                    exact ⟨rfl, HB6.out⟩
end Go.Proofs.Ytfehioapjoihkaa
