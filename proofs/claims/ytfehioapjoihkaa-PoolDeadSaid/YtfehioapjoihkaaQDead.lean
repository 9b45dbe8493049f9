/- The law PoolDead answers true. -/
import Derived.Test.YtfehioapjoihkaaQAwake
import Derived.Test.YtfehioapjoihkaaArgs
namespace Drawbar.Pl
/-- How the law's pool stands. -/
structure DeadSt (s : St) (u : Nat) : Prop where
  a4 : s.at_ 4 = some 3
  a1 : s.at_ 1 = some u
  u3 : u < 3
  a6 : s.at_ 6 = some 0
  no : ∀ t, t ≠ 1 → t ≠ 4 → t ≠ 6 → s.at_ t = none
theorem DeadSt.count {s : St} {u : Nat} (h : DeadSt s u) (w : Wf s) : (s.those 3).length = 1 := by
  have hp := those_of (ss := [4]) w 3 (by simp) fun x => by
    rw [List.mem_singleton]
    constructor
    · rintro rfl; exact h.a4
    · intro hx
      by_cases e4 : x = 4
      · exact e4
      · exfalso
        by_cases e1 : x = 1
        · subst e1; rw [h.a1] at hx; have := h.u3; cases hx; omega
        · by_cases e6 : x = 6
          · subst e6; rw [h.a6] at hx; cases hx
          · rw [h.no x e1 e4 e6] at hx; cases hx
  have := hp.length_eq
  simpa using this.symm
theorem DeadSt.first : DeadSt ((St.new [1, 4, 6]).set 4 3) 0 := ⟨by decide, by decide, by decide, by decide, fun t h1 h4 h6 => by rw [set_at, if_neg h4]; simp [St.new, h1, h4, h6]⟩
theorem DeadSt.dead {s : St} {u : Nat} (h : DeadSt s u) : DeadSt (s.set 4 3) u :=
  ⟨by rw [set_at]; simp, by rw [set_at]; simp [h.a1], h.u3, by rw [set_at]; simp [h.a6], fun t h1 h4 h6 => by rw [set_at, if_neg h4]; simp [h.no t h1 h4 h6]⟩
theorem DeadSt.one {s : St} {u : Nat} (h : DeadSt s u) (v : Nat) (hv : v < 3) : DeadSt (s.set 1 v) v :=
  ⟨by rw [set_at]; simp [h.a4], by rw [set_at]; simp, hv, by rw [set_at]; simp [h.a6], fun t h1 h4 h6 => by rw [set_at, if_neg h1]; simp [h.no t h1 h4 h6]⟩
end Drawbar.Pl
namespace Go.Proofs.Ytfehioapjoihkaa
open Go.RowKit
open Drawbar Drawbar.Pl
set_option maxHeartbeats 4000000 in
set_option maxRecDepth 100000 in
theorem dead_any (l : List Int) (a : Option Addr) (c : Nat) (w : World) (hs : Nums .u8 w a l) : Calls Try.prog 10 #[.slice a l.length c] w (QYes w) := by
  by_cases h60 : 60 < l.length
  · have i1 : (60 : Int) < l.length := by omega
    clear hs
    go_enter Try.func10, Try.ntmps10
    go_wp2_with fail
    refine (qawake_any _).mono ?_
    rintro e w1 ⟨rfl, b1⟩
    have B1 := Lib.hid b1
    clear b1
    go_wp2_with fail
    refine (qawake_any _).mono ?_
    rintro e w2 ⟨rfl, b2⟩
    have B2 := Lib.hid (B1.out.trans (b2.mono B1.out.size))
    clear b2
    go_wp2
    go_ret
    exact ⟨rfl, B2.out⟩
  · have i1 : ¬ (60 : Int) < l.length := by omega
    have HS := Lib.hid hs
    clear hs
    go_enter Try.func10, Try.ntmps10
    go_wp2_with fail
    refine (qawake_any _).mono ?_
    rintro e w1 ⟨rfl, b1⟩
    have hn : Calls Try.prog 21 #[.slice (some ⟨w1.heap.size, 0, none⟩) 3 3] (w1.alloc (.cells #[.int .i64 1, .int .i64 4, .int .i64 6] 3)) (PMade (w1.alloc (.cells #[.int .i64 1, .int .i64 4, .int .i64 6] 3)) [1, 4, 6]) :=
      new_rise [1, 4, 6] _ 3 _ (fun _ => ⟨w1.heap.size, 0, rfl, fun i hi => by
        have : i = 0 ∨ i = 1 ∨ i = 2 := by simp at hi; omega
        rcases this with rfl | rfl | rfl <;> simp⟩) (rise_of (by decide))
    have HN := Lib.hid hn
    have B1 := Lib.hid b1
    clear hn b1
    go_wp2_with fail
    refine HN.out.mono ?_
    intro e w2 hm
    obtain ⟨g, mb, rfl, h2, b2⟩ := hm.own
    have B2 : Hid (Below w.heap.size w w2) := Lib.hid (B1.out.trans (((Below.refl _ _).alloc B1.out.size _).trans (b2.mono (by have := B1.out.size; simp; omega))))
    have hs : Calls Try.prog 22 #[.pointer (some ⟨g, 0, none⟩), .int .i64 4, .int .u8 3] w2 fun e w' => e = .returned (.int .i64 0) ∧ Turned w2 g mb ((St.new [1, 4, 6]).set 4 3) w' := set_in_ g mb _ _ h2.at_ 4 0 (by decide) 3 (by decide) (by decide)
    have HT := Lib.hid hs
    have g9 := h2.g9
    have m9 := h2.m9
    have z1 := B1.out.size
    simp only [World.size_alloc] at g9 m9
    have H2 : Hid (Own w.heap.size w2 g mb (St.new [1, 4, 6])) := Lib.hid ⟨h2.at_, by omega, by omega⟩
    clear hs hm HN b2 h2 B1 g9 m9 z1
    go_wp2_with fail
    refine HT.out.mono ?_
    rintro e w3 ⟨rfl, hb3⟩
    have h3 := H2.out.turn hb3
    have b3 := B2.out.trans (H2.out.low hb3 B2.out.size)
    have H3 := Lib.hid h3
    have B3 := Lib.hid b3
    clear h3 b3 hb3 H2 B2 HT
    go_wp2_with fail
    go_loopw [5] (fun iv wr => ∃ (i : Nat) (s : St) (u : Nat), iv = .int .i64 i ∧ i ≤ l.length ∧ Hid (DeadSt s u) ∧ Hid (Own w.heap.size wr g mb s) ∧ Hid (Below w.heap.size w wr)) (fun iv _ => l.length - (intOf iv).toNat)
    case atStart => exact ⟨0, _, 0, rfl, Nat.zero_le _, Lib.hid DeadSt.first, H3, B3⟩
    case round =>
      obtain ⟨i, s, u, rfl, hi, HD, HO, HB⟩ := hrel
      have h60' : l.length ≤ 60 := by omega
      by_cases hlt : i < l.length
      · have j1 : (i : Int) < l.length := by omega
        have hx := HS.out.1 (l.getD i 0) (by rw [List.getD_eq_getElem?_getD, List.getElem?_eq_getElem hlt]; exact List.getElem_mem hlt)
        have hxb := bounds_u8 hx
        obtain ⟨ab, ao, rfl, hc⟩ := HS.out.2 (by omega)
        have c0 := hc i hlt
        have hab : ab < w.heap.size := World.block_lt_of_cell? w _ c0
        have c1 := (HB.out.cell (p := ⟨ab, ao + i, none⟩) hab).trans c0
        obtain ⟨x, hxn⟩ : ∃ x : Nat, l.getD i 0 = x := ⟨(l.getD i 0).toNat, by omega⟩
        rw [hxn] at c1 hxb
        clear hc c0 hx hxn
        obtain ⟨v, hv⟩ : ∃ v, v = x % 4 := ⟨_, rfl⟩
        have ev : (x : Int) % 4 = (v : Int) := by omega
        have hv4 : v < 4 := by omega
        clear hv
        have h4 : s.at_ 4 = some 3 := HD.out.a4
        by_cases hv3 : v = 3
        · subst hv3
          have e3 : (x : Int) % 4 = 3 := ev
          have hset : Calls Try.prog 22 #[.pointer (some ⟨g, 0, none⟩), .int .i64 4, .int .u8 3] wr fun e w' => e = .returned (.int .i64 0) ∧ Turned wr g mb (s.set 4 3) w' := set_in_ g mb s wr HO.out.at_ 4 3 h4 3 (by decide) (fun _ => rfl)
          have HT := Lib.hid hset
          have HD2 := Lib.hid HD.out.dead
          clear hset h4 ev
          go_wp2_with fail
          refine HT.out.mono ?_
          rintro e w4 ⟨rfl, hb4⟩
          have HO4 := Lib.hid (HO.out.turn hb4)
          have HB4 := Lib.hid (HB.out.trans (HO.out.low hb4 HB.out.size))
          have hh : Calls Try.prog 24 #[.pointer (some ⟨g, 0, none⟩), .int .i64 4] w4 fun e w' => e = .returned (.int .u8 3) ∧ w4 = w' := by
            have := how_in g mb _ w4 HO4.out.at_ 4 (wf_in (by decide))
            rw [HD2.out.a4] at this
            exact this
          have HH := Lib.hid hh
          clear hb4 hh HT HO HB HD
          go_wp2_with fail
          refine HH.out.mono ?_
          rintro e w5 ⟨rfl, rfl⟩
          go_wp2_with fail
          go_roundw
          case rel => exact ⟨i + 1, _, u, by go_num, by omega, HD2, HO4, HB4⟩
          case measure => simp [intOf]; omega
        · have hv2 : v < 3 := by omega
          have n3 : ((v : Int) == 3) = false := by simp; omega
          have n4 : ((v : Int) != 3) = true := by simp; omega
          have HT := Lib.hid (set_dead g mb s wr HO.out.at_ 4 (wf_in (by decide)) v hv2 h4)
          have hh : Calls Try.prog 24 #[.pointer (some ⟨g, 0, none⟩), .int .i64 4] wr fun e w' => e = .returned (.int .u8 3) ∧ wr = w' := by
            have := how_in g mb _ wr HO.out.at_ 4 (wf_in (by decide))
            rw [h4] at this
            exact this
          have HH := Lib.hid hh
          have HU := Lib.hid (set_in_ g mb s wr HO.out.at_ 1 u HD.out.a1 v (by omega) (fun h => by have := HD.out.u3; omega))
          have HD2 := Lib.hid (HD.out.one v hv2)
          clear hh h4
          go_wp2_with fail
          refine HT.out.mono ?_
          rintro e w4 ⟨rfl, rfl⟩
          go_wp2_with fail
          refine HH.out.mono ?_
          rintro e w5 ⟨rfl, rfl⟩
          go_wp2_with fail
          refine HU.out.mono ?_
          rintro e w4 ⟨rfl, hb4⟩
          have HO4 := Lib.hid (HO.out.turn hb4)
          have HB4 := Lib.hid (HB.out.trans (HO.out.low hb4 HB.out.size))
          have hg : Calls Try.prog 24 #[.pointer (some ⟨g, 0, none⟩), .int .i64 1] w4 fun e w' => e = .returned (.int .u8 v) ∧ w4 = w' := by
            have := how_in g mb _ w4 HO4.out.at_ 1 (wf_in (by decide))
            rw [HD2.out.a1] at this
            exact this
          have HG := Lib.hid hg
          clear hb4 hg HT HO HB HD HU HH
          go_wp2_with fail
          refine HG.out.mono ?_
          rintro e w5 ⟨rfl, rfl⟩
          go_wp2_with fail
          go_roundw
          case rel => exact ⟨i + 1, _, v, by go_num, by omega, HD2, HO4, HB4⟩
          case measure => simp [intOf]; omega
      · have j1 : ¬ (i : Int) < l.length := by omega
        have hcn := count_in_ g mb s wr HO.out.at_ 3
        rw [HD.out.count HO.out.at_.wf] at hcn
        have hcn2 : Calls Try.prog 27 #[.pointer (some ⟨g, 0, none⟩), .int .u8 3] wr fun e w' => e = .returned (.int .i64 1) ∧ Below wr.heap.size wr w' := hcn
        have HC := Lib.hid hcn2
        clear hcn hcn2
        go_wp2_with fail
        refine HC.out.mono ?_
        rintro e w4 ⟨rfl, hb4⟩
        have HO4 := Lib.hid (HO.out.below hb4)
        have HB4 := Lib.hid (HB.out.trans (hb4.mono HB.out.size))
        have hh : Calls Try.prog 24 #[.pointer (some ⟨g, 0, none⟩), .int .i64 6] w4 fun e w' => e = .returned (.int .u8 0) ∧ w4 = w' := by
          have := how_in g mb _ w4 HO4.out.at_ 6 (wf_in (by decide))
          rw [HD.out.a6] at this
          exact this
        have HH := Lib.hid hh
        clear hh hb4 HO HB HD HC HO4
        go_wp2_with fail
        refine HH.out.mono ?_
        rintro e w5 ⟨rfl, rfl⟩
        go_wp2
        go_ret
        exact ⟨rfl, HB4.out⟩
end Go.Proofs.Ytfehioapjoihkaa
