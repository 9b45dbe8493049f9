/- The walk of the law SheetReads. -/
import Derived.Test.YtopmljbemogcoaaDoorRefRead
import Derived.Test.YtopmljbemogcoaaDoorFormsL
namespace Go.Proofs.YtopmljbemogcoaaDoor
open Go.RowKit
open Drawbar Drawbar.Sheet

theorem sreads_long (l : List Nat) (a : Option Addr) (cap : Nat) (fill : Bool) (w : World) (hT : Tab w) (h : 300 < l.length) (hl : l.length ≤ 140737488351232) :
    Calls Tryd.prog 5 #[.slice a l.length cap, .bool fill] w (Yes w) := by
  go_enter Tryd.func5, Tryd.ntmps5
  go_wp2_with fail
  refine (awake_any w hT).mono ?_
  rintro e w1 ⟨rfl, hb1⟩
  have hT1 := hT.below hb1 hT.pos
  go_wp2_with fail
  refine (awake_any w1 hT1).mono ?_
  rintro e w2 ⟨rfl, hb2⟩
  go_wp2
  go_ret
  exact ⟨rfl, hb1.trans (hb2.mono hb1.size)⟩

/-- Bytes of the law's own: q, with j times 90 behind. -/
def q90 (l : List Nat) (j : Nat) : List Nat := l ++ List.replicate j 90
theorem q90_length (l : List Nat) (j : Nat) : (q90 l j).length = l.length + j := by simp [q90]
theorem q90_lt (l : List Nat) (hl : ∀ x ∈ l, x < 256) (j : Nat) : ∀ x ∈ q90 l j, x < 256 := app_lt hl (fun x hx => by rw [List.eq_of_mem_replicate hx]; omega)

set_option maxRecDepth 100000 in
set_option maxHeartbeats 8000000 in
theorem sreads_short (l : List Nat) (a : Option Addr) (cap : Nat) (fill : Bool) (w : World) (hr : Rd w a l) (_hcap : l.length ≤ cap) (hnil : a = none → cap = 0) (hT : Tab w) (h : l.length ≤ 300) :
    Calls Tryd.prog 5 #[.slice a l.length cap, .bool fill] w (Yes w) := by
  obtain ⟨i0, hi, hz0, hz1, hz2⟩ := info_parts info_u8
  have hgt : ¬ (300 < (l.length : Int)) := by omega
  have hll := hr.1
  have hx0 : a = none → l.length = 0 ∧ cap = 0 := fun h => ⟨hr.ofNil h, hnil h⟩
  have HX0 := Lib.hid hx0
  have HR := Lib.hid hr
  have HT := Lib.hid hT
  have HO := Lib.hid (fun s a c W => of_any s a c W)
  obtain ⟨n, hn⟩ : ∃ n, l.length = n := ⟨_, rfl⟩
  have HN := Lib.hid hn
  rw [hn] at hgt h ⊢
  clear hx0 hr hT hnil hn
  go_enter Tryd.func5, Tryd.ntmps5
  go_wp2_with (first
    | (go_at_call 10; (with_reducible refine (awake_any w HT.out).mono ?_); rintro e w1 ⟨rfl, hb1⟩)
    | (at_builtin; refine wpList_append_ownz rfl (.tmp 18) (.tmp 19) 23 rfl w1.heap.size 5 i0 (.int .u8 0) 1 1 Tryd.underlying23 hi hz0 hz1 hz2 rfl (by decide) _ 0 [] rfl (World.ownsRow_nil _ _ _ 1) a n cap (l.map bv) rfl (fun h => by have := HX0.out h; rw [HN.out] at this; exact this) (by rw [List.length_map, HN.out, Nat.mul_one]) (HR.out.below hb1).at (bv_one _) (by unfold maxLen; omega) (by omega) (Nat.le_refl _) ?_; intro v2 w2 hown2 hb2; rw [List.nil_append, Nat.zero_add] at hown2; obtain ⟨a2, k2, rfl⟩ := own_shape hown2))
  go_loopw [5] (fun v wr => ∃ (j : Nat) (a : Option Addr) (c : Nat), j ≤ 96 ∧ v = .slice a (n + j) c ∧ wr.ownsRow w1.heap.size 5 1 (.slice a (n + j) c) (n + j) ((q90 l j).map bv) ∧ Below w1.heap.size w1 wr) (fun v _ => 96 - slen v)
  case atStart => exact ⟨0, a2, k2, by omega, rfl, by unfold q90; rw [List.replicate_zero, List.append_nil]; exact hown2, hb2⟩
  case round =>
    obtain ⟨j, aj, cj, hj, rfl, hownj, hbj⟩ := hrel
    clear hown2
    by_cases hgo : fill = true ∧ n + j < 96
    · obtain ⟨rfl, hlt⟩ := hgo
      obtain ⟨N, hN⟩ : ∃ N, n + j = N := ⟨_, rfl⟩
      rw [hN] at hownj ⊢
      have i1 : (N : Int) < 96 := by omega
      go_wp2_with (at_builtin; refine wpList_append_ownz rfl (.tmp 27) (.tmp 28) 23 rfl w1.heap.size 5 i0 (.int .u8 0) 1 1 Tryd.underlying23 hi hz0 hz1 hz2 rfl (by decide) _ N _ rfl (hownj.alloc _) (some ⟨wr.heap.size, 0, none⟩) 1 1 [.int .u8 90] rfl (fun h => by cases h) rfl (At.one wr _ _) (by simp [Value.oneCell']) (by unfold maxLen; omega) (by omega) (by have := hbj.size; simp; omega) ?_; intro v3 w3 hown3 hb3; obtain ⟨a3, k3, rfl⟩ := own_shape hown3)
      go_roundw
      case rel =>
        refine ⟨j + 1, a3, k3, by omega, by rw [show n + (j + 1) = N + 1 by omega], ?_, (hbj.alloc hbj.size _).trans hb3⟩
        unfold q90 at hown3 ⊢
        rw [show n + (j + 1) = N + 1 by omega, List.replicate_succ', ← List.append_assoc, List.map_append]
        exact hown3
      case measure => simp [slen]; omega
    · obtain ⟨N, hN⟩ : ∃ N, n + j = N := ⟨_, rfl⟩
      have hql : (q90 l j).length = N := by rw [q90_length, HN.out]; exact hN
      have hqlt := q90_lt l hll j
      rw [hN] at hownj ⊢
      generalize q90 l j = q at *
      have hstop : fill = false ∨ ¬ (N : Int) < 96 := by
        rcases Bool.eq_false_or_eq_true fill with h1 | h1
        · exact .inr (fun h2 => hgo ⟨h1, by omega⟩)
        · exact .inl h1
      have hown' := hownj
      rw [← hql] at hown'
      obtain ⟨a4, k4, he4, hk4, hr4, -, -⟩ := rd_of_own hown' hqlt (by omega)
      have hn4 := own_nil (a := aj) hownj
      rw [hql] at he4 hk4
      injection he4 with h41 h42 h43
      subst h41 h43
      have hbw : Below w.heap.size w wr := hb1.trans (hbj.mono hb1.size)
      have H1 := Lib.hid (sread_any q aj cj wr N hql hr4 (by omega) hn4 (HT.out.below hbw HT.out.pos))
      have H2 := Lib.hid (fun W (hb : Below wr.heap.size wr W) => rread_any q aj cj W N hql (hr4.below hb) (by omega) hn4)
      generalize readS q = r at H1 H2
      have hss : ((r.2 : Int) == (r.2 : Int)) = true := by simp
      clear hown' hownj hql hqlt hgo hr4 hll
      rcases hstop with rfl | hstop
      · go_wp2_with (first
          | (go_at_call 16; (with_reducible refine H1.out.mono ?_); rintro e w5 ⟨a5, c5, rfl, hr5, hc5, hn5, hb5'⟩; have hb5 := hb5'.trans ((boxs_below w5 25 r.1 a5 c5).mono hb5'.size))
          | (go_at_call 19; (with_reducible refine (H2.out _ hb5).mono ?_); rintro e w6 ⟨a6, c6, rfl, hr6, hc6, hn6, hb6'⟩))
        have h6x := boxs_below w6 29 r.1 a6 c6
        have hcx : ∀ W, Below (w6.alloc (boxs 29 r.1 a6 c6)).heap.size (w6.alloc (boxs 29 r.1 a6 c6)) W → ShAt W w5.heap.size r.1 a5 c5 ∧ ShAt W w6.heap.size r.1 a6 c6 := fun W hb =>
          ⟨boxs_cells w5 _ r.1 a5 c5 W (hb6'.trans ((h6x.trans (hb.mono h6x.size)).mono hb6'.size)), boxs_cells w6 _ r.1 a6 c6 W hb⟩
        have hrx := ((hr5.below (boxs_below w5 25 r.1 a5 c5)).below hb6').below h6x
        have hry := hr6.below h6x
        have hbx : Below w.heap.size w (w6.alloc (boxs 29 r.1 a6 c6)) := hbw.trans ((hb5.trans ((hb6'.trans (h6x.mono hb6'.size)).mono hb5.size)).mono hbw.size)
        generalize hwx : w6.alloc (boxs 29 r.1 a6 c6) = wx at *
        have HCX := Lib.hid hcx
        have HSM := Lib.hid (fun W (hb : Below wx.heap.size wx W) => (show Calls Tryd.prog 18 #[sv r.1 a5 c5, sv r.1 a6 c6] W fun e w' => e = .returned (.bool true) ∧ Below W.heap.size W w' by have h := ssame_any r.1 r.1 a5 a6 c5 c6 W (hrx.below hb) (hry.below hb); rw [same_true.2 rfl] at h; exact h))
        have HFIN := Lib.hid (fun W (hb : Below wx.heap.size wx W) => hbx.trans (hb.mono hbx.size))
        have hbd := drew_below wx
        obtain ⟨⟨m0, m1, m2, m3, m4, m5⟩, ⟨n0, n1, n2, n3, n4, n5⟩⟩ := hcx _ hbd
        have hq0 := And.intro (And.intro m0 (And.intro m1 (And.intro m2 (And.intro m3 (And.intro m4 m5))))) (And.intro n0 (And.intro n1 (And.intro n2 (And.intro n3 (And.intro n4 n5)))))
        clear m0 m1 m2 m3 m4 m5 n0 n1 n2 n3 n4 n5 hcx hrx hry hbx h6x hb6' hr5 hr6 hb5 hb5' H1 H2 HR HT HX0
        go_region_held (fun W => (W.cell? ⟨w5.heap.size, 0, none⟩ = some (.int .u8 r.1.k) ∧ W.cell? ⟨w5.heap.size, 1, none⟩ = some (.int .u64 r.1.ep) ∧ W.cell? ⟨w5.heap.size, 2, none⟩ = some (.int .u64 r.1.sq) ∧ W.cell? ⟨w5.heap.size, 3, none⟩ = some (.int .i64 r.1.ad) ∧ W.cell? ⟨w5.heap.size, 4, none⟩ = some (.int .i64 r.1.fr) ∧ W.cell? ⟨w5.heap.size, 5, none⟩ = some (.slice a5 r.1.da.length c5)) ∧ (W.cell? ⟨w6.heap.size, 0, none⟩ = some (.int .u8 r.1.k) ∧ W.cell? ⟨w6.heap.size, 1, none⟩ = some (.int .u64 r.1.ep) ∧ W.cell? ⟨w6.heap.size, 2, none⟩ = some (.int .u64 r.1.sq) ∧ W.cell? ⟨w6.heap.size, 3, none⟩ = some (.int .i64 r.1.ad) ∧ W.cell? ⟨w6.heap.size, 4, none⟩ = some (.int .i64 r.1.fr) ∧ W.cell? ⟨w6.heap.size, 5, none⟩ = some (.slice a6 r.1.da.length c6))) (first | exact hq0 | exact HCX.out _ (by assumption)) (first
          | (go_at_call 13; (with_reducible refine (HO.out r.1 a5 c5 _).mono ?_); rintro e w7 ⟨rfl, hb'⟩; have hb7 := (show Below wx.heap.size wx _ by assumption).trans (hb'.mono (show Below wx.heap.size wx _ by assumption).size); clear hb')
          | (go_at_call 18; (with_reducible refine (HSM.out _ (by assumption)).mono ?_); rintro e w8 ⟨rfl, hb'⟩; have hb8 := (show Below wx.heap.size wx _ by assumption).trans (hb'.mono (show Below wx.heap.size wx _ by assumption).size); clear hb'))
        all_goals
          go_wp2
          go_ret
          exact ⟨rfl, HFIN.out _ hb8⟩
      · cases fill
        · go_wp2_with (first
            | (go_at_call 16; (with_reducible refine H1.out.mono ?_); rintro e w5 ⟨a5, c5, rfl, hr5, hc5, hn5, hb5'⟩; have hb5 := hb5'.trans ((boxs_below w5 25 r.1 a5 c5).mono hb5'.size))
            | (go_at_call 19; (with_reducible refine (H2.out _ hb5).mono ?_); rintro e w6 ⟨a6, c6, rfl, hr6, hc6, hn6, hb6'⟩))
          have h6x := boxs_below w6 29 r.1 a6 c6
          have hcx : ∀ W, Below (w6.alloc (boxs 29 r.1 a6 c6)).heap.size (w6.alloc (boxs 29 r.1 a6 c6)) W → ShAt W w5.heap.size r.1 a5 c5 ∧ ShAt W w6.heap.size r.1 a6 c6 := fun W hb =>
            ⟨boxs_cells w5 _ r.1 a5 c5 W (hb6'.trans ((h6x.trans (hb.mono h6x.size)).mono hb6'.size)), boxs_cells w6 _ r.1 a6 c6 W hb⟩
          have hrx := ((hr5.below (boxs_below w5 25 r.1 a5 c5)).below hb6').below h6x
          have hry := hr6.below h6x
          have hbx : Below w.heap.size w (w6.alloc (boxs 29 r.1 a6 c6)) := hbw.trans ((hb5.trans ((hb6'.trans (h6x.mono hb6'.size)).mono hb5.size)).mono hbw.size)
          generalize hwx : w6.alloc (boxs 29 r.1 a6 c6) = wx at *
          have HCX := Lib.hid hcx
          have HSM := Lib.hid (fun W (hb : Below wx.heap.size wx W) => (show Calls Tryd.prog 18 #[sv r.1 a5 c5, sv r.1 a6 c6] W fun e w' => e = .returned (.bool true) ∧ Below W.heap.size W w' by have h := ssame_any r.1 r.1 a5 a6 c5 c6 W (hrx.below hb) (hry.below hb); rw [same_true.2 rfl] at h; exact h))
          have HFIN := Lib.hid (fun W (hb : Below wx.heap.size wx W) => hbx.trans (hb.mono hbx.size))
          have hbd := drew_below wx
          obtain ⟨⟨m0, m1, m2, m3, m4, m5⟩, ⟨n0, n1, n2, n3, n4, n5⟩⟩ := hcx _ hbd
          have hq0 := And.intro (And.intro m0 (And.intro m1 (And.intro m2 (And.intro m3 (And.intro m4 m5))))) (And.intro n0 (And.intro n1 (And.intro n2 (And.intro n3 (And.intro n4 n5)))))
          clear m0 m1 m2 m3 m4 m5 n0 n1 n2 n3 n4 n5 hcx hrx hry hbx h6x hb6' hr5 hr6 hb5 hb5' H1 H2 HR HT HX0
          go_region_held (fun W => (W.cell? ⟨w5.heap.size, 0, none⟩ = some (.int .u8 r.1.k) ∧ W.cell? ⟨w5.heap.size, 1, none⟩ = some (.int .u64 r.1.ep) ∧ W.cell? ⟨w5.heap.size, 2, none⟩ = some (.int .u64 r.1.sq) ∧ W.cell? ⟨w5.heap.size, 3, none⟩ = some (.int .i64 r.1.ad) ∧ W.cell? ⟨w5.heap.size, 4, none⟩ = some (.int .i64 r.1.fr) ∧ W.cell? ⟨w5.heap.size, 5, none⟩ = some (.slice a5 r.1.da.length c5)) ∧ (W.cell? ⟨w6.heap.size, 0, none⟩ = some (.int .u8 r.1.k) ∧ W.cell? ⟨w6.heap.size, 1, none⟩ = some (.int .u64 r.1.ep) ∧ W.cell? ⟨w6.heap.size, 2, none⟩ = some (.int .u64 r.1.sq) ∧ W.cell? ⟨w6.heap.size, 3, none⟩ = some (.int .i64 r.1.ad) ∧ W.cell? ⟨w6.heap.size, 4, none⟩ = some (.int .i64 r.1.fr) ∧ W.cell? ⟨w6.heap.size, 5, none⟩ = some (.slice a6 r.1.da.length c6))) (first | exact hq0 | exact HCX.out _ (by assumption)) (first
            | (go_at_call 13; (with_reducible refine (HO.out r.1 a5 c5 _).mono ?_); rintro e w7 ⟨rfl, hb'⟩; have hb7 := (show Below wx.heap.size wx _ by assumption).trans (hb'.mono (show Below wx.heap.size wx _ by assumption).size); clear hb')
            | (go_at_call 18; (with_reducible refine (HSM.out _ (by assumption)).mono ?_); rintro e w8 ⟨rfl, hb'⟩; have hb8 := (show Below wx.heap.size wx _ by assumption).trans (hb'.mono (show Below wx.heap.size wx _ by assumption).size); clear hb'))
          all_goals
            go_wp2
            go_ret
            exact ⟨rfl, HFIN.out _ hb8⟩
        · go_wp2_with (first
            | (go_at_call 16; (with_reducible refine H1.out.mono ?_); rintro e w5 ⟨a5, c5, rfl, hr5, hc5, hn5, hb5'⟩; have hb5 := hb5'.trans ((boxs_below w5 25 r.1 a5 c5).mono hb5'.size))
            | (go_at_call 19; (with_reducible refine (H2.out _ hb5).mono ?_); rintro e w6 ⟨a6, c6, rfl, hr6, hc6, hn6, hb6'⟩))
          have h6x := boxs_below w6 29 r.1 a6 c6
          have hcx : ∀ W, Below (w6.alloc (boxs 29 r.1 a6 c6)).heap.size (w6.alloc (boxs 29 r.1 a6 c6)) W → ShAt W w5.heap.size r.1 a5 c5 ∧ ShAt W w6.heap.size r.1 a6 c6 := fun W hb =>
            ⟨boxs_cells w5 _ r.1 a5 c5 W (hb6'.trans ((h6x.trans (hb.mono h6x.size)).mono hb6'.size)), boxs_cells w6 _ r.1 a6 c6 W hb⟩
          have hrx := ((hr5.below (boxs_below w5 25 r.1 a5 c5)).below hb6').below h6x
          have hry := hr6.below h6x
          have hbx : Below w.heap.size w (w6.alloc (boxs 29 r.1 a6 c6)) := hbw.trans ((hb5.trans ((hb6'.trans (h6x.mono hb6'.size)).mono hb5.size)).mono hbw.size)
          generalize hwx : w6.alloc (boxs 29 r.1 a6 c6) = wx at *
          have HCX := Lib.hid hcx
          have HSM := Lib.hid (fun W (hb : Below wx.heap.size wx W) => (show Calls Tryd.prog 18 #[sv r.1 a5 c5, sv r.1 a6 c6] W fun e w' => e = .returned (.bool true) ∧ Below W.heap.size W w' by have h := ssame_any r.1 r.1 a5 a6 c5 c6 W (hrx.below hb) (hry.below hb); rw [same_true.2 rfl] at h; exact h))
          have HFIN := Lib.hid (fun W (hb : Below wx.heap.size wx W) => hbx.trans (hb.mono hbx.size))
          have hbd := drew_below wx
          obtain ⟨⟨m0, m1, m2, m3, m4, m5⟩, ⟨n0, n1, n2, n3, n4, n5⟩⟩ := hcx _ hbd
          have hq0 := And.intro (And.intro m0 (And.intro m1 (And.intro m2 (And.intro m3 (And.intro m4 m5))))) (And.intro n0 (And.intro n1 (And.intro n2 (And.intro n3 (And.intro n4 n5)))))
          clear m0 m1 m2 m3 m4 m5 n0 n1 n2 n3 n4 n5 hcx hrx hry hbx h6x hb6' hr5 hr6 hb5 hb5' H1 H2 HR HT HX0
          go_region_held (fun W => (W.cell? ⟨w5.heap.size, 0, none⟩ = some (.int .u8 r.1.k) ∧ W.cell? ⟨w5.heap.size, 1, none⟩ = some (.int .u64 r.1.ep) ∧ W.cell? ⟨w5.heap.size, 2, none⟩ = some (.int .u64 r.1.sq) ∧ W.cell? ⟨w5.heap.size, 3, none⟩ = some (.int .i64 r.1.ad) ∧ W.cell? ⟨w5.heap.size, 4, none⟩ = some (.int .i64 r.1.fr) ∧ W.cell? ⟨w5.heap.size, 5, none⟩ = some (.slice a5 r.1.da.length c5)) ∧ (W.cell? ⟨w6.heap.size, 0, none⟩ = some (.int .u8 r.1.k) ∧ W.cell? ⟨w6.heap.size, 1, none⟩ = some (.int .u64 r.1.ep) ∧ W.cell? ⟨w6.heap.size, 2, none⟩ = some (.int .u64 r.1.sq) ∧ W.cell? ⟨w6.heap.size, 3, none⟩ = some (.int .i64 r.1.ad) ∧ W.cell? ⟨w6.heap.size, 4, none⟩ = some (.int .i64 r.1.fr) ∧ W.cell? ⟨w6.heap.size, 5, none⟩ = some (.slice a6 r.1.da.length c6))) (first | exact hq0 | exact HCX.out _ (by assumption)) (first
            | (go_at_call 13; (with_reducible refine (HO.out r.1 a5 c5 _).mono ?_); rintro e w7 ⟨rfl, hb'⟩; have hb7 := (show Below wx.heap.size wx _ by assumption).trans (hb'.mono (show Below wx.heap.size wx _ by assumption).size); clear hb')
            | (go_at_call 18; (with_reducible refine (HSM.out _ (by assumption)).mono ?_); rintro e w8 ⟨rfl, hb'⟩; have hb8 := (show Below wx.heap.size wx _ by assumption).trans (hb'.mono (show Below wx.heap.size wx _ by assumption).size); clear hb'))
          all_goals
            go_wp2
            go_ret
            exact ⟨rfl, HFIN.out _ hb8⟩

theorem sreads_any (l : List Nat) (a : Option Addr) (cap : Nat) (fill : Bool) (w : World) (hr : Rd w a l) (hcap : l.length ≤ cap) (hnil : a = none → cap = 0) (hT : Tab w) :
    Calls Tryd.prog 5 #[.slice a l.length cap, .bool fill] w (Yes w) := by
  rcases Nat.lt_or_ge 300 l.length with h | h
  · exact sreads_long l a cap fill w hT h hr.2.1
  · exact sreads_short l a cap fill w hr hcap hnil hT h
end Go.Proofs.YtopmljbemogcoaaDoor
