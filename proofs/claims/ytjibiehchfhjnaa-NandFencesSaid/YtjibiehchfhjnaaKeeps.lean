/- The walk of the law NandKeeps: what is handed in, and what is told, may be written over. -/
import Derived.Test.YtjibiehchfhjnaaAwake
import Derived.Deep.RegionWith
import Derived.Deep.RegionHeld
import Derived.Outline
namespace Go.Proofs.Ytjibiehchfhjnaa
open Go.RowKit
open Drawbar Drawbar.Nand

theorem owns_base0 {w : World} {base : Nat} {e : TypeId} {size : Nat} {v : Value} {n : Nat} {xs : List Value} (h : w.ownsRow base e size v n xs) : w.ownsRow 0 e size v n xs := ownsRow_base h (Nat.zero_le _)

/-- bytes.Clone of a page: a row of its own. -/
theorem clone_own (l : List Nat) (ad : Addr) (cap : Nat) (w : World) (hr : Rd w (some ad) l) (h0 : 0 < l.length) :
    Calls Try.prog 34 #[.slice (some ad) l.length cap] w fun e w' => ∃ v, e = .returned v ∧ w'.ownsRow w.heap.size 5 1 v l.length (l.map bv) ∧ Below w.heap.size w w' := by
  obtain ⟨i0, hi, hz0, hz1, hz2⟩ := info_parts info_u8
  have he := Lib.run_eql_slice_nil (P := Try.prog) w 30 5 (some ad) l.length cap 0 0 Try.underlying30
  have hat := hr.at
  have hlen := hr.2.1
  clear hr
  go_enter Try.func34, Try.ntmps34
  go_wp2_with (at_builtin; refine wpList_append_tail rfl _ _ 30 rfl w.heap.size 5 i0 (.int .u8 0) 1 1 Try.underlying30 hi hz0 hz1 hz2 rfl (by decide) _ 0 [] rfl (.inr ⟨_, rfl, by simp, by simp, fun _ _ _ _ h => by simp at h⟩) (some ad) l.length cap (l.map bv) rfl (by simp) (by simp) (hat.alloc _) (bv_one l) ?c2 ?c3 ?c4 ?_)
  case c2 => unfold maxLen; omega
  case c3 => omega
  case c4 => simp
  intro v' w' h1 h2 h3
  have hB : Below w.heap.size w w' := ((Below.refl _ _).alloc (Nat.le_refl _) _).trans h3
  have hown : w'.ownsRow w.heap.size 5 1 v' l.length (l.map bv) := by simpa using h2
  clear h1 h2 h3
  obtain ⟨a, c, rfl, -⟩ := row_shape (owns_base0 hown)
  go_wp2
  go_ret
  exact ⟨_, rfl, hown, hB⟩

/-- A page that is told lies in a row of its own. -/
def TellsOwn (w : World) (l : List Nat) (e : Ending) (w' : World) : Prop :=
  ∃ d cap, e = .returned (.tuple #[.slice (some ⟨d, 0, none⟩) 96 cap, .int .i64 0]) ∧ w'.ownsRow w.heap.size 5 1 (.slice (some ⟨d, 0, none⟩) 96 cap) 96 (l.map bv) ∧ Below w.heap.size w w'

theorem read_own {w : World} {F R : Nat → Prop} {g hb : Nat} {rows : Nat → Value} {pv : Nat → List Value} {bv' : Value} {s : Arr} (h : ArrIn w F R g hb rows pv bv' s) (i page : Nat) (hi2 : i < s.n) (hoff : s.off = false) (hp2 : page < s.pages) (l : List Nat) (hl : (s.b i).pages[page]? = some l) (ht : (s.b i).torn = false) :
    Calls Try.prog 19 #[.pointer (some ⟨g, 0, none⟩), .int .i64 i, .int .i64 page] w (TellsOwn w l) := by
  have cg0 := h.gc 0 _ rfl
  have cg1 := h.gc 1 _ rfl
  have cg4 := h.gc 4 _ rfl
  have hpg : (1 : Int) ≤ s.pages ∧ (s.pages : Int) ≤ 32 := ⟨by have := h.wf.p0; omega, by have := h.wf.p32; omega⟩
  have HR := Lib.hid (reach_in g hb s.n i w cg0 h.wf.n64 hi2 (hoff ▸ cg4))
  obtain ⟨ra, rc, hrow, hrc, b0, b1, -⟩ := h.blk hi2
  have HN := Lib.hid (next_any hb (i * 6) _ _ _ _ w b0 rfl)
  rw [ht] at b1
  have hlt : page < (s.b i).pages.length := (List.getElem?_eq_some_iff.1 hl).1
  have hn : ¬ ((s.b i).pages.length : Int) ≤ page := by omega
  obtain ⟨v, hv, ⟨d, o, cap, rfl, hc, hl96, hrd⟩, -⟩ := h.page i hi2 page l hl
  have hown := h.row i hi2
  rw [hrow] at hown
  obtain ⟨rb, rfl⟩ : ∃ rb, ra = some ⟨rb, 0, none⟩ := by
    rcases hown.2 with ⟨e, h0⟩ | ⟨g', cap', cur, e, _⟩
    · omega
    · cases e; exact ⟨_, rfl⟩
  have cp := hown.cellAt page (by omega)
  rw [hv] at cp
  have hcl := clone_own l ⟨d, o, none⟩ cap w hrd (by omega)
  rw [hl96] at hcl
  have hfin : ∀ v w', w'.ownsRow w.heap.size 5 1 v 96 (l.map bv) → Below w.heap.size w w' → ∃ d c, v = .slice (some ⟨d, 0, none⟩) 96 c ∧ TellsOwn w l (.returned (.tuple #[.slice (some ⟨d, 0, none⟩) 96 c, .int .i64 0])) w' := by
    intro v w' ho hb
    rcases ho.2 with ⟨e, h0⟩ | ⟨g', cap', cur, e, _⟩
    · omega
    · subst e
      exact ⟨g', cap', rfl, g', cap', rfl, ho, hb⟩
  have HC := Lib.hid hcl
  have HF := Lib.hid hfin
  generalize TellsOwn w l = P at HF ⊢
  clear h hi2 hoff cg0 cg4 hrow hown hcl hfin hv hrd hl ht
  go_enter Try.func19, Try.ntmps19
  go_wp2_with fail
  refine HR.out.mono ?_
  rintro e w' ⟨rfl, rfl⟩
  go_wp2_with fail
  refine (within_yes _ _ _ _ (by omega) (by omega)).mono ?_
  rintro e w' ⟨rfl, rfl⟩
  go_wp2_with fail
  refine HN.out.mono ?_
  rintro e w' ⟨rfl, rfl⟩
  go_wp2_with fail
  refine HC.out.mono ?_
  rintro e w' ⟨v5, rfl, ho5, hb5⟩
  obtain ⟨d5, c5, rfl, ht5⟩ := HF.out v5 w' ho5 hb5
  have HT := Lib.hid ht5
  clear ho5 hb5 ht5
  go_wp2
  exact HT.out

theorem ArrAt.keepF {w w' : World} {F : Nat → Prop} {g : Nat} {s : Arr} (h : ArrAt w F g s) (hb : ∀ k, F k → w'.heap[k]? = w.heap[k]?) (hs : w.heap.size ≤ w'.heap.size) : ArrAt w' F g s := by
  obtain ⟨hid, R, hbk, rows, pv, bv, h⟩ := h
  exact ⟨hid, R, hbk, rows, pv, bv, h.keep hb (fun _ h => h) (fun d hd => Nat.lt_of_lt_of_le (h.bound d hd) hs)⟩

/-- A page's bytes as a string. -/
theorem conv_page (w : World) (d cap : Nat) (l : List Nat) (h : Rd w (some ⟨d, 0, none⟩) l) (h96 : l.length = 96) : (convert 30 9 (.slice (some ⟨d, 0, none⟩) 96 cap)).run Try.prog w = .ok (.string (strOf l)) w := by
  have := conv_str w (some ⟨d, 0, none⟩) l cap h
  rw [h96] at this
  exact this

theorem rd_own96 {w : World} {B d cap : Nat} {l : List Nat} (h : w.ownsRow B 5 1 (.slice (some ⟨d, 0, none⟩) 96 cap) 96 (l.map bv)) (hl : ∀ x ∈ l, x < 256) (h96 : l.length = 96) : Rd w (some ⟨d, 0, none⟩) l ∧ B ≤ d ∧ d < w.heap.size := by
  obtain ⟨g2, c2, e, h1, h2, h3, h4⟩ := rd_of_own' h hl (by omega) (by omega)
  simp only [Value.slice.injEq, Option.some.injEq, Addr.mk.injEq, and_true] at e
  obtain ⟨rfl, _, rfl⟩ := e
  exact ⟨h2, h3, h4⟩
theorem own_cell {w : World} {B d cap : Nat} {l : List Nat} (h : w.ownsRow B 5 1 (.slice (some ⟨d, 0, none⟩) 96 cap) 96 (l.map bv)) (h96 : l.length = 96) (k : Nat) (hk : k < 96) : w.cell? ⟨d, k, none⟩ = some (.int .u8 (l.getD k 0 : Nat)) ∧ w.frozen? ⟨d, k, none⟩ = false := by
  refine ⟨?_, h.frozenAt k⟩
  rw [h.cellAt k (by omega), List.getElem?_map, List.getElem?_eq_getElem (by omega), List.getD_eq_getElem?_getD, List.getElem?_eq_getElem (by omega)]
  rfl

set_option maxHeartbeats 2000000 in
theorem keeps_any (b : Nat) (w : World) : Calls Try.prog 6 #[.int .u8 b] w (Yes w) := by
  obtain ⟨s0, hs0⟩ : ∃ s0, s0 = Arr.new 1 2 (fun _ => fresh) := ⟨_, rfl⟩
  have e1 : s0.program 0 0 (pg b) 1 = (0, s0.put 0 (pg b)) := by subst hs0; exact program_ok (fine_new 1 2 0 (by omega)) (pg b) 1 (by decide) (by decide) (pg_length b)
  obtain ⟨s1, hs1⟩ : ∃ s1, s1 = s0.put 0 (pg b) := ⟨_, rfl⟩
  rw [← hs1] at e1
  have q1 : 0 < s1.n ∧ s1.off = false ∧ 0 < s1.pages ∧ (s1.b 0).pages[0]? = some (pg b) ∧ (s1.b 0).torn = false := by
    subst hs1 hs0; exact ⟨Nat.one_pos, rfl, Nat.succ_pos 1, rfl, rfl⟩
  have HN := Lib.hid (fun w1 => hs0 ▸ new_at 1 2 w1 (by omega) (by omega) (by omega) (by omega))
  have E1 := Lib.hid e1
  have Q1 := Lib.hid q1
  clear e1 q1 hs1 hs0
  go_enter Try.func6, Try.ntmps6
  go_wp2_with fail
  refine (awake_any w).mono ?_
  rintro e w1 ⟨rfl, hb1⟩
  go_wp2_with fail
  refine (HN.out w1).mono ?_
  rintro e w2 ⟨g, rfl, hA2, hb2⟩
  have hB2 := hb1.trans (hb2.mono hb1.size)
  go_wp2_with fail
  refine (page_m b w2).mono ?_
  rintro e w3 ⟨d, rfl, hr3, hb3, hd1, hd2, hown3⟩
  have hB3 := hB2.trans (hb3.mono hB2.size)
  have hA3 := hA2.keep hb3
  have hdF : ¬ (w1.heap.size ≤ d ∧ d < w2.heap.size) := by omega
  have hp := program_at hA3 0 0 (pg b) (some ⟨d, 0, none⟩) 96 1 hr3 96 (pg_length b)
  rw [E1.out] at hp
  have HP := Lib.hid hp
  have H3 := Lib.hid (show _ ∧ _ from ⟨hown3, hB3⟩)
  clear hp hA3 hA2 hr3 hb3 hown3 hB3 hB2 HN
  go_wp2_with fail
  refine HP.out.mono ?_
  rintro e w4 ⟨rfl, hA4, hk4⟩
  dsimp only at hA4
  obtain ⟨hown3, hB3⟩ := H3.out
  have hown4 : w4.ownsRow w2.heap.size 5 1 (.slice (some ⟨d, 0, none⟩) 96 96) 96 ((pg b).map bv) := ownsRow_keep hown3 fun k hk => by cases hk; exact hk4.block d hd2 hdF
  have hB4 : Below w.heap.size w w4 := hB3.trans (hk4.toBelow (fun k hk => Nat.le_trans hb1.size hk.1) (hB3.size))
  obtain ⟨c4, f4⟩ := own_cell hown4 (pg_length b) 0 (by omega)
  have hdF4 : ¬ ext (fun d => w1.heap.size ≤ d ∧ d < w2.heap.size) w3 w4 d := by
    rintro (h | h)
    · exact hdF h
    · omega
  generalize ext (fun d => w1.heap.size ≤ d ∧ d < w2.heap.size) w3 w4 = F at hA4 hdF4
  have hA5 : ∀ x, ArrAt (w4.setCell ⟨d, 0, none⟩ x) F g s1 := fun x => hA4.keepF (fun k hk => Below.heap_setCell _ _ _ _ (fun e => hdF4 (by rw [show k = d from e] at hk; exact hk))) (by simp [World.setCell])
  have hB5 : ∀ x, Below w.heap.size w (w4.setCell ⟨d, 0, none⟩ x) := fun x => hB4.setCell (p := ⟨d, 0, none⟩) (by show w.heap.size ≤ d; have := hb1.size; have := hb2.size; omega) x
  have HA5 := Lib.hid hA5
  have HB5 := Lib.hid hB5
  clear hA4 hA5 hB5 hB4 hown4 hk4 hown3 hB3 H3 HP hdF hdF4 hd1 hd2 hb1 hb2
  generalize (pg b).getD 0 0 = x4 at c4
  go_wp2_with fail
  have hA5 := HA5.out (.int .u8 (bits .xor .u8 (x4 : Int) 1))
  have hB5 := HB5.out (.int .u8 (bits .xor .u8 (x4 : Int) 1))
  generalize w4.setCell ⟨d, 0, none⟩ (.int .u8 (bits .xor .u8 (x4 : Int) 1)) = w5 at hA5 hB5 ⊢
  clear HA5 HB5 c4 f4
  -- the first Read
  have hread : ∀ w5, ArrAt w5 F g s1 → Calls Try.prog 19 #[.pointer (some ⟨g, 0, none⟩), .int .i64 0, .int .i64 0] w5 (TellsOwn w5 (pg b)) := fun w5 hA => by
    obtain ⟨hid, R, hbk, rows, pv, bv', h⟩ := hA
    exact read_own h 0 0 Q1.out.1 Q1.out.2.1 Q1.out.2.2.1 (pg b) Q1.out.2.2.2.1 Q1.out.2.2.2.2
  have HRD := Lib.hid hread
  clear hread
  refine (HRD.out w5 hA5).mono ?_
  rintro e w6 ⟨dq, cq, rfl, hown6, hb6⟩
  obtain ⟨-, hq1, hq2⟩ := rd_own96 hown6 (pg_lt b) (pg_length b)
  have hA6 := hA5.keep hb6
  have hB6 := hB5.trans (hb6.mono hB5.size)
  obtain ⟨c6, f6⟩ := own_cell hown6 (pg_length b) 1 (by omega)
  have hdF6 : ¬ F dq := fun h => absurd (hA5.bound dq h) (Nat.not_lt.2 hq1)
  have hA7 : ∀ x, ArrAt (w6.setCell ⟨dq, 1, none⟩ x) F g s1 := fun x => hA6.keepF (fun k hk => Below.heap_setCell _ _ _ _ (fun e => hdF6 (by rw [show k = dq from e] at hk; exact hk))) (by simp [World.setCell])
  have hB7 : ∀ x, Below w.heap.size w (w6.setCell ⟨dq, 1, none⟩ x) := fun x => hB6.setCell (p := ⟨dq, 1, none⟩) (by show w.heap.size ≤ dq; have := hB5.size; omega) x
  have HA7 := Lib.hid hA7
  have HB7 := Lib.hid hB7
  clear hA5 hB5 hA6 hB6 hA7 hB7 hown6 hb6 hdF6 hq1 hq2
  generalize (pg b).getD 1 0 = x6 at c6
  go_wp2_with fail
  have hA7 := HA7.out (.int .u8 (bits .xor .u8 (x6 : Int) 1))
  have hB7 := HB7.out (.int .u8 (bits .xor .u8 (x6 : Int) 1))
  generalize w6.setCell ⟨dq, 1, none⟩ (.int .u8 (bits .xor .u8 (x6 : Int) 1)) = w7 at hA7 hB7 ⊢
  clear HA7 HB7 c6 f6
  refine (HRD.out w7 hA7).mono ?_
  rintro e w8 ⟨dr, cr, rfl, hown8, hb8⟩
  have hB8 := hB7.trans (hb8.mono hB7.size)
  obtain ⟨hrd8, -, -⟩ := rd_own96 hown8 (pg_lt b) (pg_length b)
  have hq0 := conv_page w8.drew dr cr (pg b) hrd8 (pg_length b)
  have hQ : ∀ W, Below w8.heap.size w8 W → (convert 30 9 (.slice (some ⟨dr, 0, none⟩) 96 cr)).run Try.prog W = .ok (.string (strOf (pg b))) W := fun W hW => conv_page W dr cr (pg b) (hrd8.below hW) (pg_length b)
  have hpg : Calls Try.prog 14 #[.int .u8 b] w8.drew fun e w' => ∃ d, e = .returned (.slice (some ⟨d, 0, none⟩) 96 96) ∧ Below w8.heap.size w8 w' ∧ (convert 30 9 (.slice (some ⟨d, 0, none⟩) 96 96)).run Try.prog w' = .ok (.string (strOf (pg b))) w' := by
    refine (page_m b w8.drew).mono ?_
    rintro e w' ⟨d, rfl, hr, hb, -⟩
    exact ⟨d, rfl, (Below.refl _ _).drew.trans hb, conv_page w' d 96 (pg b) hr (pg_length b)⟩
  generalize strOf (pg b) = S1 at hq0 hQ hpg
  have HQ := Lib.hid hQ
  have HPG := Lib.hid hpg
  clear hQ hpg hrd8 hown8 hb8 hA7 hB7 HRD
  go_wp2
  go_region_held (fun W => (convert 30 9 (.slice (some ⟨dr, 0, none⟩) 96 cr)).run Try.prog W = .ok (.string S1) W) (first | exact hq0 | exact hq4) (first | (go_at_call 14; ((with_reducible refine HPG.out.mono ?_); rintro e w9 ⟨dz, rfl, hb9, hc9⟩; have hq4 := HQ.out _ hb9)))
  all_goals
    go_wp2
    go_ret
    exact ⟨rfl, hB8.trans ((by assumption : Below w8.heap.size w8 _).mono hB8.size)⟩
end Go.Proofs.Ytjibiehchfhjnaa
