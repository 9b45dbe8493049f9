/- The walk of the law SheetTorn. -/
import Derived.Test.YtopmljbemogcoaaDoorTorn
namespace Go.Proofs.YtopmljbemogcoaaDoor
open Go.RowKit
open Drawbar Drawbar.Sheet

/-- Lay, of a sheet with the form: a row of its own. -/
theorem lay_row (s : Sh) (a : Option Addr) (c : Nat) (w : World) (hf : fm s = true) (hr : Rd w a s.da) (hc : s.da.length ≤ c) (hnil : a = none → c = 0) (hT : Tab w) :
    Calls Tryd.prog 15 #[sv s a c] w fun e w' => ∃ g k, e = .returned (.slice (some ⟨g, 0, none⟩) 96 k) ∧ 96 ≤ k ∧ Rd w' (some ⟨g, 0, none⟩) (page s) ∧ w.heap.size ≤ g ∧ g < w'.heap.size ∧ (∀ j, w'.frozen? ⟨g, j, none⟩ = false) ∧ Below w.heap.size w w' := by
  refine (lay_any s a c w hf hr hc hnil hT).mono ?_
  rintro e w' ⟨v, rfl, hown, hb⟩
  have hpl := page_length s (fm_len hf)
  obtain ⟨g, k, rfl, hk, hrd, hg, hg2⟩ := rd_of_own' (l := page s) hown (page_lt s hr.1) (by omega) (by omega)
  have hfz := hown.frozenAt
  rw [hpl] at hk ⊢
  exact ⟨g, k, rfl, hk, hrd, hg, hg2, hfz, hb⟩
theorem read3 (l : List Nat) (g c N : Nat) (w : World) (hN : l.length = N) (hr : Rd w (some ⟨g, 0, none⟩) l) (hc : N ≤ c) (hT : Tab w) (h3 : readS l = (zeroS, 3)) :
    Calls Tryd.prog 16 #[.slice (some ⟨g, 0, none⟩) N c] w fun e w' => ∃ z a c', e = .returned (.tuple #[sv z a c', .int .i64 3]) ∧ Below w.heap.size w w' := by
  have h := sread_any l (some ⟨g, 0, none⟩) c w N hN hr (by omega) (fun h => by cases h) hT
  rw [h3] at h
  exact h.mono fun e w' ⟨a, c', he, _, _, _, hb⟩ => ⟨zeroS, a, c', he, hb⟩
theorem readN (l : List Nat) (g c N : Nat) (w : World) (hN : l.length = N) (hr : Rd w (some ⟨g, 0, none⟩) l) (hc : N ≤ c) (hT : Tab w) (h3 : (readS l).2 ≠ 0) :
    Calls Tryd.prog 16 #[.slice (some ⟨g, 0, none⟩) N c] w fun e w' => ∃ (n : Nat) (z : Sh) (a : Option Addr) (c' : Nat), e = .returned (.tuple #[sv z a c', .int .i64 (n : Int)]) ∧ n ≠ 0 ∧ Below w.heap.size w w' := by
  have h := sread_any l (some ⟨g, 0, none⟩) c w N hN hr (by omega) (fun h => by cases h) hT
  exact h.mono fun e w' ⟨a, c', he, _, _, _, hb⟩ => ⟨(readS l).2, _, a, c', he, h3, hb⟩

structure TornAt (w1 wr : World) (gp gq : Nat) (l : List Nat) (c i : Nat) : Prop where
  b : Below w1.heap.size w1 wr
  q : Rd wr (some ⟨gq, 0, none⟩) (torn l c i)
  p : Rd wr (some ⟨gp, 0, none⟩) l
  fq : ∀ j, wr.frozen? ⟨gq, j, none⟩ = false
  fp : ∀ j, wr.frozen? ⟨gp, j, none⟩ = false

theorem TornAt.step {w1 wr : World} {gp gq : Nat} {l : List Nat} {c i : Nat} (h : TornAt w1 wr gp gq l c i) (h1 : c ≤ i) (h2 : i < l.length) (hne : gp ≠ gq) (hq : w1.heap.size ≤ gq) :
    TornAt w1 (wr.setCell ⟨gq, i, none⟩ (.int .u8 255)) gp gq l c (i + 1) := by
  have hs := h.q.set i 255 (by rw [torn_length l c i h1 (by omega)]; exact h2) (by omega)
  rw [torn_set l c i h1 h2, Nat.zero_add] at hs
  exact ⟨h.b.setCell hq _, hs, h.p.grown (grownBy_setCell _ _ _ _) (fun _ k hk e => by cases hk; exact hne e), fun j => by rw [World.frozen?_setCell]; exact h.fq j, fun j => by rw [World.frozen?_setCell]; exact h.fp j⟩

set_option maxRecDepth 100000 in
set_option maxHeartbeats 8000000 in
theorem storn_any (s : Sh) (a : Option Addr) (c y z : Nat) (w : World) (hs : Sh.In s) (hr : s.da.length ≤ 64 → Rd w a s.da) (hc : s.da.length ≤ c) (hnil : a = none → c = 0) (hT : Tab w) (hy : y < 256) (hz : z < 65536) :
    Calls Tryd.prog 6 #[sv s a c, .int .u8 y, .int .u16 z] w (Yes w) := by
  obtain ⟨i0, hi, hz0, hz1, hz2⟩ := info_parts info_u8
  have hcells := boxs_cells w 25 s a c
  have hB := boxs_below w 25 s a c
  have hT1 := hT.alloc (boxs 25 s a c)
  have hnf := near_form s hs.ep hs.sq
  generalize hw1 : w.alloc (boxs 25 s a c) = w1 at *
  change w.alloc (.cells #[.int .u8 s.k, .int .u64 s.ep, .int .u64 s.sq, .int .i64 s.ad, .int .i64 s.fr, .slice a s.da.length c] 25) = w1 at hw1
  have hA := fun W (hb : Below w1.heap.size w1 W) => awake_any W (hT1.below hb hT1.pos)
  have hN := fun W (hb : Below w1.heap.size w1 W) => near_at s a c W hs (fun h => ((hr h).below hB).below hb) hc hnil
  generalize nearS s = x at *
  have HA := Lib.hid hA
  have HN := Lib.hid hN
  have HX := Lib.hid hnf
  have HC := Lib.hid hcells
  have HT := Lib.hid hT1
  have hb0 := Below.refl w1.heap.size w1
  obtain ⟨p0, p1, p2, p3, p4, p5⟩ := hcells _ hb0
  have hl := fm_len hnf
  have HPL := Lib.hid (page_length x hl)
  obtain ⟨cc, hcc, hcc96⟩ : ∃ n : Nat, (y : Int) % 96 = n ∧ n < 96 := ⟨y % 96, by omega, by omega⟩
  obtain ⟨kb, hkb, hkb2⟩ : ∃ n : Nat, (z : Int) % 768 = n ∧ n < 768 := ⟨z % 768, by omega, by omega⟩
  clear hA hN hcells hr hs hnf hT hT1
  go_enter Tryd.func6, Tryd.ntmps6
  go_wp2_with (first
    | (go_at_call 10; (with_reducible refine (HA.out _ hb0).mono ?_); rintro e w2 ⟨rfl, hb2'⟩; have hb2 := hb0.trans hb2'; obtain ⟨q0, q1, q2, q3, q4, q5⟩ := HC.out _ hb2)
    | (go_at_call 14; (with_reducible refine (HN.out _ hb2).mono ?_); rintro e w3 ⟨a3, c3, rfl, hb3', hr3, hc3, hn3⟩; have hb3 := hb2.trans (hb3'.mono hb2.size))
    | (go_at_call 15; (with_reducible refine (lay_row x a3 c3 _ HX.out hr3 hc3 hn3 (HT.out.below hb3 HT.out.pos)).mono ?_); rintro e w4 ⟨gp, k4, rfl, hk4, hr4, hgp, hgp2, hfp, hb4'⟩; have hb4 := hb3.trans (hb4'.mono hb3.size))
    | (at_builtin; refine wpList_append_ownz rfl (.const (.slice none 0 0)) (.tmp 22) 23 rfl w4.heap.size 5 i0 (.int .u8 0) 1 1 Tryd.underlying23 hi hz0 hz1 hz2 rfl (by decide) _ 0 [] rfl (World.ownsRow_nil _ _ _ 1) (some ⟨gp, 0, none⟩) 96 k4 ((page x).map bv) rfl (fun h => by cases h) (by rw [List.length_map, HPL.out]) hr4.at (bv_one _) (by unfold maxLen; omega) (by omega) (Nat.le_refl _) ?_; intro v5 w5 hown5 hb5'; rw [List.nil_append, Nat.zero_add] at hown5; obtain ⟨gq, k5, rfl, hk5, hr5, hgq, hgq2⟩ := rd_of_own' (l := page x) hown5 (page_lt x hr3.1) (by rw [HPL.out]; omega) (by rw [HPL.out]; omega); rw [HPL.out] at hk5 hown5 ⊢; have hfq := hown5.frozenAt; clear hown5))
  have hd := hr3.1
  have hb5 : Below w1.heap.size w1 w5 := hb4.trans (hb5'.mono hb4.size)
  have hne : gp ≠ gq := by omega
  have hq1 : w1.heap.size ≤ gq := Nat.le_trans hb4.size hgq
  have hp1 : w1.heap.size ≤ gp := Nat.le_trans hb3.size hgp
  have hinv : TornAt w1 w5 gp gq (page x) cc cc := ⟨hb5, by rw [torn_start]; exact hr5, hr4.below hb5', hfq, fun j => (World.frozen?_of_block (a := ⟨gp, j, none⟩) (hb5'.block gp hgp2)).trans (hfp j)⟩
  clear hr4 hr5 hfp hfq hr3 hb5' hb4' hb5 p0 p1 p2 p3 p4 p5 q0 q1 q2 q3 q4 q5
  go_loopw [9] (fun i wr => ∃ j : Nat, cc ≤ j ∧ j ≤ 96 ∧ i = .int .i64 j ∧ TornAt w1 wr gp gq (page x) cc j) (fun i _ => 96 - (intOf i).toNat)
  case atStart => exact ⟨cc, Nat.le_refl _, by omega, by rw [← hcc], hinv⟩
  case round =>
    obtain ⟨j, hj1, hj2, rfl, hI⟩ := hrel
    clear hinv
    by_cases hlt : j < 96
    · have hstep := Lib.hid (hI.step hj1 (by rw [HPL.out]; exact hlt) hne hq1)
      obtain ⟨_, _, e, hcl⟩ := hI.q.2.2 (by rw [torn_length _ _ _ hj1 (by rw [HPL.out]; omega), HPL.out]; omega)
      cases e
      have hcj := hcl j (by rw [torn_length _ _ _ hj1 (by rw [HPL.out]; omega), HPL.out]; omega)
      rw [Nat.zero_add] at hcj
      have hfj := hI.fq j
      clear hcl hI
      go_wp2
      go_roundw
      case rel => exact ⟨j + 1, by omega, by omega, by go_num, hstep.out⟩
      case measure => simp [intOf]; omega
    · obtain rfl : j = 96 := by omega
      have htl := torn_length (page x) cc 96 (by omega) (by rw [HPL.out]; omega)
      rw [HPL.out] at htl
      have hr1 := read_torn (page x) cc hcc96 HPL.out
      have hr2 := read_short ((page x).take cc) (by rw [List.length_take, HPL.out]; omega)
      have hl2 : ((page x).take cc).length = cc := by rw [List.length_take, HPL.out]; omega
      have H1 := Lib.hid (read3 (torn (page x) cc 96) gq k5 96 wr htl hI.q hk5 (HT.out.below hI.b HT.out.pos) hr1)
      have hgp3 : gp < wr.heap.size := by
        obtain ⟨_, _, e, hcl⟩ := hI.p.2.2 (by rw [HPL.out]; omega)
        cases e
        exact World.block_lt_of_cell? _ _ (hcl 0 (by rw [HPL.out]; omega))
      have HI := Lib.hid hI
      clear hI htl hr1
      go_wp2_with (first
        | (go_at_call 16; (with_reducible refine H1.out.mono ?_); rintro e w6 ⟨z6, a6, c6, rfl, hb6'⟩; have hb6 := HI.out.b.trans ((hb6'.trans ((boxs_below w6 25 z6 a6 c6).mono hb6'.size)).mono HI.out.b.size); have hp6 := (HI.out.p.below hb6').below (boxs_below w6 25 z6 a6 c6); have hfr6 : ∀ j, (w6.alloc (boxs 25 z6 a6 c6)).frozen? ⟨gp, j, none⟩ = false := (fun j => (World.frozen?_of_block (a := ⟨gp, j, none⟩) ((hb6'.trans ((boxs_below w6 25 z6 a6 c6).mono hb6'.size)).block gp hgp3)).trans (HI.out.fp j)); have hs6 : gp < (w6.alloc (boxs 25 z6 a6 c6)).heap.size := (by have h1 := hb6'.size; have h2 := (boxs_below w6 25 z6 a6 c6).size; omega))
        | (go_at_call 16; (with_reducible refine (read3 ((page x).take cc) gp k4 cc _ hl2 (hp6.take cc) (by omega) (HT.out.below hb6 HT.out.pos) hr2).mono ?_); rintro e w7 ⟨z7, a7, c7, rfl, hb7'⟩; have hb7 := hb6.trans ((hb7'.trans ((boxs_below w7 25 z7 a7 c7).mono hb7'.size)).mono hb6.size); have hp7 := (hp6.below hb7').below (boxs_below w7 25 z7 a7 c7); have hfr7 : ∀ j, (w7.alloc (boxs 25 z7 a7 c7)).frozen? ⟨gp, j, none⟩ = false := (fun j => (World.frozen?_of_block (a := ⟨gp, j, none⟩) ((hb7'.trans ((boxs_below w7 25 z7 a7 c7).mono hb7'.size)).block gp hs6)).trans (hfr6 j))))
      generalize hW7 : w7.alloc (boxs 25 z7 a7 c7) = W7 at *
      obtain ⟨j, r, hj, hrm, hjl, hr8⟩ : ∃ j r : Nat, (kb : Int) / 8 = j ∧ (kb : Int) % 8 = r ∧ j < 96 ∧ r < 8 := ⟨kb / 8, kb % 8, by omega, by omega, by omega, by omega⟩
      have hcell : W7.cell? ⟨gp, j, none⟩ = some (.int .u8 ((page x).getD j 0 : Nat)) := by
        obtain ⟨b', o', e, h⟩ := hp7.2.2 (by rw [HPL.out]; omega)
        cases e
        have := h j (by rw [HPL.out]; omega)
        rwa [Nat.zero_add] at this
      have hf := hfr7 j
      have ht1 : (kb : Int).tdiv 8 = (j : Int) := by rw [Int.tdiv_eq_ediv_of_nonneg (by omega)]; exact hj
      have ht2 : (kb : Int).tmod 8 = (r : Int) := by rw [Int.tmod_eq_emod_of_nonneg (by omega)]; exact hrm
      have hwj : IntKind.i64.wrap (j : Int) = (j : Int) := IntWalk.i64_in _ (by omega)
      have hwr : IntKind.i64.wrap (r : Int) = (r : Int) := IntWalk.i64_in _ (by omega)
      have hj0 : (0 : Int) ≤ (j : Int) := by omega
      have hj1 : (j : Int) < 96 := by omega
      have hr0 : (0 : Int) ≤ (r : Int) := by omega
      have hsl := page_lt x hd
      have hx0 : (page x).getD j 0 < 256 := hsl _ (getD_mem (page x) j (by rw [HPL.out]; omega))
      have h2r : 2 ^ r < 256 := Nat.pow_lt_pow_right (a := 2) (m := r) (n := 8) (by omega) (by omega)
      have hxor : bits .xor .u8 (((page x).getD j 0 : Nat) : Int) (2 ^ r % 256) = (((page x).getD j 0 ^^^ 2 ^ r : Nat) : Int) := by
        rw [show ((2 : Int) ^ r % 256) = ((2 ^ r : Nat) : Int) by
          have h : ((2 ^ r : Nat) : Int) < 256 := by omega
          have h0 : (0 : Int) ≤ ((2 ^ r : Nat) : Int) := Int.natCast_nonneg _
          rw [← Int.emod_eq_of_lt h0 h]; simp]
        exact u8_xor_nat _ _ hx0 h2r
      have hy : (page x).getD j 0 ^^^ 2 ^ r < 256 := Nat.xor_lt_two_pow (n := 8) hx0 h2r
      have hset := hp7.set j ((page x).getD j 0 ^^^ 2 ^ r) (by rw [HPL.out]; omega) hy
      rw [Nat.zero_add] at hset
      have hbad := read_turned HX.out hd j r hjl hr8
      have hslen : ((page x).set j ((page x).getD j 0 ^^^ 2 ^ r)).length = 96 := by rw [List.length_set]; exact HPL.out
      have hb8 : Below w1.heap.size w1 (W7.setCell ⟨gp, j, none⟩ (.int .u8 (((page x).getD j 0 ^^^ 2 ^ r : Nat) : Int))).drew := (hb7.setCell hp1 _).drew
      have HRD := Lib.hid (readN _ gp k4 96 (W7.setCell ⟨gp, j, none⟩ (.int .u8 (((page x).getD j 0 ^^^ 2 ^ r : Nat) : Int))).drew hslen (Rd.drewN hset 1) hk4 (HT.out.below hb8 HT.out.pos) hbad)
      have HB8 := Lib.hid hb8
      clear hset hbad hslen hb8 hsl hd hp7 hfr7 hp6 hfr6 hb6' hb7'
      generalize (page x).getD j 0 ^^^ 2 ^ r = yy at *
      generalize (page x).getD j 0 = x0 at hcell hxor hx0
      try simp only [hkb]
      clear hkb
      go_region
      go_wp2_with (go_at_call 16; (with_reducible refine HRD.out.mono ?_); rintro e w8 ⟨nn, z8, a8, c8, rfl, hnn, hb9'⟩; have hnz : ((nn : Int) != 0) = true := (by simp; omega); have hnz2 : ¬ nn = 0 := hnn)
      have hb10 := hB.trans ((HB8.out.trans ((hb9'.trans ((boxs_below w8 25 z8 a8 c8).mono hb9'.size)).mono HB8.out.size)).mono hB.size)
      go_ret
      exact ⟨rfl, hb10⟩
end Go.Proofs.YtopmljbemogcoaaDoor
