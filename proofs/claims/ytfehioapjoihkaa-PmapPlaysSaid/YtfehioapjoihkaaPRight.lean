/- The law PmapPlays' own rows, and its function 'right': a map tells where all is. -/
import Derived.Test.YtfehioapjoihkaaPMoves
namespace Drawbar.Pm
/-- What On tells: each is on the block, their pages rise. -/
theorem ons_told {s : St} (ha : Apart s) {b : Nat} {l : List Nat} (hp : l.Perm (s.ons b)) (hb : l.Pairwise fun x y => pgOf (s.at_ x) ≤ pgOf (s.at_ y)) :
    (∀ i, i < l.length → ∃ p, l.getD i 0 < s.addrs ∧ s.at_ (l.getD i 0) = some (b, p)) ∧ ∀ i p q, i + 1 < l.length → s.at_ (l.getD i 0) = some (b, p) → s.at_ (l.getD (i + 1) 0) = some (b, q) → p < q := by
  have hat : ∀ i, i < l.length → ∃ p, l.getD i 0 < s.addrs ∧ s.at_ (l.getD i 0) = some (b, p) := fun i hi => by
    have hm : l.getD i 0 ∈ s.ons b := hp.mem_iff.1 (by rw [List.getD_eq_getElem?_getD, List.getElem?_eq_getElem hi]; exact List.getElem_mem hi)
    obtain ⟨h1, h2⟩ := mem_ons.1 hm
    obtain ⟨p, hp⟩ := on_iff.1 h2
    exact ⟨p, h1, hp⟩
  refine ⟨hat, fun i p q hi h1 h2 => ?_⟩
  have hnd : l.Nodup := hp.nodup_iff.2 (List.nodup_range.filter _)
  have e1 : l.getD i 0 = l[i]'(by omega) := by rw [List.getD_eq_getElem?_getD, List.getElem?_eq_getElem (by omega)]; rfl
  have e2 : l.getD (i + 1) 0 = l[i + 1]'hi := by rw [List.getD_eq_getElem?_getD, List.getElem?_eq_getElem hi]; rfl
  have h3 := (List.pairwise_iff_getElem.1 hb) i (i + 1) (by omega) hi (by omega)
  have h4 := (List.pairwise_iff_getElem.1 hnd) i (i + 1) (by omega) hi (by omega)
  rw [← e1, ← e2] at h3 h4
  rw [h1, h2] at h3
  simp only [pgOf] at h3
  have h5 : p ≠ q := fun e => h4 (ha _ _ _ h1 (by rw [h2, e]))
  omega
end Drawbar.Pm
namespace Go.Proofs.Ytfehioapjoihkaa
open Go.RowKit
open Drawbar Drawbar.Pm

/-- The law's own rows: where each address is, and whether it is anywhere. -/
structure Rows7 (w : World) (ab hb : Nat) (s : St) : Prop where
  at_ : ∀ k, k < s.addrs → w.cell? ⟨ab, k * 2, none⟩ = some (.int .i64 (tellB (s.at_ k))) ∧ w.cell? ⟨ab, k * 2 + 1, none⟩ = some (.int .i64 (pgOf (s.at_ k)))
  af : ∀ o, w.frozen? ⟨ab, o, none⟩ = false
  has : ∀ k, k < s.addrs → w.cell? ⟨hb, k, none⟩ = some (.bool (s.at_ k).isSome)
  hf : ∀ o, w.frozen? ⟨hb, o, none⟩ = false
  ne : ab ≠ hb
theorem Rows7.keep {w w' : World} {ab hb : Nat} {s : St} (h : Rows7 w ab hb s) (h1 : w'.heap[ab]? = w.heap[ab]?) (h2 : w'.heap[hb]? = w.heap[hb]?) : Rows7 w' ab hb s :=
  ⟨fun k hk => ⟨(World.cell?_of_block (a := ⟨ab, k * 2, none⟩) h1).trans (h.at_ k hk).1, (World.cell?_of_block (a := ⟨ab, k * 2 + 1, none⟩) h1).trans (h.at_ k hk).2⟩,
    fun o => (World.frozen?_of_block (a := ⟨ab, o, none⟩) h1).trans (h.af o), fun b hb => (World.cell?_of_block (a := ⟨_, b, none⟩) h2).trans (h.has b hb), fun o => (World.frozen?_of_block (a := ⟨hb, o, none⟩) h2).trans (h.hf o), h.ne⟩
theorem Rows7.set {w : World} {ab hb : Nat} {s : St} (h : Rows7 w ab hb s) (k : Nat) (hk : k < s.addrs) (v : Pl) :
    Rows7 (((w.setCell ⟨ab, k * 2, none⟩ (.int .i64 (tellB v))).setCell ⟨ab, k * 2 + 1, none⟩ (.int .i64 (pgOf v))).setCell ⟨hb, k, none⟩ (.bool v.isSome)) ab hb (s.put k v) := by
  refine ⟨fun j hj => ?_, fun o => by rw [World.frozen?_setCell, World.frozen?_setCell, World.frozen?_setCell]; exact h.af o, fun j hj => ?_, fun o => by rw [World.frozen?_setCell, World.frozen?_setCell, World.frozen?_setCell]; exact h.hf o, h.ne⟩
  · rw [World.cell?_setCell_other _ _ _ _ (blk_ne h.ne.symm), World.cell?_setCell_other _ _ _ _ (blk_ne h.ne.symm)]
    by_cases e : j = k
    · subst e
      rw [World.cell?_setCell_other _ _ _ _ (off_ne (by omega)), World.cell?_setCell_same _ _ _ (h.at_ j hj).1, World.cell?_setCell_same _ _ _ ((World.cell?_setCell_other _ _ _ _ (off_ne (by omega))).trans (h.at_ j hj).2), put_same]
      exact ⟨rfl, rfl⟩
    · rw [World.cell?_setCell_other _ _ _ _ (off_ne (by omega)), World.cell?_setCell_other _ _ _ _ (off_ne (by omega)), World.cell?_setCell_other _ _ _ _ (off_ne (by omega)), World.cell?_setCell_other _ _ _ _ (off_ne (by omega)), put_other _ _ _ _ e]
      exact h.at_ j hj
  · by_cases e : j = k
    · subst e
      rw [World.cell?_setCell_same _ _ _ ((World.cell?_setCell_other _ _ _ _ (blk_ne h.ne)).trans ((World.cell?_setCell_other _ _ _ _ (blk_ne h.ne)).trans (h.has j hj))), put_same]
    · rw [World.cell?_setCell_other _ _ _ _ (off_ne (Ne.symm e)), World.cell?_setCell_other _ _ _ _ (blk_ne h.ne), World.cell?_setCell_other _ _ _ _ (blk_ne h.ne), put_other _ _ _ _ e]
      exact h.has j hj
theorem Rows7.al {w : World} {ab hb : Nat} {s : St} (h : Rows7 w ab hb s) (h0 : 0 < s.addrs) : ab < w.heap.size := World.block_lt_of_cell? w _ (h.at_ 0 h0).1
theorem Rows7.hl {w : World} {ab hb : Nat} {s : St} (h : Rows7 w ab hb s) (h0 : 0 < s.addrs) : hb < w.heap.size := World.block_lt_of_cell? w _ (h.has 0 h0)

/-- What the law holds: the map, and its own rows, which tell the same. -/
structure Hold (w0 w : World) (g pb cb ab hb : Nat) (s : St) : Prop where
  mine : Mine w0.heap.size w g pb cb s
  rows : Rows7 w ab hb s
  ag : ab ≠ g
  ap : ab ≠ pb
  ac : ab ≠ cb
  hg : hb ≠ g
  hp : hb ≠ pb
  hc : hb ≠ cb
  a9 : w0.heap.size ≤ ab
  h9 : w0.heap.size ≤ hb
  apart : Apart s
  low : Below w0.heap.size w0 w
theorem Hold.below {w0 w w' : World} {g pb cb ab hb : Nat} {s : St} (h : Hold w0 w g pb cb ab hb s) (hbl : Below w.heap.size w w') : Hold w0 w' g pb cb ab hb s :=
  ⟨h.mine.below hbl, h.rows.keep (hbl.block _ (h.rows.al h.mine.at_.wf.a0)) (hbl.block _ (h.rows.hl h.mine.at_.wf.a0)), h.ag, h.ap, h.ac, h.hg, h.hp, h.hc, h.a9, h.h9, h.apart, h.low.trans (hbl.mono h.low.size)⟩
theorem below_alloc (w : World) (o : Obj) : Below w.heap.size w (w.alloc o) := (Below.refl _ _).alloc (Nat.le_refl _) _
theorem below_drew (w : World) : Below w.heap.size w w.drew := Below.drewB (Below.refl _ _)

theorem sum_any {w : World} {ab hb : Nat} {s : St} (h : Rows7 w ab hb s) (h9 : s.addrs ≤ 65536) : Calls Try.prog 32 #[.slice (some ⟨hb, 0, none⟩) s.addrs s.addrs] w fun e w' => e = .returned (.int .i64 s.len) ∧ w = w' := by
  have HH := Lib.hid h.has
  have HL : Hid (s.len = cntTo (fun k => (s.at_ k).isSome) s.addrs) := rfl
  generalize s.len = z at HL ⊢
  clear h
  go_enter Try.func32, Try.ntmps32
  go_wp2
  go_loop [3, 4] (fun v i => ∃ n : Nat, n ≤ s.addrs ∧ i = .int .i64 n ∧ v = .int .i64 (cntTo (fun k => (s.at_ k).isSome) n)) (fun _ i => s.addrs - (intOf i).toNat)
  case atStart => exact ⟨0, Nat.zero_le _, rfl, rfl⟩
  case round =>
    obtain ⟨n, hn, rfl, rfl⟩ := hrel
    by_cases hlt : n < s.addrs
    · have ct := HH.out n hlt
      have h1 := cntTo_le (fun k => (s.at_ k).isSome) n
      have h3 := cntTo_succ (fun k => (s.at_ k).isSome) n
      have i1 : (n : Int) < (s.addrs : Int) := by omega
      cases hv : (s.at_ n).isSome with
      | true =>
        rw [hv] at ct
        simp only [hv, if_true] at h3
        have H3 := Lib.hid h3
        generalize cntTo (fun k => (s.at_ k).isSome) n = x at *
        clear h3 hv
        go_wp2
        go_round
        case rel => exact ⟨n + 1, by omega, by go_num, by rw [H3.out]; go_num⟩
        case measure => simp [intOf]; omega
      | false =>
        rw [hv] at ct
        have h4 : cntTo (fun k => (s.at_ k).isSome) (n + 1) = cntTo (fun k => (s.at_ k).isSome) n := by rw [h3, hv]; rfl
        have H3 := Lib.hid h4
        clear h3 h4 hv
        generalize cntTo (fun k => (s.at_ k).isSome) n = x at *
        go_wp2
        go_round
        case rel => exact ⟨n + 1, by omega, by go_num, by rw [H3.out]⟩
        case measure => simp [intOf]; omega
    · obtain rfl : n = s.addrs := by omega
      have i1 : ¬ (s.addrs : Int) < (s.addrs : Int) := by omega
      rw [← HL.out]
      go_wp2
      go_ret
      exact ⟨rfl, rfl⟩

set_option maxHeartbeats 4000000 in
set_option maxRecDepth 100000 in
theorem right_any {w0 w : World} {g pb cb ab hb : Nat} {s : St} (h : Hold w0 w g pb cb ab hb s) :
    Calls Try.prog 15 #[.pointer (some ⟨g, 0, none⟩), .slice (some ⟨ab, 0, none⟩) s.addrs s.addrs, .slice (some ⟨hb, 0, none⟩) s.addrs s.addrs, .int .i64 s.blocks] w (Yes w) := by
  have H := Lib.hid h
  have a9 := h.mine.at_.wf.a9
  have b9 := h.mine.at_.wf.b9
  clear h
  go_enter Try.func15, Try.ntmps15
  go_wp2
  go_loopw [9, 10] (fun v i wr => ∃ k : Nat, k ≤ s.addrs ∧ i = .int .i64 k ∧ v = .int .i64 (cntTo (fun k => (s.at_ k).isSome) k) ∧ Hid (Below w.heap.size w wr)) (fun _ i _ => s.addrs - (intOf i).toNat)
  case atStart => exact ⟨0, Nat.zero_le _, rfl, rfl, Lib.hid (Below.refl _ _)⟩
  case round =>
    obtain ⟨k, hk, rfl, rfl, BR⟩ := hrel
    have hx := cntTo_le (fun k => (s.at_ k).isSome) k
    by_cases hlt : k < s.addrs
    · have HR := H.out.below BR.out
      obtain ⟨p0, p1⟩ := HR.rows.at_ k hlt
      have ph := HR.rows.has k hlt
      have hal := HR.rows.al HR.mine.at_.wf.a0
      have hhl := HR.rows.hl HR.mine.at_.wf.a0
      have hget := get_in HR.mine.at_ k hlt
      have h3 := cntTo_succ (fun k => (s.at_ k).isSome) k
      have i1 : (k : Int) < (s.addrs : Int) := by omega
      cases hv : s.at_ k with
      | none =>
        rw [hv] at p0 p1 ph hget
        have h4 : cntTo (fun k => (s.at_ k).isSome) (k + 1) = cntTo (fun k => (s.at_ k).isSome) k := by rw [h3, hv]; rfl
        have H3 := Lib.hid h4
        simp only [tellB, pgOf, Option.isSome] at p0 p1 ph
        have HG : Hid (Calls Try.prog 16 #[.pointer (some ⟨g, 0, none⟩), .int .i64 k] wr fun e w' => e = .returned (.tuple #[.agg #[.int .i64 0, .int .i64 0], .bool false]) ∧ Below wr.heap.size wr w') := Lib.hid hget
        generalize cntTo (fun k => (s.at_ k).isSome) k = x at *
        clear h3 h4 hv hget HR
        go_wp2_with fail
        refine HG.out.mono ?_
        rintro e W1 ⟨rfl, hb1⟩
        have q0 := (hb1.cell (p := ⟨ab, k * 2, none⟩) hal).trans p0
        have q1 := (hb1.cell (p := ⟨ab, k * 2 + 1, none⟩) hal).trans p1
        have qh := (hb1.cell (p := ⟨hb, k, none⟩) hhl).trans ph
        have hal1 := Nat.lt_of_lt_of_le hal hb1.size
        have hhl1 := Nat.lt_of_lt_of_le hhl hb1.size
        have B2 := Lib.hid (Below.drewB ((BR.out.trans (hb1.mono BR.out.size)).alloc (Nat.le_trans BR.out.size hb1.size) (.cells #[.int .i64 0, .int .i64 0] 34)))
        clear hb1 HG BR p0 p1 ph hal hhl
        go_wp2_with fail
        go_region
        go_wp2_with fail
        go_roundw
        case rel => exact ⟨k + 1, by omega, by go_num, by rw [H3.out], B2⟩
        case measure => simp [intOf]; omega
      | some v =>
        obtain ⟨b, p⟩ := v
        rw [hv] at p0 p1 ph hget
        have h4 : cntTo (fun k => (s.at_ k).isSome) (k + 1) = cntTo (fun k => (s.at_ k).isSome) k + 1 := by rw [h3, hv]; rfl
        have H3 := Lib.hid h4
        simp only [tellB, pgOf, Option.isSome] at p0 p1 ph
        have HG : Hid (Calls Try.prog 16 #[.pointer (some ⟨g, 0, none⟩), .int .i64 k] wr fun e w' => e = .returned (.tuple #[.agg #[.int .i64 b, .int .i64 p], .bool true]) ∧ Below wr.heap.size wr w') := Lib.hid hget
        generalize cntTo (fun k => (s.at_ k).isSome) k = x at *
        clear h3 h4 hv hget HR
        go_wp2_with fail
        refine HG.out.mono ?_
        rintro e W1 ⟨rfl, hb1⟩
        have q0 := (hb1.cell (p := ⟨ab, k * 2, none⟩) hal).trans p0
        have q1 := (hb1.cell (p := ⟨ab, k * 2 + 1, none⟩) hal).trans p1
        have qh := (hb1.cell (p := ⟨hb, k, none⟩) hhl).trans ph
        have hal1 := Nat.lt_of_lt_of_le hal hb1.size
        have hhl1 := Nat.lt_of_lt_of_le hhl hb1.size
        have B2 := Lib.hid (Below.drewB ((BR.out.trans (hb1.mono BR.out.size)).alloc (Nat.le_trans BR.out.size hb1.size) (.cells #[.int .i64 b, .int .i64 p] 34)))
        clear hb1 HG BR p0 p1 ph hal hhl
        go_wp2_with fail
        go_region
        go_wp2_with fail
        go_roundw
        case rel => exact ⟨k + 1, by omega, by go_num, by rw [H3.out]; go_num, B2⟩
        case measure => simp [intOf]; omega
    · obtain rfl : k = s.addrs := by omega
      have i1 : ¬ (s.addrs : Int) < (s.addrs : Int) := by omega
      have hle : ∀ n, s.sumTo n ≤ s.addrs := fun n => by rw [sumTo_eq]; exact cntTo_le _ _
      have HLE := Lib.hid hle
      have hsl : ∀ n, n ≤ s.blocks → s.sumTo n ≤ s.len := fun n hn => by
        rw [sumTo_eq, St.len]
        have mono : ∀ (f h : Nat → Bool) (m : Nat), (∀ k, f k = true → h k = true) → cntTo f m ≤ cntTo h m := fun f h m hfh => by
          induction m with
          | zero => exact Nat.le_refl _
          | succ m ih =>
            rw [cntTo_succ, cntTo_succ]
            cases e : f m with
            | true => rw [hfh m e]; simp; exact ih
            | false => simp; omega
        refine mono _ _ _ fun k => ?_
        cases s.at_ k with
        | none => simp
        | some v => simp
      have HSL := Lib.hid hsl
      have e9 : cntTo (fun k => (s.at_ k).isSome) s.addrs = s.len := rfl
      have HW := Lib.hid H.out.mine.at_.wf
      rw [e9] at hx ⊢
      clear hle hsl e9
      go_wp2
      go_loopw [9, 13] (fun v i wr => ∃ b : Nat, b ≤ s.blocks ∧ i = .int .i64 b ∧ v = .int .i64 ((s.len : Int) - (s.sumTo b : Int)) ∧ Hid (Below w.heap.size w wr)) (fun _ i _ => s.blocks - (intOf i).toNat)
      case atStart => exact ⟨0, Nat.zero_le _, rfl, by show _ = Value.int .i64 ((s.len : Int) - ((0 : Nat) : Int)); simp, BR⟩
      case round =>
        obtain ⟨b, hb', rfl, rfl, BR⟩ := hrel
        by_cases hlt2 : b < s.blocks
        · have HR := H.out.below BR.out
          have HO := Lib.hid (on_in HR.mine.at_ HR.apart b hlt2)
          have i2 : (b : Int) < (s.blocks : Int) := by omega
          have s1 := HLE.out b
          have s2 := HSL.out b hb'
          have s3 := HSL.out (b + 1) (by omega)
          have s4 : s.sumTo (b + 1) = s.sumTo b + s.cnt b := rfl
          have HRH := Lib.hid HR
          clear HR
          go_wp2_with fail
          refine HO.out.mono ?_
          rintro e W1 ⟨a1, l, c1, rfl, hrd, hperm, hby, hb1⟩
          have H1 := HRH.out.below hb1
          have HT := Lib.hid (ons_told H1.apart hperm hby)
          have hlen := hperm.length_eq.trans (ons_length s b)
          have hcnt := count_in H1.mine.at_ b hlt2
          rw [← hlen] at hcnt s4
          have HC := Lib.hid hcnt
          have B1 := Lib.hid (BR.out.trans (hb1.mono BR.out.size))
          have RD1 := Lib.hid hrd
          have HS4 := Lib.hid s4
          have s5 : (l.length : Int) ≤ 65536 := by omega
          rw [s4] at s3
          clear hrd hperm hby hb1 H1 hlen hcnt BR s4 HO HRH
          go_wp2_with (go_at_call 17; refine HC.out.mono ?_; rintro e w' ⟨rfl, rfl⟩)
          go_loopw [15] (fun iv wr => ∃ j : Nat, iv = .int .i64 j ∧ j ≤ l.length ∧ Hid (Below w.heap.size w wr) ∧ Hid (RdN wr a1 l)) (fun iv _ => l.length - (intOf iv).toNat)
          case atStart => exact ⟨0, rfl, Nat.zero_le _, B1, RD1⟩
          case round =>
            obtain ⟨j, rfl, hj, BR, RD⟩ := hrel
            clear B1 RD1
            by_cases hlt3 : j < l.length
            · have j2 : (j : Int) < (l.length : Int) := by omega
              obtain ⟨lb, lo, rfl, hcl⟩ := RD.out (by omega)
              have c0 := hcl j hlt3
              obtain ⟨p, hxa, hxp⟩ := HT.out.1 j hlt3
              have HR := H.out.below BR.out
              have hget := get_in HR.mine.at_ (l.getD j 0) hxa
              rw [hxp] at hget
              have hpv : 0 < j → ∃ q, wr.cell? ⟨lb, lo + (j - 1), none⟩ = some (.int .i64 (l.getD (j - 1) 0 : Nat)) ∧ l.getD (j - 1) 0 < s.addrs ∧ s.at_ (l.getD (j - 1) 0) = some (b, q) ∧ q < p := fun h0 => by
                obtain ⟨q, h1, h2⟩ := HT.out.1 (j - 1) (by omega)
                refine ⟨q, hcl (j - 1) (by omega), h1, h2, ?_⟩
                have := HT.out.2 (j - 1) q p (by omega) h2
                rw [show j - 1 + 1 = j by omega] at this
                exact this hxp
              have HPV := Lib.hid hpv
              have hlbl : lb < wr.heap.size := World.block_lt_of_cell? wr _ c0
              have HRH := Lib.hid HR
              generalize l.getD j 0 = x at c0 hxa hxp hget
              have HG2 : Hid (Calls Try.prog 16 #[.pointer (some ⟨g, 0, none⟩), .int .i64 x] wr fun e w' => e = .returned (.tuple #[.agg #[.int .i64 b, .int .i64 p], .bool true]) ∧ Below wr.heap.size wr w') := Lib.hid hget
              clear hcl hget hpv HR hxp
              go_wp2_with fail
              refine HG2.out.mono ?_
              rintro e W1 ⟨rfl, hb1⟩
              have B3 := below_alloc W1 (.cells #[.int .i64 b, .int .i64 p] 34)
              have X3 := Box.new W1 b p
              have L3 := (BR.out.trans (hb1.mono BR.out.size)).trans (B3.mono (Nat.le_trans BR.out.size hb1.size))
              have R3 := (RD.out.below hb1).below B3
              have HH3 := (HRH.out.below hb1).below B3
              by_cases hj0 : 0 < j
              · obtain ⟨q, c1, hq1, hq2, hqp⟩ := HPV.out hj0
                have d1 := (hb1.cell (p := ⟨lb, lo + (j - 1), none⟩) hlbl).trans c1
                have hlb1 := Nat.lt_of_lt_of_le hlbl hb1.size
                have hget2 := get_in HH3.mine.at_ (l.getD (j - 1) 0) hq1
                rw [hq2] at hget2
                clear B3 hb1 c0 c1 hq2 HG2 HPV HRH RD BR hlbl
                generalize l.getD (j - 1) 0 = u at d1 hq1 hget2
                obtain ⟨jp, rfl⟩ : ∃ jp, j = jp + 1 := ⟨j - 1, by omega⟩
                rw [show jp + 1 - 1 = jp by omega] at d1
                have z1 : ¬ ((p : Int) ≤ (q : Int)) := by omega
                have z2 : decide (p ≤ q) = false := decide_eq_false (by omega)
                have HX3 := Lib.hid X3
                have LH3 := Lib.hid L3
                have RH3 := Lib.hid R3
                have HG3 : Hid (Calls Try.prog 16 #[.pointer (some ⟨g, 0, none⟩), .int .i64 u] (W1.alloc (.cells #[.int .i64 b, .int .i64 p] 34)) fun e w' => e = .returned (.tuple #[.agg #[.int .i64 b, .int .i64 q], .bool true]) ∧ Below (W1.alloc (.cells #[.int .i64 b, .int .i64 p] 34)).heap.size (W1.alloc (.cells #[.int .i64 b, .int .i64 p] 34)) w') := Lib.hid hget2
                clear L3 R3 HH3 X3 hget2
                go_wp2_with fail
                generalize W1.alloc (.cells #[.int .i64 b, .int .i64 p] 34) = W3 at HX3 LH3 RH3 HG3 ⊢
                generalize W1.heap.size = bx at HX3 ⊢
                refine HG3.out.mono ?_
                rintro e W4 ⟨rfl, hb4⟩
                have X4 := HX3.out.below hb4
                have x0 := X4.c0
                have x1 := X4.c1
                have hbx4 := X4.lt
                have L5 := Lib.hid ((LH3.out.trans (hb4.mono LH3.out.size)).alloc (Nat.le_trans LH3.out.size hb4.size) (.cells #[.int .i64 b, .int .i64 q] 34))
                have R5 := Lib.hid ((RH3.out.below hb4).alloc (.cells #[.int .i64 b, .int .i64 q] 34))
                clear hb4 X4 HX3 HG3 LH3 RH3
                go_wp2
                go_roundw
                case rel => exact ⟨jp + 1 + 1, by go_num, by omega, L5, R5⟩
                case measure => simp [intOf]; omega
              · have j3 : ¬ (0 : Int) < (j : Int) := by omega
                have L5 := Lib.hid L3
                have R5 := Lib.hid R3
                clear L3 R3 HH3 X3 B3 hb1 c0 HG2 HPV HRH RD BR
                go_wp2
                go_roundw
                case rel => exact ⟨j + 1, by go_num, by omega, L5, R5⟩
                case measure => simp [intOf]; omega
            · obtain rfl : j = l.length := by omega
              have i3 : ¬ (l.length : Int) < (l.length : Int) := by omega
              go_wp2
              go_roundw
              case rel => exact ⟨b + 1, by omega, by go_num, by rw [HS4.out]; go_num, BR⟩
              case measure => simp [intOf]; omega
        · obtain rfl : b = s.blocks := by omega
          have i2 : ¬ (s.blocks : Int) < (s.blocks : Int) := by omega
          have HR := H.out.below BR.out
          have hlen := len_any HR.mine.at_
          have hsum := sum_any HR.rows a9
          have e9 : (s.len : Int) - (s.sumTo s.blocks : Int) = 0 := by rw [sum_len HW.out]; omega
          have HL := Lib.hid hlen
          have HS := Lib.hid hsum
          rw [e9]
          clear HR hlen hsum e9
          go_wp2_with (first
            | (go_at_call 18; refine HL.out.mono ?_; rintro e w' ⟨rfl, rfl⟩)
            | (go_at_call 32; refine HS.out.mono ?_; rintro e w' ⟨rfl, rfl⟩))
          go_ret
          exact ⟨by simp, BR.out⟩
end Go.Proofs.Ytfehioapjoihkaa
