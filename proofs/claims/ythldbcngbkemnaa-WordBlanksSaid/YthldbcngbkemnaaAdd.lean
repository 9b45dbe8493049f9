/- The contract of (*line).add. -/
import Derived.Test.YthldbcngbkemnaaAppend
import Derived.Deep.QuietTactic
import Derived.BigQuiet
import Derived.Deep.RegionHeld
namespace Go.Proofs.Ythldbcngbkemnaa
open Go.RowKit
open Drawbar Drawbar.Line

/-- What a call on the line comes to: the error's number, the line, nothing else of what was there. -/
def Took (W : World) (B bl : Nat) (r : Nat × Ln) (e : Ending) (W' : World) : Prop := e = .returned (.int .i64 (r.1 : Nat)) ∧ (∃ v1 v2, LineIn W' B bl v1 v2 r.2) ∧ Turned B W W'

theorem shape_of {W : World} {e : TypeId} {v : Value} {n : Nat} {xs : List Value} (h : W.ownsRow 0 e 1 v n xs) : ∃ a cap, v = .slice a n cap ∧ n ≤ cap := by
  rcases h.2 with ⟨rfl, rfl⟩ | ⟨g, cap, cur, rfl, _, _, hn, _⟩
  · exact ⟨none, 0, rfl, Nat.le_refl _⟩
  · exact ⟨_, cap, rfl, hn⟩

theorem below_drewN {B : Nat} {a w : World} (h : Below B a w) (n : Nat) : Below B a (w.drewN n) := ⟨h.os, h.tape, h.output, h.size, h.block⟩

theorem grew_shape {W : World} {v : Value} {n : Nat} {xs : List Value} {e : Ending} {W' : World} (h : Grew W v n xs e W') : ∃ a c, e = .returned (.slice a n c) := by
  obtain ⟨v', rfl, h1, _⟩ := h
  obtain ⟨a, c, rfl, _⟩ := shape_of h1
  exact ⟨a, c, rfl⟩

section
variable {W : World} {B bl : Nat} {v1 v2 : Value} {l : Ln}

theorem LineIn.drewN (h : LineIn W B bl v1 v2 l) (n : Nat) : LineIn (W.drewN n) B bl v1 v2 l := ⟨h.c0, h.c1, h.c2, h.fz, h.r1, h.r2, h.lt, h.n1, h.n2, h.n12, h.base, h.b1, h.b2, h.len, h.at5⟩
theorem LineIn.drew (h : LineIn W B bl v1 v2 l) : LineIn W.drew B bl v1 v2 l := ⟨h.c0, h.c1, h.c2, h.fz, h.r1, h.r2, h.lt, h.n1, h.n2, h.n12, h.base, h.b1, h.b2, h.len, h.at5⟩

/-- What AppendRune, and the store behind it, make of a line. -/
theorem LineIn.grew (h : LineIn W B bl v1 v2 l) (hB : B ≤ W.heap.size) {xs : List Nat} {v : Value} {W' : World} (hg : Grew W v2 xs.length (xs.map bv) (.returned v) W') (hlt : ∀ x ∈ xs, x < 256) (hlen : xs.length ≤ 200) :
    LineIn (W'.setCell ⟨bl, 1, none⟩ v) B bl v1 v { l with word := xs } ∧ Turned B W (W'.setCell ⟨bl, 1, none⟩ v) ∧ W'.cell? ⟨bl, 1, none⟩ = some v2 ∧ W'.frozen? ⟨bl, 1, none⟩ = false := by
  obtain ⟨v', he, hr, ⟨o, hgr⟩, hv⟩ := hg
  obtain rfl : v = v' := by injection he
  have ha : LineIn (W.alloc o) B bl v1 v2 l := h.below ((Below.refl _ _).alloc (Nat.le_refl _) o)
  have hB2 : B ≤ (W.alloc o).heap.size := by simp; omega
  have hbl : bl < (W.alloc o).heap.size := World.block_lt_of_cell? _ _ ha.c0
  have hbw : W'.heap[bl]? = (W.alloc o).heap[bl]? := hgr.block bl hbl fun e => ha.n2 e.symm
  have hc1 := (World.cell?_of_block (a := ⟨bl, 1, none⟩) hbw).trans ha.c1
  have hfz := (World.frozen?_of_block (a := ⟨bl, 1, none⟩) hbw).trans (ha.fz 1)
  refine ⟨ha.setWord hgr v xs hr (fun d hd => (hv d hd).imp id fun h => by simpa using h) hB2 hlt hlen, ?_, hc1, hfz⟩
  exact (((Turned.refl B W).alloc hB o).grown hgr hB2 ha.b2 ha.r2).setCell h.base v v2 hc1

set_option maxHeartbeats 1000000 in
theorem add_any (h : LineIn W B bl v1 v2 l) (hB : B ≤ W.heap.size) (r : Nat) (hv : Utf8.valid (r : Int) = true) :
    Calls Try.prog 33 #[.pointer (some ⟨bl, 0, none⟩), .int .i32 r] W (Took W B bl (l.add r)) := by
  have hrl := rlen_le r
  have hr : r ≤ 1114111 := by simp [Utf8.valid] at hv; omega
  have hel := enc_length r
  have helt := enc_lt r hr
  obtain ⟨a2, cap2, rfl, hcap⟩ := shape_of h.r2
  have hc1 := h.c1
  have hfz := h.fz 1
  have hlen := h.len
  have hRL := fun W => runelen_any r hv W
  have hap := appendrune_any W.drew _ l.word r hv h.r2 (by omega)
  have hgrew := fun (v : Value) (W' : World) (hg : Grew W.drew _ (l.word ++ enc r).length ((l.word ++ enc r).map bv) (.returned v) W') (hn : (l.word ++ enc r).length ≤ 200) =>
    h.drew.grew (xs := l.word ++ enc r) hB hg (fun x hx => (List.mem_append.1 hx).elim (h.lt x) (helt x)) hn
  have hlen2 : (l.word ++ enc r).length = l.word.length + rlen r := by rw [List.length_append, hel]
  unfold Ln.add
  generalize rlen r = R at *
  have HRL := Lib.hid hRL
  clear hRL
  by_cases h2 : 200 < l.word.length + R
  · rw [if_pos h2]
    have hfin : Took W B bl (2, l) (.returned (.int .i64 2)) W.drew := ⟨rfl, ⟨v1, _, h.drew⟩, (Turned.refl _ _).drew⟩
    have HF := Lib.hid hfin
    generalize Took W B bl (2, l) = P at HF ⊢
    have h3 : decide ((200 : Int) < (l.word.length : Int) + (R : Int)) = true := by simp; omega
    have h4 : IntKind.i64.wrap ((l.word.length : Int) + (R : Int)) = (l.word.length : Int) + (R : Int) := IntWalk.i64_in _ (by omega)
    clear h hfin h2 hap hgrew hlen2 hel helt hv
    go_enter Try.func33, Try.ntmps33
    go_wp2_with fail
    have hq1 : W.drew.cell? ⟨bl, 1, none⟩ = some (.slice a2 l.word.length cap2) := hc1
    go_region_held (fun W => W.cell? ⟨bl, 1, none⟩ = some (.slice a2 l.word.length cap2)) (exact hq1) (first | (go_at_call 38; ((with_reducible refine (HRL.out _).mono ?_); rintro e w' ⟨rfl, rfl⟩)))
    go_wp2
    exact HF.out
  · rw [if_neg h2]
    have h3 : decide ((200 : Int) < (l.word.length : Int) + (R : Int)) = false := by simp; omega
    have h4 : IntKind.i64.wrap ((l.word.length : Int) + (R : Int)) = (l.word.length : Int) + (R : Int) := IntWalk.i64_in _ (by omega)
    have hfin : ∀ v W', Grew W.drew (.slice a2 l.word.length cap2) (l.word ++ enc r).length ((l.word ++ enc r).map bv) (.returned v) W' →
        Took W B bl (0, { l with word := l.word ++ enc r }) (.returned (.int .i64 0)) (W'.setCell ⟨bl, 1, none⟩ v) ∧ W'.cell? ⟨bl, 1, none⟩ = some (.slice a2 l.word.length cap2) ∧ W'.frozen? ⟨bl, 1, none⟩ = false := by
      intro v W' hg
      obtain ⟨h5, h6, h7, h8⟩ := hgrew v W' hg (by omega)
      exact ⟨⟨rfl, ⟨_, _, h5⟩, (Turned.refl _ _).drew.trans h6⟩, h7, h8⟩
    have HF := Lib.hid hfin
    have HAP := Lib.hid hap
    have hn0 : l.word.length + R = (l.word ++ enc r).length := hlen2.symm
    generalize Took W B bl (0, { l with word := l.word ++ enc r }) = P at HF ⊢
    generalize (l.word ++ enc r).length = n2 at *
    generalize (l.word ++ enc r).map bv = xs2 at *
    clear h hfin h2 hap hgrew hlen2 hel helt hv
    go_enter Try.func33, Try.ntmps33
    go_wp2_with fail
    have hq1 : W.drew.cell? ⟨bl, 1, none⟩ = some (.slice a2 l.word.length cap2) := hc1
    go_region_held (fun W => W.cell? ⟨bl, 1, none⟩ = some (.slice a2 l.word.length cap2)) (exact hq1) (first | (go_at_call 38; ((with_reducible refine (HRL.out _).mono ?_); rintro e w' ⟨rfl, rfl⟩)))
    go_wp2_with (go_at_call 39; refine HAP.out.mono ?_; rintro e W' hg; obtain ⟨a3, c3, rfl⟩ := grew_shape hg; obtain ⟨hp, hc9, hf9⟩ := HF.out _ _ hg; have HP := Lib.hid hp; clear hp hg)
    exact HP.out
end
end Go.Proofs.Ythldbcngbkemnaa
