/- The contracts of strings.NewReplacer, (*strings.Replacer).Replace and word.Quote. -/
import Derived.Test.YthldbcngbkemnaaBuild
import Derived.Test.YthldbcngbkemnaaOnce
import Derived.Test.YthldbcngbkemnaaBare
namespace Go.Proofs.Ythldbcngbkemnaa
open Go.RowKit
open Drawbar Drawbar.Sign Drawbar.Esc

theorem replace_any (L : List Nat) (rb : Nat) (w : World) (hL : ∀ x ∈ L, x < 256) (hn : L.length ≤ 100) (hR : RepAt w rb) :
    Calls Try.prog 101 #[.pointer (some ⟨rb, 0, none⟩), .string (strOf L)] w fun e w' => e = .returned (.string (strOf (esc L))) ∧ Below w.heap.size w w' := by
  rcases Nat.lt_or_ge L.length 32 with h | h
  · exact replace_short L rb w hL h hR
  · exact replace_long L rb w hL h hn hR
/-- A store into a block that the table isn't in. -/
theorem RepAt.away {w w' : World} {rb b : Nat} {x : Int} (h : RepAt w rb) (hb : w.cell? ⟨b, 0, none⟩ = some (.int .u32 x)) (hk : ∀ k, k ≠ b → w'.heap[k]? = w.heap[k]?) : RepAt w' rb := by
  have far : ∀ k, k ≠ b → ∀ o v, w.cell? ⟨k, o, none⟩ = some v → w'.cell? ⟨k, o, none⟩ = some v := fun k hne o v hv => (World.cell?_of_block (a := ⟨k, o, none⟩) (hk k hne)).trans hv
  have hrb : rb ≠ b := fun e => by
    subst e
    have h0 := h.no 0 (by omega) (by decide)
    rw [h0] at hb; cases hb
  refine ⟨fun c hc he => far rb hrb c _ (h.no c hc he), fun c hc he => ?_, ?_⟩
  · obtain ⟨bl, cp, h1, h3, h4⟩ := h.yes c hc he
    have hne : bl ≠ b := fun e => by subst e; rw [h3] at hb; cases hb
    exact ⟨bl, cp, far rb hrb c _ h1, far bl hne 0 _ h3, far bl hne 1 _ h4⟩
  · obtain ⟨tb, cp, h1, h2, h3, h4, h5, h6⟩ := h.tr
    have hne : tb ≠ b := fun e => by subst e; rw [h3] at hb; cases hb
    exact ⟨tb, cp, far rb hrb 256 _ h1, h2, far tb hne 0 _ h3, far tb hne 1 _ h4, far tb hne 2 _ h5, far tb hne 3 _ h6⟩

/-- A replacer that isn't built yet, in block b. -/
def Raw (w : World) (b : Nat) : Prop := ∃ g cap, w.heap[b]? = some (.cells #[.int .u32 0, .int .i32 0, .int .u32 0, .nilIface, .slice (some ⟨g, 0, none⟩) 8 cap] 65 (0, 0)) ∧ g ≠ b ∧ ∀ i, i < 8 → w.cell? ⟨g, 0 + i, none⟩ = some (.string (pairs.getD i ⟨#[]⟩))

set_option maxRecDepth 100000 in
set_option maxHeartbeats 2000000 in
theorem newrep_any (q : Nat) (w : World) (hc : ∀ i u, (pairs.map Value.string)[i]? = some u → w.cell? ((⟨q, 0, none⟩ : Addr).add i) = some u) :
    Calls Try.prog 14 #[.slice (some ⟨q, 0, none⟩) 8 8] w fun e w' => ∃ b, e = .returned (.pointer (some ⟨b, 0, none⟩)) ∧ Raw w' b ∧ w.heap.size ≤ b ∧ Below w.heap.size w w' := by
  obtain ⟨i0, hi0, hz0, hz1, hz2⟩ := info_parts info_str
  have HC := Lib.hid hc
  clear hc
  go_enter Try.func14, Try.ntmps14
  go_wp2_with (refine wpList_append_row rfl _ _ 22 rfl 9 i0 (.string ⟨#[]⟩) 1 16 Try.underlying22 hi0 hz0 hz1 hz2 rfl (by decide) (.slice none 0 0) 0 [] rfl (World.ownsRow_nil _ _ _ _) ⟨q, 0, none⟩ 8 8 (pairs.map Value.string) rfl rfl HC.out (by simp [pairs, Value.oneCell']) (by decide) (by decide) ?_)
  intro v' w1 k1 k2 k3
  obtain ⟨tg, tcap, hv'⟩ : ∃ tg tcap, v' = .slice (some ⟨tg, 0, none⟩) 8 tcap := by
    rcases k1.2 with ⟨_, h0⟩ | ⟨tg, tcap, tcur, h0, -⟩
    · omega
    · exact ⟨tg, tcap, h0⟩
  subst hv'
  have hB : Below w.heap.size w w1 := ⟨k2.os, k2.tape, k2.output, k2.size, fun k hk => k2.block k hk (by simp [Value.ownBlock])⟩
  have hcells := k1.cells (g := tg) rfl
  have htg : tg < w1.heap.size := (k1.lt tg rfl).2
  clear k1 k2 k3
  go_wp2
  go_ret
  refine ⟨w1.heap.size, rfl, ⟨tg, tcap, heap_alloc_new w1 _, by omega, fun i hi => ?_⟩, hB.size, hB.trans ((Below.refl w1.heap.size w1).alloc (Nat.le_refl _) _ |>.mono hB.size)⟩
  have h := hcells i (.string (pairs.getD i ⟨#[]⟩)) (by
    have hl : i < pairs.length := hi
    rw [List.getElem?_map, List.getD_eq_getElem?_getD, List.getElem?_eq_getElem hl]; rfl)
  rw [Addr.add_lit] at h
  exact cell_alloc _ h

set_option maxRecDepth 100000 in
set_option maxHeartbeats 2000000 in
theorem once_any (b : Nat) (w : World) (hr : Raw w b) :
    Calls Try.prog 27 #[.pointer (some ⟨b, 0, none⟩)] (w.setCell ⟨b, 1, none⟩ (.int .i32 1)) fun e w' => e = .returned (.tuple #[]) ∧ (∃ rb, w'.cell? ⟨b, 3, none⟩ = some (.iface 88 (.pointer (some ⟨rb, 0, none⟩))) ∧ RepAt w' rb ∧ Below b w w' ∧ w'.heap.size > b) ∧
      w'.cell? ⟨b, 0, none⟩ = some (.int .u32 0) ∧ w'.cell? ⟨b, 1, none⟩ = some (.int .i32 1) ∧ w'.frozen? ⟨b, 0, none⟩ = false ∧ w'.frozen? ⟨b, 1, none⟩ = false := by
  obtain ⟨g, cap, hb, hne, hc⟩ := hr
  have hb1 := set_cells hb 1 (.int .i32 1)
  have hBs : Below b w (w.setCell ⟨b, 1, none⟩ (.int .i32 1)) := (Below.refl _ _).setCell (Nat.le_refl b) _
  have hc1 : ∀ i, i < 8 → (w.setCell ⟨b, 1, none⟩ (.int .i32 1)).cell? ⟨g, 0 + i, none⟩ = some (.string (pairs.getD i ⟨#[]⟩)) := fun i hi => (World.cell?_of_block (a := ⟨g, 0 + i, none⟩) (Below.heap_setCell _ _ _ _ (fun e => hne e))).trans (hc i hi)
  have hlt := lt_block hb
  generalize w.setCell ⟨b, 1, none⟩ (.int .i32 1) = w1 at *
  have hblt := lt_block hb1
  have HB := Lib.hid (build_any b g 0 cap w1 (cell_blk2 hb1 4 _ rfl) hc1)
  clear hc hc1 hb
  go_enter Try.func27, Try.ntmps27
  go_wp2_with fail
  refine HB.out.mono ?_
  rintro e w2 ⟨rb, rfl, hR, hB2⟩
  have hb2 := (hB2.block b hblt).trans hb1
  have t3 := cell_blk2 hb2 3 _ rfl
  have t4 := cell_blk2 hb2 4 _ rfl
  have z3 := frozen_row hb2 3
  have z4 := frozen_row hb2 4
  have hb3 := set_cells (set_cells hb2 3 (.iface 88 (.pointer (some ⟨rb, 0, none⟩)))) 4 (.slice none 0 0)
  have hR3 : RepAt ((w2.setCell ⟨b, 3, none⟩ (.iface 88 (.pointer (some ⟨rb, 0, none⟩)))).setCell ⟨b, 4, none⟩ (.slice none 0 0)) rb :=
    hR.away (cell_blk2 hb2 0 _ rfl) fun k hk => (Below.heap_setCell _ _ _ _ (fun e => hk e)).trans (Below.heap_setCell _ _ _ _ (fun e => hk e))
  have hB3 : Below b w ((w2.setCell ⟨b, 3, none⟩ (.iface 88 (.pointer (some ⟨rb, 0, none⟩)))).setCell ⟨b, 4, none⟩ (.slice none 0 0)) :=
    ((hBs.trans (hB2.mono (Nat.le_of_lt hblt))).setCell (Nat.le_refl b) _).setCell (Nat.le_refl b) _
  have HALL := Lib.hid (And.intro hb3 (And.intro hR3 hB3))
  clear HB hb1 hb2 hR hB2 hb3 hR3 hB3 hBs
  go_wp2
  go_end0
  obtain ⟨hb3, hR3, hB3⟩ := HALL.out
  refine ⟨rfl, ⟨rb, cell_blk2 hb3 3 _ rfl, hR3, hB3, lt_block hb3⟩, cell_blk2 hb3 0 _ rfl, cell_blk2 hb3 1 _ rfl, frozen_row hb3 0, frozen_row hb3 1⟩
end Go.Proofs.Ythldbcngbkemnaa
