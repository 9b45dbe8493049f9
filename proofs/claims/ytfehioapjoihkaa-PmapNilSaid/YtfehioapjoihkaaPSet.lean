/- The contracts of Set and Drop (package pmap). -/
import Derived.Test.YtfehioapjoihkaaPLeave
namespace Go.Proofs.Ytfehioapjoihkaa
open Go.RowKit
open Drawbar Drawbar.Pm

section
variable {w : World} {g pb cb : Nat} {s : St}
/-- An address that had no page has this one. -/
theorem MapAt.redo (h : MapAt w g pb cb s) (k : Nat) (hk : k < s.addrs) (b p : Nat) (hb : b < s.blocks) (hp : p < 32) (hv : s.at_ k = none) :
    Become w g pb cb (s.put k (some (b, p))) (((w.setCell ⟨pb, k * 2, none⟩ (.int .i64 b)).setCell ⟨pb, k * 2 + 1, none⟩ (.int .i64 p)).setCell ⟨cb, b, none⟩ (.int .i64 ((s.cnt b : Int) + 1))) := by
  refine ⟨?_, (((Only.refl _ _).setCell (.inl rfl) _).setCell (.inl rfl) _).setCell (.inr rfl) _⟩
  refine h.ofRaw rfl rfl (h.wf.put k hk _ fun _ _ h => by cases h; exact ⟨hb, hp⟩) ((Below.heap_setCell _ _ _ _ h.gc).trans ((Below.heap_setCell _ _ _ _ h.gp).trans (Below.heap_setCell _ _ _ _ h.gp))) ((h.raw.setPl k hk b p).setCt b hb ((s.cnt b : Int) + 1)) (fun j _ => ?_) (fun c hc => ?_)
  · by_cases e2 : j = k
    · subst e2; rw [if_pos rfl, put_same]; rfl
    · rw [if_neg e2, put_other _ _ _ _ e2]
  · have := cnt_put s k (some (b, p)) hk c
    rw [hv] at this
    by_cases e2 : c = b
    · subst e2
      rw [if_pos rfl]
      simp [on] at this
      omega
    · rw [if_neg e2]
      simp [on, Ne.symm e2] at this
      omega
variable (h : MapAt w g pb cb s)
include h
theorem drop_in (k : Nat) (hk : k < s.addrs) : Calls Try.prog 13 #[.pointer (some ⟨g, 0, none⟩), .int .i64 k] w fun e w' => e = .returned (.int .i64 0) ∧ Become w g pb cb (s.put k none) w' := by
  have HA := Lib.hid (hasAddr_yes h k hk)
  have HL := Lib.hid (leave_any h k hk)
  clear h
  go_enter Try.func13, Try.ntmps13
  go_wp2_with (first
    | (go_at_call 29; (with_reducible refine HA.out.mono ?_); rintro e w' ⟨rfl, rfl⟩)
    | (go_at_call 30; (with_reducible refine HL.out.mono ?_); rintro e w1 ⟨rfl, hb⟩; have HB := Lib.hid hb; clear hb))
  go_ret
  exact ⟨rfl, HB.out⟩
theorem drop_out (i : Int) (hi : ¬ inR i s.addrs) : Calls Try.prog 13 #[.pointer (some ⟨g, 0, none⟩), .int .i64 i] w fun e w' => e = .returned (.int .i64 1) ∧ w = w' := by
  have HA := Lib.hid (hasAddr_no h i hi)
  clear h hi
  go_enter Try.func13, Try.ntmps13
  go_wp2_with (first
    | (go_at_call 29; (with_reducible refine HA.out.mono ?_); rintro e w' ⟨rfl, rfl⟩))
  go_ret
  exact ⟨rfl, rfl⟩
theorem set_noAddr (i b p : Int) (hi : ¬ inR i s.addrs) : Calls Try.prog 14 #[.pointer (some ⟨g, 0, none⟩), .int .i64 i, .agg #[.int .i64 b, .int .i64 p]] w fun e w' => e = .returned (.int .i64 1) ∧ Below w.heap.size w w' := by
  have HA := Lib.hid (hasAddr_no (h.alloc (.cells #[.int .i64 b, .int .i64 p] 34)) i hi)
  clear h hi
  go_enter Try.func14, Try.ntmps14
  go_wp2_with (first
    | (go_at_call 29; (with_reducible refine HA.out.mono ?_); rintro e w' ⟨rfl, rfl⟩))
  go_ret
  exact ⟨rfl, (Below.refl _ _).alloc (Nat.le_refl _) _⟩
theorem set_noBlock (k : Nat) (b p : Int) (hk : k < s.addrs) (hb : ¬ inR b s.blocks) : Calls Try.prog 14 #[.pointer (some ⟨g, 0, none⟩), .int .i64 k, .agg #[.int .i64 b, .int .i64 p]] w fun e w' => e = .returned (.int .i64 1) ∧ Below w.heap.size w w' := by
  have HA := Lib.hid (hasAddr_yes (h.alloc (.cells #[.int .i64 b, .int .i64 p] 34)) k hk)
  have HB := Lib.hid (hasBlock_no (h.alloc (.cells #[.int .i64 b, .int .i64 p] 34)) b hb)
  clear h hb
  go_enter Try.func14, Try.ntmps14
  go_wp2_with (first
    | (go_at_call 29; (with_reducible refine HA.out.mono ?_); rintro e w' ⟨rfl, rfl⟩)
    | (go_at_call 31; (with_reducible refine HB.out.mono ?_); rintro e w' ⟨rfl, rfl⟩))
  go_ret
  exact ⟨rfl, (Below.refl _ _).alloc (Nat.le_refl _) _⟩
theorem set_noPage (k b : Nat) (p : Int) (hk : k < s.addrs) (hb : b < s.blocks) (hp : ¬ inR p 32) : Calls Try.prog 14 #[.pointer (some ⟨g, 0, none⟩), .int .i64 k, .agg #[.int .i64 b, .int .i64 p]] w fun e w' => e = .returned (.int .i64 1) ∧ Below w.heap.size w w' := by
  have HA := Lib.hid (hasAddr_yes (h.alloc (.cells #[.int .i64 b, .int .i64 p] 34)) k hk)
  have HB := Lib.hid (hasBlock_yes (h.alloc (.cells #[.int .i64 b, .int .i64 p] 34)) b hb)
  have hp2 : p < 0 ∨ 31 < p := by unfold inR at hp; omega
  have HP := Lib.hid hp2
  clear h hb hp hp2
  go_enter Try.func14, Try.ntmps14
  go_wp2_with (first
    | (go_at_call 29; (with_reducible refine HA.out.mono ?_); rintro e w' ⟨rfl, rfl⟩)
    | (go_at_call 31; (with_reducible refine HB.out.mono ?_); rintro e w' ⟨rfl, rfl⟩)
    | (go_at_call 28; (with_reducible refine (within_no _ _ _ _ HP.out).mono ?_); rintro e w' ⟨rfl, rfl⟩))
  go_ret
  exact ⟨rfl, (Below.refl _ _).alloc (Nat.le_refl _) _⟩
set_option maxHeartbeats 2000000 in
theorem set_in (k b p : Nat) (hk : k < s.addrs) (hb : b < s.blocks) (hp : p < 32) : Calls Try.prog 14 #[.pointer (some ⟨g, 0, none⟩), .int .i64 k, .agg #[.int .i64 b, .int .i64 p]] w fun e w' => e = .returned (.int .i64 0) ∧ Become w g pb cb (s.put k (some (b, p))) w' := by
  have hw := h.alloc (.cells #[.int .i64 b, .int .i64 p] 34)
  have HA := Lib.hid (hasAddr_yes hw k hk)
  have HB := Lib.hid (hasBlock_yes hw b hb)
  have HL := Lib.hid (leave_any hw k hk)
  have hpl := h.pbl
  have hcl := h.cbl
  have hp9 : (p : Int) ≤ 31 := by omega
  have hp0 : (0 : Int) ≤ p := by omega
  clear h hw
  go_enter Try.func14, Try.ntmps14
  go_wp2_with (first
    | (go_at_call 29; (with_reducible refine HA.out.mono ?_); rintro e w' ⟨rfl, rfl⟩)
    | (go_at_call 31; (with_reducible refine HB.out.mono ?_); rintro e w' ⟨rfl, rfl⟩)
    | (go_at_call 28; (with_reducible refine (within_yes _ _ _ _ hp0 hp9).mono ?_); rintro e w' ⟨rfl, rfl⟩)
    | fail)
  (with_reducible refine HL.out.mono ?_)
  rintro e w1 ⟨rfl, hb1⟩
  have h1 := hb1.1
  have hbox : w1.heap[w.heap.size]? = (w.alloc (.cells #[.int .i64 b, .int .i64 p] 34)).heap[w.heap.size]? := hb1.2.block _ (by simp) (by unfold Two; omega)
  have x0 : w1.cell? ⟨w.heap.size, 0, none⟩ = some (.int .i64 b) := (World.cell?_of_block (a := ⟨w.heap.size, 0, none⟩) hbox).trans (by simp)
  have x1 : w1.cell? ⟨w.heap.size, 1, none⟩ = some (.int .i64 p) := (World.cell?_of_block (a := ⟨w.heap.size, 1, none⟩) hbox).trans (by simp)
  have hsz := hb1.2.size
  have hfin := h1.redo k hk b p hb hp (put_same s k none)
  rw [put_put] at hfin
  have hfin2 : Become w g pb cb (s.put k (some (b, p))) _ := ⟨hfin.1, (Only.below ((Below.refl _ _).alloc (Nat.le_refl _) _)).trans (hb1.2.trans hfin.2)⟩
  have HF := Lib.hid hfin2.drew.drew
  have c0 := h1.c0
  have c1 := h1.c1
  have pf := h1.raw.pf
  have cf := h1.raw.cf
  have ct := h1.raw.ct b hb
  have a9 := h1.wf.a9
  have b9 := h1.wf.b9
  have hpc := h1.raw.ne
  have hgp := h1.gp
  have hgc := h1.gc
  have hx := cnt_le (s.put k none) b
  obtain ⟨p0, p1⟩ := h1.raw.pl k hk
  replace c0 : w1.cell? ⟨g, 0, none⟩ = some (.slice (some ⟨pb, 0, none⟩) s.addrs s.addrs) := c0
  replace c1 : w1.cell? ⟨g, 1, none⟩ = some (.slice (some ⟨cb, 0, none⟩) s.blocks s.blocks) := c1
  replace hx : (s.put k none).cnt b ≤ s.addrs := hx
  have a8 : s.addrs ≤ 65536 := a9
  have b8 : s.blocks ≤ 64 := b9
  generalize s.addrs = n at *
  generalize s.blocks = m at *
  generalize (s.put k none).cnt b = x at *
  obtain ⟨bx, hbx⟩ : ∃ bx, bx = w.heap.size := ⟨_, rfl⟩
  rw [← hbx] at x0 x1 ⊢
  have hb2 : bx ≠ pb := by omega
  have hb3 : bx ≠ cb := by omega
  clear hfin hfin2 h1 hb1 hbx hbox hsz HA HB HL a9 b9
  go_wp2_with fail
  go_big_region
  go_wp2_with fail
  go_big_region
  go_wp2
  go_ret
  exact ⟨rfl, HF.out⟩
end
end Go.Proofs.Ytfehioapjoihkaa
