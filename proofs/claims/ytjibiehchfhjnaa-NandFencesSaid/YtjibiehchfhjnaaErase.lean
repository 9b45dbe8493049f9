/- The contract of (*block).erase. -/
import Derived.Test.YtjibiehchfhjnaaFind
import Derived.Outline
namespace Go.Proofs.Ytjibiehchfhjnaa
open Go.RowKit
open Drawbar Drawbar.Nand

/-- The array has become s'; the other memory stands. -/
def Become (w : World) (F R : Nat → Prop) (g hb : Nat) (bv : Value) (s' : Arr) (w' : World) : Prop := ∃ R' rows' pv', ArrIn w' (ext F w w') R' g hb rows' pv' bv s' ∧ Keep R w w' ∧ ∀ d, R' d → R d ∨ w.heap.size ≤ d

theorem ext_setCell (F : Nat → Prop) (w w' : World) (a : Addr) (v : Value) : ext F w (w'.setCell a v) = ext F w w' := by
  unfold ext; simp [World.setCell]
theorem ext_self (F : Nat → Prop) (w : World) : ext F w w = F := ext_same F rfl
theorem upd_id (f : Nat → Blk) (i : Nat) : upd f i (f i) = f := by
  funext j; unfold upd; split
  · next h => rw [h]
  · rfl

section
variable {w : World} {F R : Nat → Prop} {g hb : Nat} {rows : Nat → Value} {pv : Nat → List Value} {bv : Value} {s : Arr}
theorem row_shape {e : TypeId} {v : Value} {n : Nat} {xs : List Value} (h : w.ownsRow 0 e 1 v n xs) : ∃ a cap, v = .slice a n cap ∧ n ≤ cap ∧ (∀ ad, a = some ad → ad = ⟨ad.block, 0, none⟩) ∧ (a = none → cap = 0) := by
  rcases h.2 with ⟨rfl, rfl⟩ | ⟨g, cap, cur, rfl, _, _, hn, _⟩
  · exact ⟨none, 0, rfl, Nat.le_refl _, (fun _ h => by cases h), fun _ => rfl⟩
  · exact ⟨_, cap, rfl, hn, (fun _ h => by cases h; rfl), fun h => by cases h⟩

/-- A block's cells. -/
theorem ArrIn.blk (h : ArrIn w F R g hb rows pv bv s) {i : Nat} (hi : i < s.n) : ∃ a cap, rows i = .slice a (s.b i).pages.length cap ∧ (s.b i).pages.length ≤ cap ∧ w.cell? ⟨hb, i * 6, none⟩ = some (.slice a (s.b i).pages.length cap) ∧
    w.cell? ⟨hb, i * 6 + 1, none⟩ = some (.bool (s.b i).torn) ∧ w.cell? ⟨hb, i * 6 + 2, none⟩ = some (.int .i64 (s.b i).erases) ∧ w.cell? ⟨hb, i * 6 + 3, none⟩ = some (.int .i64 (s.b i).doom) ∧
    w.cell? ⟨hb, i * 6 + 4, none⟩ = some (.bool (s.b i).fails) ∧ w.cell? ⟨hb, i * 6 + 5, none⟩ = some (.bool (s.b i).failed) := by
  obtain ⟨a, cap, e, hc, _⟩ := row_shape (h.row i hi)
  refine ⟨a, cap, e, hc, ?_, h.bc i hi 1 _ rfl, h.bc i hi 2 _ rfl, h.bc i hi 3 _ rfl, h.bc i hi 4 _ rfl, h.bc i hi 5 _ rfl⟩
  have := h.bc i hi 0 _ rfl
  rw [Nat.add_zero, e] at this
  exact this

theorem Become.same (h : ArrIn w F R g hb rows pv bv s) : Become w F R g hb bv s w := ⟨R, rows, pv, by rw [ext_self]; exact h, Keep.refl _ _, fun _ => .inl⟩

set_option maxHeartbeats 400000 in
theorem erase_any (h : ArrIn w F R g hb rows pv bv s) (i : Nat) (hi : i < s.n) (cut : Int) :
    Calls Try.prog 38 #[.pointer (some ⟨hb, i * 6, none⟩), .int .i64 cut] w fun e w' => e = .returned (.tuple #[]) ∧ Become w F R g hb bv { s with b := upd s.b i ((s.b i).erase cut) } w' := by
  obtain ⟨a, cap, hrow, hcap, c0, c1, c2, c3, c4, c5⟩ := h.blk hi
  have hbf := h.bf
  unfold Blk.erase
  by_cases h0 : cut ≤ 0
  · rw [if_pos h0, upd_id]
    have hfin := Lib.hid (Become.same h)
    clear h
    go_enter Try.func38, Try.ntmps38
    go_wp2
    go_end0
    exact ⟨rfl, hfin.out⟩
  · rw [if_neg h0]
    by_cases h1 : cut < 96 ∨ (s.b i).fails = true
    · rw [if_pos h1]
      have hfin : Become w F R g hb bv { s with b := upd s.b i { s.b i with torn := decide (0 < (s.b i).pages.length) } } (w.setCell ⟨hb, i * 6 + 1, none⟩ (.bool (decide (0 < (s.b i).pages.length)))) :=
        ⟨R, rows, pv, by rw [ext_setCell, ext_self]; exact h.setB i 1 _ { s.b i with torn := decide (0 < (s.b i).pages.length) } hi (by omega) rfl rfl (h.wf.doom i hi), (Keep.refl _ _).setCell h.rhb _, fun _ => .inl⟩
      obtain ⟨s', hs'⟩ : ∃ s', s' = { s with b := upd s.b i { s.b i with torn := decide (0 < (s.b i).pages.length) } } := ⟨_, rfl⟩
      rw [← hs'] at hfin ⊢
      clear hs'
      have HF := Lib.hid hfin
      have hnx := next_any hb (i * 6) _ a (s.b i).pages.length cap w c0 rfl
      clear h hfin
      generalize (s.b i).pages.length = n at *
      generalize hfl : (s.b i).fails = fl at *
      by_cases h2 : cut < 96
      · go_enter Try.func38, Try.ntmps38
        go_wp2_with (go_at_call 33; refine hnx.mono ?_; rintro e w' ⟨rfl, rfl⟩)
        go_end0
        exact ⟨rfl, HF.out⟩
      · have h3 : fl = true := by simpa [h2] using h1
        subst h3
        clear h1
        go_enter Try.func38, Try.ntmps38
        go_wp2_with (go_at_call 33; refine hnx.mono ?_; rintro e w' ⟨rfl, rfl⟩)
        go_end0
        exact ⟨rfl, HF.out⟩
    · rw [if_neg h1]
      have h2 : ¬ cut < 96 := fun e => h1 (.inl e)
      have h3 : (s.b i).fails = false := by simpa using fun e => h1 (.inr e)
      clear h1
      have hA := h.setRow i hi (w2 := w) (grownBy_refl _ _) (.slice none 0 0) [] { s.b i with pages := [] } (World.ownsRow_nil _ _ _ _) (fun d hd => by cases hd) (fun j l hl => by simp at hl) rfl (Nat.zero_le _)
      rw [ext_self] at hA
      have hA2 := hA.setB i 1 (.bool false) { s.b i with pages := [], torn := false } hi (by omega) (by simp [bcells]) (by simp) (h.wf.doom i hi)
      have hA3 := hA2.setB i 2 (.int .i64 (wrap64 ((s.b i).erases + 1))) { s.b i with pages := [], torn := false, erases := wrap64 ((s.b i).erases + 1) } hi (by omega) (by simp [bcells]) (by simp) (h.wf.doom i hi)
      simp only [upd_upd] at hA3
      have hfin : Become w F R g hb bv { s with b := upd s.b i { s.b i with pages := [], torn := false, erases := wrap64 ((s.b i).erases + 1) } } _ :=
        ⟨_, _, _, by rw [ext_setCell, ext_setCell, ext_setCell, ext_self]; exact hA3, ((((Keep.refl R w).setCell h.rhb _).setCell h.rhb _).setCell h.rhb _), (by exact fun _ => Or.imp id And.left)⟩
      obtain ⟨s', hs'⟩ : ∃ s', s' = { s with b := upd s.b i { s.b i with pages := [], torn := false, erases := wrap64 ((s.b i).erases + 1) } } := ⟨_, rfl⟩
      rw [← hs'] at hfin ⊢
      clear hs'
      have HF := Lib.hid hfin
      clear h hfin hA hA2 hA3
      generalize (s.b i).fails = fl at *
      subst h3
      generalize (s.b i).erases = er at *
      go_enter Try.func38, Try.ntmps38
      go_wp2
      go_end0
      exact ⟨rfl, HF.out⟩
end
end Go.Proofs.Ytjibiehchfhjnaa
