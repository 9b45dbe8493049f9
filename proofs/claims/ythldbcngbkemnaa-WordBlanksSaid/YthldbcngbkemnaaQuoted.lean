/- The contracts of (*strings.Replacer).Replace and word.Quote. -/
import Derived.Test.YthldbcngbkemnaaQuote
namespace Go.Proofs.Ythldbcngbkemnaa
open Go.RowKit
open Drawbar Drawbar.Sign Drawbar.Esc

set_option maxRecDepth 100000 in
set_option maxHeartbeats 2000000 in
theorem repl_any (L : List Nat) (b : Nat) (w : World) (hL : ∀ x ∈ L, x < 256) (hn : L.length ≤ 100) (hr : Raw w b) :
    Calls Try.prog 15 #[.pointer (some ⟨b, 0, none⟩), .string (strOf L)] w fun e w' => e = .returned (.string (strOf (esc L))) ∧ Below b w w' := by
  have hr9 := hr
  obtain ⟨g, cap, hb, hne, hc⟩ := hr
  have heg : ∀ W, (callFunc 27 #[.pointer (some ⟨b, 0, none⟩)]).run Try.prog W = .ok (.enter 27 #[.pointer (some ⟨b, 0, none⟩)]) W := fun W => by
    first | kernel_rfl | rfl
  have HD := Lib.hid (do_any b 0 27 #[.pointer (some ⟨b, 0, none⟩)] w (fun w' => ∃ rb, w'.cell? ⟨b, 3, none⟩ = some (.iface 88 (.pointer (some ⟨rb, 0, none⟩))) ∧ RepAt w' rb ∧ Below b w w' ∧ w'.cell? ⟨b, 0, none⟩ = some (.int .u32 0)) (cell_blk2 hb 0 _ rfl) (cell_blk2 hb 1 _ rfl) (frozen_row hb 1) heg ((once_any b w hr9).mono fun e w' ⟨h1, ⟨rb, h2, h3, h4, _⟩, h5, h6, h7, h8⟩ => ⟨h1, ⟨rb, h2, h3, h4, h5⟩, h5, h6, h7, h8⟩))
  have HA := Lib.hid (fun rb W (h : RepAt W rb) => replace_any L rb W hL hn h)
  generalize strOf L = S at *
  clear hr9 hb hc heg hL
  go_enter Try.func15, Try.ntmps15
  go_wp2_with fail
  refine HD.out.mono ?_
  rintro e w1 ⟨rfl, w2, ⟨rb, h3, hR, hB, h0⟩, hw1⟩
  have t3 : w1.cell? ⟨b, 3, none⟩ = some (.iface 88 (.pointer (some ⟨rb, 0, none⟩))) := by
    rw [hw1, World.cell?_setCell_other _ _ _ _ (by intro e; have := congrArg Addr.off e; simp at this), World.cell?_setCell_other _ _ _ _ (by intro e; have := congrArg Addr.off e; simp at this)]
    exact h3
  have hR1 : RepAt w1 rb := hR.away h0 fun k hk => by
    rw [hw1]
    exact (Below.heap_setCell _ _ _ _ (fun e => hk e)).trans (Below.heap_setCell _ _ _ _ (fun e => hk e))
  have hB1 : Below b w w1 := hw1 ▸ ((hB.drew.setCell (Nat.le_refl b) _).setCell (Nat.le_refl b) _)
  have HX := Lib.hid (HA.out rb w1 hR1)
  have hbs : b ≤ w1.heap.size := Nat.le_of_lt (World.block_lt_of_cell? w1 _ t3)
  clear HD HA hR hB h0 h3 hw1 hR1
  go_wp2_with (go_at_call 101; (refine HX.out.mono ?_); rintro e w3 ⟨rfl, hb3⟩)
  go_ret
  exact ⟨rfl, hB1.trans (hb3.mono hbs)⟩

theorem loop_ne (S : ByteArray) : ∀ (k i : Nat) (r : List UInt8), S.size - i = k → r ≠ [] → ByteArray.toList.loop S i r ≠ [] := by
  intro k
  induction k with
  | zero =>
    intro i r hk hr
    rw [ByteArray.toList.loop.eq_1, if_neg (by omega)]
    simpa using hr
  | succ k ih =>
    intro i r hk hr
    rw [ByteArray.toList.loop.eq_1, if_pos (by omega)]
    exact ih (i + 1) _ (by omega) (List.cons_ne_nil _ _)
theorem no_bytes {S : ByteArray} (h : S ≠ ⟨#[]⟩) : ¬ S.toList = [] := fun e => by
  have hs : 0 < S.size := by
    rcases Nat.eq_zero_or_pos S.size with h0 | h0
    · exfalso
      apply h
      obtain ⟨d⟩ := S
      have : d.size = 0 := h0
      rw [Array.eq_empty_of_size_eq_zero this]
    · exact h0
  rw [ByteArray.toList.eq_1, ByteArray.toList.loop.eq_1, if_pos hs] at e
  exact loop_ne S _ 1 _ rfl (List.cons_ne_nil _ _) e
/-- A text as a word. -/
noncomputable def quoteR (L : List Nat) : List Nat := if L ≠ [] ∧ bareR (strOf L) = true then L else 34 :: esc L ++ [34]

set_option maxRecDepth 100000 in
set_option maxHeartbeats 2000000 in
theorem quote_any (L : List Nat) (w : World) (hL : ∀ x ∈ L, x < 256) (hn : L.length ≤ 100) :
    Calls Try.prog 7 #[.string (strOf L)] w fun e w' => e = .returned (.string (strOf (quoteR L))) ∧ Below w.heap.size w w' := by
  have hbare := fun W => bare_any (strOf L) (by rw [size_str]; omega) W
  have HREP := Lib.hid (fun b W (h : Raw W b) => repl_any L b W hL hn h)
  have hcat : strOf (34 :: esc L ++ [34]) = ⟨#[34]⟩ ++ strOf (esc L) ++ ⟨#[34]⟩ := by
    rw [show (34 :: esc L ++ [34]) = ([34] ++ esc L) ++ [34] from rfl, str_app, str_app]; rfl
  have hse : (strOf (esc L)).size ≤ 200 := by
    have := cnt_le L
    rw [size_str, esc_length]; omega
  have hnew : ∀ W0 : World, ∀ i u, (pairs.map Value.string)[i]? = some u → (W0.alloc (.cells #[.string ⟨#[34]⟩, .string ⟨#[92, 34]⟩, .string ⟨#[92]⟩, .string ⟨#[92, 92]⟩, .string ⟨#[10]⟩, .string ⟨#[92, 110]⟩, .string ⟨#[9]⟩, .string ⟨#[92, 116]⟩] 9)).cell? ((⟨W0.heap.size, 0, none⟩ : Addr).add i) = some u := fun W0 i u hi => by
    rw [Addr.add_lit, Nat.zero_add]
    exact cell_blk2 (heap_alloc_new W0 _) i u (by rw [← hi]; simp [pairs])
  have hN : ∀ W0 : World, Calls Try.prog 14 #[.slice (some ⟨W0.heap.size, 0, none⟩) 8 8] (W0.alloc (.cells #[.string ⟨#[34]⟩, .string ⟨#[92, 34]⟩, .string ⟨#[92]⟩, .string ⟨#[92, 92]⟩, .string ⟨#[10]⟩, .string ⟨#[92, 110]⟩, .string ⟨#[9]⟩, .string ⟨#[92, 116]⟩] 9)) fun e w' => ∃ b, e = .returned (.pointer (some ⟨b, 0, none⟩)) ∧ Raw w' b ∧ W0.heap.size ≤ b ∧ Below W0.heap.size W0 w' := fun W0 => by
    have hA : Below W0.heap.size W0 (W0.alloc (.cells #[.string ⟨#[34]⟩, .string ⟨#[92, 34]⟩, .string ⟨#[92]⟩, .string ⟨#[92, 92]⟩, .string ⟨#[10]⟩, .string ⟨#[92, 110]⟩, .string ⟨#[9]⟩, .string ⟨#[92, 116]⟩] 9)) := (Below.refl _ _).alloc (Nat.le_refl _) _
    refine (newrep_any W0.heap.size _ (hnew W0)).mono ?_
    rintro e w' ⟨b, rfl, h1, h2, h3⟩
    exact ⟨b, rfl, h1, Nat.le_trans hA.size h2, hA.trans (h3.mono hA.size)⟩
  unfold quoteR
  have HN := Lib.hid hN
  have HBARE := Lib.hid hbare
  by_cases h0 : L = []
  · rw [if_neg (fun h => h.1 h0), hcat]
    have hS : strOf L = ⟨#[]⟩ := by rw [h0]; rfl
    rw [hS] at HREP HBARE ⊢
    generalize strOf (esc L) = T at *
    clear hbare hL hn hcat hnew hN h0 hS
    go_enter Try.func7, Try.ntmps7
    go_wp2_with (first
      | (go_at_call 14; (with_reducible refine (HN.out _).mono ?_); rintro e w2 ⟨b, rfl, hraw, hbb, hB2⟩)
      | (go_at_call 15; (with_reducible refine (HREP.out _ _ hraw).mono ?_); rintro e w3 ⟨rfl, hB3⟩))
    go_ret
    exact ⟨rfl, hB2.trans (hB3.mono hbb)⟩
  · have hne : strOf L ≠ ⟨#[]⟩ := fun h => h0 (by
      have := congrArg ByteArray.size h
      rw [size_str] at this
      exact List.eq_nil_of_length_eq_zero this)
    obtain ⟨q, hq⟩ : ∃ q, bareR (strOf L) = q := ⟨_, rfl⟩
    rw [hq] at HBARE
    cases q with
    | true =>
      rw [if_pos ⟨h0, hq⟩]
      generalize strOf L = S at *
      have e1 : ¬ S.toList = [] := no_bytes hne
      have e2 : S.toList.isEmpty = false := by simpa using e1
      clear hbare hL hn hcat hnew hN hq HN HREP
      go_enter Try.func7, Try.ntmps7
      go_wp2_with (go_at_call 13; (with_reducible refine (HBARE.out _).mono ?_); rintro e w1 ⟨rfl, hB1⟩)
      go_ret
      exact ⟨rfl, hB1⟩
    | false =>
      rw [if_neg (fun h => by rw [hq] at h; exact absurd h.2 (by decide)), hcat]
      generalize strOf (esc L) = T at *
      generalize strOf L = S at *
      have e1 : ¬ S.toList = [] := no_bytes hne
      have e2 : S.toList.isEmpty = false := by simpa using e1
      clear hbare hL hn hcat hnew hN hq
      go_enter Try.func7, Try.ntmps7
      go_wp2_with (first
        | (go_at_call 13; (with_reducible refine (HBARE.out _).mono ?_); rintro e w1 ⟨rfl, hB1⟩)
        | (go_at_call 14; (with_reducible refine (HN.out _).mono ?_); rintro e w2 ⟨b, rfl, hraw, hbb, hB2⟩)
        | (go_at_call 15; (with_reducible refine (HREP.out _ _ hraw).mono ?_); rintro e w3 ⟨rfl, hB3⟩))
      go_ret
      exact ⟨rfl, hB1.trans ((hB2.trans (hB3.mono hbb)).mono hB1.size)⟩
end Go.Proofs.Ythldbcngbkemnaa
