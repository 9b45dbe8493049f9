/- The walk of WordJoins. -/
import Derived.Test.YthaicfnlchkcoaaJoins
import Derived.Test.YthaicfnlchkcoaaLawC
namespace Go.Proofs.Ythaicfnlchkcoaa
open Go.RowKit
open Drawbar Drawbar.Line Drawbar.Sign

/-- A list of strings that was told: where it lies, and that nothing is nothing. -/
def Lst (w : World) (a : Option Addr) (c : Nat) (l : List ByteArray) : Prop := (a = none → l.length = 0 ∧ c = 0) ∧ RdS w a l
theorem Lst.below {w w' : World} {a : Option Addr} {c : Nat} {l : List ByteArray} (h : Lst w a c l) (hb : Below w.heap.size w w') : Lst w' a c l := ⟨h.1, h.2.below hb⟩
theorem Lst.nil (w : World) : Lst w none 0 [] := ⟨fun _ => ⟨rfl, rfl⟩, RdS.nil _ _⟩
theorem lst_of_own {w : World} {base : Nat} {a : Option Addr} {cap : Nat} {l : List ByteArray} (h : w.ownsRow base 9 1 (.slice a l.length cap) l.length (l.map Value.string)) : Lst w a cap l := by
  refine ⟨fun e => ?_, rdS_of_own h⟩
  subst e
  rcases h.2 with ⟨e, h0⟩ | ⟨g, cap', cur, e, _⟩
  · simp only [Value.slice.injEq] at e; exact ⟨h0, e.2.2⟩
  · cases e
theorem RdS.at {w : World} {a : Option Addr} {l : List ByteArray} (h : RdS w a l) : At w a (l.map Value.string) := by
  intro b hb j u hj
  have hlt : j < l.length := by
    rcases Nat.lt_or_ge j l.length with h1 | h1
    · exact h1
    · rw [List.getElem?_eq_none (by simpa using h1)] at hj
      cases hj
  obtain ⟨g, off, e, hc⟩ := h (by omega)
  rw [hb] at e
  cases e
  rw [Addr.add_lit]
  rw [hc j hlt, ← hj, List.getElem?_map, List.getElem?_eq_getElem hlt, List.getD_eq_getElem?_getD, List.getElem?_eq_getElem hlt]
  rfl
theorem told_lst {W : World} {r : List ByteArray × Nat × Nat} {e : Ending} {W' : World} (h : Told W r e W') : ∃ a c, e = .returned (.tuple #[.slice a r.1.length c, .int .i64 (r.2.1 : Nat), .int .i64 (r.2.2 : Nat)]) ∧ Lst W' a c r.1 ∧ Below W.heap.size W W' := by
  obtain ⟨a, c, rfl, hown, hb⟩ := h
  exact ⟨a, c, rfl, lst_of_own hown, hb⟩
theorem one_strs (l : List ByteArray) : ∀ u ∈ l.map Value.string, u.oneCell' = true := by
  intro u hu
  obtain ⟨x, _, rfl⟩ := List.mem_map.1 hu
  rfl
theorem shape_str {w : World} {base : Nat} {v : Value} {n : Nat} {l : List ByteArray} (h : w.ownsRow base 9 1 v n (l.map Value.string)) : ∃ a c, v = .slice a n c := by
  rcases h.2 with ⟨rfl, rfl⟩ | ⟨g, cap', cur, rfl, _⟩
  · exact ⟨_, _, rfl⟩
  · exact ⟨_, _, rfl⟩

set_option maxHeartbeats 1000000 in
theorem joins_small (l m k : List ByteArray) (pa ea at' f place g : Nat) (a b : ByteArray) (ha : a.size + b.size ≤ 399) (hl : l.length ≤ 401) (_hm : m.length ≤ 401) (hk : k.length ≤ 1000) (he : at' ≤ 400)
    (hA : ∀ w, Calls Try.prog 12 #[.string a] w (Told w (l, pa, ea)))
    (hB : ∀ w, Calls Try.prog 12 #[.string b] w (Told w (m, at', f)))
    (hC : ∀ w, Calls Try.prog 12 #[.string (a ++ ⟨#[32]⟩ ++ b)] w (Told w (k, place, g)))
    (h1 : ea = 0 → f ≠ 0 → g = f ∧ place = a.size + 1 + at') (h2 : ea = 0 → f = 0 → g = 0 ∧ k = l ++ m) (W : World) :
    Calls Try.prog 6 #[.string a, .string b] W (Yes W) := by
  have HA := Lib.hid awake_any
  have hi0 : IntKind.i64.wrap ((a.size : Int) + (b.size : Int)) = (a.size : Int) + (b.size : Int) := IntWalk.i64_in _ (by omega)
  have hi1 : decide ((399 : Int) < (a.size : Int) + (b.size : Int)) = false := by simp; omega
  have hsp : ({ data := #[32] } : ByteArray).size = 1 := rfl
  have hcc : ¬ 9223372036854775807 < a.size + ({ data := #[32] } : ByteArray).size := by rw [hsp]; omega
  have hcc2 : ¬ 9223372036854775807 < a.size + 1 := by omega
  have hcc3 : ¬ 9223372036854775807 < a.size + 1 + b.size := by omega
  have hcc4 : ¬ 9223372036854775807 < (a ++ { data := #[32] }).size + b.size := by rw [size_app, hsp]; omega
  have HX := Lib.hid hA
  have HY := Lib.hid hB
  have HZ := Lib.hid hC
  clear hA hB hC
  by_cases hea : ea = 0
  · subst hea
    by_cases hf : f = 0
    · subst hf
      obtain ⟨rfl, hkl⟩ := h2 rfl rfl
      have hkn : l.length + m.length = k.length := by rw [hkl, List.length_append]
      have hkm : l.map Value.string ++ m.map Value.string = k.map Value.string := by rw [hkl, List.map_append]
      obtain ⟨i0, hj0, hz0, hz1, hz2⟩ := info_parts info_str
      have HKM := Lib.hid hkm
      have HKN := Lib.hid hkn
      have HS := Lib.hid (fun a1 a2 c1 c2 w h1 h2 => (same_any k k a1 a2 c1 c2 w h1 h2 (by omega) (by omega)).mono (fun e w' (h : _ ∧ _) => show e = .returned (.bool true) ∧ Below w.heap.size w w' from ⟨by rw [h.1]; simp, h.2⟩))
      have hlm : l.length + m.length ≤ 1000 := by omega
      clear h1 h2 ha hk he hkl hkm hkn
      go_enter Try.func6, Try.ntmps6
      go_wp2_with (first | (go_at_call 11; refine (HA.out W).mono ?_; rintro e w2 ⟨rfl, hb⟩) | (go_at_call 12; with_reducible refine (HX.out w2).mono ?_; intro e w3 ht; obtain ⟨a1, c1, rfl, hl1, hb3⟩ := told_lst ht; clear ht) | (go_at_call 12; with_reducible refine (HY.out w3).mono ?_; intro e w4 ht; obtain ⟨a2, c2, rfl, hl2, hb4⟩ := told_lst ht; clear ht) | (go_at_call 12; with_reducible refine (HZ.out w4).mono ?_; intro e w5 ht; obtain ⟨a3, c3, rfl, hl3, hb5⟩ := told_lst ht; clear ht; have hl1' := (hl1.below hb4).below hb5; have hl2' := hl2.below hb5; clear hl1 hl2) | (at_builtin; refine wpList_append_ownz rfl (.tmp 63) (.tmp 64) 23 rfl w5.heap.size 9 i0 (.string ⟨#[]⟩) 1 16 Try.underlying23 hj0 hz0 hz1 hz2 rfl (by decide) _ 0 [] rfl (World.ownsRow_nil w5 _ _ 1) a1 l.length c1 (l.map Value.string) rfl hl1'.1 (by simp) hl1'.2.at (one_strs l) (by unfold maxLen; omega) (by omega) (Nat.le_refl _) ?_; intro v6 w6 hown6 hb6; rw [Nat.zero_add, List.nil_append] at hown6; obtain ⟨a6, c6, rfl⟩ := shape_str hown6) | (at_builtin; refine wpList_append_ownz rfl (.tmp 66) (.tmp 67) 23 rfl w5.heap.size 9 i0 (.string ⟨#[]⟩) 1 16 Try.underlying23 hj0 hz0 hz1 hz2 rfl (by decide) _ l.length (l.map Value.string) rfl hown6 a2 m.length c2 (m.map Value.string) rfl hl2'.1 (by simp) (hl2'.below hb6).2.at (one_strs m) (by unfold maxLen; omega) (by omega) hb6.size ?_; intro v7 w7 hown7 hb7; rw [HKM.out, HKN.out] at hown7; obtain ⟨a7, c7, rfl⟩ := shape_str hown7) | (go_at_call 14; refine (HS.out a3 a7 c3 c7 w7 (hl3.below (hb6.trans hb7)).2 (rdS_of_own hown7)).mono ?_; rintro e w8 ⟨rfl, hb8⟩))
      go_ret
      exact ⟨rfl, below_step (below_step (below4 hb hb3 hb4 hb5) (hb6.trans hb7)) hb8⟩
    · obtain ⟨rfl, rfl⟩ := h1 rfl hf
      clear h1 h2
      have i1 : ((g : Int) == 0) = false := by simp; omega
      have i2 : IntKind.i64.wrap ((a.size : Int) + 1) = (a.size : Int) + 1 := IntWalk.i64_in _ (by omega)
      have i3 : IntKind.i64.wrap ((a.size : Int) + 1 + (at' : Int)) = (a.size : Int) + 1 + (at' : Int) := IntWalk.i64_in _ (by omega)
      clear ha hl hk hf
      go_enter Try.func6, Try.ntmps6
      go_wp2_with (first | (go_at_call 11; refine (HA.out W).mono ?_; rintro e w2 ⟨rfl, hb⟩) | (go_at_call 12; with_reducible refine (HX.out w2).mono ?_; intro e w3 ht; obtain ⟨a1, c1, rfl, hl1, hb3⟩ := told_lst ht; clear ht) | (go_at_call 12; with_reducible refine (HY.out w3).mono ?_; intro e w4 ht; obtain ⟨a2, c2, rfl, hl2, hb4⟩ := told_lst ht; clear ht) | (go_at_call 12; with_reducible refine (HZ.out w4).mono ?_; intro e w5 ht; obtain ⟨a3, c3, rfl, hl3, hb5⟩ := told_lst ht; clear ht))
      go_ret
      exact ⟨by simp, below4 hb hb3 hb4 hb5⟩
  · have i1 : ((ea : Int) == 0) = false := by simp; omega
    clear h1 h2 ha hl hk hea
    go_enter Try.func6, Try.ntmps6
    go_wp2_with (first | (go_at_call 11; refine (HA.out W).mono ?_; rintro e w2 ⟨rfl, hb⟩) | (go_at_call 12; with_reducible refine (HX.out w2).mono ?_; intro e w3 ht; obtain ⟨a1, c1, rfl, hl1, hb3⟩ := told_lst ht; clear ht) | (go_at_call 12; with_reducible refine (HY.out w3).mono ?_; intro e w4 ht; obtain ⟨a2, c2, rfl, hl2, hb4⟩ := told_lst ht; clear ht) | (go_at_call 12; with_reducible refine (HZ.out w4).mono ?_; intro e w5 ht; obtain ⟨a3, c3, rfl, hl3, hb5⟩ := told_lst ht; clear ht))
    go_ret
    exact ⟨rfl, below4 hb hb3 hb4 hb5⟩

theorem wordsR_le (s : ByteArray) : (wordsR s).1.length ≤ 401 ∧ (wordsR s).2.1 ≤ 400 ∧ (wordsR s).2.2 < 1000 := by
  by_cases h : 400 < s.size
  · unfold wordsR
    rw [if_pos h]
    simp
  · rw [wordsR_fin s (by omega)]
    have h1 := eachR_words s s.size 0 ⟨[], [], 0⟩ (Nat.zero_le _) (Nat.zero_le _)
    generalize eachR Ln.take s s.size 0 ⟨[], [], 0⟩ = R at *
    have h2 := end_err R.2
    have h3 := part_words R.2
    unfold fin
    split
    · simp; omega
    · split
      · simp; omega
      · rename_i c
        rw [(end_ok R.2 (by simpa using c)).2]
        simp
        omega

theorem joins_any (a b : ByteArray) (ha : a.size ≤ 140737488351232) (hb : b.size ≤ 140737488351232) (W : World) : Calls Try.prog 6 #[.string a, .string b] W (Yes W) := by
  by_cases h : a.size + b.size ≤ 399
  · have hj := fun he => words_join a b h he
    have h1 := wordsR_le a
    have h2 := wordsR_le b
    have h3 := wordsR_le (a ++ ⟨#[32]⟩ ++ b)
    have hA : ∀ w, Calls Try.prog 12 #[.string a] w (Told w (wordsR a)) := fun w => words_any a w
    have hB : ∀ w, Calls Try.prog 12 #[.string b] w (Told w (wordsR b)) := fun w => words_any b w
    have hC : ∀ w, Calls Try.prog 12 #[.string (a ++ ⟨#[32]⟩ ++ b)] w (Told w (wordsR (a ++ ⟨#[32]⟩ ++ b))) := fun w => words_any _ w
    generalize wordsR a = A at *
    generalize wordsR b = B at *
    generalize wordsR (a ++ ⟨#[32]⟩ ++ b) = C at *
    obtain ⟨l, pa, ea⟩ := A
    obtain ⟨m, at', f⟩ := B
    obtain ⟨k, place, g⟩ := C
    dsimp only at *
    refine joins_small l m k pa ea at' f place g a b h (by omega) (by omega) (by omega) (by omega) hA hB hC (fun he hf => ?_) (fun he hf => ?_) W
    · have := hj he
      rw [if_pos hf] at this
      cases this
      exact ⟨rfl, rfl⟩
    · have := hj he
      rw [if_neg (by simpa using hf)] at this
      cases this
      exact ⟨rfl, rfl⟩
  · have HA := Lib.hid awake_any
    have hi0 : IntKind.i64.wrap ((a.size : Int) + (b.size : Int)) = (a.size : Int) + (b.size : Int) := IntWalk.i64_in _ (by omega)
    have hi1 : decide ((399 : Int) < (a.size : Int) + (b.size : Int)) = true := by simp; omega
    clear h
    go_enter Try.func6, Try.ntmps6
    go_wp2_with (first | (go_at_call 11; refine (HA.out W).mono ?_; rintro e w2 ⟨rfl, hb⟩) | (go_at_call 11; refine (HA.out w2).mono ?_; rintro e w3 ⟨rfl, hb3⟩))
    go_ret
    exact ⟨rfl, below_step hb hb3⟩
end Go.Proofs.Ythaicfnlchkcoaa
