/- The walk of WordJoins. -/
import Derived.Test.YthldbcngbkemnaaJoins
import Derived.Test.YthldbcngbkemnaaLawC
namespace Go.Proofs.Ythldbcngbkemnaa
open Go.RowKit
open Drawbar Drawbar.Line Drawbar.Sign

/-- A list of strings that was told: where it lies, and that nothing is nothing. -/
def Lst (w : World) (a : Option Addr) (c : Nat) (l : List ByteArray) : Prop := (a = none → l.length = 0 ∧ c = 0) ∧ RdS w a l
theorem Lst.below {w w' : World} {a : Option Addr} {c : Nat} {l : List ByteArray} (h : Lst w a c l) (hb : Below w.heap.size w w') : Lst w' a c l := ⟨h.1, h.2.below hb⟩
theorem Lst.nil (w : World) : Lst w none 0 [] := ⟨fun _ => ⟨rfl, rfl⟩, RdS.nil _ _⟩
theorem lst_of_own {w : World} {base : Nat} {a : Option Addr} {cap : Nat} {l : List ByteArray} (h : w.ownsRow base 9 1 (.slice a l.length cap) l.length (l.map Value.string)) : Lst w a cap l := by
  refine ⟨fun e => ?_, rdS_of_own h⟩
  subst e
  rcases h.2 with ⟨e, h0⟩ | ⟨g, cap', cur, e, _⟩
  · simp only [Value.slice.injEq] at e; exact ⟨h0, e.2.2⟩
  · cases e
theorem RdS.at {w : World} {a : Option Addr} {l : List ByteArray} (h : RdS w a l) : At w a (l.map Value.string) := by
  intro b hb j u hj
  have hlt : j < l.length := by
    rcases Nat.lt_or_ge j l.length with h1 | h1
    · exact h1
    · rw [List.getElem?_eq_none (by simpa using h1)] at hj
      cases hj
  obtain ⟨g, off, e, hc⟩ := h (by omega)
  rw [hb] at e
  cases e
  rw [Addr.add_lit]
  rw [hc j hlt, ← hj, List.getElem?_map, List.getElem?_eq_getElem hlt, List.getD_eq_getElem?_getD, List.getElem?_eq_getElem hlt]
  rfl
theorem told_lst {W : World} {r : List ByteArray × Nat × Nat} {e : Ending} {W' : World} (h : Told W r e W') : ∃ a c, e = .returned (.tuple #[.slice a r.1.length c, .int .i64 (r.2.1 : Nat), .int .i64 (r.2.2 : Nat)]) ∧ Lst W' a c r.1 ∧ Below W.heap.size W W' := by
  obtain ⟨a, c, rfl, hown, hb⟩ := h
  exact ⟨a, c, rfl, lst_of_own hown, hb⟩
theorem one_strs (l : List ByteArray) : ∀ u ∈ l.map Value.string, u.oneCell' = true := by
  intro u hu
  obtain ⟨x, _, rfl⟩ := List.mem_map.1 hu
  rfl
theorem shape_str {w : World} {base : Nat} {v : Value} {n : Nat} {l : List ByteArray} (h : w.ownsRow base 9 1 v n (l.map Value.string)) : ∃ a c, v = .slice a n c := by
  rcases h.2 with ⟨rfl, rfl⟩ | ⟨g, cap', cur, rfl, _⟩
  · exact ⟨_, _, rfl⟩
  · exact ⟨_, _, rfl⟩

theorem wordsR_le (s : ByteArray) : (wordsR s).1.length ≤ 401 ∧ (wordsR s).2.1 ≤ 400 ∧ (wordsR s).2.2 < 1000 := by
  by_cases h : 400 < s.size
  · unfold wordsR
    rw [if_pos h]
    simp
  · rw [wordsR_fin s (by omega)]
    have h1 := eachR_words s s.size 0 ⟨[], [], 0⟩ (Nat.zero_le _) (Nat.zero_le _)
    generalize eachR Ln.take s s.size 0 ⟨[], [], 0⟩ = R at *
    have h2 := end_err R.2
    have h3 := part_words R.2
    unfold fin
    split
    · simp; omega
    · split
      · simp; omega
      · rename_i c
        rw [(end_ok R.2 (by simpa using c)).2]
        simp
        omega

end Go.Proofs.Ythldbcngbkemnaa
