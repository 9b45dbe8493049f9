/- The contract of the document's Lay. -/
import Derived.Test.YtcbgccmoeleanaaDoorRead
import Derived.Test.YtcbgccmoeleanaaDoorRefs
namespace Go.Proofs.YtcbgccmoeleanaaDoor
open Go.RowKit
open Drawbar Drawbar.Sheet

theorem own_below {w w' : World} {B : Nat} {e : TypeId} {size n : Nat} {v : Value} {xs : List Value} (h : w.ownsRow B e size v n xs) (hb : Below w.heap.size w w') : w'.ownsRow B e size v n xs := by
  obtain ⟨hl, h1 | ⟨g, cap, cur, rfl, h1, h2, h3⟩⟩ := h
  · exact ⟨hl, .inl h1⟩
  · exact ⟨hl, .inr ⟨g, cap, cur, rfl, h1, (hb.block g (lt_of_block h2)).trans h2, h3⟩⟩
theorem own_shape {w : World} {B : Nat} {e : TypeId} {size n : Nat} {v : Value} {xs : List Value} (h : w.ownsRow B e size v n xs) : ∃ a c, v = .slice a n c := by
  obtain ⟨hl, ⟨rfl, rfl⟩ | ⟨g, cap, cur, rfl, _⟩⟩ := h
  · exact ⟨none, 0, rfl⟩
  · exact ⟨_, cap, rfl⟩
theorem own_one (w : World) (x : Nat) : (w.alloc (.cells #[.int .u8 x] 5)).ownsRow w.heap.size 5 1 (.slice (some ⟨w.heap.size, 0, none⟩) 1 1) 1 ([x].map bv) :=
  ⟨rfl, .inr ⟨w.heap.size, 1, _, rfl, Nat.le_refl _, heap_alloc_new w _, Nat.le_refl _, by unfold maxLen; omega, rfl, rfl⟩⟩
theorem rd_some {w : World} {a : Option Addr} {l : List Nat} {m c : Nat} (h : Rd w a l) (hl : 0 < l.length) : a = none → m = 0 ∧ c = 0 := fun e => by
  obtain ⟨_, _, e2, _⟩ := h.2.2 hl
  rw [e] at e2; cases e2

def slen : Value → Nat
  | .slice _ n _ => n
  | _ => 0
theorem ref_body (s : Sh) (hk : s.k < 256) (hf : -1 ≤ s.fr ∧ s.fr ≤ 63) : ((((([s.k] ++ put s.ep 6) ++ put s.sq 6) ++ put s.ad.toNat 2) ++ [(s.fr + 1).toNat]) ++ laid1 s.da) ++ List.replicate (73 - s.da.length) 0 = body s := by
  have e1 : put s.k 1 = [s.k] := by show [s.k / 2 ^ (8 * 0) % 256] = [s.k]; congr 1; simp; omega
  have e2 : put (s.fr + 1).toNat 1 = [(s.fr + 1).toNat] := by show [(s.fr + 1).toNat / 2 ^ (8 * 0) % 256] = [(s.fr + 1).toNat]; congr 1; simp; omega
  unfold body head
  rw [e1, e2]

end Go.Proofs.YtcbgccmoeleanaaDoor
