/- The contract of octet.Put: behind the bytes it is handed the lowest size bytes of a number, in new memory. -/
import Derived.Test.YtopmljbemogcoaaDoorSum
import Derived.Test.YtopmljbemogcoaaDoorLaw
namespace Go.Proofs.YtopmljbemogcoaaDoor
open Go.RowKit
open Drawbar

def bv (x : Nat) : Value := .int .u8 (x : Int)
def put (n size : Nat) : List Nat := (List.range size).map fun i => n / 2 ^ (8 * i) % 256

/-- A new row that holds these bytes; what was there stands. -/
def NewBytes (w : World) (l : List Nat) (e : Ending) (w' : World) : Prop :=
  ∃ v, e = .returned v ∧ w'.ownsRow w.heap.size 5 1 v l.length (l.map bv) ∧ Below w.heap.size w w'

theorem info_u8 : (Tryd.prog.info? 5).map (fun i => (i.zero, i.size, i.bytes)) = some (some (.int .u8 0), 1, 1) := by kernel_rfl

theorem apart_any (a : Option Addr) (n cap : Nat) (w : World) (_hn : n ≤ 140737488351232) (_hcap : n ≤ cap) :
    Calls Tryd.prog 32 #[.slice a n cap] w fun e w' => e = .returned (.slice a n n) ∧ w = w' := by
  go_enter Tryd.func32, Tryd.ntmps32
  go_wp2
  go_ret
  exact ⟨rfl, rfl⟩

theorem put_length (n k : Nat) : (put n k).length = k := by simp [put]
theorem put_succ (n k : Nat) : put n (k + 1) = put n k ++ [n / 2 ^ (8 * k) % 256] := by simp [put, List.range_succ]
theorem put_lt (n k : Nat) : ∀ x ∈ put n k, x < 256 := by
  intro x hx; unfold put at hx; obtain ⟨i, _, rfl⟩ := List.mem_map.1 hx; omega
theorem bv_one (l : List Nat) : ∀ u ∈ l.map bv, u.oneCell' = true := by
  intro u hu; obtain ⟨x, _, rfl⟩ := List.mem_map.1 hu; rfl

theorem Rd.at {w : World} {a : Option Addr} {l : List Nat} (h : Rd w a l) : At w a (l.map bv) := by
  intro b hb j u hj
  obtain ⟨hl, hlen, hc⟩ := h
  have hjl : j < l.length := by have := (List.getElem?_eq_some_iff.1 hj).1; simpa using this
  obtain ⟨b', off, ha, hcell⟩ := hc (by omega)
  rw [ha] at hb
  obtain rfl := Option.some.inj hb
  rw [Addr.add_lit, hcell j hjl]
  rw [List.getElem?_map, List.getElem?_eq_getElem hjl] at hj
  rw [← hj, List.getD_eq_getElem?_getD, List.getElem?_eq_getElem hjl]; rfl

theorem Rd.ofNil {w : World} {a : Option Addr} {l : List Nat} (h : Rd w a l) (ha : a = none) : l.length = 0 := by
  obtain ⟨_, _, hc⟩ := h
  rcases Nat.eq_zero_or_pos l.length with h0 | h0
  · exact h0
  · obtain ⟨b, off, e, _⟩ := hc h0
    rw [ha] at e; cases e

theorem Rd.tail {w : World} {a : Option Addr} {l : List Nat} (h : Rd w a l) (base : Nat) : Tail w base 5 1 (.slice a l.length l.length) l.length (l.map bv) :=
  .inr ⟨a, rfl, h.ofNil, by simp, h.at⟩

theorem put_any (l : List Nat) (a : Option Addr) (cap n size : Nat) (w : World) (hr : Rd w a l) (hcap : l.length ≤ cap) (hs1 : 1 ≤ size) (hs8 : size ≤ 8) :
    Calls Tryd.prog 21 #[.slice a l.length cap, .int .u64 n, .int .i64 size] w (NewBytes w (l ++ put n size)) := by
  obtain ⟨i0, hi, hz0, hz1, hz2⟩ := info_parts info_u8
  have htail := hr.tail w.heap.size
  have hlen := hr.2.1
  clear hr
  go_enter Tryd.func21, Tryd.ntmps21
  go_wp2_with (go_at_call 32; refine (apart_any _ _ _ _ hlen hcap).mono ?_; rintro e w' ⟨rfl, rfl⟩)
  go_loopw [0, 12] (fun v i wr => ∃ k : Nat, k ≤ size ∧ i = .int .i64 k ∧ Below w.heap.size w wr ∧
      Tail wr w.heap.size 5 1 v (l.length + k) ((l ++ put n k).map bv) ∧ (0 < k → wr.ownsRow w.heap.size 5 1 v (l.length + k) ((l ++ put n k).map bv))) (fun _ i _ => size - (intOf i).toNat)
  case atStart => exact ⟨0, Nat.zero_le _, rfl, Below.refl _ _, by simpa [put] using htail, fun h => absurd h (Nat.lt_irrefl 0)⟩
  case round =>
    obtain ⟨k, hk, rfl, hbel, ht, hown⟩ := hrel
    by_cases hlt : k < size
    · have hsz := hbel.size
      go_wp2_with (at_builtin; refine wpList_append_tail rfl _ _ 23 rfl w.heap.size 5 i0 (.int .u8 0) 1 1 Tryd.underlying23 hi hz0 hz1 hz2 rfl (by decide) _ _ _ rfl (ht.alloc _) _ 1 1 [_] rfl (by simp) rfl (At.one _ _ _) ?c1 ?c2 ?c3 ?c4 ?_)
      case c1 => intro u hu; simp at hu; subst hu; rfl
      case c2 => unfold maxLen; omega
      case c3 => omega
      case c4 => simp; omega
      intro v' w' h1 h2 h3
      go_wp2
      go_roundw
      case rel =>
        have hX : List.map bv l ++ (List.map bv (put n k) ++ [Value.int IntKind.u8 ((n : Int) / 2 ^ (8 * k) % 256)]) = List.map bv (l ++ put n (k + 1)) := by
          rw [put_succ]; simp [bv]
        rw [hX] at h1 h2
        exact ⟨k + 1, by omega, by go_num, hbel.trans (((Below.refl _ _).alloc hsz _).trans h3), h1, fun _ => h2⟩
      case measure => simp [intOf]; omega
    · obtain rfl : k = size := by omega
      have hown' := hown (by omega)
      clear hown ht
      go_wp2
      go_ret
      exact ⟨_, rfl, by simpa [put_length] using hown', hbel⟩
end Go.Proofs.YtopmljbemogcoaaDoor
