/- The contracts of bytes.Clone and Reader.Bytes once more: what they hand back lies in new memory, and is nil only without room. -/
import Derived.Test.YtopmljbemogcoaaDoorEnds
namespace Go.Proofs.YtopmljbemogcoaaDoor
open Go.RowKit
open Drawbar

theorem own_nil {w : World} {base : Nat} {e : TypeId} {size : Nat} {a : Option Addr} {n c m : Nat} {xs : List Value} (h : w.ownsRow base e size (.slice a n c) m xs) (ha : a = none) : c = 0 := by
  rcases h.2 with ⟨he, _⟩ | ⟨g, cap, cur, he, _⟩
  · injection he
  · injection he with h1
    rw [ha] at h1
    cases h1

def NewNn (w : World) (l : List Nat) (e : Ending) (w' : World) : Prop :=
  ∃ a cap, e = .returned (.slice a l.length cap) ∧ l.length ≤ cap ∧ Rd w' a l ∧ Below w.heap.size w w' ∧ (0 < l.length → ∀ k, a = some k → w.heap.size ≤ k.block) ∧ (a = none → cap = 0)

theorem clone_nn (l : List Nat) (a : Option Addr) (cap : Nat) (w : World) (hr : Rd w a l) (hnil : a = none → cap = 0) : Calls Tryd.prog 35 #[.slice a l.length cap] w (NewNn w l) := by
  cases a with
  | none =>
    obtain rfl : l = [] := List.eq_nil_of_length_eq_zero (hr.ofNil rfl)
    rw [hnil rfl]
    exact (clone_nil w).mono fun e w' ⟨he, hw⟩ => ⟨none, 0, he, by simp, hw ▸ rd_nil w, hw ▸ Below.refl _ _, fun h => absurd h (by simp), fun _ => rfl⟩
  | some ad =>
    obtain ⟨i0, hi, hz0, hz1, hz2⟩ := info_parts info_u8
    have he := Lib.run_eql_slice_nil (P := Tryd.prog) w 23 5 (some ad) l.length cap 0 0 Tryd.underlying23
    have hat := hr.at
    have hlen := hr.2.1
    have hll := hr.1
    clear hr hnil
    go_enter Tryd.func35, Tryd.ntmps35
    go_wp2_with (at_builtin; refine wpList_append_tail rfl _ _ 23 rfl w.heap.size 5 i0 (.int .u8 0) 1 1 Tryd.underlying23 hi hz0 hz1 hz2 rfl (by decide) _ 0 [] rfl (.inr ⟨_, rfl, by simp, by simp, fun _ _ _ _ h => by simp at h⟩) (some ad) l.length cap (l.map bv) rfl (by simp) (by simp) (hat.alloc _) (bv_one l) ?c2 ?c3 ?c4 ?_)
    case c2 => unfold maxLen; omega
    case c3 => omega
    case c4 => simp
    intro v' w' h1 h2 h3
    have hB : Below w.heap.size w w' := ((Below.refl _ _).alloc (Nat.le_refl _) _).trans h3
    have hv : ∃ a cap, v' = .slice a l.length cap ∧ l.length ≤ cap ∧ Rd w' a l ∧ (0 < l.length → ∀ k, a = some k → w.heap.size ≤ k.block) ∧ (a = none → cap = 0) := by
      rcases Nat.eq_zero_or_pos l.length with h0 | h0
      · obtain rfl : l = [] := List.eq_nil_of_length_eq_zero h0
        rcases h1 with h1 | ⟨ao, e, _⟩
        · obtain ⟨a, c, rfl, hc, hrd, _⟩ := rd_of_own (l := []) (by simpa using h1) (by simp) (by simp)
          exact ⟨a, c, rfl, hc, hrd, fun h => absurd h (by simp), own_nil h1⟩
        · exact ⟨ao, 0, by simpa using e, by simp, rd_empty _ _, fun h => absurd h (by simp), fun _ => rfl⟩
      · have h2' := h2 h0
        obtain ⟨a, c, rfl, hc, hrd, _, hfr⟩ := rd_of_own h2' (by simpa using hll) (by simpa using hlen)
        exact ⟨a, c, by simp, by simpa using hc, by simpa using hrd, fun _ k hk => (hfr k hk).1, own_nil h2'⟩
    obtain ⟨a', c', rfl, hc', hrd', hfr', hnn'⟩ := hv
    clear h1 h2 h3
    go_wp2
    go_ret
    exact ⟨a', c', rfl, hc', hrd', hB, hfr', hnn'⟩


def BtsNn (w : World) (g : Nat) (r : List Nat × List Nat × Bool) (e : Ending) (w' : World) : Prop :=
  ∃ a cap, e = .returned (.slice a r.1.length cap) ∧ r.1.length ≤ cap ∧ Rd w' a r.1 ∧ Rdr w' g r.2.1 r.2.2 ∧ w.grownBy w' (some g) ∧ (0 < r.1.length → ∀ k, a = some k → w.heap.size ≤ k.block) ∧ (a = none → cap = 0)

theorem rbytes_nn (g : Nat) (l : List Nat) (bad : Bool) (most : Int) (w : World) (h : Rdr w g l bad) :
    Calls Tryd.prog 38 #[.pointer (some ⟨g, 0, none⟩), .int .i64 most] w (BtsNn w g (bts l bad most)) := by
  have hnum := num_any g l bad 2 65535 w h
  have hll : ∀ x ∈ l, x < 256 := by obtain ⟨_, _, _, _, hrd, _⟩ := h; exact hrd.1
  have hlt := nm_lt l bad 2 65535 hll (by omega)
  unfold bts
  clear hll h
  generalize nm l bad 2 65535 = r at hnum hlt
  obtain ⟨x, l1, b1⟩ := r
  dsimp only at hnum hlt ⊢
  have hnext := fun w1 hrr => next_any g l1 b1 x most w1 hrr
  generalize nx l1 b1 x most = r2 at hnext
  obtain ⟨q, l2, b2⟩ := r2
  have HN := Lib.hid hnum
  have HY := Lib.hid hnext
  clear hnum hnext
  go_enter Tryd.func38, Tryd.ntmps38
  go_wp2_with fail
  refine HN.out.mono ?_
  rintro e w1 ⟨rfl, hrr, hgr⟩
  dsimp only at hrr ⊢
  have HX := Lib.hid (HY.out w1 hrr)
  clear HN HY hrr
  go_wp2_with fail
  refine HX.out.mono ?_
  rintro e w2 ⟨a, cap, rfl, hcap, hnil, hrd, ha, hrr, hgr2⟩
  dsimp only at hcap hrd hrr ⊢
  have hcl := clone_nn q a cap w2 hrd hnil
  have HC := Lib.hid hcl
  clear HX hcl hrd ha
  go_wp2_with fail
  refine HC.out.mono ?_
  rintro e w3 ⟨a3, c3, rfl, hc3, hrd3, hb3, hfr3, hnn3⟩
  have hfin : BtsNn w g (q, l2, b2) (.returned (.slice a3 q.length c3)) w3 :=
    ⟨a3, c3, rfl, hc3, hrd3, hrr.below hb3, grownBy_trans hgr (grownBy_trans hgr2 (Below.grownBy hb3 _)), fun h0 k hk => Nat.le_trans (Nat.le_trans hgr.size hgr2.size) (hfr3 h0 k hk), hnn3⟩
  clear HC hrr hgr hgr2 hb3 hrd3 hfr3
  have HF := Lib.hid hfin
  clear hfin
  go_wp2
  go_ret
  exact HF.out

end Go.Proofs.YtopmljbemogcoaaDoor
