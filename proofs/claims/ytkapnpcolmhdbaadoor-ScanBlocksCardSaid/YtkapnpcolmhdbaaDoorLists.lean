/- The contract of octet.Bytes, and the walk of the law OctetLists. -/
import Derived.Test.YtkapnpcolmhdbaaDoorRefs
import Derived.Test.YtkapnpcolmhdbaaDoorLawB
import Derived.Deep.RegionHeld
namespace Go.Proofs.YtkapnpcolmhdbaaDoor
open Go.RowKit
open Drawbar

/-- Bytes, as octet.Bytes lays them. -/
def laid1 (m : List Nat) : List Nat := put m.length 2 ++ m
set_option maxRecDepth 100000 in
theorem laid1_length (m : List Nat) : (laid1 m).length = m.length + 2 := by unfold laid1; rw [List.length_append, put_length]; omega

set_option maxRecDepth 100000 in
theorem octbytes_any (l m : List Nat) (a b : Option Addr) (cap cap2 : Nat) (w : World) (hr : Rd w a l) (hm : Rd w b m) (hcap : l.length ≤ cap) (hcap2 : m.length ≤ cap2) (hnil : b = none → cap2 = 0) (hl : l.length ≤ 1000000) (hm2 : m.length ≤ 65535) :
    Calls Tryd.prog 52 #[.slice a l.length cap, .slice b m.length cap2] w (NewBytes w (l ++ laid1 m)) := by
  obtain ⟨i0, hi, hz0, hz1, hz2⟩ := info_parts info_u8
  have hput : Calls Tryd.prog 51 #[.slice a l.length cap, .int .u64 (m.length : Nat), .int .i64 2] w (NewBytes w (l ++ put m.length 2)) := put_any l a cap m.length 2 w hr hcap (by decide) (by decide)
  have hx0 : b = none → m.length = 0 ∧ cap2 = 0 := fun h => ⟨hm.ofNil h, hnil h⟩
  have hat : ∀ W, Below w.heap.size w W → At W b (m.map bv) := fun W hb => (hm.below hb).at
  have hfin : ∀ v' w', Below w.heap.size w w' → w'.ownsRow w.heap.size 5 1 v' (l.length + 2 + m.length) ((l ++ put m.length 2).map bv ++ m.map bv) → NewBytes w (l ++ laid1 m) (.returned v') w' := fun v' w' hb h => ⟨v', rfl, by
    rw [show (l ++ laid1 m).length = l.length + 2 + m.length by rw [List.length_append, laid1_length]; omega]
    rw [show l ++ laid1 m = (l ++ put m.length 2) ++ m by unfold laid1; rw [List.append_assoc], List.map_append]; exact h, hb⟩
  obtain ⟨P, hP⟩ : ∃ P, NewBytes w (l ++ laid1 m) = P := ⟨_, rfl⟩
  rw [hP] at hfin ⊢
  have HPut := Lib.hid hput
  have HX := Lib.hid hx0
  have HA := Lib.hid hat
  have HF := Lib.hid hfin
  clear hput hx0 hat hfin hr hm hnil hP
  have hmin : (m.length : Int) ≤ 65535 := by omega
  go_enter Tryd.func52, Tryd.ntmps52
  go_wp2_with fail
  refine HPut.out.mono ?_
  rintro e w1 ⟨v, rfl, hown, hb1⟩
  have hat1 := HA.out w1 hb1
  have hsz := hb1.size
  have hlen : (l ++ put m.length 2).length = l.length + 2 := by rw [List.length_append, put_length]
  rw [hlen] at hown
  have HO := Lib.hid hown
  have HA1 := Lib.hid hat1
  clear HPut HA hown hat1 hlen
  go_wp2_with (at_builtin; refine wpList_append_mine rfl _ _ 42 rfl w.heap.size 5 i0 (.int .u8 0) 1 1 Tryd.underlying42 hi hz0 hz1 hz2 rfl (by decide) _ _ _ rfl HO.out b m.length cap2 (m.map bv) rfl HX.out (by simp) HA1.out (bv_one m) ?c2 ?c3 ?c4 ?_)
  case c2 => unfold maxLen; omega
  case c3 => omega
  case c4 => exact hsz
  intro v' w2 h1 hb2
  have hown2 : w2.ownsRow w.heap.size 5 1 v' (l.length + 2 + m.length) ((l ++ put m.length 2).map bv ++ m.map bv) := by simpa using h1
  have hend := HF.out v' w2 (hb1.trans hb2) hown2
  have HE := Lib.hid hend
  clear h1 hb2 hown2 hend HF HO HA1 HX
  go_wp2
  exact HE.out

/-- The rows of a slice of slices of bytes. -/
structure RowsAt (w : World) (a : Option Addr) (n : Nat) (M : Nat → List Nat) (A : Nat → Option Addr) (C : Nat → Nat) : Prop where
  cell : 0 < n → ∃ b off, a = some ⟨b, off, none⟩ ∧ ∀ r, r < n → w.cell? ⟨b, off + r, none⟩ = some (.slice (A r) (M r).length (C r))
  le : ∀ r, r < n → (M r).length ≤ C r
  ofNil : ∀ r, r < n → A r = none → C r = 0
  rd : ∀ r, r < n → (M r).length ≤ 1000 → Rd w (A r) (M r)

set_option maxRecDepth 100000 in
theorem RowsAt.below {w w' : World} {a : Option Addr} {n : Nat} {M : Nat → List Nat} {A : Nat → Option Addr} {C : Nat → Nat} (h : RowsAt w a n M A C) (hb : Below w.heap.size w w') : RowsAt w' a n M A C :=
  ⟨fun h0 => by
    obtain ⟨b, off, e, hc⟩ := h.cell h0
    exact ⟨b, off, e, fun r hr => (hb.cell (World.block_lt_of_cell? w _ (hc r hr))).trans (hc r hr)⟩, h.le, h.ofNil, fun r hr hl => (h.rd r hr hl).below hb⟩

/-- All rows up to k, laid one behind the other. -/
def laid (M : Nat → List Nat) : Nat → List Nat
  | 0 => []
  | k + 1 => laid M k ++ laid1 (M k)
/-- The rows from k on, j of them. -/
def rest (M : Nat → List Nat) (k : Nat) : Nat → List Nat
  | 0 => []
  | j + 1 => laid1 (M k) ++ rest M (k + 1) j
set_option maxRecDepth 100000 in
theorem rest_snoc (M : Nat → List Nat) (k j : Nat) : rest M k (j + 1) = rest M k j ++ laid1 (M (k + j)) := by
  induction j generalizing k with
  | zero => simp [rest]
  | succ j ih =>
    show laid1 (M k) ++ rest M (k + 1) (j + 1) = (laid1 (M k) ++ rest M (k + 1) j) ++ _
    rw [ih, List.append_assoc, show k + 1 + j = k + (j + 1) by omega]
set_option maxRecDepth 100000 in
theorem laid_rest (M : Nat → List Nat) (n : Nat) : laid M n = rest M 0 n := by
  induction n with
  | zero => rfl
  | succ n ih => rw [rest_snoc, ← ih, Nat.zero_add]; rfl
set_option maxRecDepth 100000 in
theorem laid_length (M : Nat → List Nat) (k : Nat) (h : ∀ r, r < k → (M r).length ≤ 1000) : (laid M k).length ≤ 1002 * k := by
  induction k with
  | zero => simp [laid]
  | succ k ih =>
    have := ih (fun r hr => h r (by omega))
    have h2 := h k (by omega)
    show (laid M k ++ laid1 (M k)).length ≤ _
    rw [List.length_append, laid1_length]; omega

set_option maxRecDepth 100000 in
theorem nx_app (x y : List Nat) (m : Int) (hm : (x.length : Int) ≤ m) : nx (x ++ y) false x.length m = (x, y, false) := by
  unfold nx
  rw [if_neg (by simp only [Bool.false_eq_true, false_or, List.length_append]; omega)]
  simp

set_option maxRecDepth 100000 in
theorem bts_app (m r : List Nat) (h : m.length ≤ 1000) : bts (laid1 m ++ r) false 1000 = (m, r, false) := by
  have e1 : nm (laid1 m ++ r) false 2 65535 = (m.length, m ++ r, false) := by
    have h1 := nx_app (put m.length 2) (m ++ r) 8 (by rw [put_length]; omega)
    rw [put_length] at h1
    unfold nm laid1
    rw [List.append_assoc]
    dsimp only
    rw [show (((2 : Nat) : Int)) = 2 from rfl] at h1
    rw [h1]
    dsimp only
    rw [le_put, Nat.mod_eq_of_lt (by omega), if_neg (by omega)]
  unfold bts
  rw [e1]
  dsimp only
  exact nx_app m r 1000 (by omega)

end Go.Proofs.YtkapnpcolmhdbaaDoor
