/- A pool in memory. -/
import Derived.Test.YtfehioapjoihkaaInts
import Derived.Test.YtfehioapjoihkaaQState
import Derived.Test.YtfehioapjoihkaaLaySort
import Derived.Maps.RangeWalk
import Derived.Sort.OwnSortedInts
namespace Go.Proofs.Ytfehioapjoihkaa
open Go.RowKit Go.Sort
open Drawbar Drawbar.Pl

@[reducible] noncomputable def U8P : Value → Option (DataW Unit × List MemPlace) := plainElem Try.prog 5
theorem keyed : Maps.Keyed Try.prog 3 := Maps.int_keyed Try.underlying3
/-- The map's datum reads so. -/
structure Reads (D : DataW Unit) (s : St) : Prop where
  has_ : ∀ x : Int, (Lit.int .i64 x).wf = true → Maps.has D (.int .i64 x) = (s.at_ x).isSome
  at_ : ∀ (x : Int) v z, s.at_ x = some v → D.atKey (.int .i64 x) z = .lit (.int .u8 v)
theorem wf_in {x : Int} (h : 0 ≤ x ∧ x < 64) : (Lit.int .i64 x).wf = true := by
  have h1 : (-9223372036854775808 : Int) ≤ x := by omega
  have h2 : x ≤ (9223372036854775807 : Int) := by omega
  show (decide ((-9223372036854775808 : Int) ≤ x) && decide (x ≤ (9223372036854775807 : Int))) = true
  simp [h1, h2]
theorem key_ne {x y : Int} (h : x ≠ y) : (Lit.int .i64 x) ≠ .int .i64 y := fun e => h (by cases e; rfl)
theorem Reads.put {D : DataW Unit} {s : St} (h : Reads D s) (hm : Maps.IsMap D) (b : Int) (v : Nat) : Reads (D.put (.int .i64 b) (.lit (.int .u8 v))) (s.put b v) where
  has_ x hx := by
    rw [put_at]
    by_cases e : x = b
    · subst e; rw [Maps.has_put_same hm (by simp [WideAt.IsKeyLit]), if_pos rfl]; rfl
    · rw [Maps.has_put_other (key_ne e), if_neg e]; exact h.has_ x hx
  at_ x u z hx := by
    rw [put_at] at hx
    by_cases e : x = b
    · subst e; rw [if_pos rfl] at hx; cases hx; exact Maps.atKey_put_same hm (by simp [WideAt.IsKeyLit]) _ _
    · rw [if_neg e] at hx; rw [Maps.atKey_put_other (key_ne e)]; exact h.at_ x u z hx
/-- The map in block b. -/
def MapIn (w : World) (b n : Nat) (s : St) : Prop := ∃ D, w.ownsMap Try.prog 3 U8P b n D ∧ Reads D s
theorem MapIn.keep {w w' : World} {b n : Nat} {s : St} (h : MapIn w b n s) (hk : w'.heap[b]? = w.heap[b]?) : MapIn w' b n s := by
  obtain ⟨D, ⟨es, c, hb, r⟩, hr⟩ := h
  exact ⟨D, ⟨es, c, hk.trans hb, r⟩, hr⟩
theorem MapIn.lt {w : World} {b n : Nat} {s : St} (h : MapIn w b n s) : b < w.heap.size := by obtain ⟨D, h, _⟩ := h; exact h.lt
theorem int_fit (v : Nat) (h : v < 256) : U8P (.int .u8 v) = some (.lit (.int .u8 v), []) := plainElem_int Try.underlying5 (by
  have h2 : (v : Int) ≤ 255 := by omega
  show (decide ((0 : Int) ≤ (v : Int)) && decide ((v : Int) ≤ 255)) = true
  simp [h2])
theorem grown_only {w w' : World} {b : Nat} (h : w.grownBy w' (some b)) : Only (fun d => d = b) w w' := ⟨h.os, h.tape, h.output, h.size, fun k hk hn => h.block k hk fun e => hn (by cases e; rfl)⟩
/-- 'v, ok := m[x]'. -/
theorem MapIn.look {w : World} {b n : Nat} {s : St} (h : MapIn w b n s) (x : Int) (hx : (Lit.int .i64 x).wf = true) (hz : (zeroValue 5).run Try.prog w = .ok (.int .u8 0) w) :
    (Instr.lookup 77 (.map (some b)) (.int .i64 x) true).run Try.prog w = .ok (.tuple #[.int .u8 ((s.at_ x).getD 0 : Nat), .bool (s.at_ x).isSome]) w := by
  obtain ⟨D, h, hr⟩ := h
  obtain ⟨v, ps, hrun, hv⟩ := h.look_ok (z := .int .u8 0) (zd := .lit (.int .u8 0)) (zp := []) keyed Try.underlying77 hz (int_fit 0 (by decide)) (key := .int .i64 x) (kl := .int .i64 x) (Maps.keyOf_int_mk Try.underlying3 hx)
  obtain ⟨c, rfl, hc, hwc⟩ := plainElem_int_inv Try.underlying5 hv
  rw [hrun, hr.has_ x hx]
  have hc1 := congrArg Prod.fst hc
  dsimp only at hc1
  cases hs : s.at_ x with
  | none =>
    have hn : Maps.has D (.int .i64 x) = false := by rw [hr.has_ x hx, hs]; rfl
    have : D.atKey (.int .i64 x) (.lit (.int .u8 0)) = .lit (.int .u8 0) := Maps.atKey_of_not_has hn _
    rw [this] at hc1
    cases hc1
    rfl
  | some v =>
    rw [hr.at_ x v _ hs] at hc1
    cases hc1
    rfl
/-- 'm[x] = v'. -/
theorem MapIn.store {w : World} {b n : Nat} {s : St} (h : MapIn w b n s) (x : Int) (hx : 0 ≤ x ∧ x < 64) (v : Nat) (hv : v < 4) (hn : n ≤ 64) :
    ∃ w', (Instr.mapUpdate 77 (.map (some b)) (.int .i64 x) (.int .u8 v)).run Try.prog w = .ok () w' ∧ MapIn w' b (n + 1) (s.put x v) ∧ ((s.at_ x).isSome → MapIn w' b n (s.put x v)) ∧ w.grownBy w' (some b) := by
  obtain ⟨D, h, hr⟩ := h
  have hm := h.isMap
  have ht := h.tidy keyed
  obtain ⟨w', hrun, h', hg⟩ := h.update keyed Try.underlying77 (Nat.lt_of_le_of_lt hn (by decide)) (key := .int .i64 x) (kl := .int .i64 x) (Maps.keyOf_int_mk Try.underlying3 (wf_in hx)) (int_fit v (by omega))
  refine ⟨w', hrun, ⟨_, h', hr.put hm x v⟩, fun hs => ⟨_, ?_, hr.put hm x v⟩, hg⟩
  have e1 := Maps.size_put (k := .int .i64 x) ht (.lit (.int .u8 v))
  rw [hr.has_ x (wf_in hx), if_pos hs] at e1
  have e2 := h.size_le
  obtain ⟨es, c, hb, F, hsz, hD⟩ := h'
  have e3 : Maps.size (D.put (.int .i64 x) (.lit (.int .u8 v))) = es.size := by rw [hD]; simp [Maps.size, length_sorted]
  exact ⟨es, c, hb, F, by omega, hD⟩
/-- A pool in memory: its own block g, how blocks stand mb. -/
structure PoolAt (w : World) (g mb : Nat) (s : St) : Prop where
  wf : Wf s
  c0 : w.cell? ⟨g, 0, none⟩ = some (.map (some mb))
  map : MapIn w mb 64 s
  ne : g ≠ mb
section
variable {w : World} {g mb : Nat} {s : St}
theorem PoolAt.gl (h : PoolAt w g mb s) : g < w.heap.size := World.block_lt_of_cell? w _ h.c0
theorem PoolAt.ml (h : PoolAt w g mb s) : mb < w.heap.size := h.map.lt
theorem PoolAt.keep (h : PoolAt w g mb s) {w' : World} (h1 : w'.heap[g]? = w.heap[g]?) (h2 : w'.heap[mb]? = w.heap[mb]?) : PoolAt w' g mb s := ⟨h.wf, (World.cell?_of_block (a := ⟨g, 0, none⟩) h1).trans h.c0, h.map.keep h2, h.ne⟩
theorem PoolAt.below (h : PoolAt w g mb s) {w' : World} (hb : Below w.heap.size w w') : PoolAt w' g mb s := h.keep (hb.block g h.gl) (hb.block mb h.ml)
theorem PoolAt.alloc (h : PoolAt w g mb s) (o : Obj) : PoolAt (w.alloc o) g mb s := h.below ((Below.refl _ _).alloc (Nat.le_refl _) _)
end
/-- It stands so, and nothing else turned. -/
def Turned (w : World) (g mb : Nat) (s' : St) (w' : World) : Prop := PoolAt w' g mb s' ∧ Only (fun d => d = mb) w w'

theorem zero_u8 (w : World) : (zeroValue 5).run Try.prog w = .ok (.int .u8 0) w := by simp [Try.zeroValue5]

set_option maxHeartbeats 1000000 in
theorem how_in (g mb : Nat) (s : St) (w : World) (h : PoolAt w g mb s) (x : Int) (hx : (Lit.int .i64 x).wf = true) : Calls Try.prog 24 #[.pointer (some ⟨g, 0, none⟩), .int .i64 x] w fun e w' => e = .returned (.int .u8 (stood (s.at_ x))) ∧ w = w' := by
  have c0 := h.c0
  have hl := h.map.look x hx (zero_u8 w)
  cases hs : s.at_ x with
  | none =>
    rw [hs] at hl
    simp only [Option.getD_none, Option.isSome_none] at hl
    clear h hs
    unfold stood
    go_enter Try.func24, Try.ntmps24
    go_wp2
    go_ret
    exact ⟨rfl, rfl⟩
  | some v =>
    rw [hs] at hl
    simp only [Option.getD_some, Option.isSome_some] at hl
    clear h hs
    unfold stood
    go_enter Try.func24, Try.ntmps24
    go_wp2
    go_ret
    exact ⟨rfl, rfl⟩
end Go.Proofs.Ytfehioapjoihkaa
