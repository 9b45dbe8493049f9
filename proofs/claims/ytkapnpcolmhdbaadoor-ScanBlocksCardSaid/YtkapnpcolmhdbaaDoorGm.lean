/- A Go map from int to any values, as a function: made, read, written, struck, ranged over. General, over any program. -/
import Derived.WalkKit
import Derived.Maps.RangeWalk
namespace Drawbar.Gm
open Go Go.RowKit

/-- How any value reads: as itself. -/
def RV (v : Value) : Option (DataW Value × List MemPlace) := some (.held v, [])
/-- The map's datum, as a function. -/
structure Tells (D : DataW Value) (f : Int → Option Value) : Prop where
  wf : ∀ x v, f x = some v → (Lit.int .i64 x).wf = true
  has_ : ∀ x : Int, (Lit.int .i64 x).wf = true → Maps.has D (.int .i64 x) = (f x).isSome
  at_ : ∀ x v, f x = some v → ∀ z, D.atKey (.int .i64 x) z = .held v
def put (f : Int → Option Value) (x : Int) (v : Value) : Int → Option Value := fun y => if y = x then some v else f y
def del (f : Int → Option Value) (x : Int) : Int → Option Value := fun y => if y = x then none else f y
theorem wf_of {x : Int} (h1 : -9223372036854775808 ≤ x) (h2 : x ≤ 9223372036854775807) : (Lit.int .i64 x).wf = true := by
  show (decide ((-9223372036854775808 : Int) ≤ x) && decide (x ≤ (9223372036854775807 : Int))) = true
  simp [h1, h2]
theorem key_ne {x y : Int} (h : x ≠ y) : (Lit.int .i64 x) ≠ .int .i64 y := fun e => h (by cases e; rfl)
theorem Tells.none : Tells (.map []) fun _ => none := ⟨fun _ _ h => (by cases h), fun _ _ => rfl, fun _ _ h => (by cases h)⟩
theorem Tells.put {D : DataW Value} {f : Int → Option Value} (h : Tells D f) (hm : Maps.IsMap D) (x : Int) (hx : (Lit.int .i64 x).wf = true) (v : Value) : Tells (D.put (.int .i64 x) (.held v)) (put f x v) where
  wf y u hy := by
    unfold Gm.put at hy
    by_cases e : y = x
    · rw [e]; exact hx
    · rw [if_neg e] at hy; exact h.wf y u hy
  has_ y hy := by
    unfold Gm.put
    by_cases e : y = x
    · subst e; rw [Maps.has_put_same hm (by simp [WideAt.IsKeyLit]), if_pos rfl]; rfl
    · rw [Maps.has_put_other (key_ne e), if_neg e]; exact h.has_ y hy
  at_ y u hy z := by
    unfold Gm.put at hy
    by_cases e : y = x
    · subst e; rw [if_pos rfl] at hy; cases hy; exact Maps.atKey_put_same hm (by simp [WideAt.IsKeyLit]) _ _
    · rw [if_neg e] at hy; rw [Maps.atKey_put_other (key_ne e)]; exact h.at_ y u hy z
theorem Tells.del {D : DataW Value} {f : Int → Option Value} (h : Tells D f) (x : Int) : Tells (D.del (.int .i64 x)) (del f x) where
  wf y u hy := by
    unfold Gm.del at hy
    by_cases e : y = x
    · rw [if_pos e] at hy; cases hy
    · rw [if_neg e] at hy; exact h.wf y u hy
  has_ y hy := by
    unfold Gm.del
    by_cases e : y = x
    · subst e; rw [Maps.has_del_same, if_pos rfl]; rfl
    · rw [Maps.has_del_other (key_ne e), if_neg e]; exact h.has_ y hy
  at_ y u hy z := by
    unfold Gm.del at hy
    by_cases e : y = x
    · rw [if_pos e] at hy; cases hy
    · rw [if_neg e] at hy; rw [Maps.atKey_del_other (key_ne e)]; exact h.at_ y u hy z

/-- Block b is a map of at most n entries that is f. -/
def GMap (P : Program) (k : TypeId) (w : World) (b n : Nat) (f : Int → Option Value) : Prop := ∃ D, w.ownsMap P k RV b n D ∧ Tells D f
section
variable {P : Program} {k : TypeId} {w : World} {b n : Nat} {f : Int → Option Value}
theorem GMap.made (w : World) (P : Program) (k : TypeId) : GMap P k (w.alloc (.map #[] 0)) w.heap.size 0 fun _ => none := ⟨_, World.ownsMap_made w P k RV, Tells.none⟩
theorem GMap.mono (h : GMap P k w b n f) {n' : Nat} (hn : n ≤ n') : GMap P k w b n' f := by obtain ⟨D, h, ht⟩ := h; exact ⟨D, h.mono hn, ht⟩
theorem GMap.lt (h : GMap P k w b n f) : b < w.heap.size := by obtain ⟨D, h, _⟩ := h; exact h.lt
theorem GMap.keep {w' : World} (h : GMap P k w b n f) (hk : w'.heap[b]? = w.heap[b]?) : GMap P k w' b n f := by
  obtain ⟨D, ⟨es, c, hb, r⟩, hr⟩ := h
  exact ⟨D, ⟨es, c, hk.trans hb, r⟩, hr⟩
theorem GMap.below {w' : World} (h : GMap P k w b n f) (hb : Below w.heap.size w w') : GMap P k w' b n f := h.keep (hb.block b h.lt)
theorem GMap.wf (h : GMap P k w b n f) (x : Int) (v : Value) (hx : f x = some v) : (Lit.int .i64 x).wf = true := by obtain ⟨D, _, ht⟩ := h; exact ht.wf x v hx
/-- 'm[x]'. -/
theorem GMap.look (h : GMap P k w b n f) (hk : P.underlying k = some (.int .i64)) {t e : TypeId} (ht : P.underlying t = some (.map k e)) {z : Value} (hz : (zeroValue e).run P w = .ok z w) (x : Int) (hx : (Lit.int .i64 x).wf = true) :
    (Instr.lookup t (.map (some b)) (.int .i64 x) false).run P w = .ok ((f x).getD z) w := by
  obtain ⟨D, h, hr⟩ := h
  obtain ⟨v, ps, hrun, hv⟩ := h.lookup (z := z) (zd := .held z) (zp := []) (Maps.int_keyed hk) ht hz rfl (key := .int .i64 x) (kl := .int .i64 x) (Maps.keyOf_int_mk hk hx)
  rw [hrun]
  cases hs : f x with
  | none =>
    have hn : Maps.has D (.int .i64 x) = false := by rw [hr.has_ x hx, hs]; rfl
    rw [Maps.atKey_of_not_has hn] at hv
    cases hv
    rfl
  | some u =>
    rw [hr.at_ x u hs] at hv
    cases hv
    rfl
/-- 'v, ok := m[x]'. -/
theorem GMap.look_ok (h : GMap P k w b n f) (hk : P.underlying k = some (.int .i64)) {t e : TypeId} (ht : P.underlying t = some (.map k e)) {z : Value} (hz : (zeroValue e).run P w = .ok z w) (x : Int) (hx : (Lit.int .i64 x).wf = true) :
    (Instr.lookup t (.map (some b)) (.int .i64 x) true).run P w = .ok (.tuple #[(f x).getD z, .bool (f x).isSome]) w := by
  obtain ⟨D, h, hr⟩ := h
  obtain ⟨v, ps, hrun, hv⟩ := h.look_ok (z := z) (zd := .held z) (zp := []) (Maps.int_keyed hk) ht hz rfl (key := .int .i64 x) (kl := .int .i64 x) (Maps.keyOf_int_mk hk hx)
  rw [hrun, hr.has_ x hx]
  cases hs : f x with
  | none =>
    have hn : Maps.has D (.int .i64 x) = false := by rw [hr.has_ x hx, hs]; rfl
    rw [Maps.atKey_of_not_has hn] at hv
    cases hv
    rfl
  | some u =>
    rw [hr.at_ x u hs] at hv
    cases hv
    rfl
/-- 'm[x] = v'. -/
theorem GMap.store (h : GMap P k w b n f) (hk : P.underlying k = some (.int .i64)) {t e : TypeId} (ht : P.underlying t = some (.map k e)) (hn : n < maxLen) (x : Int) (hx : (Lit.int .i64 x).wf = true) (v : Value) :
    ∃ w', (Instr.mapUpdate t (.map (some b)) (.int .i64 x) v).run P w = .ok () w' ∧ GMap P k w' b (n + 1) (put f x v) ∧ w.grownBy w' (some b) ∧ w'.heap.size = w.heap.size := by
  obtain ⟨D, h, hr⟩ := h
  obtain ⟨w', hrun, h', hg⟩ := h.store (Maps.int_keyed hk) ht hn (key := .int .i64 x) (kl := .int .i64 x) (Maps.keyOf_int_mk hk hx) (val := v) (d := .held v) (ps := []) rfl
  have hgr := hg.grown
  obtain ⟨_, _, _, _, _, rfl⟩ := hg
  exact ⟨_, hrun, ⟨_, h', hr.put h.isMap x hx v⟩, hgr, by simp [ChangeMaps.setBlock]⟩
/-- 'delete(m, x)'. -/
theorem GMap.drop (h : GMap P k w b n f) (hk : P.underlying k = some (.int .i64)) {t e : TypeId} (ht : P.underlying t = some (.map k e)) (x : Int) (hx : (Lit.int .i64 x).wf = true) (ty : TypeId) :
    ∃ w', (Builtin.delete_ #[t, k] ty #[.map (some b), .int .i64 x]).run P w = .ok (.tuple #[]) w' ∧ GMap P k w' b n (del f x) ∧ w.grownBy w' (some b) ∧ w'.heap.size = w.heap.size := by
  obtain ⟨D, h, hr⟩ := h
  obtain ⟨w', hrun, h', hg⟩ := h.drop (Maps.int_keyed hk) ht (key := .int .i64 x) (kl := .int .i64 x) (Maps.keyOf_int_mk hk hx) ty
  have hgr := hg.grown
  obtain ⟨_, _, _, _, _, rfl⟩ := hg
  exact ⟨_, hrun, ⟨_, h', hr.del x⟩, hgr, by simp [ChangeMaps.setBlock]⟩
/-- How many there are: those of any list that tells the keys, each once. -/
theorem GMap.len (h : GMap P k w b n f) (hk : P.underlying k = some (.int .i64)) {t e : TypeId} (ht : P.underlying t = some (.map k e)) (l : List Int) (hl : l.Nodup) (hm : ∀ x, x ∈ l ↔ (f x).isSome = true) (ty : TypeId) :
    (Builtin.len_ #[t] ty #[.map (some b)]).run P w = .ok (.int .i64 l.length) w := by
  obtain ⟨D, h, hr⟩ := h
  rw [h.len ht ty]
  have hsz : Maps.size D = l.length := by
    obtain ⟨es, rfl, hp, hkl⟩ := h.entries (Maps.int_keyed hk)
    have hint : ∀ p ∈ es, ∃ x : Int, p.1 = .int .i64 x ∧ (Lit.int .i64 x).wf = true := by
      obtain ⟨es0, clock, hb, F, hs, hD⟩ := h
      intro p hp2
      have hD2 : es = (es0.toList.map (WideElems.rg P k RV)).foldr DataW.insert [] := by cases hD; rfl
      rw [hD2] at hp2
      obtain ⟨x, hx, rfl⟩ := List.mem_map.1 (mem_sorted.1 hp2)
      obtain ⟨y, hy⟩ := F.reads x hx
      rw [WideElems.rg_of hy]
      obtain ⟨i, _, hi, hw⟩ := Maps.keyOf_int_inv hk (WideElems.rd_key hy)
      exact ⟨i, hi, hw⟩
    have hmem : ∀ x : Int, (∃ p ∈ es, p.1 = .int .i64 x) ↔ x ∈ l := fun x => by
      rw [hm x]
      constructor
      · rintro ⟨p, hp2, he⟩
        obtain ⟨y, hy, hw⟩ := hint p hp2
        rw [he] at hy; cases hy
        rw [← hr.has_ x hw]
        exact List.any_eq_true.2 ⟨p, hp2, by rw [he]; exact WideAt.sameKey_self (by simp [WideAt.IsKeyLit])⟩
      · intro hx
        obtain ⟨v, hv⟩ := Option.isSome_iff_exists.1 hx
        have hw := hr.wf x v hv
        have hh := hr.has_ x hw
        rw [hv] at hh
        obtain ⟨p, hp2, hps⟩ := List.any_eq_true.1 hh
        exact ⟨p, hp2, WideAt.sameKey_eq hps⟩
    have hkeys : (es.map Prod.fst).Perm (l.map (Lit.int .i64)) := by
      refine (List.perm_ext_iff_of_nodup ?_ ?_).2 fun q => ?_
      · rw [List.nodup_iff_pairwise_ne, List.pairwise_map]; exact hp
      · rw [List.nodup_iff_pairwise_ne, List.pairwise_map]
        exact (List.nodup_iff_pairwise_ne.1 hl).imp fun {a b} hab hc => hab (by cases hc; rfl)
      · constructor
        · intro hq
          obtain ⟨p, hp2, rfl⟩ := List.mem_map.1 hq
          obtain ⟨y, hy, _⟩ := hint p hp2
          rw [hy]
          exact List.mem_map.2 ⟨y, (hmem y).1 ⟨p, hp2, hy⟩, rfl⟩
        · intro hq
          obtain ⟨x, hx, rfl⟩ := List.mem_map.1 hq
          obtain ⟨p, hp2, he⟩ := (hmem x).2 hx
          exact List.mem_map.2 ⟨p, hp2, he⟩
    have := hkeys.length_eq
    simpa [Maps.size] using this
  rw [hsz]
/-- A range under way: 'left': which keys are still to come. -/
def GRange (P : Program) (k : TypeId) (w : World) (b r n : Nat) (f : Int → Option Value) (left : Int → Bool) (cnt : Nat) : Prop :=
  ∃ D L, w.ranges P k RV b r n D L cnt ∧ Tells D f ∧ ∀ x : Int, (Lit.int .i64 x).wf = true → L (.int .i64 x) = left x
variable {r cnt : Nat} {left : Int → Bool}
theorem GRange.keep {w' : World} (h : GRange P k w b r n f left cnt) (h1 : w'.heap[b]? = w.heap[b]?) (h2 : w'.heap[r]? = w.heap[r]?) : GRange P k w' b r n f left cnt := by
  obtain ⟨D, L, ⟨es, clock, since, seen, c0, hb, F, hs, hD, hr, rest⟩, ht, hl⟩ := h
  exact ⟨D, L, ⟨es, clock, since, seen, c0, h1.trans hb, F, hs, hD, h2.trans hr, rest⟩, ht, hl⟩
theorem GRange.left_eq (h : GRange P k w b r n f left cnt) : w.rangeLeft b r = cnt := by obtain ⟨D, L, h, _⟩ := h; exact h.left_eq
theorem GRange.owns (h : GRange P k w b r n f left cnt) : GMap P k w b n f := by obtain ⟨D, L, h, ht, _⟩ := h; exact ⟨D, h.owns, ht⟩
theorem GRange.lt (h : GRange P k w b r n f left cnt) : r < w.heap.size := by obtain ⟨D, L, h, _⟩ := h; exact h.lt
theorem GRange.below {w' : World} (h : GRange P k w b r n f left cnt) (hb : Below w.heap.size w w') : GRange P k w' b r n f left cnt := h.keep (hb.block b h.owns.lt) (hb.block r h.lt)
end
section
variable {P : Program} (w : World) {ops : Array Oper} {rest : List Oper} {o : Oper} {a : Act} {Q : Exit → Act → World → Prop}
theorem wpList_mapUpdate_gm (hg : o.guard = none) (m x v : Operand) (t : TypeId) (hop : o.op = Op.mapUpdate t m x v) {k e : TypeId} (hk : P.underlying k = some (.int .i64)) (ht : P.underlying t = some (.map k e))
    (b n : Nat) (f : Int → Option Value) (hm : a.eval m = .map (some b)) (h : GMap P k w b n f) (hn : n < maxLen) (y : Int) (hx : a.eval x = .int .i64 y) (hy : (Lit.int .i64 y).wf = true) (u : Value) (hv : a.eval v = u)
    (hK : ∀ w', GMap P k w' b (n + 1) (put f y u) → w.grownBy w' (some b) → w'.heap.size = w.heap.size → wpList P ops Q rest (a.put o.dst undef) w') : wpList P ops Q (o :: rest) a w := by
  refine wpList_plain hg fun K' hK' => ?_
  obtain ⟨w', hrun, r1, r2, r3⟩ := h.store hk ht hn y hy u
  unfold Oper.wp
  simp [execOp, hop, hm, hx, hv, hrun, Result.andThen]
  exact hK' _ _ (hK w' r1 r2 r3)
theorem wpList_delete_gm (hg : o.guard = none) (m x : Operand) (t k : TypeId) (hop : o.op = Op.call { callee := Callee.builtin Builtin.delete, args := #[m, x], argTypes := #[t, k] }) {e : TypeId} (hk : P.underlying k = some (.int .i64)) (ht : P.underlying t = some (.map k e))
    (b n : Nat) (f : Int → Option Value) (hm : a.eval m = .map (some b)) (h : GMap P k w b n f) (y : Int) (hx : a.eval x = .int .i64 y) (hy : (Lit.int .i64 y).wf = true)
    (hK : ∀ w', GMap P k w' b n (del f y) → w.grownBy w' (some b) → w'.heap.size = w.heap.size → wpList P ops Q rest (a.put o.dst (.tuple #[])) w') : wpList P ops Q (o :: rest) a w := by
  refine wpList_plain hg fun K' hK' => ?_
  obtain ⟨w', hrun, r1, r2, r3⟩ := h.drop hk ht y hy o.type
  unfold Oper.wp
  simp [execOp, hop, resolve, invoke, builtin, hm, hx, hrun, Result.andThen]
  exact hK' _ _ (hK w' r1 r2 r3)
theorem wpList_len_gm (hg : o.guard = none) (m : Operand) (t : TypeId) (hop : o.op = Op.call { callee := Callee.builtin Builtin.len, args := #[m], argTypes := #[t] }) {k e : TypeId} (hk : P.underlying k = some (.int .i64)) (ht : P.underlying t = some (.map k e))
    (b n : Nat) (f : Int → Option Value) (hm : a.eval m = .map (some b)) (h : GMap P k w b n f) (l : List Int) (hl : l.Nodup) (hmem : ∀ x, x ∈ l ↔ (f x).isSome = true)
    (hK : wpList P ops Q rest (a.put o.dst (.int .i64 l.length)) w) : wpList P ops Q (o :: rest) a w := by
  refine wpList_plain hg fun K' hK' => ?_
  unfold Oper.wp
  simp [execOp, hop, resolve, invoke, builtin, hm, h.len hk ht l hl hmem o.type, Result.andThen]
  exact hK' _ _ hK
theorem wpList_range_gm (hg : o.guard = none) (m : Operand) (t : TypeId) (hop : o.op = Op.range t m) {k e : TypeId} (hk : P.underlying k = some (.int .i64)) (ht : P.underlying t = some (.map k e)) (b n : Nat) (f : Int → Option Value)
    (hm : a.eval m = .map (some b)) (h : GMap P k w b n f)
    (hK : ∀ w' cnt, GRange P k w' b w.heap.size n f (fun x => (f x).isSome) cnt → w.grownBy w' none → w'.heap.size = w.heap.size + 1 → wpList P ops Q rest (a.put o.dst (.pointer (some ⟨w.heap.size, 0, none⟩))) w') :
    wpList P ops Q (o :: rest) a w := by
  obtain ⟨D, h, hr⟩ := h
  exact wpList_range_own w hg m t hop k e (Maps.int_keyed hk) ht RV b n D hm h fun w' hrg hgr hs => hK w' _ ⟨D, _, hrg, hr, fun x hx => hr.has_ x hx⟩ hgr hs
theorem wpList_next_gm (hg : o.guard = none) (it : Operand) (hop : o.op = Op.next it false) {k : TypeId} (hk : P.underlying k = some (.int .i64)) (b r n : Nat) (f : Int → Option Value) (left : Int → Bool) (cnt : Nat)
    (hit : a.eval it = .pointer (some ⟨r, 0, none⟩)) (h : GRange P k w b r n f left cnt)
    (hDone : cnt = 0 → (∀ x : Int, (Lit.int .i64 x).wf = true → left x = false) → wpList P ops Q rest (a.put o.dst (.tuple #[.bool false])) w)
    (hMore : ∀ (x : Int) (v : Value) (w' : World) (cnt' : Nat), f x = some v → left x = true → GRange P k w' b r n f (fun y => left y && !(decide (y = x))) cnt' → cnt' < cnt →
      w.grownBy w' (some r) → w'.heap.size = w.heap.size → (Instr.entry (.pointer (some ⟨r, 0, none⟩))).run P w' = .ok (.tuple #[.int .i64 x, v]) w' → wpList P ops Q rest (a.put o.dst (.tuple #[.bool true, .int .i64 x, v])) w') :
    wpList P ops Q (o :: rest) a w := by
  obtain ⟨D, L, h, ht, hl⟩ := h
  refine wpList_next_ranges w hg it hop k (Maps.int_keyed hk) RV (Value.int .i64) (fun v : Value => v) (fun key kl hkey => by obtain ⟨x, rfl, _⟩ := Maps.keyOf_int_inv hk hkey; exact ⟨x, rfl⟩) (fun v y _ => ⟨v, rfl⟩)
    b r n D L cnt hit h (fun h0 hL => hDone h0 fun x hx => by rw [← hl x hx]; exact hL _) (fun x c kl y w' cnt' hkey hlk hv hat hrg hlt hgr hsz hen => ?_)
  obtain ⟨x', ex, rfl, hwx⟩ := Maps.keyOf_int_inv hk hkey
  cases ex
  cases hv
  have hh := ht.has_ x hwx
  rw [Maps.has_true_of_atKey hat] at hh
  obtain ⟨u, hu⟩ := Option.isSome_iff_exists.1 hh.symm
  have e1 := (hat (.held c)).symm.trans (ht.at_ x u hu (.held c))
  cases e1
  refine hMore x c w' cnt' hu (by rw [← hl x hwx]; exact hlk) ⟨D, _, hrg, ht, fun z hz => ?_⟩ hlt hgr hsz hen
  rw [hl z hz]
  by_cases e : z = x
  · subst e; simp [Lit.sameKey]
  · simp [e, Lit.sameKey]
end
end Drawbar.Gm
