/- A Go map from int to any values, as a function: made, read, written, struck, ranged over. General, over any program. What an array holds, as plain data: found pages, what a block has, which blocks are spoilt, the newest page of each address. The contract of sheet.Read, with a sharper post: what was read lies in a new block. The contract of scan's addressed. Rows of found pages in memory: []scan.Found, []drawbarref09.Page. The contract of scan's read. -/
import Derived.WalkKit
import Derived.Maps.RangeWalk
import Derived.Test.YtmhmmemmdekjhaaDoorZRd
import Derived.Test.YtmhmmemmdekjhaaDoorZNs
import Derived.Laws.ResultCell
import Derived.Test.YtmhmmemmdekjhaaDoorZNb
import Derived.Test.YtmhmmemmdekjhaaDoorZOc
import Derived.OwnWalk
namespace Drawbar.Gm
open Go Go.RowKit

/-- How any value reads: as itself. -/
def RV (v : Value) : Option (DataW Value × List MemPlace) := some (.held v, [])
/-- The map's datum, as a function. -/
structure Tells (D : DataW Value) (f : Int → Option Value) : Prop where
  wf : ∀ x v, f x = some v → (Lit.int .i64 x).wf = true
  has_ : ∀ x : Int, (Lit.int .i64 x).wf = true → Maps.has D (.int .i64 x) = (f x).isSome
  at_ : ∀ x v, f x = some v → ∀ z, D.atKey (.int .i64 x) z = .held v
def put (f : Int → Option Value) (x : Int) (v : Value) : Int → Option Value := fun y => if y = x then some v else f y
def del (f : Int → Option Value) (x : Int) : Int → Option Value := fun y => if y = x then none else f y
set_option maxRecDepth 100000 in
theorem wf_of {x : Int} (h1 : -9223372036854775808 ≤ x) (h2 : x ≤ 9223372036854775807) : (Lit.int .i64 x).wf = true := by
  show (decide ((-9223372036854775808 : Int) ≤ x) && decide (x ≤ (9223372036854775807 : Int))) = true
  simp [h1, h2]
set_option maxRecDepth 100000 in
theorem key_ne {x y : Int} (h : x ≠ y) : (Lit.int .i64 x) ≠ .int .i64 y := fun e => h (by cases e; rfl)
set_option maxRecDepth 100000 in
theorem Tells.none : Tells (.map []) fun _ => none := ⟨fun _ _ h => (by cases h), fun _ _ => rfl, fun _ _ h => (by cases h)⟩
set_option maxRecDepth 100000 in
theorem Tells.put {D : DataW Value} {f : Int → Option Value} (h : Tells D f) (hm : Maps.IsMap D) (x : Int) (hx : (Lit.int .i64 x).wf = true) (v : Value) : Tells (D.put (.int .i64 x) (.held v)) (put f x v) where
  wf y u hy := by
    unfold Gm.put at hy
    by_cases e : y = x
    · rw [e]; exact hx
    · rw [if_neg e] at hy; exact h.wf y u hy
  has_ y hy := by
    unfold Gm.put
    by_cases e : y = x
    · subst e; rw [Maps.has_put_same hm (by simp [WideAt.IsKeyLit]), if_pos rfl]; rfl
    · rw [Maps.has_put_other (key_ne e), if_neg e]; exact h.has_ y hy
  at_ y u hy z := by
    unfold Gm.put at hy
    by_cases e : y = x
    · subst e; rw [if_pos rfl] at hy; cases hy; exact Maps.atKey_put_same hm (by simp [WideAt.IsKeyLit]) _ _
    · rw [if_neg e] at hy; rw [Maps.atKey_put_other (key_ne e)]; exact h.at_ y u hy z
set_option maxRecDepth 100000 in
theorem Tells.del {D : DataW Value} {f : Int → Option Value} (h : Tells D f) (x : Int) : Tells (D.del (.int .i64 x)) (del f x) where
  wf y u hy := by
    unfold Gm.del at hy
    by_cases e : y = x
    · rw [if_pos e] at hy; cases hy
    · rw [if_neg e] at hy; exact h.wf y u hy
  has_ y hy := by
    unfold Gm.del
    by_cases e : y = x
    · subst e; rw [Maps.has_del_same, if_pos rfl]; rfl
    · rw [Maps.has_del_other (key_ne e), if_neg e]; exact h.has_ y hy
  at_ y u hy z := by
    unfold Gm.del at hy
    by_cases e : y = x
    · rw [if_pos e] at hy; cases hy
    · rw [if_neg e] at hy; rw [Maps.atKey_del_other (key_ne e)]; exact h.at_ y u hy z

/-- Block b is a map of at most n entries that is f. -/
def GMap (P : Program) (k : TypeId) (w : World) (b n : Nat) (f : Int → Option Value) : Prop := ∃ D, w.ownsMap P k RV b n D ∧ Tells D f
section
variable {P : Program} {k : TypeId} {w : World} {b n : Nat} {f : Int → Option Value}
set_option maxRecDepth 100000 in
theorem GMap.made (w : World) (P : Program) (k : TypeId) : GMap P k (w.alloc (.map #[] 0)) w.heap.size 0 fun _ => none := ⟨_, World.ownsMap_made w P k RV, Tells.none⟩
set_option maxRecDepth 100000 in
theorem GMap.mono (h : GMap P k w b n f) {n' : Nat} (hn : n ≤ n') : GMap P k w b n' f := by obtain ⟨D, h, ht⟩ := h; exact ⟨D, h.mono hn, ht⟩
set_option maxRecDepth 100000 in
theorem GMap.lt (h : GMap P k w b n f) : b < w.heap.size := by obtain ⟨D, h, _⟩ := h; exact h.lt
set_option maxRecDepth 100000 in
theorem GMap.keep {w' : World} (h : GMap P k w b n f) (hk : w'.heap[b]? = w.heap[b]?) : GMap P k w' b n f := by
  obtain ⟨D, ⟨es, c, hb, r⟩, hr⟩ := h
  exact ⟨D, ⟨es, c, hk.trans hb, r⟩, hr⟩
set_option maxRecDepth 100000 in
theorem GMap.below {w' : World} (h : GMap P k w b n f) (hb : Below w.heap.size w w') : GMap P k w' b n f := h.keep (hb.block b h.lt)
set_option maxRecDepth 100000 in
theorem GMap.wf (h : GMap P k w b n f) (x : Int) (v : Value) (hx : f x = some v) : (Lit.int .i64 x).wf = true := by obtain ⟨D, _, ht⟩ := h; exact ht.wf x v hx
set_option maxRecDepth 100000 in
/-- 'm[x]'. -/
theorem GMap.look (h : GMap P k w b n f) (hk : P.underlying k = some (.int .i64)) {t e : TypeId} (ht : P.underlying t = some (.map k e)) {z : Value} (hz : (zeroValue e).run P w = .ok z w) (x : Int) (hx : (Lit.int .i64 x).wf = true) :
    (Instr.lookup t (.map (some b)) (.int .i64 x) false).run P w = .ok ((f x).getD z) w := by
  obtain ⟨D, h, hr⟩ := h
  obtain ⟨v, ps, hrun, hv⟩ := h.lookup (z := z) (zd := .held z) (zp := []) (Maps.int_keyed hk) ht hz rfl (key := .int .i64 x) (kl := .int .i64 x) (Maps.keyOf_int_mk hk hx)
  rw [hrun]
  cases hs : f x with
  | none =>
    have hn : Maps.has D (.int .i64 x) = false := by rw [hr.has_ x hx, hs]; rfl
    rw [Maps.atKey_of_not_has hn] at hv
    cases hv
    rfl
  | some u =>
    rw [hr.at_ x u hs] at hv
    cases hv
    rfl
set_option maxRecDepth 100000 in
/-- 'v, ok := m[x]'. -/
theorem GMap.look_ok (h : GMap P k w b n f) (hk : P.underlying k = some (.int .i64)) {t e : TypeId} (ht : P.underlying t = some (.map k e)) {z : Value} (hz : (zeroValue e).run P w = .ok z w) (x : Int) (hx : (Lit.int .i64 x).wf = true) :
    (Instr.lookup t (.map (some b)) (.int .i64 x) true).run P w = .ok (.tuple #[(f x).getD z, .bool (f x).isSome]) w := by
  obtain ⟨D, h, hr⟩ := h
  obtain ⟨v, ps, hrun, hv⟩ := h.look_ok (z := z) (zd := .held z) (zp := []) (Maps.int_keyed hk) ht hz rfl (key := .int .i64 x) (kl := .int .i64 x) (Maps.keyOf_int_mk hk hx)
  rw [hrun, hr.has_ x hx]
  cases hs : f x with
  | none =>
    have hn : Maps.has D (.int .i64 x) = false := by rw [hr.has_ x hx, hs]; rfl
    rw [Maps.atKey_of_not_has hn] at hv
    cases hv
    rfl
  | some u =>
    rw [hr.at_ x u hs] at hv
    cases hv
    rfl
set_option maxRecDepth 100000 in
/-- 'm[x] = v'. -/
theorem GMap.store (h : GMap P k w b n f) (hk : P.underlying k = some (.int .i64)) {t e : TypeId} (ht : P.underlying t = some (.map k e)) (hn : n < maxLen) (x : Int) (hx : (Lit.int .i64 x).wf = true) (v : Value) :
    ∃ w', (Instr.mapUpdate t (.map (some b)) (.int .i64 x) v).run P w = .ok () w' ∧ GMap P k w' b (n + 1) (put f x v) ∧ w.grownBy w' (some b) ∧ w'.heap.size = w.heap.size := by
  obtain ⟨D, h, hr⟩ := h
  obtain ⟨w', hrun, h', hg⟩ := h.store (Maps.int_keyed hk) ht hn (key := .int .i64 x) (kl := .int .i64 x) (Maps.keyOf_int_mk hk hx) (val := v) (d := .held v) (ps := []) rfl
  have hgr := hg.grown
  obtain ⟨_, _, _, _, _, rfl⟩ := hg
  exact ⟨_, hrun, ⟨_, h', hr.put h.isMap x hx v⟩, hgr, by simp [ChangeMaps.setBlock]⟩
set_option maxRecDepth 100000 in
/-- 'delete(m, x)'. -/
theorem GMap.drop (h : GMap P k w b n f) (hk : P.underlying k = some (.int .i64)) {t e : TypeId} (ht : P.underlying t = some (.map k e)) (x : Int) (hx : (Lit.int .i64 x).wf = true) (ty : TypeId) :
    ∃ w', (Builtin.delete_ #[t, k] ty #[.map (some b), .int .i64 x]).run P w = .ok (.tuple #[]) w' ∧ GMap P k w' b n (del f x) ∧ w.grownBy w' (some b) ∧ w'.heap.size = w.heap.size := by
  obtain ⟨D, h, hr⟩ := h
  obtain ⟨w', hrun, h', hg⟩ := h.drop (Maps.int_keyed hk) ht (key := .int .i64 x) (kl := .int .i64 x) (Maps.keyOf_int_mk hk hx) ty
  have hgr := hg.grown
  obtain ⟨_, _, _, _, _, rfl⟩ := hg
  exact ⟨_, hrun, ⟨_, h', hr.del x⟩, hgr, by simp [ChangeMaps.setBlock]⟩
set_option maxRecDepth 100000 in
/-- How many there are: those of any list that tells the keys, each once. -/
theorem GMap.len (h : GMap P k w b n f) (hk : P.underlying k = some (.int .i64)) {t e : TypeId} (ht : P.underlying t = some (.map k e)) (l : List Int) (hl : l.Nodup) (hm : ∀ x, x ∈ l ↔ (f x).isSome = true) (ty : TypeId) :
    (Builtin.len_ #[t] ty #[.map (some b)]).run P w = .ok (.int .i64 l.length) w := by
  obtain ⟨D, h, hr⟩ := h
  rw [h.len ht ty]
  have hsz : Maps.size D = l.length := by
    obtain ⟨es, rfl, hp, hkl⟩ := h.entries (Maps.int_keyed hk)
    have hint : ∀ p ∈ es, ∃ x : Int, p.1 = .int .i64 x ∧ (Lit.int .i64 x).wf = true := by
      obtain ⟨es0, clock, hb, F, hs, hD⟩ := h
      intro p hp2
      have hD2 : es = (es0.toList.map (WideElems.rg P k RV)).foldr DataW.insert [] := by cases hD; rfl
      rw [hD2] at hp2
      obtain ⟨x, hx, rfl⟩ := List.mem_map.1 (mem_sorted.1 hp2)
      obtain ⟨y, hy⟩ := F.reads x hx
      rw [WideElems.rg_of hy]
      obtain ⟨i, _, hi, hw⟩ := Maps.keyOf_int_inv hk (WideElems.rd_key hy)
      exact ⟨i, hi, hw⟩
    have hmem : ∀ x : Int, (∃ p ∈ es, p.1 = .int .i64 x) ↔ x ∈ l := fun x => by
      rw [hm x]
      constructor
      · rintro ⟨p, hp2, he⟩
        obtain ⟨y, hy, hw⟩ := hint p hp2
        rw [he] at hy; cases hy
        rw [← hr.has_ x hw]
        exact List.any_eq_true.2 ⟨p, hp2, by rw [he]; exact WideAt.sameKey_self (by simp [WideAt.IsKeyLit])⟩
      · intro hx
        obtain ⟨v, hv⟩ := Option.isSome_iff_exists.1 hx
        have hw := hr.wf x v hv
        have hh := hr.has_ x hw
        rw [hv] at hh
        obtain ⟨p, hp2, hps⟩ := List.any_eq_true.1 hh
        exact ⟨p, hp2, WideAt.sameKey_eq hps⟩
    have hkeys : (es.map Prod.fst).Perm (l.map (Lit.int .i64)) := by
      refine (List.perm_ext_iff_of_nodup ?_ ?_).2 fun q => ?_
      · rw [List.nodup_iff_pairwise_ne, List.pairwise_map]; exact hp
      · rw [List.nodup_iff_pairwise_ne, List.pairwise_map]
        exact (List.nodup_iff_pairwise_ne.1 hl).imp fun {a b} hab hc => hab (by cases hc; rfl)
      · constructor
        · intro hq
          obtain ⟨p, hp2, rfl⟩ := List.mem_map.1 hq
          obtain ⟨y, hy, _⟩ := hint p hp2
          rw [hy]
          exact List.mem_map.2 ⟨y, (hmem y).1 ⟨p, hp2, hy⟩, rfl⟩
        · intro hq
          obtain ⟨x, hx, rfl⟩ := List.mem_map.1 hq
          obtain ⟨p, hp2, he⟩ := (hmem x).2 hx
          exact List.mem_map.2 ⟨p, hp2, he⟩
    have := hkeys.length_eq
    simpa [Maps.size] using this
  rw [hsz]
/-- A range under way: 'left': which keys are still to come. -/
def GRange (P : Program) (k : TypeId) (w : World) (b r n : Nat) (f : Int → Option Value) (left : Int → Bool) (cnt : Nat) : Prop :=
  ∃ D L, w.ranges P k RV b r n D L cnt ∧ Tells D f ∧ ∀ x : Int, (Lit.int .i64 x).wf = true → L (.int .i64 x) = left x
variable {r cnt : Nat} {left : Int → Bool}
set_option maxRecDepth 100000 in
theorem GRange.keep {w' : World} (h : GRange P k w b r n f left cnt) (h1 : w'.heap[b]? = w.heap[b]?) (h2 : w'.heap[r]? = w.heap[r]?) : GRange P k w' b r n f left cnt := by
  obtain ⟨D, L, ⟨es, clock, since, seen, c0, hb, F, hs, hD, hr, rest⟩, ht, hl⟩ := h
  exact ⟨D, L, ⟨es, clock, since, seen, c0, h1.trans hb, F, hs, hD, h2.trans hr, rest⟩, ht, hl⟩
set_option maxRecDepth 100000 in
theorem GRange.left_eq (h : GRange P k w b r n f left cnt) : w.rangeLeft b r = cnt := by obtain ⟨D, L, h, _⟩ := h; exact h.left_eq
set_option maxRecDepth 100000 in
theorem GRange.owns (h : GRange P k w b r n f left cnt) : GMap P k w b n f := by obtain ⟨D, L, h, ht, _⟩ := h; exact ⟨D, h.owns, ht⟩
set_option maxRecDepth 100000 in
theorem GRange.lt (h : GRange P k w b r n f left cnt) : r < w.heap.size := by obtain ⟨D, L, h, _⟩ := h; exact h.lt
set_option maxRecDepth 100000 in
theorem GRange.below {w' : World} (h : GRange P k w b r n f left cnt) (hb : Below w.heap.size w w') : GRange P k w' b r n f left cnt := h.keep (hb.block b h.owns.lt) (hb.block r h.lt)
end
section
variable {P : Program} (w : World) {ops : Array Oper} {rest : List Oper} {o : Oper} {a : Act} {Q : Exit → Act → World → Prop}
set_option maxRecDepth 100000 in
theorem wpList_mapUpdate_gm (hg : o.guard = none) (m x v : Operand) (t : TypeId) (hop : o.op = Op.mapUpdate t m x v) {k e : TypeId} (hk : P.underlying k = some (.int .i64)) (ht : P.underlying t = some (.map k e))
    (b n : Nat) (f : Int → Option Value) (hm : a.eval m = .map (some b)) (h : GMap P k w b n f) (hn : n < maxLen) (y : Int) (hx : a.eval x = .int .i64 y) (hy : (Lit.int .i64 y).wf = true) (u : Value) (hv : a.eval v = u)
    (hK : ∀ w', GMap P k w' b (n + 1) (put f y u) → w.grownBy w' (some b) → w'.heap.size = w.heap.size → wpList P ops Q rest (a.put o.dst undef) w') : wpList P ops Q (o :: rest) a w := by
  refine wpList_plain hg fun K' hK' => ?_
  obtain ⟨w', hrun, r1, r2, r3⟩ := h.store hk ht hn y hy u
  unfold Oper.wp
  simp [execOp, hop, hm, hx, hv, hrun, Result.andThen]
  exact hK' _ _ (hK w' r1 r2 r3)
set_option maxRecDepth 100000 in
theorem wpList_delete_gm (hg : o.guard = none) (m x : Operand) (t k : TypeId) (hop : o.op = Op.call { callee := Callee.builtin Builtin.delete, args := #[m, x], argTypes := #[t, k] }) {e : TypeId} (hk : P.underlying k = some (.int .i64)) (ht : P.underlying t = some (.map k e))
    (b n : Nat) (f : Int → Option Value) (hm : a.eval m = .map (some b)) (h : GMap P k w b n f) (y : Int) (hx : a.eval x = .int .i64 y) (hy : (Lit.int .i64 y).wf = true)
    (hK : ∀ w', GMap P k w' b n (del f y) → w.grownBy w' (some b) → w'.heap.size = w.heap.size → wpList P ops Q rest (a.put o.dst (.tuple #[])) w') : wpList P ops Q (o :: rest) a w := by
  refine wpList_plain hg fun K' hK' => ?_
  obtain ⟨w', hrun, r1, r2, r3⟩ := h.drop hk ht y hy o.type
  unfold Oper.wp
  simp [execOp, hop, resolve, invoke, builtin, hm, hx, hrun, Result.andThen]
  exact hK' _ _ (hK w' r1 r2 r3)
set_option maxRecDepth 100000 in
theorem wpList_len_gm (hg : o.guard = none) (m : Operand) (t : TypeId) (hop : o.op = Op.call { callee := Callee.builtin Builtin.len, args := #[m], argTypes := #[t] }) {k e : TypeId} (hk : P.underlying k = some (.int .i64)) (ht : P.underlying t = some (.map k e))
    (b n : Nat) (f : Int → Option Value) (hm : a.eval m = .map (some b)) (h : GMap P k w b n f) (l : List Int) (hl : l.Nodup) (hmem : ∀ x, x ∈ l ↔ (f x).isSome = true)
    (hK : wpList P ops Q rest (a.put o.dst (.int .i64 l.length)) w) : wpList P ops Q (o :: rest) a w := by
  refine wpList_plain hg fun K' hK' => ?_
  unfold Oper.wp
  simp [execOp, hop, resolve, invoke, builtin, hm, h.len hk ht l hl hmem o.type, Result.andThen]
  exact hK' _ _ hK
set_option maxRecDepth 100000 in
theorem wpList_range_gm (hg : o.guard = none) (m : Operand) (t : TypeId) (hop : o.op = Op.range t m) {k e : TypeId} (hk : P.underlying k = some (.int .i64)) (ht : P.underlying t = some (.map k e)) (b n : Nat) (f : Int → Option Value)
    (hm : a.eval m = .map (some b)) (h : GMap P k w b n f)
    (hK : ∀ w' cnt, GRange P k w' b w.heap.size n f (fun x => (f x).isSome) cnt → w.grownBy w' none → w'.heap.size = w.heap.size + 1 → wpList P ops Q rest (a.put o.dst (.pointer (some ⟨w.heap.size, 0, none⟩))) w') :
    wpList P ops Q (o :: rest) a w := by
  obtain ⟨D, h, hr⟩ := h
  exact wpList_range_own w hg m t hop k e (Maps.int_keyed hk) ht RV b n D hm h fun w' hrg hgr hs => hK w' _ ⟨D, _, hrg, hr, fun x hx => hr.has_ x hx⟩ hgr hs
set_option maxRecDepth 100000 in
theorem wpList_next_gm (hg : o.guard = none) (it : Operand) (hop : o.op = Op.next it false) {k : TypeId} (hk : P.underlying k = some (.int .i64)) (b r n : Nat) (f : Int → Option Value) (left : Int → Bool) (cnt : Nat)
    (hit : a.eval it = .pointer (some ⟨r, 0, none⟩)) (h : GRange P k w b r n f left cnt)
    (hDone : cnt = 0 → (∀ x : Int, (Lit.int .i64 x).wf = true → left x = false) → wpList P ops Q rest (a.put o.dst (.tuple #[.bool false])) w)
    (hMore : ∀ (x : Int) (v : Value) (w' : World) (cnt' : Nat), f x = some v → left x = true → GRange P k w' b r n f (fun y => left y && !(decide (y = x))) cnt' → cnt' < cnt →
      w.grownBy w' (some r) → w'.heap.size = w.heap.size → (Instr.entry (.pointer (some ⟨r, 0, none⟩))).run P w' = .ok (.tuple #[.int .i64 x, v]) w' → wpList P ops Q rest (a.put o.dst (.tuple #[.bool true, .int .i64 x, v])) w') :
    wpList P ops Q (o :: rest) a w := by
  obtain ⟨D, L, h, ht, hl⟩ := h
  refine wpList_next_ranges w hg it hop k (Maps.int_keyed hk) RV (Value.int .i64) (fun v : Value => v) (fun key kl hkey => by obtain ⟨x, rfl, _⟩ := Maps.keyOf_int_inv hk hkey; exact ⟨x, rfl⟩) (fun v y _ => ⟨v, rfl⟩)
    b r n D L cnt hit h (fun h0 hL => hDone h0 fun x hx => by rw [← hl x hx]; exact hL _) (fun x c kl y w' cnt' hkey hlk hv hat hrg hlt hgr hsz hen => ?_)
  obtain ⟨x', ex, rfl, hwx⟩ := Maps.keyOf_int_inv hk hkey
  cases ex
  cases hv
  have hh := ht.has_ x hwx
  rw [Maps.has_true_of_atKey hat] at hh
  obtain ⟨u, hu⟩ := Option.isSome_iff_exists.1 hh.symm
  have e1 := (hat (.held c)).symm.trans (ht.at_ x u hu (.held c))
  cases e1
  refine hMore x c w' cnt' hu (by rw [← hl x hwx]; exact hlk) ⟨D, _, hrg, ht, fun z hz => ?_⟩ hlt hgr hsz hen
  rw [hl z hz]
  by_cases e : z = x
  · subst e; simp [Lit.sameKey]
  · simp [e, Lit.sameKey]
end
end Drawbar.Gm
namespace Drawbar.Scan
open Drawbar Drawbar.Sheet Drawbar.Nand

set_option maxRecDepth 100000 in
theorem snocRec {α : Type} {P : List α → Prop} (nil : P []) (append : ∀ l x, P l → P (l ++ [x])) (l : List α) : P l := by
  have h : ∀ r : List α, P r.reverse := fun r => by
    induction r with
    | nil => exact nil
    | cons x r ih => rw [List.reverse_cons]; exact append _ x ih
  have := h l.reverse
  rwa [List.reverse_reverse] at this
/-- A page that is whole: its block, its place there, what stands on it. -/
structure Fnd where
  b : Nat
  p : Nat
  s : Sh

/-- The sheet on a page, if it is one, of an address up to m. -/
noncomputable def adr (m : Int) (l : List Nat) : Option Sh := if (readS l).2 = 0 ∧ (readS l).1.k ≠ 3 ∧ (readS l).1.ad ≤ m then some (readS l).1 else none
noncomputable def one (m : Int) (i j : Nat) (l : List Nat) : List Fnd := match adr m l with
  | some x => [⟨i, j, x⟩]
  | none => []
/-- The first n pages. -/
noncomputable def foundTo (m : Int) (i : Nat) (pages : List (List Nat)) : Nat → List Fnd
  | 0 => []
  | n + 1 => foundTo m i pages n ++ one m i n (pages.getD n [])
noncomputable def blockF (m : Int) (s : Arr) (i : Nat) : List Fnd := if (s.b i).torn = true then [] else foundTo m i (s.b i).pages (s.b i).pages.length
set_option maxRecDepth 100000 in
theorem one_len (m : Int) (i j : Nat) (l : List Nat) : (one m i j l).length ≤ 1 := by unfold one; split <;> simp
set_option maxRecDepth 100000 in
theorem foundTo_len (m : Int) (i : Nat) (pages : List (List Nat)) (n : Nat) : (foundTo m i pages n).length ≤ n := by
  induction n with
  | zero => simp [foundTo]
  | succ n ih => have := one_len m i n (pages.getD n []); rw [foundTo, List.length_append]; omega
set_option maxRecDepth 100000 in
theorem blockF_len (m : Int) (s : Arr) (i : Nat) : (blockF m s i).length ≤ (s.b i).pages.length := by
  unfold blockF; split
  · simp
  · exact foundTo_len _ _ _ _
/-- What is found is of an address. -/
structure Fit (m : Int) (n q : Nat) (x : Fnd) : Prop where
  b : x.b < n
  p : x.p < q
  ad0 : 0 ≤ x.s.ad
  ad1 : x.s.ad ≤ m
  ad2 : x.s.ad ≤ 65535
  k : x.s.k = 1 ∨ x.s.k = 2
  fr : -1 ≤ x.s.fr ∧ x.s.fr ≤ 63
  sq : x.s.sq ≤ 281474976710655
  ep : x.s.ep ≤ 281474976710655
  da : x.s.da.length ≤ 64
set_option maxRecDepth 100000 in
theorem readS_ok {l : List Nat} (h : (readS l).2 = 0) : fm (readS l).1 = true ∧ page (readS l).1 = l := by
  unfold readS at h ⊢
  split at h
  · rename_i h1
    split at h
    · rename_i h2
      split at h
      · rename_i h3
        rw [if_pos h1, if_pos h2, if_pos h3]
        exact h3
      · cases h
    · cases h
  · cases h
set_option maxRecDepth 100000 in
theorem fm_true {s : Sh} (h : fm s = true) : 1 ≤ s.k ∧ s.k ≤ 3 ∧ s.ep ≤ 281474976710655 ∧ s.sq ≤ 281474976710655 ∧ 0 ≤ s.ad ∧ s.ad ≤ 65535 ∧ -1 ≤ s.fr ∧ s.fr ≤ 63 ∧ s.da.length ≤ 64 := by
  have h9 := fm_len h
  unfold fm at h
  simp at h
  omega
set_option maxRecDepth 100000 in
theorem adr_fit {m : Int} {l : List Nat} {x : Sh} (h : adr m l = some x) (i j n q : Nat) (hi : i < n) (hj : j < q) : Fit m n q ⟨i, j, x⟩ := by
  unfold adr at h
  split at h
  · rename_i h1
    obtain ⟨h1, h2, h3⟩ := h1
    have hf := fm_true (readS_ok h1).1
    cases h
    exact ⟨hi, hj, hf.2.2.2.2.1, h3, hf.2.2.2.2.2.1, (by dsimp only; omega), (by dsimp only; omega), hf.2.2.2.1, hf.2.2.1, hf.2.2.2.2.2.2.2.2⟩
  · cases h
set_option maxRecDepth 100000 in
theorem foundTo_fit {m : Int} {i : Nat} {pages : List (List Nat)} {n q : Nat} (hi : i < n) : ∀ k, k ≤ q → ∀ x ∈ foundTo m i pages k, Fit m n q x ∧ x.b = i := by
  intro k
  induction k with
  | zero => intro _ x hx; cases hx
  | succ k ih =>
    intro hk x hx
    rcases List.mem_append.1 hx with h | h
    · exact ih (by omega) x h
    · unfold one at h
      split at h
      · rename_i y hy
        obtain rfl := List.mem_singleton.1 h
        exact ⟨adr_fit hy i k n q hi (by omega), rfl⟩
      · cases h
set_option maxRecDepth 100000 in
theorem blockF_fit {m : Int} {s : Arr} {i q : Nat} (hi : i < s.n) (hq : (s.b i).pages.length ≤ q) : ∀ x ∈ blockF m s i, Fit m s.n q x ∧ x.b = i := by
  intro x hx
  unfold blockF at hx
  split at hx
  · cases hx
  · exact foundTo_fit hi _ hq x hx

/-- What some blocks hold, one behind the other. -/
noncomputable def heldTo (m : Int) (s : Arr) (us : List Nat) : List Fnd := us.flatMap (blockF m s)
/-- The pages of a block. -/
def of (i : Int) (L : List Fnd) : List Fnd := L.filter fun x => decide ((x.b : Int) = i)
set_option maxRecDepth 100000 in
theorem of_len (i : Int) (L : List Fnd) : (of i L).length ≤ L.length := List.length_filter_le _ _
set_option maxRecDepth 100000 in
theorem of_append (i : Int) (L M : List Fnd) : of i (L ++ M) = of i L ++ of i M := List.filter_append ..
/-- A page of which the copy c can be. -/
def stem (c x : Sh) : Bool := ((decide (x.k = c.k) && decide (x.ad = c.ad)) && decide (x.sq < c.sq)) && decide (x.da = c.da)
def stands (L : List Fnd) (i : Int) (c : Sh) : Bool := (of i L).any fun x => stem c x.s
/-- Is a block but the beginning of a copying? -/
def spoilt (L : List Fnd) (i : Int) : Bool :=
  match of i L with
  | [] => false
  | x :: r => (x :: r).all fun y => decide (y.s.fr = x.s.fr) && stands L x.s.fr y.s
/-- Those that are, of some blocks, one behind the other; what is left. -/
def takeS : List Int → List Fnd → List Int × List Fnd
  | [], L => ([], L)
  | i :: us, L => if spoilt L i = true then
      let r := takeS us (L.filter fun x => !decide ((x.b : Int) = i)); (i :: r.1, r.2)
    else takeS us L
def most (L : List Fnd) : Nat := L.foldl (fun a x => max a x.s.sq) 0
/-- The newest page of an address. -/
def step (a : Int) (o : Option Fnd) (x : Fnd) : Option Fnd := if x.s.ad = a then (match o with
  | some y => if y.s.sq < x.s.sq then some x else some y
  | none => some x) else o
def best (L : List Fnd) (a : Int) : Option Fnd := L.foldl (step a) none
set_option maxRecDepth 100000 in
theorem best_snoc (L : List Fnd) (x : Fnd) (a : Int) : best (L ++ [x]) a = step a (best L a) x := by simp [best, List.foldl_append]
set_option maxRecDepth 100000 in
theorem best_mem (L : List Fnd) (a : Int) : ∀ x, best L a = some x → x ∈ L ∧ x.s.ad = a := by
  induction L using snocRec with
  | nil => intro x h; cases h
  | append L y ih =>
    intro x h
    rw [best_snoc] at h
    unfold step at h
    split at h
    · rename_i hy
      cases hz : best L a with
      | none => rw [hz] at h; cases h; exact ⟨by simp, hy⟩
      | some z =>
        rw [hz] at h
        dsimp only at h
        split at h
        · cases h; exact ⟨by simp, hy⟩
        · have := ih z hz; cases h; exact ⟨List.mem_append_left _ this.1, this.2⟩
    · have := ih x h; exact ⟨List.mem_append_left _ this.1, this.2⟩
end Drawbar.Scan
namespace Go.Proofs.YtmhmmemmdekjhaaDoor
open Go.RowKit
open Drawbar Drawbar.Sheet
def ReadPostF (w : World) (r : Sh × Nat) (e : Ending) (w' : World) : Prop :=
  ∃ a c, e = .returned (.tuple #[sv r.1 a c, .int .i64 (r.2 : Nat)]) ∧ Rd w' a r.1.da ∧ r.1.da.length ≤ c ∧ (a = none → c = 0) ∧ Below w.heap.size w w' ∧ (0 < r.1.da.length → ∀ k, a = some k → w.heap.size ≤ k.block)
set_option maxRecDepth 100000 in
theorem read_zerof (w w' : World) (n : Nat) (hb : Below w.heap.size w w') : ReadPostF w (zeroS, n) (.returned (.tuple #[.agg #[.int .u8 0, .int .u64 0, .int .u64 0, .int .i64 0, .int .i64 0, .slice none 0 0], .int .i64 n])) w' :=
  ⟨none, 0, rfl, rd_nil _, by simp [zeroS], fun _ => rfl, hb, fun h => by simp [zeroS] at h⟩

set_option maxRecDepth 100000 in
set_option maxHeartbeats 4000000 in
theorem sread_fr (l : List Nat) (a : Option Addr) (c : Nat) (w : World) (N : Nat) (hN : l.length = N) (hr : Rd w a l) (hc : l.length ≤ c) (hnil : a = none → c = 0) (hT : Tab w) :
    Calls Tryd.prog 87 #[.slice a N c] w (ReadPostF w (readS l)) := by
  have hbw : Below w.heap.size w (w.alloc zob) := (Below.refl _ _).alloc (Nat.le_refl _) _
  have hblk := heap_alloc_new w zob
  have hb0 := Below.refl (w.heap.size + 1) (w.alloc zob)
  have hsz0 : (w.alloc zob).heap.size = w.heap.size + 1 := by simp
  by_cases h96 : l.length = 96
  · obtain rfl : N = 96 := by omega
    obtain ⟨b, off, rfl, hcell⟩ := hr.2.2 (by omega)
    have hc95 := (fun W hb => by rw [Below.cell (B := w.heap.size) (w := w) (w' := W) hb (World.block_lt_of_cell? w _ (hcell 95 (by omega)))]; exact hcell 95 (by omega) : ∀ W, Below w.heap.size w W → W.cell? ⟨b, off + 95, none⟩ = some (.int .u8 (l.getD 95 0 : Nat))) _ hbw
    clear hcell
    by_cases h90 : l.getD 95 0 = 90
    · rw [h90] at hc95
      have hl95 : (l.take 95).length = 95 := by rw [List.length_take]; omega
      have hl91 : (l.take 91).length = 91 := by rw [List.length_take]; omega
      have htt : (l.take 95).take 91 = l.take 91 := by rw [List.take_take]; rfl
      have hO : ∀ W, Below w.heap.size w W → Calls Tryd.prog 91 #[.slice (some ⟨b, off, none⟩) 95 c] W (fun e w' => Below W.heap.size W w' ∧ (¬ valid (l.take 95) → e = .returned (.tuple #[.slice none 0 0, .int .i64 4])) ∧
          (valid (l.take 95) → ∃ a k, e = .returned (.tuple #[.slice a 91 k, .int .i64 0]) ∧ 91 ≤ k ∧ Rd w' a (l.take 91))) := fun W hb => by
        have h := open_any (l.take 95) (some ⟨b, off, none⟩) c W ((hr.take 95).below hb) (by omega) (hT.below hb hT.pos)
        rw [hl95] at h
        refine h.mono ?_
        rintro e w' ⟨hb1, h1⟩
        rw [hl95] at h1
        refine ⟨hb1, fun hv => ?_, fun hv => ?_⟩
        · rcases h1 with ⟨h1, _⟩ | ⟨_, _, h1⟩ | ⟨h1, _⟩
          · omega
          · exact h1
          · exact absurd h1 hv
        · rcases h1 with ⟨h1, _⟩ | ⟨_, h1, _⟩ | ⟨_, a, k, h2, h3, h4⟩
          · omega
          · exact absurd hv h1
          · rw [show 95 - 4 = 91 from rfl] at h2 h3 h4
            rw [htt] at h4
            exact ⟨a, k, h2, h3, h4⟩
      have HO := Lib.hid hO
      clear hO
      by_cases hv : valid (l.take 95)
      · obtain ⟨x, hx⟩ : ∃ x, partsS (l.take 91) = x := ⟨_, rfl⟩
        have hP : ∀ W a k, Rd W a (l.take 91) → 91 ≤ k → (a = none → k = 0) → Calls Tryd.prog 92 #[.slice a 91 k] W fun e w' => ∃ a' c', e = .returned (sv x a' c') ∧ Rd w' a' x.da ∧ x.da.length ≤ c' ∧ (a' = none → c' = 0) ∧ Below W.heap.size W w' ∧ (0 < x.da.length → ∀ k, a' = some k → W.heap.size ≤ k.block) := fun W a k h1 h2 h3 => by
          have h := parts_any (l.take 91) a k W h1 (by omega) h3 91 hl91
          rw [hx] at h
          exact h
        have HP := Lib.hid hP
        clear hP
        have HT := Lib.hid hT
        have HRL := Lib.hid hr
        have HV := Lib.hid hv
        cases hf : fm x with
        | true =>
          have HFX := Lib.hid hf
          by_cases hpl : page x = l
          · have hR : readS l = (x, 0) := by
              unfold readS
              rw [if_pos ⟨h96, h90⟩, if_pos hv, hx, if_pos ⟨hf, hpl⟩]
            rw [hR]
            have HPL := Lib.hid hpl
            have HLL := Lib.hid h96
            clear hR hf hpl hv hx hr hT h96 h90
            generalize hw1 : w.alloc zob = w1 at *
            go_enter Tryd.func87, Tryd.ntmps87
            go_wp2_with (first
              | (go_at_call 91; (with_reducible refine (HO.out _ hbw).mono ?_); rintro e w2 ⟨hb2', ho1, ho2⟩; obtain ⟨a2, k2, rfl, hk2, hr2⟩ := ho2 HV.out; have hb2 := hb0.trans (hb2'.mono (by omega)); have hn2 : a2 = none → k2 = 0 := (fun h => by obtain ⟨bb, oo, e, _⟩ := hr2.2.2 (by omega); rw [h] at e; cases e); clear ho1 ho2)
              | (go_at_call 92; (with_reducible refine (HP.out _ a2 k2 hr2 hk2 hn2).mono ?_); rintro e w3 ⟨a3, c3, rfl, hr3, hc3, hn3, hb3', hfr3⟩; have hb3 := hb2.trans (hb3'.mono (by have := hb2.size; omega)))
              | (go_at_call 23; (with_reducible refine (lay_gives x a3 c3 _ HFX.out (hr3.below (boxs_below w3 44 x a3 c3)) hc3 hn3 ((HT.out.below (hbw.trans (hb3.mono (Nat.le_succ _))) HT.out.pos).alloc _)).mono ?_); rintro e w5 ⟨a5, k5, rfl, hk5, hr5, hb5', -⟩; have hb5 : Below (w.heap.size + 1) w1 w5 := hb3.trans ((boxs_below w3 44 x a3 c3).trans (hb5'.mono (by simp)) |>.mono (by have := hb3.size; omega)))
              | (go_at_call 93; (with_reducible refine (equal_any (page x) l a5 _ k5 _ w5 96 96 hr5 (HRL.out.below (hbw.trans (hb5.mono (Nat.le_succ _)))) (by rw [HPL.out]; exact HLL.out) HLL.out).mono ?_); rintro e w6 ⟨rfl, rfl⟩; have hdd : decide (page x = l) = true := decide_eq_true HPL.out; obtain ⟨⟨t0, t1, t2, t3, t4, t5⟩, ⟨z0, z1, z2, z3, z4, z5⟩⟩ := six_cells ((hb5.block _ (Nat.lt_succ_self _)).trans hblk); obtain ⟨y0, y1, y2, y3, y4, y5⟩ := boxs_cells w3 44 x a3 c3 _ hb5'))
            have hfr5 : 0 < x.da.length → ∀ k, a3 = some k → k.block ≠ w.heap.size := fun h k hk e => by have := hfr3 h k hk; have := hb2.size; omega
            have hr5x := (((hr3.below (boxs_below w3 44 x a3 c3)).below hb5').grown (six_grown (v0 := .int .u8 x.k) (v1 := .int .u64 x.ep) (v2 := .int .u64 x.sq) (v3 := .int .i64 x.ad) (v4 := .int .i64 x.fr) (v5 := .slice a3 x.da.length c3) (g := w.heap.size)) hfr5)
            have hblkz := six_set (v0 := .int .u8 x.k) (v1 := .int .u64 x.ep) (v2 := .int .u64 x.sq) (v3 := .int .i64 x.ad) (v4 := .int .i64 x.fr) (v5 := .slice a3 x.da.length c3) ((hb5.block _ (Nat.lt_succ_self _)).trans hblk)
            have hbz := hbw.trans ((hb5.mono (Nat.le_succ _)).trans (six_below (v0 := .int .u8 x.k) (v1 := .int .u64 x.ep) (v2 := .int .u64 x.sq) (v3 := .int .i64 x.ad) (v4 := .int .i64 x.fr) (v5 := .slice a3 x.da.length c3) (Nat.le_refl w.heap.size)))
            generalize (((((w5.setCell ⟨w.heap.size, 0, none⟩ (.int .u8 x.k)).setCell ⟨w.heap.size, 1, none⟩ (.int .u64 x.ep)).setCell ⟨w.heap.size, 2, none⟩ (.int .u64 x.sq)).setCell ⟨w.heap.size, 3, none⟩ (.int .i64 x.ad)).setCell ⟨w.heap.size, 4, none⟩ (.int .i64 x.fr)).setCell ⟨w.heap.size, 5, none⟩ (.slice a3 x.da.length c3) = wz at *
            clear t0 t1 t2 t3 t4 t5 z0 z1 z2 z3 z4 z5
            refine bodyPost_ret (results_cell_tmp_row rfl _ _ w.heap.size 44 _ (0, 0) _ rfl hblkz Tryd.underlying44 rfl info_sheet) rfl ?_
            exact ⟨a3, c3, rfl, hr5x, hc3, hn3, hbz, fun h k hk => by have := hfr3 h k hk; have := hb2.size; omega⟩
          · have hR : readS l = (zeroS, 3) := by
              unfold readS
              rw [if_pos ⟨h96, h90⟩, if_pos hv, hx, if_neg (fun h => hpl h.2)]
            rw [hR]
            have HPL := Lib.hid (decide_eq_false hpl)
            have HLL := Lib.hid h96
            have HLX := Lib.hid (page_length x (fm_len hf))
            clear hR hf hpl hv hx hr hT h96 h90
            generalize hw1 : w.alloc zob = w1 at *
            go_enter Tryd.func87, Tryd.ntmps87
            go_wp2_with (first
              | (go_at_call 91; (with_reducible refine (HO.out _ hbw).mono ?_); rintro e w2 ⟨hb2', ho1, ho2⟩; obtain ⟨a2, k2, rfl, hk2, hr2⟩ := ho2 HV.out; have hb2 := hb0.trans (hb2'.mono (by omega)); have hn2 : a2 = none → k2 = 0 := (fun h => by obtain ⟨bb, oo, e, _⟩ := hr2.2.2 (by omega); rw [h] at e; cases e); clear ho1 ho2)
              | (go_at_call 92; (with_reducible refine (HP.out _ a2 k2 hr2 hk2 hn2).mono ?_); rintro e w3 ⟨a3, c3, rfl, hr3, hc3, hn3, hb3', hfr3⟩; have hb3 := hb2.trans (hb3'.mono (by have := hb2.size; omega)))
              | (go_at_call 23; (with_reducible refine (lay_gives x a3 c3 _ HFX.out (hr3.below (boxs_below w3 44 x a3 c3)) hc3 hn3 ((HT.out.below (hbw.trans (hb3.mono (Nat.le_succ _))) HT.out.pos).alloc _)).mono ?_); rintro e w5 ⟨a5, k5, rfl, hk5, hr5, hb5', -⟩; have hb5 : Below (w.heap.size + 1) w1 w5 := hb3.trans ((boxs_below w3 44 x a3 c3).trans (hb5'.mono (by simp)) |>.mono (by have := hb3.size; omega)))
              | (go_at_call 93; (with_reducible refine (equal_any (page x) l a5 _ k5 _ w5 96 96 hr5 (HRL.out.below (hbw.trans (hb5.mono (Nat.le_succ _)))) HLX.out HLL.out).mono ?_); rintro e w6 ⟨rfl, rfl⟩; have hdd := HPL.out; obtain ⟨⟨t0, t1, t2, t3, t4, t5⟩, ⟨z0, z1, z2, z3, z4, z5⟩⟩ := six_cells ((hb5.block _ (Nat.lt_succ_self _)).trans hblk)))
            have hblkz := six_set (v0 := .int .u8 0) (v1 := .int .u64 0) (v2 := .int .u64 0) (v3 := .int .i64 0) (v4 := .int .i64 0) (v5 := .slice none 0 0) ((hb5.block _ (Nat.lt_succ_self _)).trans hblk)
            have hbz := hbw.trans ((hb5.mono (Nat.le_succ _)).trans (six_below (v0 := .int .u8 0) (v1 := .int .u64 0) (v2 := .int .u64 0) (v3 := .int .i64 0) (v4 := .int .i64 0) (v5 := .slice none 0 0) (Nat.le_refl w.heap.size)))
            generalize (((((w5.setCell ⟨w.heap.size, 0, none⟩ (.int .u8 0)).setCell ⟨w.heap.size, 1, none⟩ (.int .u64 0)).setCell ⟨w.heap.size, 2, none⟩ (.int .u64 0)).setCell ⟨w.heap.size, 3, none⟩ (.int .i64 0)).setCell ⟨w.heap.size, 4, none⟩ (.int .i64 0)).setCell ⟨w.heap.size, 5, none⟩ (.slice none 0 0) = wz at *
            clear t0 t1 t2 t3 t4 t5 z0 z1 z2 z3 z4 z5
            refine bodyPost_ret (results_cell_tmp_row rfl _ _ w.heap.size 44 _ (0, 0) _ rfl hblkz Tryd.underlying44 rfl info_sheet) rfl ?_
            exact read_zerof w _ 3 hbz
        | false =>
          have hR : readS l = (zeroS, 3) := by
            unfold readS
            rw [if_pos ⟨h96, h90⟩, if_pos hv, hx, if_neg (fun h => by rw [hf] at h; exact absurd h.1 (by simp))]
          rw [hR]
          have HFX := Lib.hid hf
          have HLL := Lib.hid h96
          have hne : ([] : List Nat) ≠ l := fun h => by rw [← h] at h96; simp at h96
          have HPL := Lib.hid (show decide (l = []) = false from decide_eq_false (fun h => hne h.symm))
          clear hR hf hv hx hr hT h96 h90 hne
          generalize hw1 : w.alloc zob = w1 at *
          go_enter Tryd.func87, Tryd.ntmps87
          go_wp2_with (first
              | (go_at_call 91; (with_reducible refine (HO.out _ hbw).mono ?_); rintro e w2 ⟨hb2', ho1, ho2⟩; obtain ⟨a2, k2, rfl, hk2, hr2⟩ := ho2 HV.out; have hb2 := hb0.trans (hb2'.mono (by omega)); have hn2 : a2 = none → k2 = 0 := (fun h => by obtain ⟨bb, oo, e, _⟩ := hr2.2.2 (by omega); rw [h] at e; cases e); clear ho1 ho2)
              | (go_at_call 92; (with_reducible refine (HP.out _ a2 k2 hr2 hk2 hn2).mono ?_); rintro e w3 ⟨a3, c3, rfl, hr3, hc3, hn3, hb3', hfr3⟩; have hb3 := hb2.trans (hb3'.mono (by have := hb2.size; omega)))
              | (go_at_call 23; (with_reducible refine (lay_none x a3 c3 _ HFX.out).mono ?_); rintro e w5 ⟨rfl, hb5'⟩; have hb5 : Below (w.heap.size + 1) w1 w5 := hb3.trans ((boxs_below w3 44 x a3 c3).trans (hb5'.mono (by simp)) |>.mono (by have := hb3.size; omega)))
              | (go_at_call 93; (with_reducible refine (equal_any [] l none _ 0 _ w5 0 96 (rd_nil _) (HRL.out.below (hbw.trans (hb5.mono (Nat.le_succ _)))) List.length_nil HLL.out).mono ?_); rintro e w6 ⟨rfl, rfl⟩; have hdd := HPL.out; obtain ⟨⟨t0, t1, t2, t3, t4, t5⟩, ⟨z0, z1, z2, z3, z4, z5⟩⟩ := six_cells ((hb5.block _ (Nat.lt_succ_self _)).trans hblk)))
          have hblkz := six_set (v0 := .int .u8 0) (v1 := .int .u64 0) (v2 := .int .u64 0) (v3 := .int .i64 0) (v4 := .int .i64 0) (v5 := .slice none 0 0) ((hb5.block _ (Nat.lt_succ_self _)).trans hblk)
          have hbz := hbw.trans ((hb5.mono (Nat.le_succ _)).trans (six_below (v0 := .int .u8 0) (v1 := .int .u64 0) (v2 := .int .u64 0) (v3 := .int .i64 0) (v4 := .int .i64 0) (v5 := .slice none 0 0) (Nat.le_refl w.heap.size)))
          generalize (((((w5.setCell ⟨w.heap.size, 0, none⟩ (.int .u8 0)).setCell ⟨w.heap.size, 1, none⟩ (.int .u64 0)).setCell ⟨w.heap.size, 2, none⟩ (.int .u64 0)).setCell ⟨w.heap.size, 3, none⟩ (.int .i64 0)).setCell ⟨w.heap.size, 4, none⟩ (.int .i64 0)).setCell ⟨w.heap.size, 5, none⟩ (.slice none 0 0) = wz at *
          clear t0 t1 t2 t3 t4 t5 z0 z1 z2 z3 z4 z5
          refine bodyPost_ret (results_cell_tmp_row rfl _ _ w.heap.size 44 _ (0, 0) _ rfl hblkz Tryd.underlying44 rfl info_sheet) rfl ?_
          exact read_zerof w _ 3 hbz
      · have hR : readS l = (zeroS, 4) := by
          unfold readS
          rw [if_pos ⟨h96, h90⟩, if_neg hv]
        rw [hR]
        have HV := Lib.hid hv
        clear hR hr hT hv h96 h90
        generalize hw1 : w.alloc zob = w1 at *
        go_enter Tryd.func87, Tryd.ntmps87
        go_wp2_with (go_at_call 91; (with_reducible refine (HO.out _ hbw).mono ?_); rintro e w2 ⟨hb2', ho1, ho2⟩; obtain rfl := ho1 HV.out; have hb2 := hb0.trans (hb2'.mono (by omega)); obtain ⟨⟨t0, t1, t2, t3, t4, t5⟩, ⟨z0, z1, z2, z3, z4, z5⟩⟩ := six_cells ((hb2.block _ (Nat.lt_succ_self _)).trans hblk); clear ho1 ho2)
        have hblkz := six_set (v0 := .int .u8 0) (v1 := .int .u64 0) (v2 := .int .u64 0) (v3 := .int .i64 0) (v4 := .int .i64 0) (v5 := .slice none 0 0) ((hb2.block _ (Nat.lt_succ_self _)).trans hblk)
        have hbz := hbw.trans ((hb2.mono (Nat.le_succ _)).trans (six_below (v0 := .int .u8 0) (v1 := .int .u64 0) (v2 := .int .u64 0) (v3 := .int .i64 0) (v4 := .int .i64 0) (v5 := .slice none 0 0) (Nat.le_refl w.heap.size)))
        generalize (((((w2.setCell ⟨w.heap.size, 0, none⟩ (.int .u8 0)).setCell ⟨w.heap.size, 1, none⟩ (.int .u64 0)).setCell ⟨w.heap.size, 2, none⟩ (.int .u64 0)).setCell ⟨w.heap.size, 3, none⟩ (.int .i64 0)).setCell ⟨w.heap.size, 4, none⟩ (.int .i64 0)).setCell ⟨w.heap.size, 5, none⟩ (.slice none 0 0) = wz at *
        clear t0 t1 t2 t3 t4 t5 z0 z1 z2 z3 z4 z5
        refine bodyPost_ret (results_cell_tmp_row rfl _ _ w.heap.size 44 _ (0, 0) _ rfl hblkz Tryd.underlying44 rfl info_sheet) rfl ?_
        exact read_zerof w _ 4 hbz
    · have hR : readS l = (zeroS, 3) := by unfold readS; rw [if_neg (fun h => h90 h.2)]
      rw [hR]
      generalize l.getD 95 0 = y at *
      have hne : ((y : Int) != 90) = true := by simp; omega
      have hfin := read_zerof w (w.alloc zob) 3 hbw
      have HF := Lib.hid hfin
      clear hfin hr hR hT
      go_enter Tryd.func87, Tryd.ntmps87
      go_wp2
      refine bodyPost_ret (results_cell_tmp_row rfl _ _ w.heap.size 44 _ (0, 0) _ rfl hblk Tryd.underlying44 rfl info_sheet) rfl ?_
      exact HF.out
  · have hR : readS l = (zeroS, 3) := by unfold readS; rw [if_neg (fun h => h96 h.1)]
    rw [hR]
    have hne : ((N : Int) != 96) = true := by simp; omega
    have hfin := read_zerof w (w.alloc zob) 3 hbw
    have HF := Lib.hid hfin
    clear hfin hr hT
    go_enter Tryd.func87, Tryd.ntmps87
    go_wp2
    refine bodyPost_ret (results_cell_tmp_row rfl _ _ w.heap.size 44 _ (0, 0) _ rfl hblk Tryd.underlying44 rfl info_sheet) rfl ?_
    exact HF.out
end Go.Proofs.YtmhmmemmdekjhaaDoor
namespace Go.Proofs.YtmhmmemmdekjhaaDoor.Sc
open Go.RowKit
open Drawbar Drawbar.Sheet Drawbar.Nand Drawbar.Scan

/-- A sheet's data in memory. -/
def DaAt (w : World) (v : Value) (l : List Nat) : Prop := ∃ a c, v = .slice a l.length c ∧ Rd w a l ∧ l.length ≤ c ∧ (a = none → c = 0)
set_option maxRecDepth 100000 in
theorem DaAt.below {w w' : World} {v : Value} {l : List Nat} (h : DaAt w v l) (hb : Below w.heap.size w w') : DaAt w' v l := by
  obtain ⟨a, c, rfl, hr, hc, hn⟩ := h
  exact ⟨a, c, rfl, hr.below hb, hc, hn⟩

set_option maxRecDepth 100000 in
set_option maxHeartbeats 2000000 in
theorem adr_yes (m : Int) (l : List Nat) (x : Sh) (hx : adr m l = some x) (a : Option Addr) (c : Nat) (w : World) (N : Nat) (hN : l.length = N) (hr : Rd w a l) (hc : l.length ≤ c) (hnil : a = none → c = 0) (hT : Tab w) :
    Calls Tryd.prog 75 #[.slice a N c, .int .i64 m] w fun e w' => ∃ a' c', e = .returned (.tuple #[sv x a' c', .bool true]) ∧ DaAt w' (.slice a' x.da.length c') x.da ∧ Below w.heap.size w w' ∧ (0 < x.da.length → ∀ k, a' = some k → w.heap.size ≤ k.block) := by
  have hbw : Below w.heap.size w (w.alloc zob) := (Below.refl _ _).alloc (Nat.le_refl _) _
  have hblk := heap_alloc_new w zob
  have hR := sread_fr l a c (w.alloc zob) N hN (hr.below hbw) hc hnil (hT.below hbw hT.pos)
  unfold adr at hx
  split at hx
  · rename_i h1
    obtain ⟨h1, h2, h3⟩ := h1
    cases hx
    rw [show readS l = ((readS l).1, 0) from Prod.ext rfl h1] at hR
    generalize (readS l).1 = x at *
    have hk : ((x.k : Int) == 3) = false := by simp; omega
    have ha : ¬ (m < x.ad) := by omega
    have HR := Lib.hid hR
    have hsz : (w.alloc zob).heap.size = w.heap.size + 1 := by simp
    clear hR h1 h2 h3 hr hT hN hc hnil
    generalize hw1 : w.alloc zob = w1 at *
    go_enter Tryd.func75, Tryd.ntmps75
    go_wp2_with fail
    refine HR.out.mono ?_
    rintro e w2 ⟨a2, c2, rfl, hr2, hc2, hn2, hb2, hfr2⟩
    dsimp only at hr2 hc2 hfr2 ⊢
    have hs2 := hb2.size
    have hblk2 := (hb2.block _ (by omega)).trans hblk
    have hbx := boxs_below w2 44 x a2 c2
    have hblk3 := (hbx.block _ (by omega)).trans hblk2
    obtain ⟨⟨t0, t1, t2, t3, t4, t5⟩, ⟨z0, z1, z2, z3, z4, z5⟩⟩ := six_cells hblk3
    have hfr5 : 0 < x.da.length → ∀ k, a2 = some k → k.block ≠ w.heap.size := fun h k hk e => by have := hfr2 h k hk; omega
    have hr5x := (hr2.below hbx).grown (six_grown (v0 := .int .u8 x.k) (v1 := .int .u64 x.ep) (v2 := .int .u64 x.sq) (v3 := .int .i64 x.ad) (v4 := .int .i64 x.fr) (v5 := .slice a2 x.da.length c2) (g := w.heap.size)) hfr5
    have hblkz := six_set (v0 := .int .u8 x.k) (v1 := .int .u64 x.ep) (v2 := .int .u64 x.sq) (v3 := .int .i64 x.ad) (v4 := .int .i64 x.fr) (v5 := .slice a2 x.da.length c2) hblk3
    have hbz := hbw.trans (((hb2.mono (by omega)).trans (hbx.mono (by omega))).trans (six_below (v0 := .int .u8 x.k) (v1 := .int .u64 x.ep) (v2 := .int .u64 x.sq) (v3 := .int .i64 x.ad) (v4 := .int .i64 x.fr) (v5 := .slice a2 x.da.length c2) (Nat.le_refl w.heap.size)))
    have HF := Lib.hid (And.intro hr5x (And.intro hblkz hbz))
    have hfr6 : 0 < x.da.length → ∀ k, a2 = some k → w.heap.size ≤ k.block := fun h k hk => by have := hfr2 h k hk; omega
    have HC := Lib.hid (And.intro hc2 (And.intro hn2 hfr6))
    clear hfr6
    clear hr5x hblkz hbz hfr5 hr2 hc2 hn2 hfr2 hb2 hblk hblk2 hblk3 hbw hbx HR hw1 hs2 hsz
    go_wp2
    obtain ⟨hr5x, hblkz, hbz⟩ := HF.out
    generalize (((((((w2.alloc (boxs 44 x a2 c2)).setCell ⟨w.heap.size, 0, none⟩ (.int .u8 x.k)).setCell ⟨w.heap.size, 1, none⟩ (.int .u64 x.ep)).setCell ⟨w.heap.size, 2, none⟩ (.int .u64 x.sq)).setCell ⟨w.heap.size, 3, none⟩ (.int .i64 x.ad)).setCell ⟨w.heap.size, 4, none⟩ (.int .i64 x.fr)).setCell ⟨w.heap.size, 5, none⟩ (.slice a2 x.da.length c2)) = wz at *
    clear t0 t1 t2 t3 t4 t5 z0 z1 z2 z3 z4 z5
    refine bodyPost_ret (results_cell_tmp_row rfl _ _ w.heap.size 44 _ (0, 0) _ rfl hblkz Tryd.underlying44 rfl info_sheet) rfl ?_
    exact ⟨a2, c2, rfl, ⟨a2, c2, rfl, hr5x, HC.out.1, HC.out.2.1⟩, hbz, HC.out.2.2⟩
  · cases hx

set_option maxRecDepth 100000 in
set_option maxHeartbeats 2000000 in
theorem adr_no (m : Int) (l : List Nat) (hx : adr m l = none) (a : Option Addr) (c : Nat) (w : World) (N : Nat) (hN : l.length = N) (hr : Rd w a l) (hc : l.length ≤ c) (hnil : a = none → c = 0) (hT : Tab w) :
    Calls Tryd.prog 75 #[.slice a N c, .int .i64 m] w fun e w' => e = .returned (.tuple #[.agg #[.int .u8 0, .int .u64 0, .int .u64 0, .int .i64 0, .int .i64 0, .slice none 0 0], .bool false]) ∧ Below w.heap.size w w' := by
  have hbw : Below w.heap.size w (w.alloc zob) := (Below.refl _ _).alloc (Nat.le_refl _) _
  have hblk := heap_alloc_new w zob
  have hR := sread_fr l a c (w.alloc zob) N hN (hr.below hbw) hc hnil (hT.below hbw hT.pos)
  unfold adr at hx
  split at hx
  · cases hx
  · rename_i h1
    have hcases : ((((readS l).2 : Nat) : Int) != 0) = true ∨ (((((readS l).2 : Nat) : Int) != 0) = false ∧ (((readS l).1.k : Int) == 3) = true) ∨ (((((readS l).2 : Nat) : Int) != 0) = false ∧ (((readS l).1.k : Int) == 3) = false ∧ m < (readS l).1.ad) := by
      simp only [bne_iff_ne, ne_eq, beq_iff_eq, bne_eq_false_iff_eq, beq_eq_false_iff_ne]
      by_cases e1 : (readS l).2 = 0
      · by_cases e2 : (readS l).1.k = 3
        · exact .inr (.inl ⟨by omega, by omega⟩)
        · by_cases e3 : (readS l).1.ad ≤ m
          · exact absurd ⟨e1, e2, e3⟩ h1
          · exact .inr (.inr ⟨by omega, by omega, by omega⟩)
      · exact .inl (by omega)
    clear h1
    generalize readS l = r at *
    obtain ⟨x, z⟩ := r
    dsimp only at hcases
    have HR := Lib.hid hR
    have hsz : (w.alloc zob).heap.size = w.heap.size + 1 := by simp
    clear hR hr hT hN hc hnil
    generalize hw1 : w.alloc zob = w1 at *
    rcases hcases with q1 | ⟨q1, q2⟩ | ⟨q1, q2, q3⟩
    all_goals
      go_enter Tryd.func75, Tryd.ntmps75
      go_wp2_with fail
      refine HR.out.mono ?_
      rintro e w2 ⟨a2, c2, rfl, hr2, hc2, hn2, hb2, hfr2⟩
      dsimp only at hr2 hc2 hfr2 ⊢
      have hs2 := hb2.size
      have hblk2 := (hb2.block _ (by omega)).trans hblk
      have hbx := boxs_below w2 44 x a2 c2
      have hblk3 := (hbx.block _ (by omega)).trans hblk2
      obtain ⟨⟨t0, t1, t2, t3, t4, t5⟩, ⟨z0, z1, z2, z3, z4, z5⟩⟩ := six_cells hblk3
      have hblkz := six_set (v0 := .int .u8 0) (v1 := .int .u64 0) (v2 := .int .u64 0) (v3 := .int .i64 0) (v4 := .int .i64 0) (v5 := .slice none 0 0) hblk3
      have hbz := hbw.trans (((hb2.mono (by omega)).trans (hbx.mono (by omega))).trans (six_below (v0 := .int .u8 0) (v1 := .int .u64 0) (v2 := .int .u64 0) (v3 := .int .i64 0) (v4 := .int .i64 0) (v5 := .slice none 0 0) (Nat.le_refl w.heap.size)))
      have HF := Lib.hid (And.intro hblkz hbz)
      clear hblkz hbz hr2 hc2 hn2 hfr2 hb2 hblk hblk2 hblk3 hbw hbx HR hw1 hs2 hsz
      go_wp2
      obtain ⟨hblkz, hbz⟩ := HF.out
      generalize (((((((w2.alloc (boxs 44 x a2 c2)).setCell ⟨w.heap.size, 0, none⟩ (.int .u8 0)).setCell ⟨w.heap.size, 1, none⟩ (.int .u64 0)).setCell ⟨w.heap.size, 2, none⟩ (.int .u64 0)).setCell ⟨w.heap.size, 3, none⟩ (.int .i64 0)).setCell ⟨w.heap.size, 4, none⟩ (.int .i64 0)).setCell ⟨w.heap.size, 5, none⟩ (.slice none 0 0)) = wz at *
      clear t0 t1 t2 t3 t4 t5 z0 z1 z2 z3 z4 z5
      refine bodyPost_ret (results_cell_tmp_row rfl _ _ w.heap.size 44 _ (0, 0) _ rfl hblkz Tryd.underlying44 rfl info_sheet) rfl ?_
      exact ⟨rfl, hbz⟩
end Go.Proofs.YtmhmmemmdekjhaaDoor.Sc
namespace Go.Proofs.YtmhmmemmdekjhaaDoor.Sc
open Go.RowKit
open Drawbar Drawbar.Sheet Drawbar.Nand Drawbar.Scan Go.Proofs.YtmhmmemmdekjhaaDoor.Nd

def fcells (x : Fnd) (v : Value) : List Value := [.int .i64 x.b, .int .i64 x.p, .int .u8 x.s.k, .int .u64 x.s.ep, .int .u64 x.s.sq, .int .i64 x.s.ad, .int .i64 x.s.fr, v]
set_option maxRecDepth 100000 in
theorem fcells_length (x : Fnd) (v : Value) : (fcells x v).length = 8 := rfl
def rowF : List (Fnd × Value) → List Value
  | [] => []
  | q :: r => fcells q.1 q.2 ++ rowF r
set_option maxRecDepth 100000 in
theorem rowF_length (l : List (Fnd × Value)) : (rowF l).length = l.length * 8 := by
  induction l with
  | nil => rfl
  | cons q r ih => rw [rowF, List.length_append, fcells_length, ih, List.length_cons]; omega
set_option maxRecDepth 100000 in
theorem rowF_append (l m : List (Fnd × Value)) : rowF (l ++ m) = rowF l ++ rowF m := by
  induction l with
  | nil => rfl
  | cons q r ih => rw [List.cons_append, rowF, rowF, ih, List.append_assoc]
set_option maxRecDepth 100000 in
theorem rowF_snoc (l : List (Fnd × Value)) (x : Fnd) (v : Value) : rowF (l ++ [(x, v)]) = rowF l ++ fcells x v := by
  rw [rowF_append]; simp [rowF]
set_option maxRecDepth 100000 in
theorem rowF_get : ∀ (l : List (Fnd × Value)) (i : Nat) (q : Fnd × Value), l[i]? = some q → ∀ k, k < 8 → (rowF l)[i * 8 + k]? = (fcells q.1 q.2)[k]?
  | [], i, q, h, k, hk => by simp at h
  | p :: r, 0, q, h, k, hk => by
    obtain rfl : p = q := by simpa using h
    rw [rowF, List.getElem?_append_left (by rw [fcells_length]; omega)]
    simp
  | p :: r, i + 1, q, h, k, hk => by
    rw [rowF, List.getElem?_append_right (by rw [fcells_length]; omega), fcells_length, ← rowF_get r i q (by simpa using h) k hk]
    congr 1
    omega
/-- The slice at a reads as these. -/
def Fds (w : World) (a : Option Addr) (l : List Fnd) : Prop :=
  ∀ (i : Nat) (x : Fnd), l[i]? = some x → ∃ b off v, a = some ⟨b, off, none⟩ ∧ (∀ (k : Nat) (u : Value), (fcells x v)[k]? = some u → w.cell? ⟨b, off + i * 8 + k, none⟩ = some u) ∧ DaAt w v x.s.da
set_option maxRecDepth 100000 in
theorem Fds.below {w w' : World} {a : Option Addr} {l : List Fnd} (h : Fds w a l) (hb : Below w.heap.size w w') : Fds w' a l := fun i x hx => by
  obtain ⟨b, off, v, rfl, hc, hd⟩ := h i x hx
  exact ⟨b, off, v, rfl, fun k u hu => by rw [hb.cell (p := ⟨b, off + i * 8 + k, none⟩) (World.block_lt_of_cell? w _ (hc k u hu))]; exact hc k u hu, hd.below hb⟩
set_option maxRecDepth 100000 in
theorem fds_nil (w : World) (a : Option Addr) : Fds w a [] := fun i x hx => by simp at hx
/-- Data that isn't in the row's block. -/
def ApartV (v u : Value) : Prop := ∀ a n c, u = .slice (some a) n c → 0 < n → v.ownBlock ≠ some a.block
/-- A row of a call's own. -/
structure RowL (w : World) (base : Nat) (e : TypeId) (v : Value) (L : List (Fnd × Value)) : Prop where
  own : w.ownsRow 0 e 8 v L.length (rowF L)
  low : ∀ d, v.ownBlock = some d → base ≤ d
  da : ∀ q ∈ L, DaAt w q.2 q.1.s.da ∧ ApartV v q.2
def RowF (w : World) (base : Nat) (e : TypeId) (v : Value) (l : List Fnd) : Prop := ∃ L : List (Fnd × Value), L.map Prod.fst = l ∧ RowL w base e v L
set_option maxRecDepth 100000 in
theorem RowF.nil (w : World) (base : Nat) (e : TypeId) : RowF w base e (.slice none 0 0) [] := ⟨[], rfl, World.ownsRow_nil _ _ _ 8, fun d hd => (by cases hd), fun q hq => by cases hq⟩
set_option maxRecDepth 100000 in
theorem RowL.below {w w' : World} {base : Nat} {e : TypeId} {v : Value} {L : List (Fnd × Value)} (h : RowL w base e v L) (hb : Below w.heap.size w w') : RowL w' base e v L :=
  ⟨ownsRow_keep h.own fun d hd => hb.block d (h.own.lt d hd).2, h.low, fun q hq => ⟨(h.da q hq).1.below hb, (h.da q hq).2⟩⟩
set_option maxRecDepth 100000 in
theorem RowF.below {w w' : World} {base : Nat} {e : TypeId} {v : Value} {l : List Fnd} (h : RowF w base e v l) (hb : Below w.heap.size w w') : RowF w' base e v l := by
  obtain ⟨L, h1, h2⟩ := h
  exact ⟨L, h1, h2.below hb⟩
set_option maxRecDepth 100000 in
theorem RowF.fds {w : World} {base : Nat} {e : TypeId} {v : Value} {l : List Fnd} (h : RowF w base e v l) : ∃ a c, v = .slice a l.length c ∧ Fds w a l ∧ (a = none → c = 0) ∧ ∀ b, a = some b → base ≤ b.block ∧ b.block < w.heap.size := by
  obtain ⟨L, rfl, h2, hlow, h3⟩ := h
  rw [List.length_map]
  have hcell : ∀ g cap, v = .slice (some ⟨g, 0, none⟩) L.length cap → Fds w (some ⟨g, 0, none⟩) (L.map Prod.fst) := fun g cap hv i x hx => by
    rw [List.getElem?_map] at hx
    obtain ⟨q, hq, rfl⟩ := Option.map_eq_some_iff.1 hx
    refine ⟨g, 0, q.2, rfl, fun k u hu => ?_, (h3 q (List.mem_of_getElem? hq)).1⟩
    have hk : k < 8 := by
      have := (List.getElem?_eq_some_iff.1 hu).1
      rwa [fcells_length] at this
    have hi := (List.getElem?_eq_some_iff.1 hq).1
    subst hv
    have hc := h2.cellAt (i * 8 + k) (by omega)
    rw [show 0 + i * 8 + k = i * 8 + k by omega, hc, rowF_get L i q hq k hk, hu]
  rcases h2.2 with ⟨rfl, h0⟩ | ⟨g, cap, cur, rfl, hb, hgg, rest⟩
  · obtain rfl : L = [] := List.eq_nil_of_length_eq_zero h0
    exact ⟨none, 0, rfl, fds_nil _ _, fun _ => rfl, fun b hb => (by cases hb)⟩
  · exact ⟨some ⟨g, 0, none⟩, cap, rfl, hcell g cap rfl, fun h => (by cases h), fun b hb2 => by cases hb2; exact ⟨hlow g rfl, (h2.lt g rfl).2⟩⟩
set_option maxRecDepth 100000 in
theorem grown_below' {w w' : World} {base : Nat} {row : Option Nat} (h : w.grownBy w' row) (hr : ∀ d, row = some d → base ≤ d) (hB : base ≤ w.heap.size) : Below base w w' :=
  (Below.refl base w).grown h hB hr
set_option maxRecDepth 100000 in
theorem DaAt.grown {w w' : World} {v u : Value} {l : List Nat} (h : DaAt w u l) (hg : w.grownBy w' v.ownBlock) (ha : ApartV v u) : DaAt w' u l := by
  obtain ⟨a, c, rfl, hr, hc, hn⟩ := h
  refine ⟨a, c, rfl, ?_, hc, hn⟩
  cases hv : v.ownBlock with
  | none =>
    rw [hv] at hg
    exact hr.below ((Below.refl _ _).grown hg (Nat.le_refl _) fun k hk => by cases hk)
  | some g =>
    rw [hv] at hg
    exact hr.grown hg fun h0 k hk e => ha k _ _ (by rw [hk]) h0 (by rw [hv, e])
set_option maxRecDepth 100000 in
/-- Behind an append. -/
theorem RowL.app {w w' : World} {base : Nat} {e : TypeId} {v v' u : Value} {L : List (Fnd × Value)} {x : Fnd} (h : RowL w base e v L) (hu : DaAt w u x.s.da) (ha : ApartV v u) (hbase : base ≤ w.heap.size)
    (hown : w'.ownsRow 0 e 8 v' (L.length + 1) (rowF L ++ fcells x u)) (hg : w.grownBy w' v.ownBlock) (hloc : ∀ d, v'.ownBlock = some d → v.ownBlock = some d ∨ w.heap.size ≤ d) : RowL w' base e v' (L ++ [(x, u)]) ∧ Below base w w' := by
  have hnew : ∀ u l, DaAt w u l → ApartV v u → ApartV v' u := by
    rintro u l ⟨a, c, rfl, hr, -, -⟩ hap a' n c' he h0 hb
    cases he
    rcases hloc _ hb with h1 | h1
    · exact hap a' _ _ rfl h0 h1
    · obtain ⟨b, off, e, hc⟩ := hr.2.2 h0
      cases e
      have := World.block_lt_of_cell? w _ (hc 0 h0)
      dsimp only at h1 this
      omega
  refine ⟨⟨by rw [rowF_snoc, List.length_append]; exact hown, fun d hd => ?_, fun q hq => ?_⟩, grown_below' hg h.low hbase⟩
  · rcases hloc d hd with h1 | h1
    · exact h.low d h1
    · omega
  · rcases List.mem_append.1 hq with h1 | h1
    · exact ⟨(h.da q h1).1.grown hg (h.da q h1).2, hnew _ _ (h.da q h1).1 (h.da q h1).2⟩
    · obtain rfl := List.mem_singleton.1 h1
      exact ⟨hu.grown hg ha, hnew _ _ hu ha⟩
set_option maxRecDepth 100000 in
theorem at_eight (w : World) (v0 v1 v2 v3 v4 v5 v6 v7 : Value) (t : TypeId) : At (w.alloc (.cells #[v0, v1, v2, v3, v4, v5, v6, v7] t)) (some ⟨w.heap.size, 0, none⟩) [v0, v1, v2, v3, v4, v5, v6, v7] := by
  intro b hb j u hu
  cases hb
  have hj := (List.getElem?_eq_some_iff.1 hu).1
  simp only [List.length_cons, List.length_nil] at hj
  rcases j with _ | _ | _ | _ | _ | _ | _ | _ | j
  all_goals first | omega | (simp [Addr.add] at hu ⊢; exact hu)
set_option maxRecDepth 100000 in
theorem info_found : (Tryd.prog.info? 46).map (fun i => (i.zero, i.size, i.bytes)) = some (some (.agg #[.int .i64 0, .int .i64 0, .int .u8 0, .int .u64 0, .int .u64 0, .int .i64 0, .int .i64 0, .slice none 0 0]), 8, 80) := by kernel_rfl
set_option maxRecDepth 100000 in
theorem info_page : (Tryd.prog.info? 49).map (fun i => (i.zero, i.size, i.bytes)) = some (some (.agg #[.int .i64 0, .int .i64 0, .int .u8 0, .int .u64 0, .int .u64 0, .int .i64 0, .int .i64 0, .slice none 0 0]), 8, 80) := by kernel_rfl
end Go.Proofs.YtmhmmemmdekjhaaDoor.Sc
namespace Go.Proofs.YtmhmmemmdekjhaaDoor.Sc
open Go.RowKit
open Drawbar Drawbar.Sheet Drawbar.Nand Drawbar.Scan Go.Proofs.YtmhmmemmdekjhaaDoor.Nd

set_option maxRecDepth 100000 in
theorem blocks_at {w : World} {F : Nat → Prop} {g : Nat} {s : Arr} (h : ArrAt w F g s) : Calls Tryd.prog 71 #[.pointer (some ⟨g, 0, none⟩)] w fun e w' => e = .returned (.int .i64 s.n) ∧ w = w' := by
  obtain ⟨_, R, hb, rows, pv, bv, h⟩ := h
  exact blocks_any g hb s.n _ (h.gc 0 _ rfl)
set_option maxRecDepth 100000 in
theorem pages_at {w : World} {F : Nat → Prop} {g : Nat} {s : Arr} (h : ArrAt w F g s) : Calls Tryd.prog 72 #[.pointer (some ⟨g, 0, none⟩)] w fun e w' => e = .returned (.int .i64 s.pages) ∧ w = w' := by
  obtain ⟨_, R, hb, rows, pv, bv, h⟩ := h
  have c1 := h.gc 1 _ rfl
  clear h
  go_enter Tryd.func72, Tryd.ntmps72
  go_wp2
  go_ret
  exact ⟨rfl, rfl⟩
set_option maxRecDepth 100000 in
theorem arr_wf {w : World} {F : Nat → Prop} {g : Nat} {s : Arr} (h : ArrAt w F g s) : Wf s := by
  obtain ⟨_, R, hb, rows, pv, bv, h⟩ := h
  exact h.wf
set_option maxRecDepth 100000 in
theorem arr_96 {w : World} {F : Nat → Prop} {g : Nat} {s : Arr} (h : ArrAt w F g s) (i : Nat) (hi : i < s.n) (j : Nat) (hj : j < (s.b i).pages.length) : ((s.b i).pages.getD j []).length = 96 := by
  obtain ⟨_, R, hb, rows, pv, bv, h⟩ := h
  obtain ⟨v, _, ⟨d, o, cap, _, _, h3, _⟩, _⟩ := h.page i hi j _ (List.getElem?_eq_getElem hj)
  rw [List.getD_eq_getElem?_getD, List.getElem?_eq_getElem hj]
  exact h3
set_option maxRecDepth 100000 in
theorem inB_nat {i n : Nat} (h : i < n) : inB (i : Int) n := ⟨by omega, by omega⟩
set_option maxRecDepth 100000 in
theorem rd_off {s : Arr} {i : Nat} (hi : i < s.n) (j : Int) (h : s.off = true) : s.read i j = (9, []) := by
  unfold Arr.read
  rw [if_neg (fun h => h (inB_nat hi)), if_pos h]
set_option maxRecDepth 100000 in
theorem rd_on {s : Arr} {i j : Nat} (hi : i < s.n) (hj : j < s.pages) (h : s.off = false) : s.read i j = if ((s.b i).pages.length : Int) ≤ j then (5, []) else if (s.b i).torn = true then (4, []) else (0, (s.b i).pages.getD j []) := by
  unfold Arr.read
  rw [if_neg (fun h => h (inB_nat hi)), if_neg (by simp [h]), if_neg (fun h => h (inB_nat hj))]
  rfl

/-- What a call that tells found pages answers. -/
def Tell (w : World) (L : List Fnd) (z : Int) (e : Ending) (w' : World) : Prop :=
  ∃ a c, e = .returned (.tuple #[.slice a L.length c, .int .i64 z]) ∧ Fds w' a L ∧ (a = none → c = 0) ∧ Below w.heap.size w w'
set_option maxRecDepth 100000 in
theorem tell_nil (w w' : World) (z : Int) (hb : Below w.heap.size w w') : Tell w [] z (.returned (.tuple #[.slice none 0 0, .int .i64 z])) w' := ⟨none, 0, rfl, fds_nil _ _, fun _ => rfl, hb⟩

set_option maxRecDepth 100000 in
set_option maxHeartbeats 2000000 in
theorem read_off {w : World} {F : Nat → Prop} {g : Nat} {s : Arr} (h : ArrAt w F g s) (i : Nat) (hi : i < s.n) (m : Int) (hoff : s.off = true) :
    Calls Tryd.prog 38 #[.pointer (some ⟨g, 0, none⟩), .int .i64 i, .int .i64 m] w (Tell w [] 9) := by
  have HP := Lib.hid (pages_at h)
  have hwf := arr_wf h
  have hp0 := hwf.p0
  have hp32 := hwf.p32
  have hR := Nd.read_at h i 0
  rw [rd_off hi 0 hoff] at hR
  have HR := Lib.hid hR
  have HT := Lib.hid (fun w' hb => tell_nil w w' 9 hb)
  clear hR hwf h
  have hlt : (0 : Int) < (s.pages : Int) := by omega
  go_enter Tryd.func38, Tryd.ntmps38
  go_wp2_with fail
  refine HP.out.mono ?_
  rintro e w1 ⟨rfl, rfl⟩
  go_wp2
  go_loopw [8, 16] (fun bl iv wr => bl = .slice none 0 0 ∧ iv = .int .i64 0 ∧ w = wr) (fun _ _ _ => 1)
  case atStart => exact ⟨rfl, rfl, rfl⟩
  case round =>
    obtain ⟨rfl, rfl, rfl⟩ := hrel
    go_wp2_with fail
    refine HR.out.mono ?_
    rintro e w2 ⟨⟨a, cap, rfl, hcap, hrd, hb, -⟩, -⟩
    dsimp only at hcap hrd ⊢
    have HB := Lib.hid (HT.out _ hb)
    clear hrd hb
    go_wp2
    go_ret2
    exact HB.out

set_option maxRecDepth 100000 in
set_option maxHeartbeats 4000000 in
theorem read_on {w : World} {F : Nat → Prop} {g : Nat} {s : Arr} (h : ArrAt w F g s) (i : Nat) (hi : i < s.n) (m : Int) (hoff : s.off = false) (hT : Tab w) :
    Calls Tryd.prog 38 #[.pointer (some ⟨g, 0, none⟩), .int .i64 i, .int .i64 m] w (Tell w (blockF m s i) 0) := by
  obtain ⟨i0, hi0, hz0, hz1, hz2⟩ := info_parts info_found
  have HP := Lib.hid (pages_at h)
  have hwf := arr_wf h
  have hp0 := hwf.p0
  have hp32 := hwf.p32
  have hlen := hwf.len i hi
  have h96 := fun j hj => arr_96 h i hi j hj
  have hfull : ¬ ((s.b i).torn = true ∧ 0 < (s.b i).pages.length) → blockF m s i = foundTo m i (s.b i).pages (s.b i).pages.length := fun hn => by
    unfold blockF
    by_cases ht : (s.b i).torn = true
    · rw [if_pos ht, show (s.b i).pages.length = 0 by by_cases hl : 0 < (s.b i).pages.length; exact absurd ⟨ht, hl⟩ hn; omega]; rfl
    · rw [if_neg ht]
  have hnone : (s.b i).torn = true → blockF m s i = [] := fun ht => by unfold blockF; rw [if_pos ht]
  have HR := Lib.hid (fun (W : World) (hb : Below w.heap.size w W) (j : Nat) (hj : j < s.pages) => (rd_on hi hj hoff) ▸ Nd.read_at (h.keep hb) i j)
  have HL := Lib.hid (fun n => foundTo_len m i (s.b i).pages n)
  have hS : ∀ j, foundTo m i (s.b i).pages (j + 1) = foundTo m i (s.b i).pages j ++ one m i j ((s.b i).pages.getD j []) := fun j => rfl
  have HS := Lib.hid hS
  clear hS
  generalize blockF m s i = BF at *
  generalize hft : foundTo m i (s.b i).pages = ft at *
  generalize (s.b i).pages = P at *
  generalize (s.b i).torn = tn at *
  have H96 := Lib.hid h96
  have HFU := Lib.hid hfull
  have HNO := Lib.hid hnone
  have HTB := Lib.hid hT
  have hft0 : ft 0 = [] := by rw [← hft]; rfl
  have HF0 := Lib.hid hft0
  clear h96 hfull hnone hT h hwf hft hoff hft0
  go_enter Tryd.func38, Tryd.ntmps38
  go_wp2_with fail
  refine HP.out.mono ?_
  rintro e w1 ⟨rfl, rfl⟩
  go_wp2
  go_loopw [8, 16] (fun bl iv wr => ∃ j : Nat, j ≤ P.length ∧ iv = .int .i64 j ∧ Below w.heap.size w wr ∧ RowF wr w.heap.size 46 bl (ft j) ∧ (tn = true → j = 0)) (fun _ iv _ => s.pages - (intOf iv).toNat)
  case atStart => exact ⟨0, Nat.zero_le _, rfl, Below.refl _ _, by rw [HF0.out]; exact RowF.nil _ _ _, fun _ => rfl⟩
  case round =>
    obtain ⟨j, hj, rfl, hbw, hrow, htn⟩ := hrel
    by_cases hjs : j < s.pages
    · have hjs2 : (j : Int) < (s.pages : Int) := by omega
      have hR := HR.out wr hbw j hjs
      by_cases hjP : j < P.length
      · rw [if_neg (by omega)] at hR
        cases tn with
        | true =>
          rw [if_pos rfl] at hR
          have HRR := Lib.hid hR
          have HB := Lib.hid (fun w' (hb : Below wr.heap.size wr w') => (by rw [HNO.out rfl]; exact tell_nil w w' 0 (hbw.trans (hb.mono hbw.size)) : Tell w BF 0 (.returned (.tuple #[.slice none 0 0, .int .i64 0])) w'))
          clear hR hrow htn hbw
          go_wp2_with fail
          refine HRR.out.mono ?_
          rintro e w2 ⟨⟨a, cap, rfl, hcap, hrd, hb, -⟩, -⟩
          dsimp only at hcap hrd ⊢
          have HBB := Lib.hid (HB.out _ hb)
          clear hrd hb
          go_wp2
          go_ret2
          exact HBB.out
        | false =>
          rw [if_neg (by simp)] at hR
          have HRR := Lib.hid hR
          have hl96 := H96.out j hjP
          have hst := HS.out j
          obtain ⟨l, hl⟩ : ∃ l, P.getD j [] = l := ⟨_, rfl⟩
          rw [hl] at HRR hl96 hst
          have hle := HL.out j
          have HL96 := Lib.hid hl96
          clear hl96
          cases hx : adr m l with
          | none =>
            have hst2 : ft (j + 1) = ft j := by rw [hst]; unfold one; rw [hx]; simp
            have HST := Lib.hid hst2
            have HX := Lib.hid hx
            have HROW := Lib.hid (fun w' (hb : Below wr.heap.size wr w') => And.intro (hrow.below hb) (hbw.trans (hb.mono hbw.size)))
            have HT2 := Lib.hid (fun w' (hb : Below wr.heap.size wr w') => HTB.out.below (hbw.trans (hb.mono hbw.size)) HTB.out.pos)
            clear hR hrow htn hbw hst hst2 hx hl
            go_wp2_with fail
            refine HRR.out.mono ?_
            rintro e w2 ⟨⟨a, cap, rfl, hcap, hrd, hb, -⟩, -⟩
            dsimp only at hcap hrd ⊢
            have hA := adr_no m l HX.out a cap w2 l.length rfl hrd hcap (fun ha => by obtain ⟨bb, oo, e, _⟩ := hrd.2.2 (by have := HL96.out; omega); rw [ha] at e; cases e) (HT2.out _ hb)
            have HA := Lib.hid hA
            have HB := Lib.hid hb
            clear hA hrd hb hcap
            go_wp2_with fail
            (with_reducible refine HA.out.mono ?_)
            rintro e w3 ⟨rfl, hb3⟩
            have hb4 : Below wr.heap.size wr (w3.alloc zob) := HB.out.trans ((hb3.trans ((Below.refl _ _).alloc hb3.size _)).mono HB.out.size)
            have HB4 := Lib.hid hb4
            clear hb3 hb4
            go_wp2
            go_roundw
            case rel => exact ⟨j + 1, by omega, by go_num, (HROW.out _ HB4.out).2, by rw [HST.out]; exact (HROW.out _ HB4.out).1, fun h => by cases h⟩
            case measure => simp [intOf]; omega
          | some x =>
            have hst2 : ft (j + 1) = ft j ++ [⟨i, j, x⟩] := by rw [hst]; unfold one; rw [hx]
            have HST := Lib.hid hst2
            have HX := Lib.hid hx
            have HROW := Lib.hid (And.intro hrow hbw)
            have HT2 := Lib.hid (fun w' (hb : Below wr.heap.size wr w') => HTB.out.below (hbw.trans (hb.mono hbw.size)) HTB.out.pos)
            clear hR hrow htn hbw hst hst2 hx hl
            go_wp2_with fail
            refine HRR.out.mono ?_
            rintro e w2 ⟨⟨a, cap, rfl, hcap, hrd, hb, -⟩, -⟩
            dsimp only at hcap hrd ⊢
            have hA := adr_yes m l x HX.out a cap w2 l.length rfl hrd hcap (fun ha => by obtain ⟨bb, oo, e, _⟩ := hrd.2.2 (by have := HL96.out; omega); rw [ha] at e; cases e) (HT2.out _ hb)
            have HA := Lib.hid hA
            have HB := Lib.hid hb
            clear hA hrd hb hcap
            go_wp2_with fail
            (with_reducible refine HA.out.mono ?_)
            rintro e w3 ⟨a3, c3, rfl, hda, hb3, hfr3⟩
            obtain ⟨w4, hw4⟩ : ∃ w4, w4 = (w3.alloc (boxs 44 x a3 c3)).alloc (.cells #[.int .i64 i, .int .i64 j, .int .u8 x.k, .int .u64 x.ep, .int .u64 x.sq, .int .i64 x.ad, .int .i64 x.fr, .slice a3 x.da.length c3] 46) := ⟨_, rfl⟩
            have hb34 : Below w3.heap.size w3 w4 := by rw [hw4]; exact ((Below.refl _ _).alloc (Nat.le_refl _) _).alloc (by simp) _
            have hb4 : Below wr.heap.size wr w4 := HB.out.trans ((hb3.trans (hb34.mono hb3.size)).mono HB.out.size)
            obtain ⟨L, hL1, hL2⟩ := HROW.out.1
            have hap : ApartV _ (.slice a3 x.da.length c3) := fun a' n c' he h0 hbb => by
              cases he
              have h1 := (hL2.own.lt _ hbb).2
              have h2 := hfr3 h0 a' rfl
              have := HB.out.size
              omega
            have hL4 := hL2.below hb4
            have hown := hL4.own
            have hLn : L.length ≤ j := by rw [← List.length_map (f := Prod.fst), hL1]; exact hle
            have hat : At w4 (some ⟨w3.heap.size + 1, 0, none⟩) (fcells ⟨i, j, x⟩ (.slice a3 x.da.length c3)) := by
              rw [hw4]
              have := at_eight (w3.alloc (boxs 44 x a3 c3)) (.int .i64 i) (.int .i64 j) (.int .u8 x.k) (.int .u64 x.ep) (.int .u64 x.sq) (.int .i64 x.ad) (.int .i64 x.fr) (.slice a3 x.da.length c3) 46
              simpa [fcells] using this
            have hda4 := hda.below hb34
            have hsz : w.heap.size ≤ w4.heap.size := Nat.le_trans HROW.out.2.size hb4.size
            have HB4 := Lib.hid hb4
            have HW4 := Lib.hid hw4
            have HDA := Lib.hid (And.intro hda4 (And.intro hL1 (And.intro hL4 hap)))
            clear hb34 hb4 hb3 hda hw4 hda4 hL1 hL4 hL2 hap hfr3
            go_wp2_with (at_builtin; refine wpList_append_row rfl (.tmp 37) (.tmp 43) 34 rfl 46 i0 (.agg #[.int .i64 0, .int .i64 0, .int .u8 0, .int .u64 0, .int .u64 0, .int .i64 0, .int .i64 0, .slice none 0 0]) 8 80 Tryd.underlying34 hi0 hz0 hz1 hz2 rfl (by decide) _ L.length (rowF L) rfl (by rw [HW4.out] at hown; exact hown) ⟨w3.heap.size + 1, 0, none⟩ 1 1 (fcells ⟨i, j, x⟩ (.slice a3 x.da.length c3)) rfl rfl (by rw [HW4.out] at hat; exact hat _ rfl) (by simp [fcells, Value.oneCell']) (by unfold maxLen; omega) (by omega) ?_; intro v6 w6 hown6 hg6 hloc6)
            obtain ⟨hda4, hL1, hL4, hap⟩ := HDA.out
            rw [← HW4.out] at hg6 hloc6
            obtain ⟨hL6, hb6⟩ := hL4.app hda4 hap hsz hown6 hg6 hloc6
            have HFIN := Lib.hid (And.intro (HROW.out.2.trans ((HB4.out.mono HROW.out.2.size).trans hb6)) (⟨_, rfl, hL6⟩ : RowF w6 w.heap.size 46 v6 (List.map Prod.fst (L ++ [(⟨i, j, x⟩, .slice a3 x.da.length c3)]))))
            have HL1 := Lib.hid hL1
            clear hL6 hb6 hL4 hap hda4 hL1 hown6 hg6 hloc6 hat hown
            go_roundw
            case rel => exact ⟨j + 1, by omega, by go_num, HFIN.out.1, (by rw [HST.out, ← HL1.out]; have := HFIN.out.2; rwa [List.map_append] at this), fun h => by cases h⟩
            case measure => simp [intOf]; omega
      · rw [if_pos (by omega)] at hR
        obtain rfl : j = P.length := by omega
        have hrow2 := hrow
        rw [← HFU.out (fun h => by have := htn h.1; omega)] at hrow2
        obtain ⟨a5, c5, rfl, hfds, hn5, -⟩ := hrow2.fds
        have HRR := Lib.hid hR
        have HB := Lib.hid (fun w' (hb : Below wr.heap.size wr w') => (⟨a5, c5, rfl, hfds.below hb, hn5, hbw.trans (hb.mono hbw.size)⟩ : Tell w BF 0 (.returned (.tuple #[.slice a5 BF.length c5, .int .i64 0])) w'))
        clear hR hrow htn hbw hrow2 hfds hn5
        go_wp2_with fail
        refine HRR.out.mono ?_
        rintro e w2 ⟨⟨a, cap, rfl, hcap, hrd, hb, -⟩, -⟩
        dsimp only at hcap hrd ⊢
        have HBB := Lib.hid (HB.out _ hb)
        clear hrd hb
        go_wp2
        go_ret2
        exact HBB.out
    · have hjs2 : ¬ ((j : Int) < (s.pages : Int)) := by omega
      obtain rfl : j = P.length := by omega
      have hrow2 := hrow
      rw [← HFU.out (fun h => by have := htn h.1; omega)] at hrow2
      obtain ⟨a5, c5, rfl, hfds, hn5, -⟩ := hrow2.fds
      have HB := Lib.hid (⟨a5, c5, rfl, hfds, hn5, hbw⟩ : Tell w BF 0 (.returned (.tuple #[.slice a5 BF.length c5, .int .i64 0])) wr)
      clear hrow htn hbw hrow2 hfds hn5
      go_wp2
      go_ret2
      exact HB.out
end Go.Proofs.YtmhmmemmdekjhaaDoor.Sc
