/- General laws for the walk, over any program: append onto a slice without spare room or onto a row of the call's own, from a slice that may be nil or empty. -/
import Derived.WalkKit
import Derived.ArgAppend
import Derived.Laws.OwnMore
namespace Drawbar
open Go Go.RowKit

/-- The cells behind an address that may be none. -/
def At (w : World) (ao : Option Addr) (xs : List Value) : Prop := ∀ b, ao = some b → ∀ j u, xs[j]? = some u → w.cell? (b.add j) = some u

theorem ownsRow_base {w : World} {base base' : Nat} {e : TypeId} {size : Nat} {v : Value} {n : Nat} {xs : List Value} (h : w.ownsRow base e size v n xs) (hb : base' ≤ base) : w.ownsRow base' e size v n xs :=
  ⟨h.1, h.2.imp id fun ⟨g, cap, cur, h1, h2, h3⟩ => ⟨g, cap, cur, h1, Nat.le_trans hb h2, h3⟩⟩

/-- A slice onto which is appended: a row of the call's own, or one without spare room. -/
def Tail (w : World) (base : Nat) (e : TypeId) (size : Nat) (v : Value) (n : Nat) (xs : List Value) : Prop :=
  w.ownsRow base e size v n xs ∨ ∃ ao, v = .slice ao n n ∧ (ao = none → n = 0) ∧ xs.length = n * size ∧ At w ao xs

theorem Tail.len {w : World} {base : Nat} {e : TypeId} {size : Nat} {v : Value} {n : Nat} {xs : List Value} (h : Tail w base e size v n xs) : xs.length = n * size := by
  rcases h with h | ⟨_, _, _, h, _⟩
  · exact h.1
  · exact h

theorem At.mono {w w' : World} {ao : Option Addr} {xs : List Value} (h : At w ao xs) (hw : ∀ p v, w.cell? p = some v → w'.cell? p = some v) : At w' ao xs :=
  fun b hb j u hj => hw _ _ (h b hb j u hj)

theorem cell_alloc {w : World} {p : Addr} {v : Value} (o : Obj) (h : w.cell? p = some v) : (w.alloc o).cell? p = some v :=
  (World.cell?_of_block (Below.heap_alloc w o p.block (World.block_lt_of_cell? w p h))).trans h

theorem At.alloc {w : World} {ao : Option Addr} {xs : List Value} (h : At w ao xs) (o : Obj) : At (w.alloc o) ao xs := h.mono fun _ _ => cell_alloc o

theorem Tail.alloc {w : World} {base : Nat} {e : TypeId} {size : Nat} {v : Value} {n : Nat} {xs : List Value} (h : Tail w base e size v n xs) (o : Obj) : Tail (w.alloc o) base e size v n xs :=
  h.imp (fun h => h.alloc o) fun ⟨ao, h1, h2, h3, h4⟩ => ⟨ao, h1, h2, h3, h4.alloc o⟩

theorem At.ofNil (w : World) (xs : List Value) : At w none xs := fun _ h => by cases h

/-- What a slice of literals lays. -/
theorem At.one (w : World) (x : Value) (t : TypeId) : At (w.alloc (.cells #[x] t)) (some ⟨w.heap.size, 0, none⟩) [x] := by
  intro b hb j u hj
  obtain rfl := Option.some.inj hb
  match j, hj with
  | 0, hj =>
    simp at hj; subst hj
    rw [Addr.add_lit]
    simp

section
variable {P : Program}
theorem run_append_tail (w : World) (base : Nat) (t ty e : TypeId) (i : TypeInfo) (z : Value) (size bytes : Nat) (ht : P.underlying t = some (.slice e)) (hi : P.info? e = some i) (hz : i.zero = some z)
    (hsize : i.size = size) (hby : i.bytes = bytes) (hzs : z.cells.size = size) (hsz : 0 < size)
    (v : Value) (n : Nat) (xs : List Value) (h : Tail w base e size v n xs)
    (xo : Option Addr) (m c : Nat) (hxo : xo = none → m = 0 ∧ c = 0) (news : List Value) (hl : news.length = m * size) (hnews : At w xo news) (h1 : ∀ u ∈ news, u.oneCell' = true)
    (h63 : n + m ≤ maxLen) (hbytes : (n + m) * bytes ≤ 140737488355328) (hbase : base ≤ w.heap.size) :
    ∃ v' w', (Builtin.append_ #[t, t] ty #[v, .slice xo m c]).run P w = .ok v' w' ∧ Tail w' base e size v' (n + m) (xs ++ news) ∧ (0 < m → w'.ownsRow base e size v' (n + m) (xs ++ news)) ∧ Below base w w' := by
  cases xo with
  | none =>
    obtain ⟨rfl, rfl⟩ := hxo rfl
    obtain rfl : news = [] := List.eq_nil_of_length_eq_zero (by simpa using hl)
    rw [List.append_nil, Nat.add_zero]
    rcases h with h | ⟨ao, rfl, h0, h1, h2⟩
    · exact ⟨v, w, run_append_owned_none w base t ty e i size ht hi v n xs h, .inl h, fun h => absurd h (Nat.lt_irrefl 0), Below.refl _ _⟩
    · refine ⟨.slice ao n n, w, ?_, .inr ⟨ao, rfl, h0, h1, h2⟩, fun h => absurd h (Nat.lt_irrefl 0), Below.refl _ _⟩
      cases ao <;> simp [Builtin.append_, run_underlying ht, Go.sizeOf, typeInfo, hi, Builtin.lenOf, Builtin.firstCells, storeCells]
  | some ad =>
    have hn' := hnews ad rfl
    rcases h with h | ⟨ao, rfl, h0, hx1, hx2⟩
    · obtain ⟨v', w', hr, g1, g2, _⟩ := run_append_own (P := P) w base t ty e i z size bytes ht hi hz hsize hby hzs hsz v n xs h ad m c news hl hn' h1 h63 hbytes hbase
      exact ⟨v', w', hr, .inl g1, fun _ => g1, (Below.refl _ _).grown g2 hbase fun k hk => (h.lt k hk).1⟩
    · by_cases hm : m = 0
      · subst hm
        obtain rfl : news = [] := List.eq_nil_of_length_eq_zero (by simpa using hl)
        rw [List.append_nil, Nat.add_zero]
        refine ⟨.slice ao n n, w, ?_, .inr ⟨ao, rfl, h0, hx1, hx2⟩, fun h => absurd h (Nat.lt_irrefl 0), Below.refl _ _⟩
        have hf := run_firstCells_some (P := P) w size 0 ad 0 c [] (by simp) (by simp)
        cases ao <;> simp [Builtin.append_, run_underlying ht, Go.sizeOf, typeInfo, hi, hsize, Builtin.lenOf, hf, storeCells]
      · cases ao with
        | some b =>
          obtain ⟨v', w', hr, g1, g2⟩ := run_append_arg_grows (P := P) w t ty e i z size bytes ht hi hz hsize hby hzs hsz b n n xs hx1 (hx2 b rfl) ad m c news hl hn' (by omega) h63 hbytes
          have g3 := ownsRow_base g1 hbase
          exact ⟨v', w', hr, .inl g3, fun _ => g3, (Below.refl _ _).grown g2 hbase fun k hk => by cases hk⟩
        | none =>
          obtain rfl := h0 rfl
          obtain rfl : xs = [] := List.eq_nil_of_length_eq_zero (by simpa using hx1)
          obtain ⟨v', w', hr, g1, g2, _⟩ := run_append_own (P := P) w base t ty e i z size bytes ht hi hz hsize hby hzs hsz (.slice none 0 0) 0 [] (World.ownsRow_nil w _ e size) ad m c news hl hn' h1 h63 hbytes hbase
          exact ⟨v', w', hr, .inl g1, fun _ => g1, (Below.refl _ _).grown g2 hbase fun k hk => by cases hk⟩

theorem wpList_append_tail {w : World} {ops : Array Oper} {rest : List Oper} {o : Oper} {a : Act} {Q : Exit → Act → World → Prop} (hgd : o.guard = none) (s x : Operand) (t : TypeId)
    (ho : o.op = .call { callee := .builtin .append, args := #[s, x], argTypes := #[t, t] })
    (base : Nat) (e : TypeId) (i : TypeInfo) (z : Value) (size bytes : Nat) (ht : P.underlying t = some (.slice e)) (hi : P.info? e = some i) (hz : i.zero = some z)
    (hsize : i.size = size) (hby : i.bytes = bytes) (hzs : z.cells.size = size) (hsz : 0 < size)
    (v : Value) (n : Nat) (xs : List Value) (hs : a.eval s = v) (h : Tail w base e size v n xs)
    (xo : Option Addr) (m c : Nat) (news : List Value) (hx : a.eval x = .slice xo m c) (hxo : xo = none → m = 0 ∧ c = 0) (hl : news.length = m * size) (hnews : At w xo news) (h1 : ∀ u ∈ news, u.oneCell' = true)
    (h63 : n + m ≤ maxLen) (hbytes : (n + m) * bytes ≤ 140737488355328) (hbase : base ≤ w.heap.size)
    (hK : ∀ v' w', Tail w' base e size v' (n + m) (xs ++ news) → (0 < m → w'.ownsRow base e size v' (n + m) (xs ++ news)) → Below base w w' → wpList P ops Q rest (a.put o.dst v') w') :
    wpList P ops Q (o :: rest) a w := by
  refine wpList_plain hgd fun K hK' => ?_
  obtain ⟨v', w', hrun, r1, r2, r3⟩ := run_append_tail (P := P) w base t o.type e i z size bytes ht hi hz hsize hby hzs hsz v n xs h xo m c hxo news hl hnews h1 h63 hbytes hbase
  unfold Oper.wp
  simp [execOp, ho, resolve, invoke, builtin, hs, hx, hrun, Result.andThen]
  exact hK' _ _ (hK v' w' r1 r2 r3)
end
end Drawbar
