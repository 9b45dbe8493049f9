/- Rows of found pages in memory: []scan.Found, []drawbarref09.Page. -/
import Derived.Test.YtkapnpcolmhdbaaDoorAdr
import Derived.Test.YtkapnpcolmhdbaaDoorNdApi
import Derived.Test.YtkapnpcolmhdbaaDoorLawC
namespace Go.Proofs.YtkapnpcolmhdbaaDoor.Sc
open Go.RowKit
open Drawbar Drawbar.Sheet Drawbar.Nand Drawbar.Scan Go.Proofs.YtkapnpcolmhdbaaDoor.Nd

def fcells (x : Fnd) (v : Value) : List Value := [.int .i64 x.b, .int .i64 x.p, .int .u8 x.s.k, .int .u64 x.s.ep, .int .u64 x.s.sq, .int .i64 x.s.ad, .int .i64 x.s.fr, v]
theorem fcells_length (x : Fnd) (v : Value) : (fcells x v).length = 8 := rfl
def rowF : List (Fnd × Value) → List Value
  | [] => []
  | q :: r => fcells q.1 q.2 ++ rowF r
theorem rowF_length (l : List (Fnd × Value)) : (rowF l).length = l.length * 8 := by
  induction l with
  | nil => rfl
  | cons q r ih => rw [rowF, List.length_append, fcells_length, ih, List.length_cons]; omega
theorem rowF_append (l m : List (Fnd × Value)) : rowF (l ++ m) = rowF l ++ rowF m := by
  induction l with
  | nil => rfl
  | cons q r ih => rw [List.cons_append, rowF, rowF, ih, List.append_assoc]
theorem rowF_snoc (l : List (Fnd × Value)) (x : Fnd) (v : Value) : rowF (l ++ [(x, v)]) = rowF l ++ fcells x v := by
  rw [rowF_append]; simp [rowF]
theorem rowF_get : ∀ (l : List (Fnd × Value)) (i : Nat) (q : Fnd × Value), l[i]? = some q → ∀ k, k < 8 → (rowF l)[i * 8 + k]? = (fcells q.1 q.2)[k]?
  | [], i, q, h, k, hk => by simp at h
  | p :: r, 0, q, h, k, hk => by
    obtain rfl : p = q := by simpa using h
    rw [rowF, List.getElem?_append_left (by rw [fcells_length]; omega)]
    simp
  | p :: r, i + 1, q, h, k, hk => by
    rw [rowF, List.getElem?_append_right (by rw [fcells_length]; omega), fcells_length, ← rowF_get r i q (by simpa using h) k hk]
    congr 1
    omega
/-- The slice at a reads as these. -/
def Fds (w : World) (a : Option Addr) (l : List Fnd) : Prop :=
  ∀ (i : Nat) (x : Fnd), l[i]? = some x → ∃ b off v, a = some ⟨b, off, none⟩ ∧ (∀ (k : Nat) (u : Value), (fcells x v)[k]? = some u → w.cell? ⟨b, off + i * 8 + k, none⟩ = some u) ∧ DaAt w v x.s.da
theorem Fds.below {w w' : World} {a : Option Addr} {l : List Fnd} (h : Fds w a l) (hb : Below w.heap.size w w') : Fds w' a l := fun i x hx => by
  obtain ⟨b, off, v, rfl, hc, hd⟩ := h i x hx
  exact ⟨b, off, v, rfl, fun k u hu => by rw [hb.cell (p := ⟨b, off + i * 8 + k, none⟩) (World.block_lt_of_cell? w _ (hc k u hu))]; exact hc k u hu, hd.below hb⟩
theorem fds_nil (w : World) (a : Option Addr) : Fds w a [] := fun i x hx => by simp at hx
/-- Data that isn't in the row's block. -/
def ApartV (v u : Value) : Prop := ∀ a n c, u = .slice (some a) n c → 0 < n → v.ownBlock ≠ some a.block
/-- A row of a call's own. -/
structure RowL (w : World) (base : Nat) (e : TypeId) (v : Value) (L : List (Fnd × Value)) : Prop where
  own : w.ownsRow 0 e 8 v L.length (rowF L)
  low : ∀ d, v.ownBlock = some d → base ≤ d
  da : ∀ q ∈ L, DaAt w q.2 q.1.s.da ∧ ApartV v q.2
def RowF (w : World) (base : Nat) (e : TypeId) (v : Value) (l : List Fnd) : Prop := ∃ L : List (Fnd × Value), L.map Prod.fst = l ∧ RowL w base e v L
theorem RowF.nil (w : World) (base : Nat) (e : TypeId) : RowF w base e (.slice none 0 0) [] := ⟨[], rfl, World.ownsRow_nil _ _ _ 8, fun d hd => (by cases hd), fun q hq => by cases hq⟩
theorem RowL.below {w w' : World} {base : Nat} {e : TypeId} {v : Value} {L : List (Fnd × Value)} (h : RowL w base e v L) (hb : Below w.heap.size w w') : RowL w' base e v L :=
  ⟨ownsRow_keep h.own fun d hd => hb.block d (h.own.lt d hd).2, h.low, fun q hq => ⟨(h.da q hq).1.below hb, (h.da q hq).2⟩⟩
theorem RowF.below {w w' : World} {base : Nat} {e : TypeId} {v : Value} {l : List Fnd} (h : RowF w base e v l) (hb : Below w.heap.size w w') : RowF w' base e v l := by
  obtain ⟨L, h1, h2⟩ := h
  exact ⟨L, h1, h2.below hb⟩
theorem RowF.fds {w : World} {base : Nat} {e : TypeId} {v : Value} {l : List Fnd} (h : RowF w base e v l) : ∃ a c, v = .slice a l.length c ∧ Fds w a l ∧ (a = none → c = 0) ∧ ∀ b, a = some b → base ≤ b.block ∧ b.block < w.heap.size := by
  obtain ⟨L, rfl, h2, hlow, h3⟩ := h
  rw [List.length_map]
  have hcell : ∀ g cap, v = .slice (some ⟨g, 0, none⟩) L.length cap → Fds w (some ⟨g, 0, none⟩) (L.map Prod.fst) := fun g cap hv i x hx => by
    rw [List.getElem?_map] at hx
    obtain ⟨q, hq, rfl⟩ := Option.map_eq_some_iff.1 hx
    refine ⟨g, 0, q.2, rfl, fun k u hu => ?_, (h3 q (List.mem_of_getElem? hq)).1⟩
    have hk : k < 8 := by
      have := (List.getElem?_eq_some_iff.1 hu).1
      rwa [fcells_length] at this
    have hi := (List.getElem?_eq_some_iff.1 hq).1
    subst hv
    have hc := h2.cellAt (i * 8 + k) (by omega)
    rw [show 0 + i * 8 + k = i * 8 + k by omega, hc, rowF_get L i q hq k hk, hu]
  rcases h2.2 with ⟨rfl, h0⟩ | ⟨g, cap, cur, rfl, hb, hgg, rest⟩
  · obtain rfl : L = [] := List.eq_nil_of_length_eq_zero h0
    exact ⟨none, 0, rfl, fds_nil _ _, fun _ => rfl, fun b hb => (by cases hb)⟩
  · exact ⟨some ⟨g, 0, none⟩, cap, rfl, hcell g cap rfl, fun h => (by cases h), fun b hb2 => by cases hb2; exact ⟨hlow g rfl, (h2.lt g rfl).2⟩⟩
theorem grown_below' {w w' : World} {base : Nat} {row : Option Nat} (h : w.grownBy w' row) (hr : ∀ d, row = some d → base ≤ d) (hB : base ≤ w.heap.size) : Below base w w' :=
  (Below.refl base w).grown h hB hr
theorem DaAt.grown {w w' : World} {v u : Value} {l : List Nat} (h : DaAt w u l) (hg : w.grownBy w' v.ownBlock) (ha : ApartV v u) : DaAt w' u l := by
  obtain ⟨a, c, rfl, hr, hc, hn⟩ := h
  refine ⟨a, c, rfl, ?_, hc, hn⟩
  cases hv : v.ownBlock with
  | none =>
    rw [hv] at hg
    exact hr.below ((Below.refl _ _).grown hg (Nat.le_refl _) fun k hk => by cases hk)
  | some g =>
    rw [hv] at hg
    exact hr.grown hg fun h0 k hk e => ha k _ _ (by rw [hk]) h0 (by rw [hv, e])
/-- Behind an append. -/
theorem RowL.app {w w' : World} {base : Nat} {e : TypeId} {v v' u : Value} {L : List (Fnd × Value)} {x : Fnd} (h : RowL w base e v L) (hu : DaAt w u x.s.da) (ha : ApartV v u) (hbase : base ≤ w.heap.size)
    (hown : w'.ownsRow 0 e 8 v' (L.length + 1) (rowF L ++ fcells x u)) (hg : w.grownBy w' v.ownBlock) (hloc : ∀ d, v'.ownBlock = some d → v.ownBlock = some d ∨ w.heap.size ≤ d) : RowL w' base e v' (L ++ [(x, u)]) ∧ Below base w w' := by
  have hnew : ∀ u l, DaAt w u l → ApartV v u → ApartV v' u := by
    rintro u l ⟨a, c, rfl, hr, -, -⟩ hap a' n c' he h0 hb
    cases he
    rcases hloc _ hb with h1 | h1
    · exact hap a' _ _ rfl h0 h1
    · obtain ⟨b, off, e, hc⟩ := hr.2.2 h0
      cases e
      have := World.block_lt_of_cell? w _ (hc 0 h0)
      dsimp only at h1 this
      omega
  refine ⟨⟨by rw [rowF_snoc, List.length_append]; exact hown, fun d hd => ?_, fun q hq => ?_⟩, grown_below' hg h.low hbase⟩
  · rcases hloc d hd with h1 | h1
    · exact h.low d h1
    · omega
  · rcases List.mem_append.1 hq with h1 | h1
    · exact ⟨(h.da q h1).1.grown hg (h.da q h1).2, hnew _ _ (h.da q h1).1 (h.da q h1).2⟩
    · obtain rfl := List.mem_singleton.1 h1
      exact ⟨hu.grown hg ha, hnew _ _ hu ha⟩
theorem at_eight (w : World) (v0 v1 v2 v3 v4 v5 v6 v7 : Value) (t : TypeId) : At (w.alloc (.cells #[v0, v1, v2, v3, v4, v5, v6, v7] t)) (some ⟨w.heap.size, 0, none⟩) [v0, v1, v2, v3, v4, v5, v6, v7] := by
  intro b hb j u hu
  cases hb
  have hj := (List.getElem?_eq_some_iff.1 hu).1
  simp only [List.length_cons, List.length_nil] at hj
  rcases j with _ | _ | _ | _ | _ | _ | _ | _ | j
  all_goals first | omega | (simp [Addr.add] at hu ⊢; exact hu)
theorem info_found : (Tryd.prog.info? 46).map (fun i => (i.zero, i.size, i.bytes)) = some (some (.agg #[.int .i64 0, .int .i64 0, .int .u8 0, .int .u64 0, .int .u64 0, .int .i64 0, .int .i64 0, .slice none 0 0]), 8, 80) := by kernel_rfl
theorem info_page : (Tryd.prog.info? 49).map (fun i => (i.zero, i.size, i.bytes)) = some (some (.agg #[.int .i64 0, .int .i64 0, .int .u8 0, .int .u64 0, .int .u64 0, .int .i64 0, .int .i64 0, .slice none 0 0]), 8, 80) := by kernel_rfl
end Go.Proofs.YtkapnpcolmhdbaaDoor.Sc
