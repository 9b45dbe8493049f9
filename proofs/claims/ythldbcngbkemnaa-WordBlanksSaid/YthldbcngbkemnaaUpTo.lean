/- The table of a replacer that is being built: one more byte. -/
import Derived.Test.YthldbcngbkemnaaReplL
import Derived.Lib.ConvBytes
namespace Go.Proofs.Ythldbcngbkemnaa
open Go.RowKit
open Drawbar Drawbar.Esc

/-- The table of a replacer that is being built: the bytes dn are in it. -/
structure UpTo (W w : World) (rb : Nat) (dn : List Nat) (strs : List Value) : Prop where
  below : Below W.heap.size W w
  lo : W.heap.size ≤ rb
  dlt : ∀ c, c ∈ dn → c < 256
  rows : ∃ (cs : Array Value) (v : Value), w.heap[rb]? = some (.cells cs 87 (0, 0)) ∧ cs.size = 257 ∧ (∀ c, c < 256 → ¬ c ∈ dn → cs[c]? = some (.slice none 0 0)) ∧
    cs[256]? = some v ∧ w.ownsRow 0 9 1 v dn.length strs ∧ (∀ d, v.ownBlock = some d → d ≠ rb ∧ W.heap.size ≤ d) ∧
    (∀ c, c ∈ dn → ∃ bl cp, cs[c]? = some (.slice (some ⟨bl, 0, none⟩) 2 cp) ∧ bl ≠ rb ∧ (∀ d, v.ownBlock = some d → d ≠ bl) ∧ w.cell? ⟨bl, 0, none⟩ = some (.int .u8 92) ∧ w.cell? ⟨bl, 1, none⟩ = some (.int .u8 (snd c : Nat)))

theorem owns_keep {w w' : World} {base : Nat} {e : TypeId} {size : Nat} {v : Value} {n : Nat} {xs : List Value} (h : w.ownsRow base e size v n xs) (hk : ∀ d, v.ownBlock = some d → w'.heap[d]? = w.heap[d]?) : w'.ownsRow base e size v n xs := by
  refine ⟨h.1, ?_⟩
  rcases h.2 with hn | ⟨g, cap, cur, rfl, hb, hgg, rest⟩
  · exact .inl hn
  · exact .inr ⟨g, cap, cur, rfl, hb, (hk g rfl).trans hgg, rest⟩
theorem lt_block {w : World} {g : Nat} {o : Obj} (h : w.heap[g]? = some o) : g < w.heap.size := by
  rcases Nat.lt_or_ge g w.heap.size with h1 | h1
  · exact h1
  · rw [Array.getElem?_eq_none h1] at h; cases h

theorem cell_blk2 {w : World} {g : Nat} {cs : Array Value} {t : TypeId} {f : Nat × Nat} (h : w.heap[g]? = some (.cells cs t f)) (k : Nat) (v : Value) (hk : cs[k]? = some v) : w.cell? ⟨g, k, none⟩ = some v := by
  simp [World.cell?, h, hk]
theorem UpTo.step {W w wB wC wE : World} {rb c cp : Nat} {dn : List Nat} {strs : List Value} {s v v' : Value} (h : UpTo W w rb dn strs) (hc : c < 256) (hcd : ¬ c ∈ dn)
    (hv : w.cell? ⟨rb, 256, none⟩ = some v) (hB : Below w.heap.size w wB) (h1 : wC.ownsRow 0 9 1 v' (dn.length + 1) (strs ++ [s])) (h2 : wB.grownBy wC v.ownBlock) (h3 : ∀ d, v'.ownBlock = some d → v.ownBlock = some d ∨ wB.heap.size ≤ d)
    (hE : Below wC.heap.size (wC.setCell ⟨rb, 256, none⟩ v') wE)
    (e0 : wE.cell? ⟨wC.heap.size, 0, none⟩ = some (.int .u8 92)) (e1 : wE.cell? ⟨wC.heap.size, 1, none⟩ = some (.int .u8 (snd c : Nat))) :
    UpTo W (wE.setCell ⟨rb, c, none⟩ (.slice (some ⟨wC.heap.size, 0, none⟩) 2 cp)) rb (dn ++ [c]) (strs ++ [s]) := by
  obtain ⟨hb, hlo, hdlt, cs, u, r1, r2, r3, r4, r5, r6, r7⟩ := h
  have hu : u = v := by
    have hx : w.cell? ⟨rb, 256, none⟩ = some u := by simp [World.cell?, r1, r4]
    rw [hx] at hv; exact Option.some.inj hv
  subst hu
  have hsD : (wC.setCell ⟨rb, 256, none⟩ v').heap.size = wC.heap.size := by simp [World.setCell]
  have hrw := lt_block r1
  have hsB := hB.size
  have hsC := h2.size
  have hrC : wC.heap[rb]? = some (.cells cs 87 (0, 0)) :=
    (h2.block rb (by omega) (fun e => (r6 rb e.symm).1 rfl)).trans ((hB.block rb hrw).trans r1)
  have hrD := set_cells hrC 256 v'
  have hrE := (hE.block rb (by omega)).trans hrD
  have hrF := set_cells hrE c (.slice (some ⟨wC.heap.size, 0, none⟩) 2 cp)
  have hown : ∀ d, v'.ownBlock = some d → d ≠ rb ∧ W.heap.size ≤ d ∧ d < wC.heap.size := fun d hd => by
    have hl := (h1.lt d hd).2
    have hbs := hb.size
    rcases h3 d hd with h4 | h4
    · exact ⟨(r6 d h4).1, (r6 d h4).2, hl⟩
    · exact ⟨by omega, by omega, hl⟩
  have hfar : ∀ k, k ≠ rb → k < wC.heap.size → (wE.setCell ⟨rb, c, none⟩ (.slice (some ⟨wC.heap.size, 0, none⟩) 2 cp)).heap[k]? = wC.heap[k]? := fun k hk hlt =>
    (Below.heap_setCell _ _ _ _ (fun e => hk e)).trans ((hE.block k hlt).trans (Below.heap_setCell _ _ _ _ (fun e => hk e)))
  refine ⟨?_, hlo, ?_, _, v', hrF, by simp [r2], ?_, ?_, ?_, fun d hd => ⟨(hown d hd).1, (hown d hd).2.1⟩, ?_⟩
  · have b1 : Below W.heap.size W wB := hb.trans (hB.mono hb.size)
    have b2 : Below W.heap.size W wC := ⟨h2.os.trans b1.os, h2.tape.trans b1.tape, h2.output.trans b1.output, Nat.le_trans b1.size h2.size, fun k hk => (h2.block k (Nat.lt_of_lt_of_le hk b1.size) (fun e => by have := (r6 k e.symm).2; omega)).trans (b1.block k hk)⟩
    have b3 : Below W.heap.size W (wC.setCell ⟨rb, 256, none⟩ v') := b2.setCell hlo _
    exact (b3.trans (hE.mono (by rw [← hsD]; exact b3.size))).setCell hlo _
  · intro x hx
    rcases List.mem_append.1 hx with hx | hx
    · exact hdlt x hx
    · simp at hx; omega
  · intro x hx hxd
    have h4 : ¬ x ∈ dn := fun h => hxd (List.mem_append_left _ h)
    have h5 : x ≠ c := fun h => hxd (by subst h; simp)
    rw [Array.getElem?_setIfInBounds_ne (by omega), Array.getElem?_setIfInBounds_ne (by omega)]
    exact r3 x hx h4
  · rw [Array.getElem?_setIfInBounds_ne (by omega), Array.getElem?_setIfInBounds_self]
    simp [r2]
  · rw [List.length_append]
    exact owns_keep h1 fun d hd => hfar d (hown d hd).1 (hown d hd).2.2
  · intro x hx
    rcases List.mem_append.1 hx with hx | hx
    · obtain ⟨bl, cq, q1, q2, q3, q4, q5⟩ := r7 x hx
      have hxl := hdlt x hx
      have hxc : x ≠ c := fun e => hcd (e ▸ hx)
      have hbl := World.block_lt_of_cell? w _ q4
      have hbl' : bl < w.heap.size := hbl
      have hk : (wE.setCell ⟨rb, c, none⟩ (.slice (some ⟨wC.heap.size, 0, none⟩) 2 cp)).heap[bl]? = w.heap[bl]? :=
        (hfar bl q2 (by omega)).trans ((h2.block bl (by omega) (fun e => q3 bl e.symm rfl)).trans (hB.block bl hbl'))
      refine ⟨bl, cq, ?_, q2, fun d hd => ?_, (World.cell?_of_block (a := ⟨bl, 0, none⟩) hk).trans q4, (World.cell?_of_block (a := ⟨bl, 1, none⟩) hk).trans q5⟩
      · rw [Array.getElem?_setIfInBounds_ne (by omega), Array.getElem?_setIfInBounds_ne (by omega)]
        exact q1
      · rcases h3 d hd with h4 | h4
        · exact q3 d h4
        · omega
    · simp at hx
      subst hx
      have hk : (wE.setCell ⟨rb, x, none⟩ (.slice (some ⟨wC.heap.size, 0, none⟩) 2 cp)).heap[wC.heap.size]? = wE.heap[wC.heap.size]? := Below.heap_setCell _ _ _ _ (fun e => by have h9 : wC.heap.size = rb := e; omega)
      refine ⟨wC.heap.size, cp, ?_, by omega, fun d hd => by have := (hown d hd).2.2; omega, (World.cell?_of_block (a := ⟨wC.heap.size, 0, none⟩) hk).trans e0, (World.cell?_of_block (a := ⟨wC.heap.size, 1, none⟩) hk).trans e1⟩
      rw [Array.getElem?_setIfInBounds_self]
      simp [r2]; omega
theorem UpTo.done {W w : World} {rb : Nat} (h : UpTo W w rb [9, 10, 92, 34] [.string ⟨#[9]⟩, .string ⟨#[10]⟩, .string ⟨#[92]⟩, .string ⟨#[34]⟩]) : RepAt w rb := by
  obtain ⟨hb, hlo, hdlt, cs, v, r1, r2, r3, r4, r5, r6, r7⟩ := h
  refine ⟨fun c hc he => cell_blk2 r1 c _ (r3 c hc fun hm => ?_), fun c hc he => ?_, ?_⟩
  · simp only [List.mem_cons, List.not_mem_nil, or_false] at hm
    rcases hm with rfl | rfl | rfl | rfl <;> cases he
  · have hm : c ∈ [9, 10, 92, 34] := by
      simp only [isE, Bool.or_eq_true, beq_iff_eq] at he
      simp only [List.mem_cons, List.not_mem_nil, or_false]
      omega
    obtain ⟨bl, cp, q1, _, _, q4, q5⟩ := r7 c hm
    exact ⟨bl, cp, cell_blk2 r1 c _ q1, q4, q5⟩
  · have hcells := fun (g : Nat) (n c : Nat) (e : v = .slice (some ⟨g, 0, none⟩) n c) => r5.cells (g := g) (by rw [e]; rfl)
    rcases r5.2 with ⟨_, h0⟩ | ⟨tg, tcap, tcur, h0, -, -, hle, -⟩
    · simp at h0
    · have hc := hcells tg _ _ h0
      have get : ∀ i u, [Value.string ⟨#[9]⟩, .string ⟨#[10]⟩, .string ⟨#[92]⟩, .string ⟨#[34]⟩][i]? = some u → w.cell? ⟨tg, i, none⟩ = some u := fun i u hi => by
        have h := hc i u hi
        rw [Addr.add_lit, Nat.zero_add] at h
        exact h
      exact ⟨tg, tcap, (cell_blk2 r1 256 _ r4).trans (by rw [h0]; rfl), hle, get 0 _ rfl, get 1 _ rfl, get 2 _ rfl, get 3 _ rfl⟩
end Go.Proofs.Ythldbcngbkemnaa
