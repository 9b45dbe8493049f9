/- Claim and Last in a law that holds variables of its own across them. -/
import Derived.Test.YtcbgccmoeleanaaDoorUse
namespace Go.Proofs.YtcbgccmoeleanaaDoor.Nd
open Go.RowKit
open Drawbar Drawbar.Nand
/-- A store outside of the array's memory. -/
theorem ArrAt.store {w : World} {F : Nat → Prop} {g : Nat} {s : Arr} (h : ArrAt w F g s) {b o : Nat} (v : Value) (hb : ¬ F b) : ArrAt (w.setCell ⟨b, o, none⟩ v) F g s := by
  have hbd := fun d hd => h.bound d hd
  obtain ⟨hid, R, hbk, rows, pv, bv, h⟩ := h
  exact ⟨hid, R, hbk, rows, pv, bv, h.keep (fun d hd => Below.heap_setCell _ _ _ _ (fun e => hb (by subst e; exact hd))) (fun _ h => h) (fun d hd => by simpa [World.setCell] using hbd d hd)⟩
end Go.Proofs.YtcbgccmoeleanaaDoor.Nd
namespace Go.Proofs.YtcbgccmoeleanaaDoor.Lg
open Go.RowKit
open Drawbar Drawbar.Sheet Drawbar.Nand Drawbar.Log Go.Proofs.YtcbgccmoeleanaaDoor.Nd

/-- An array of a law's: its memory lies from B on, and holds none of the blocks K. -/
structure Free (B : Nat) (K : List Nat) (w : World) (g : Nat) (s : Arr) : Prop where
  pos : 0 < B
  size : B ≤ w.heap.size
  tab : Tab w
  low : ∀ k, k ∈ K → k < w.heap.size
  arr : ∃ F, ArrAt w F g s ∧ (∀ k, F k → B ≤ k) ∧ ∀ k, k ∈ K → ¬ F k
/-- What a call does: the blocks K stand. -/
structure Did2 (B : Nat) (K : List Nat) (w : World) (g : Nat) (s : Arr) (w' : World) : Prop where
  free : Free B K w' g s
  below : Below B w w'
  keep : ∀ k, k ∈ K → w'.heap[k]? = w.heap[k]?
theorem Did.two {B : Nat} {K : List Nat} {w w' : World} {g : Nat} {s : Arr} {r : Int × Arr} {e : Ending} {F : Nat → Prop} (h : Free B K w g s) (hF : ∀ k, F k → B ≤ k) (hK : ∀ k, k ∈ K → ¬ F k) (hd : Did w F g r e w') :
    e = .returned (.int .i64 r.1) ∧ Did2 B K w g r.2 w' := by
  obtain ⟨he, ha, hk⟩ := hd
  have hs := hk.size
  have h0 := h.size
  have hB : Below B w w' := hk.toBelow hF h.size
  refine ⟨he, ⟨h.pos, Nat.le_trans h.size hs, Tab.low h.tab hB h.pos, fun k hk2 => Nat.lt_of_lt_of_le (h.low k hk2) hs, _, ha, fun k hk2 => ?_, fun k hk2 hf => ?_⟩, hB, fun k hk2 => hk.block k (h.low k hk2) (hK k hk2)⟩
  · rcases hk2 with h2 | h2
    · exact hF k h2
    · omega
  · have := h.low k hk2
    rcases hf with h2 | h2
    · exact hK k hk2 h2
    · omega
theorem Free.keep {B : Nat} {K : List Nat} {w w' : World} {g : Nat} {s : Arr} (h : Free B K w g s) (hb : Below w.heap.size w w') : Free B K w' g s := by
  obtain ⟨h0, h1, h2, h3, F, ha, hF, hK⟩ := h
  exact ⟨h0, Nat.le_trans h1 hb.size, h2.below hb h2.pos, fun k hk => Nat.lt_of_lt_of_le (h3 k hk) hb.size, F, ha.keep hb, hF, hK⟩
/-- One more block that the law holds. -/
theorem Free.more {B : Nat} {K : List Nat} {w w' : World} {g : Nat} {s : Arr} (h : Free B K w g s) (hb : Below w.heap.size w w') (k : Nat) (h1 : w.heap.size ≤ k) (h2 : k < w'.heap.size) : Free B (k :: K) w' g s := by
  have hk := h.keep hb
  obtain ⟨F, ha, hF, hK⟩ := h.arr
  refine ⟨hk.pos, hk.size, hk.tab, fun j hj => ?_, F, ha.keep hb, hF, fun j hj => ?_⟩
  · rcases List.mem_cons.1 hj with rfl | hj
    · exact h2
    · exact hk.low j hj
  · rcases List.mem_cons.1 hj with rfl | hj
    · exact fun hf => by have := ha.bound j hf; omega
    · exact hK j hj
theorem Free.drop {B k : Nat} {K : List Nat} {w : World} {g : Nat} {s : Arr} (h : Free B (k :: K) w g s) : Free B K w g s := by
  obtain ⟨h0, h1, h2, h3, F, ha, hF, hK⟩ := h
  exact ⟨h0, h1, h2, fun j hj => h3 j (List.mem_cons_of_mem _ hj), F, ha, hF, fun j hj => hK j (List.mem_cons_of_mem _ hj)⟩
/-- A store into a block that the law holds. -/
theorem Free.store {B : Nat} {K : List Nat} {w : World} {g : Nat} {s : Arr} (h : Free B K w g s) {b o : Nat} (v : Value) (hb : b ∈ K) (hB : B ≤ b) : Free B K (w.setCell ⟨b, o, none⟩ v) g s := by
  obtain ⟨h0, h1, h2, h3, F, ha, hF, hK⟩ := h
  have hsz : (w.setCell ⟨b, o, none⟩ v).heap.size = w.heap.size := by simp [World.setCell]
  exact ⟨h0, by rw [hsz]; exact h1, Tab.low h2 (set_below w b o v hB) h0, fun k hk => by rw [hsz]; exact h3 k hk, F, ha.store v (hK b hb), hF, hK⟩

theorem claim_f {B : Nat} {K : List Nat} {w : World} {g : Nat} {s : Arr} (h : Free B K w g s) (h2 : 1 < s.n) (x : En) :
    Calls Tryd.prog 12 #[.pointer (some ⟨g, 0, none⟩), ev x] w (fun e w' => e = .returned (.int .i64 (claimS s x).1) ∧ Did2 B K w g (claimS s x).2 w') := by
  obtain ⟨F, ha, hF, hK⟩ := h.arr
  have hp := h.pos
  exact (claim_at ha h2 x h.tab (fun hf => by have := hF 0 hf; omega)).mono fun e w' hd => Did.two h hF hK hd
theorem last_f {B : Nat} {K : List Nat} {w : World} {g : Nat} {s : Arr} (h : Free B K w g s) (h2 : 1 < s.n) :
    Calls Tryd.prog 13 #[.pointer (some ⟨g, 0, none⟩)] w (fun e w' => e = .returned (.tuple #[ev (lastS s).1, .int .i64 (lastS s).2]) ∧ Free B K w' g s ∧ Below w.heap.size w w') := by
  obtain ⟨F, ha, hF, hK⟩ := h.arr
  exact (last_any ha h2 h.tab).mono fun e w' ⟨he, hb⟩ => ⟨he, h.keep hb, hb⟩
theorem claim_f' {B : Nat} {K : List Nat} {w : World} {g : Nat} {s : Arr} (h : Free B K w g s) (h2 : 1 < s.n) (e0 : Nat) (w0 a b : Int) (ha : a = e0) (hb : b = w0) (r : Int × Arr) (hr : claimS s ⟨e0, w0⟩ = r) :
    Calls Tryd.prog 12 #[.pointer (some ⟨g, 0, none⟩), .agg #[.int .u64 a, .int .i64 b]] w (fun e w' => e = .returned (.int .i64 r.1) ∧ Did2 B K w g r.2 w') := by
  subst ha hb hr; exact claim_f h h2 ⟨e0, b⟩
theorem last_f' {B : Nat} {K : List Nat} {w : World} {g : Nat} {s : Arr} (h : Free B K w g s) (h2 : 1 < s.n) (e0 : Nat) (w0 a b : Int) (ha : a = e0) (hb : b = w0) (hr : lastS s = (⟨e0, w0⟩, 0)) :
    Calls Tryd.prog 13 #[.pointer (some ⟨g, 0, none⟩)] w (fun e w' => e = .returned (.tuple #[.agg #[.int .u64 a, .int .i64 b], .int .i64 0]) ∧ Free B K w' g s ∧ Below w.heap.size w w') := by
  subst ha hb
  have h := last_f h h2
  rw [hr] at h
  exact h
theorem restart_f {B : Nat} {K : List Nat} {w : World} {g : Nat} {s : Arr} (h : Free B K w g s) (cut : Int) :
    Calls Tryd.prog 16 #[.pointer (some ⟨g, 0, none⟩), .int .i64 cut] w (fun e w' => e = .returned (.int .i64 0) ∧ Did2 B K w g (s.restart cut) w') := by
  obtain ⟨F, ha, hF, hK⟩ := h.arr
  exact (restart_at ha cut).mono fun e w' hd => Did.two h hF hK hd
theorem arm_f {B : Nat} {K : List Nat} {w : World} {g : Nat} {s : Arr} (h : Free B K w g s) (n : Nat) (hn : n ≤ 9223372036854775807) :
    Calls Tryd.prog 15 #[.pointer (some ⟨g, 0, none⟩), .int .i64 n] w (fun e w' => e = .returned (.int .i64 0) ∧ Did2 B K w g { s with armed := n } w') := by
  obtain ⟨F, ha, hF, hK⟩ := h.arr
  have e : s.arm n = (0, { s with armed := n }) := by
    unfold Arr.arm
    rw [if_neg (by omega), Int.toNat_natCast]
  have hc := arm_at ha n (by omega)
  rw [e] at hc
  exact hc.mono fun e w' hd => Did.two h hF hK hd
theorem doom_f {B : Nat} {K : List Nat} {w : World} {g : Nat} {s : Arr} (h : Free B K w g s) (i n : Nat) (hi : i < s.n) (hn : n ≤ 9223372036854775807) :
    Calls Tryd.prog 17 #[.pointer (some ⟨g, 0, none⟩), .int .i64 i, .int .i64 n] w (fun e w' => e = .returned (.int .i64 0) ∧ Did2 B K w g { s with b := upd s.b i { s.b i with doom := n } } w') := by
  obtain ⟨F, ha, hF, hK⟩ := h.arr
  exact (doom_at ha i n hi hn).mono fun e w' hd => Did.two h hF hK hd
theorem failed_f {B : Nat} {K : List Nat} {w : World} {g : Nat} {s : Arr} (h : Free B K w g s) (i : Nat) (hi : i < s.n) :
    Calls Tryd.prog 18 #[.pointer (some ⟨g, 0, none⟩), .int .i64 i] w fun e w' => e = .returned (.bool (s.b i).failed) ∧ w = w' := by
  obtain ⟨F, ha, hF, hK⟩ := h.arr
  exact failed_at ha i hi
theorem next_f {B : Nat} {K : List Nat} {w : World} {g : Nat} {s : Arr} (h : Free B K w g s) (i : Nat) (hi : i < s.n) :
    Calls Tryd.prog 14 #[.pointer (some ⟨g, 0, none⟩), .int .i64 i] w fun e w' => e = .returned (.int .i64 (s.b i).pages.length) ∧ w = w' := by
  obtain ⟨F, ha, hF, hK⟩ := h.arr
  exact next_at ha i hi
theorem new_f (n p : Nat) (a b : Int) (ha : a = n) (hb : b = p) (w : World) (hT : Tab w) (h2 : 0 < n) (hn : n ≤ 64) (h3 : 0 < p) (h4 : p ≤ 32) :
    Calls Tryd.prog 11 #[.int .i64 a, .int .i64 b, .slice none 0 0] w (fun e w' => ∃ g, e = .returned (.tuple #[.pointer (some ⟨g, 0, none⟩), .int .i64 0]) ∧ Free w.heap.size [] w' g (Arr.new n p (fun _ => fresh)) ∧ Below w.heap.size w w') := by
  subst ha hb
  refine (new_at n p w h2 hn h3 h4).mono ?_
  rintro e w' ⟨g, he, h1, hb⟩
  exact ⟨g, he, ⟨hT.pos, hb.size, hT.below hb hT.pos, (fun k hk => by cases hk), _, h1, (fun k hk => hk.1), (fun k hk => by cases hk)⟩, hb⟩
end Go.Proofs.YtcbgccmoeleanaaDoor.Lg
