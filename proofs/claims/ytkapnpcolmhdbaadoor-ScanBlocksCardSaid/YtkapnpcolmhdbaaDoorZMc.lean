/- The laws' two arrays, the program's and the document's, beside the row of the sheets that were laid. The contracts of both arrays' calls, as the laws make them: each happening, done. What the laws' happenings come to: both arrays stay one. What the laws' array tells: the texts of its pages. -/
import Derived.Test.YtkapnpcolmhdbaaDoorZMb
import Derived.Test.YtkapnpcolmhdbaaDoorZMa
import Derived.Test.YtkapnpcolmhdbaaDoorZSe
import Derived.Deep.RegionHeld
import Derived.Deep.AppendLies
namespace Go.Proofs.YtkapnpcolmhdbaaDoor.Nd
open Go.RowKit
open Drawbar Drawbar.Nand
set_option maxRecDepth 100000 in
theorem ArrAt.keepF {w w' : World} {F : Nat → Prop} {g : Nat} {s : Arr} (h : ArrAt w F g s) (hk : ∀ d, F d → w'.heap[d]? = w.heap[d]?) (hs : w.heap.size ≤ w'.heap.size) : ArrAt w' F g s := by
  obtain ⟨hid, R, hbk, rows, pv, bv, h⟩ := h
  exact ⟨hid, R, hbk, rows, pv, bv, h.keep hk (fun _ h => h) (fun d hd => Nat.lt_of_lt_of_le (h.bound d hd) hs)⟩
end Go.Proofs.YtkapnpcolmhdbaaDoor.Nd
namespace Go.Proofs.YtkapnpcolmhdbaaDoor.Sc
open Go.RowKit
open Drawbar Drawbar.Sheet Drawbar.Nand Drawbar.Scan Go.Proofs.YtkapnpcolmhdbaaDoor.Nd

/-- A sheet's cells. -/
def scells (x : Sh) (v : Value) : List Value := [.int .u8 x.k, .int .u64 x.ep, .int .u64 x.sq, .int .i64 x.ad, .int .i64 x.fr, v]
def rowS : List (Sh × Value) → List Value
  | [] => []
  | q :: r => scells q.1 q.2 ++ rowS r
set_option maxRecDepth 100000 in
theorem rowS_length (l : List (Sh × Value)) : (rowS l).length = l.length * 6 := by
  induction l with
  | nil => rfl
  | cons q r ih => rw [rowS, List.length_append, ih, List.length_cons]; simp [scells]; omega
set_option maxRecDepth 100000 in
theorem rowS_append (l m : List (Sh × Value)) : rowS (l ++ m) = rowS l ++ rowS m := by
  induction l with
  | nil => rfl
  | cons q r ih => rw [List.cons_append, rowS, rowS, ih, List.append_assoc]
set_option maxRecDepth 100000 in
theorem rowS_get : ∀ (l : List (Sh × Value)) (i : Nat) (q : Sh × Value), l[i]? = some q → ∀ k, k < 6 → (rowS l)[i * 6 + k]? = (scells q.1 q.2)[k]?
  | [], i, q, h, k, hk => by simp at h
  | p :: r, 0, q, h, k, hk => by
    obtain rfl : p = q := by simpa using h
    rw [rowS, List.getElem?_append_left (by simp [scells]; omega)]
    simp
  | p :: r, i + 1, q, h, k, hk => by
    rw [rowS, List.getElem?_append_right (by simp [scells]; omega), ← rowS_get r i q (by simpa using h) k hk]
    congr 1
    simp [scells]; omega
/-- Data that lie below B. -/
def DaB (B : Nat) (w : World) (v : Value) (l : List Nat) : Prop := ∃ a c, v = .slice a l.length c ∧ Rd w a l ∧ (a = none → c = 0) ∧ ∀ q, a = some q → 0 < l.length → q.block < B
set_option maxRecDepth 100000 in
theorem DaB.keep {B : Nat} {w w' : World} {v : Value} {l : List Nat} (h : DaB B w v l) (hb : Below B w w') : DaB B w' v l := by
  obtain ⟨a, c, rfl, hr, hn, hB⟩ := h
  refine ⟨a, c, rfl, ⟨hr.1, hr.2.1, fun h0 => ?_⟩, hn, hB⟩
  obtain ⟨b, off, rfl, hc⟩ := hr.2.2 h0
  exact ⟨b, off, rfl, fun i hi => (hb.cell (p := ⟨b, off + i, none⟩) (show b < B from hB ⟨b, off, none⟩ rfl h0)).trans (hc i hi)⟩
set_option maxRecDepth 100000 in
theorem DaB.nil (B : Nat) (w : World) : DaB B w (.slice none 0 0) [] := ⟨none, 0, rfl, rd_nil _, fun _ => rfl, fun q h => by cases h⟩

/-- The two arrays; L: the sheets that were laid, in the row v; K: what the law holds beside. -/
structure Two (B : Nat) (K : List Nat) (w : World) (g : Nat) (s : Arr) (m n P : Nat) (b : Nat → Blk) (left : Nat) (off : Bool) (cut : Int) (t : ByteArray) (v : Value) (L : List (Sh × Value)) : Prop where
  size : B ≤ w.heap.size
  tab : Tab w
  pos : 0 < B
  kk : ∀ k, k ∈ K → B ≤ k ∧ k < w.heap.size
  mem : ∃ F G, ArrAt w F g s ∧ MAt w G m n P b left off cut t ∧ (∀ k, F k → B ≤ k ∧ ¬ G k) ∧ (∀ k, G k → B ≤ k) ∧ (∀ k, k ∈ K → ¬ F k ∧ ¬ G k ∧ v.ownBlock ≠ some k) ∧ (∀ d, v.ownBlock = some d → ¬ F d ∧ ¬ G d)
  row : w.ownsRow B 47 6 v L.length (rowS L)
  da : ∀ q ∈ L, DaB B w q.2 q.1.da
/-- What a step leaves: what lies below B, and what the law holds. -/
structure Left (B : Nat) (K : List Nat) (w w' : World) : Prop where
  below : Below B w w'
  keep : ∀ k, k ∈ K → w'.heap[k]? = w.heap[k]?
set_option maxRecDepth 100000 in
theorem Left.refl (B : Nat) (K : List Nat) (w : World) : Left B K w w := ⟨Below.refl _ _, fun _ _ => rfl⟩
set_option maxRecDepth 100000 in
theorem Left.trans {B : Nat} {K : List Nat} {w w1 w2 : World} (h : Left B K w w1) (h2 : Left B K w1 w2) : Left B K w w2 := ⟨h.below.trans h2.below, fun k hk => (h2.keep k hk).trans (h.keep k hk)⟩
set_option maxRecDepth 100000 in
theorem Left.less {B : Nat} {K K' : List Nat} {w w' : World} (h : Left B K w w') (hs : ∀ k, k ∈ K' → k ∈ K) : Left B K' w w' := ⟨h.below, fun k hk => h.keep k (hs k hk)⟩
section
variable {B : Nat} {K : List Nat} {w : World} {g : Nat} {s : Arr} {m n P : Nat} {b : Nat → Blk} {left : Nat} {off : Bool} {cut : Int} {t : ByteArray} {v : Value} {L : List (Sh × Value)}
set_option maxRecDepth 100000 in
/-- Memory was made. -/
theorem Two.more (h : Two B K w g s m n P b left off cut t v L) {w' : World} (hb : Below w.heap.size w w') : Two B K w' g s m n P b left off cut t v L ∧ Left B K w w' := by
  have hbB : Below B w w' := hb.mono h.size
  obtain ⟨F, G, h1, h2, h3, h4, h5, h6⟩ := h.mem
  refine ⟨⟨Nat.le_trans h.size hb.size, h.tab.below hbB h.pos, h.pos, fun k hk => ⟨(h.kk k hk).1, Nat.lt_of_lt_of_le (h.kk k hk).2 hb.size⟩, ⟨F, G, h1.keep hb, h2.keep (fun _ h => h) (fun d hd => Nat.lt_of_lt_of_le (h2.bound d hd) hb.size) fun d hd => hb.block d (h2.bound d hd), h3, h4, h5, h6⟩,
    ownsRow_keep h.row fun d hd => hb.block d (h.row.lt d hd).2, fun q hq => (h.da q hq).keep hbB⟩, hbB, fun k hk => hb.block k (h.kk k hk).2⟩
set_option maxRecDepth 100000 in
/-- The law holds one block more. -/
theorem Two.hold (h : Two B K w g s m n P b left off cut t v L) (k : Nat) (h1 : B ≤ k) (h2 : k < w.heap.size) (h3 : ∃ w0, Two B K w0 g s m n P b left off cut t v L ∧ Below w0.heap.size w0 w ∧ w0.heap.size ≤ k) : Two B (k :: K) w g s m n P b left off cut t v L := by
  obtain ⟨w0, h0, hb, hk⟩ := h3
  obtain ⟨F, G, a1, a2, a3, a4, a5, a6⟩ := h0.mem
  refine ⟨h.size, h.tab, h.pos, fun j hj => ?_, ⟨F, G, a1.keep hb, a2.keep (fun _ h => h) (fun d hd => Nat.lt_of_lt_of_le (a2.bound d hd) hb.size) fun d hd => hb.block d (a2.bound d hd), a3, a4, fun j hj => ?_, a6⟩, h.row, h.da⟩
  · rcases List.mem_cons.1 hj with rfl | hj
    · exact ⟨h1, h2⟩
    · exact h.kk j hj
  · rcases List.mem_cons.1 hj with rfl | hj
    · exact ⟨fun hf => by have := a1.bound j hf; omega, fun hf => by have := a2.bound j hf; omega, fun hf => by have := (h0.row.lt j hf).2; omega⟩
    · exact a5 j hj
set_option maxRecDepth 100000 in
theorem Two.less (h : Two B K w g s m n P b left off cut t v L) {K' : List Nat} (hs : ∀ k, k ∈ K' → k ∈ K) : Two B K' w g s m n P b left off cut t v L := by
  obtain ⟨F, G, a1, a2, a3, a4, a5, a6⟩ := h.mem
  exact ⟨h.size, h.tab, h.pos, fun k hk => h.kk k (hs k hk), ⟨F, G, a1, a2, a3, a4, fun k hk => a5 k (hs k hk), a6⟩, h.row, h.da⟩
set_option maxRecDepth 100000 in
/-- A store into a block that the law holds. -/
theorem Two.store (h : Two B K w g s m n P b left off cut t v L) (k o : Nat) (x : Value) (hk : k ∈ K) : Two B K (w.setCell ⟨k, o, none⟩ x) g s m n P b left off cut t v L := by
  have hoth : ∀ d, d ≠ k → (w.setCell ⟨k, o, none⟩ x).heap[d]? = w.heap[d]? := set_keep w k o x
  have hb : Below B w (w.setCell ⟨k, o, none⟩ x) := (Below.refl B w).setCell (p := ⟨k, o, none⟩) (h.kk k hk).1 x
  obtain ⟨F, G, a1, a2, a3, a4, a5, a6⟩ := h.mem
  obtain ⟨b1, b2, b3⟩ := a5 k hk
  exact ⟨by rw [set_size]; exact h.size, h.tab.below hb h.pos, h.pos, fun j hj => by rw [set_size]; exact h.kk j hj, ⟨F, G, a1.keepF (fun d hd => hoth d fun e => b1 (e ▸ hd)) (by rw [set_size]; exact Nat.le_refl _), a2.keep (fun _ h => h) (fun d hd => by rw [set_size]; exact a2.bound d hd) fun d hd => hoth d fun e => b2 (e ▸ hd), a3, a4, a5, a6⟩,
    ownsRow_keep h.row fun d hd => hoth d fun e => b3 (e ▸ hd), fun q hq => (h.da q hq).keep hb⟩
set_option maxRecDepth 100000 in
/-- A call of the program's array. -/
theorem Two.nand {F : Nat → Prop} {r : Int × Arr} {e : Ending} {w' : World} {G : Nat → Prop} (h : Two B K w g s m n P b left off cut t v L) (a2 : MAt w G m n P b left off cut t) (a3 : ∀ k, F k → B ≤ k ∧ ¬ G k) (a4 : ∀ k, G k → B ≤ k)
    (a5 : ∀ k, k ∈ K → ¬ F k ∧ ¬ G k ∧ v.ownBlock ≠ some k) (a6 : ∀ d, v.ownBlock = some d → ¬ F d ∧ ¬ G d) (hd : Did w F g r e w') : e = .returned (.int .i64 r.1) ∧ Two B K w' g r.2 m n P b left off cut t v L ∧ Left B K w w' := by
  obtain ⟨he, ha, hk⟩ := hd
  have hb : Below B w w' := hk.toBelow (fun k hk => (a3 k hk).1) h.size
  refine ⟨he, ⟨Nat.le_trans h.size hk.size, h.tab.below hb h.pos, h.pos, fun j hj => ⟨(h.kk j hj).1, Nat.lt_of_lt_of_le (h.kk j hj).2 hk.size⟩, ⟨_, G, ha, a2.keep (fun _ h => h) (fun d hd => Nat.lt_of_lt_of_le (a2.bound d hd) hk.size) fun d hd => hk.block d (a2.bound d hd) fun hf => (a3 d hf).2 hd, fun k hf => ?_, a4, fun k hk2 => ⟨fun hf => ?_, (a5 k hk2).2⟩, fun d hd => ⟨fun hf => ?_, (a6 d hd).2⟩⟩,
    ownsRow_keep h.row fun d hd => hk.block d (h.row.lt d hd).2 (a6 d hd).1, fun q hq => (h.da q hq).keep hb⟩, hb, fun k hk2 => hk.block k (h.kk k hk2).2 (a5 k hk2).1⟩
  · rcases hf with hf | hf
    · exact a3 k hf
    · exact ⟨Nat.le_trans h.size hf.1, fun hG => by have := a2.bound k hG; omega⟩
  · rcases hf with hf | hf
    · exact (a5 k hk2).1 hf
    · have := (h.kk k hk2).2; omega
  · rcases hf with hf | hf
    · exact (a6 d hd).1 hf
    · have := (h.row.lt d hd).2; omega
set_option maxRecDepth 100000 in
/-- A call of the document's array. -/
theorem Two.doc {F G : Nat → Prop} {b' : Nat → Blk} {left' : Nat} {off' : Bool} {cut' : Int} {t' : ByteArray} {w' : World} (h : Two B K w g s m n P b left off cut t v L) (a1 : ArrAt w F g s) (a3 : ∀ k, F k → B ≤ k ∧ ¬ G k) (a4 : ∀ k, G k → B ≤ k)
    (a5 : ∀ k, k ∈ K → ¬ F k ∧ ¬ G k ∧ v.ownBlock ≠ some k) (a6 : ∀ d, v.ownBlock = some d → ¬ F d ∧ ¬ G d) (hd : MDid w G m n P b' left' off' cut' t' w') : Two B K w' g s m n P b' left' off' cut' t' v L ∧ Left B K w w' := by
  obtain ⟨ha, hk⟩ := hd
  have hb : Below B w w' := hk.toBelow a4 h.size
  refine ⟨⟨Nat.le_trans h.size hk.size, h.tab.below hb h.pos, h.pos, fun j hj => ⟨(h.kk j hj).1, Nat.lt_of_lt_of_le (h.kk j hj).2 hk.size⟩, ⟨F, _, a1.keepF (fun d hd => hk.block d (a1.bound d hd) (a3 d hd).2) hk.size, ha, fun k hf => ⟨(a3 k hf).1, fun hG => ?_⟩, fun k hG => ?_, fun k hk2 => ⟨(a5 k hk2).1, fun hG => ?_, (a5 k hk2).2.2⟩, fun d hd => ⟨(a6 d hd).1, fun hG => ?_⟩⟩,
    ownsRow_keep h.row fun d hd => hk.block d (h.row.lt d hd).2 (a6 d hd).2, fun q hq => (h.da q hq).keep hb⟩, hb, fun k hk2 => hk.block k (h.kk k hk2).2 (a5 k hk2).2.1⟩
  · rcases hG with hG | hG
    · exact (a3 k hf).2 hG
    · have := a1.bound k hf; omega
  · rcases hG with hG | hG
    · exact a4 k hG
    · have := h.size; omega
  · rcases hG with hG | hG
    · exact (a5 k hk2).2.1 hG
    · have := (h.kk k hk2).2; omega
  · rcases hG with hG | hG
    · exact (a6 d hd).2 hG
    · have := (h.row.lt d hd).2; omega
end
end Go.Proofs.YtkapnpcolmhdbaaDoor.Sc
namespace Drawbar.Scan
open Go.RowKit
open Drawbar Drawbar.Sheet Drawbar.Nand
set_option maxRecDepth 100000 in
/-- What the document's array does of the same. -/
theorem restart_b (s : Arr) (cut : Int) : (s.restart cut).b = (s.resume cut).b := rfl
end Drawbar.Scan
namespace Go.Proofs.YtkapnpcolmhdbaaDoor.Sc
open Go.RowKit
open Drawbar Drawbar.Sheet Drawbar.Nand Drawbar.Scan Go.Proofs.YtkapnpcolmhdbaaDoor.Nd
section
variable {B : Nat} {K : List Nat} {w : World} {g : Nat} {s : Arr} {m n P : Nat} {b : Nat → Blk} {left : Nat} {off : Bool} {cut : Int} {t : ByteArray} {v : Value} {L : List (Sh × Value)}
set_option maxRecDepth 100000 in
theorem two_program (h : Two B K w g s m n P b left off cut t v L) (i page : Int) (l : List Nat) (a : Option Addr) (c e : Nat) (hr : Rd w a l) (h96 : l.length = 96) :
    Calls Tryd.prog 16 #[.pointer (some ⟨g, 0, none⟩), .int .i64 i, .int .i64 page, .slice a 96 c, .int .u64 e] w fun x w' => x = .returned (.int .i64 (s.program i page l e).1) ∧ Two B K w' g (s.program i page l e).2 m n P b left off cut t v L ∧ Left B K w w' := by
  obtain ⟨F, G, a1, a2, a3, a4, a5, a6⟩ := h.mem
  exact (program_at a1 i page l a c e hr 96 h96).mono fun _ _ hd => h.nand a2 a3 a4 a5 a6 hd
set_option maxRecDepth 100000 in
theorem two_erase (h : Two B K w g s m n P b left off cut t v L) (i : Int) (e : Nat) :
    Calls Tryd.prog 23 #[.pointer (some ⟨g, 0, none⟩), .int .i64 i, .int .u64 e] w fun x w' => x = .returned (.int .i64 (s.erase i e).1) ∧ Two B K w' g (s.erase i e).2 m n P b left off cut t v L ∧ Left B K w w' := by
  obtain ⟨F, G, a1, a2, a3, a4, a5, a6⟩ := h.mem
  exact (erase_at a1 i e).mono fun _ _ hd => h.nand a2 a3 a4 a5 a6 hd
set_option maxRecDepth 100000 in
theorem two_arm (h : Two B K w g s m n P b left off cut t v L) :
    Calls Tryd.prog 25 #[.pointer (some ⟨g, 0, none⟩), .int .i64 1] w fun x w' => x = .returned (.int .i64 0) ∧ Two B K w' g { s with armed := 1 } m n P b left off cut t v L ∧ Left B K w w' := by
  obtain ⟨F, G, a1, a2, a3, a4, a5, a6⟩ := h.mem
  exact (arm_at a1 1 (by omega)).mono fun _ _ hd => h.nand a2 a3 a4 a5 a6 hd
set_option maxRecDepth 100000 in
theorem two_restart (h : Two B K w g s m n P b left off cut t v L) (c : Int) :
    Calls Tryd.prog 26 #[.pointer (some ⟨g, 0, none⟩), .int .i64 c] w fun x w' => x = .returned (.int .i64 0) ∧ Two B K w' g (s.restart c) m n P b left off cut t v L ∧ Left B K w w' := by
  obtain ⟨F, G, a1, a2, a3, a4, a5, a6⟩ := h.mem
  exact (restart_at a1 c).mono fun _ _ hd => h.nand a2 a3 a4 a5 a6 hd
/-- What the document's Program is called for, and what it leaves. -/
def docProg (b : Nat → Blk) (P i : Nat) (l : List Nat) (left : Nat) (cut : Int) (t : ByteArray) : (Nat → Blk) × Nat × Bool × Int × ByteArray :=
  if (b i).pages.length < P ∧ (b i).torn = false then (if left = 1 then (b, 0, true, i, strOf l) else (upd b i { b i with pages := (b i).pages ++ [l] }, 0, false, cut, t)) else (b, left, false, cut, t)
set_option maxRecDepth 100000 in
theorem two_mprog (h : Two B K w g s m n P b left false cut t v L) (hleft : left = 0 ∨ left = 1) (i : Nat) (hi : i < n) (hf : (b i).fails = false) (l : List Nat) (k o c : Nat) (hr : Rd w (some ⟨k, o, none⟩) l) (h96 : l.length = 96) (hk : k ∈ K) :
    Calls Tryd.prog 22 #[.pointer (some ⟨m, 0, none⟩), .int .i64 i, .int .i64 (b i).pages.length, .slice (some ⟨k, o, none⟩) 96 c, .int .u64 1] w fun x w' => (∃ z, x = .returned (.int .i64 z)) ∧
      Two B K w' g s m n P (docProg b P i l left cut t).1 (docProg b P i l left cut t).2.1 (docProg b P i l left cut t).2.2.1 (docProg b P i l left cut t).2.2.2.1 (docProg b P i l left cut t).2.2.2.2 v L ∧ Left B K w w' := by
  obtain ⟨F, G, a1, a2, a3, a4, a5, a6⟩ := h.mem
  have hap : ∀ q, some (⟨k, o, none⟩ : Addr) = some q → ¬ G q.block := fun q hq => by cases hq; exact (a5 k hk).2.1
  unfold docProg
  by_cases hl : (b i).pages.length < P ∧ (b i).torn = false
  · rw [if_pos hl]
    rcases hleft with rfl | rfl
    · rw [if_neg (by decide)]
      exact (mprog_ok a2 i hi hl.1 hl.2 hf l _ c hr h96 hap).mono fun _ _ ⟨he, hd⟩ => ⟨⟨_, he⟩, h.doc a1 a3 a4 a5 a6 hd⟩
    · rw [if_pos rfl]
      exact (mprog_cut a2 i hi hl.1 hl.2 l _ c hr h96 (fun q hq e => hap q hq (e ▸ a2.gm))).mono fun _ _ ⟨he, hd, ho⟩ => ⟨⟨_, he⟩, h.doc a1 a3 a4 a5 a6 ((ho.keep a2.gm).did hd)⟩
  · rw [if_neg hl]
    refine (mprog_no a2 i hi ?_ _ c).mono fun _ _ ⟨he, hw⟩ => by subst hw; exact ⟨he, h, Left.refl _ _ _⟩
    rcases Nat.lt_or_ge (b i).pages.length P with h1 | h1
    · exact .inr (by cases ht : (b i).torn with | true => rfl | false => exact absurd ⟨h1, ht⟩ hl)
    · exact .inl h1
set_option maxRecDepth 100000 in
theorem two_merase (h : Two B K w g s m n P b 0 false cut t v L) (i : Nat) (hi : i < n) (hP : 0 < P) (hf : (b i).fails = false) (er : Int) :
    Calls Tryd.prog 24 #[.pointer (some ⟨m, 0, none⟩), .int .i64 i, .int .u64 1] w fun x w' => (∃ z, x = .returned (.int .i64 z)) ∧ Two B K w' g s m n P (upd b i { b i with pages := [], torn := false, erases := er }) 0 false cut t v L ∧ Left B K w w' := by
  obtain ⟨F, G, a1, a2, a3, a4, a5, a6⟩ := h.mem
  exact (merase_ok a2 i hi hP hf er).mono fun _ _ ⟨he, hd⟩ => ⟨⟨_, he⟩, h.doc a1 a3 a4 a5 a6 hd⟩
set_option maxRecDepth 100000 in
theorem two_merase_cut (h : Two B K w g s m n P b 1 false cut t v L) (i : Nat) (hi : i < n) (hP : 0 < P) :
    Calls Tryd.prog 24 #[.pointer (some ⟨m, 0, none⟩), .int .i64 i, .int .u64 1] w fun x w' => (∃ z, x = .returned (.int .i64 z)) ∧ Two B K w' g s m n P b 0 true i { data := #[] } v L ∧ Left B K w w' := by
  obtain ⟨F, G, a1, a2, a3, a4, a5, a6⟩ := h.mem
  exact (merase_cut a2 i hi hP).mono fun _ _ ⟨he, hd, ho⟩ => ⟨⟨_, he⟩, h.doc a1 a3 a4 a5 a6 ((ho.keep a2.gm).did hd)⟩
set_option maxRecDepth 100000 in
theorem two_mrest_idle (h : Two B K w g s m n P b left off (-1) t v L) (c : Int) :
    Calls Tryd.prog 27 #[.pointer (some ⟨m, 0, none⟩), .int .i64 c] w fun x w' => x = .returned (.tuple #[]) ∧ Two B K w' g s m n P b 0 false (-1) t v L ∧ Left B K w w' := by
  obtain ⟨F, G, a1, a2, a3, a4, a5, a6⟩ := h.mem
  exact (mrest_idle a2 c (.inl (by decide))).mono fun _ _ ⟨he, hd⟩ => ⟨he, h.doc a1 a3 a4 a5 a6 hd⟩
set_option maxRecDepth 100000 in
theorem two_mrest_lay (p : List Nat) (hp : p.length = 96) (i : Nat) (h : Two B K w g s m n P b left off i (strOf p) v L) (hi : i < n) (c : Nat) (hl : (b i).pages.length < P) :
    Calls Tryd.prog 27 #[.pointer (some ⟨m, 0, none⟩), .int .i64 c] w fun x w' => x = .returned (.tuple #[]) ∧ Two B K w' g s m n P (upd b i ((b i).lay p c)) 0 false (-1) (strOf p) v L ∧ Left B K w w' := by
  obtain ⟨F, G, a1, a2, a3, a4, a5, a6⟩ := h.mem
  unfold Blk.lay
  by_cases hc : (c : Int) ≤ 0
  · rw [if_pos hc, upd_same']
    exact (mrest_idle a2 c (.inr hc)).mono fun _ _ ⟨he, hd⟩ => ⟨he, h.doc a1 a3 a4 a5 a6 hd⟩
  · rw [if_neg hc]
    exact (mrest_lay p hp a2 i hi rfl c (by omega) hl).mono fun _ _ ⟨he, hd⟩ => ⟨he, h.doc a1 a3 a4 a5 a6 hd⟩
set_option maxRecDepth 100000 in
theorem two_mrest_erase (i : Nat) (h : Two B K w g s m n P b left off i { data := #[] } v L) (hi : i < n) (c : Int) :
    Calls Tryd.prog 27 #[.pointer (some ⟨m, 0, none⟩), .int .i64 c] w fun x w' => x = .returned (.tuple #[]) ∧ Two B K w' g s m n P (upd b i ((b i).erase c)) 0 false (-1) { data := #[] } v L ∧ Left B K w w' := by
  obtain ⟨F, G, a1, a2, a3, a4, a5, a6⟩ := h.mem
  unfold Blk.erase
  by_cases hc : c ≤ 0
  · rw [if_pos hc, upd_same']
    exact (mrest_idle a2 c (.inr hc)).mono fun _ _ ⟨he, hd⟩ => ⟨he, h.doc a1 a3 a4 a5 a6 hd⟩
  · rw [if_neg hc]
    by_cases h2 : c < 96 ∨ (b i).fails = true
    · rw [if_pos h2]
      exact (mrest_tear a2 i hi rfl c (by omega) h2).mono fun _ _ ⟨he, hd⟩ => ⟨he, h.doc a1 a3 a4 a5 a6 hd⟩
    · rw [if_neg h2]
      exact (mrest_wipe a2 i hi rfl c (by omega) (by cases hf : (b i).fails with | true => exact absurd (.inr hf) h2 | false => rfl) _).mono fun _ _ ⟨he, hd⟩ => ⟨he, h.doc a1 a3 a4 a5 a6 hd⟩
end
end Go.Proofs.YtkapnpcolmhdbaaDoor.Sc
namespace Go.Proofs.YtkapnpcolmhdbaaDoor.Sc
open Go.RowKit
open Drawbar Drawbar.Sheet Drawbar.Nand Drawbar.Scan Go.Proofs.YtkapnpcolmhdbaaDoor.Nd
set_option maxRecDepth 100000 in
theorem doc_prog {s : Arr} {us : List Int} (h : Scan.Good s us) {i : Nat} (hi : (i : Int) ∈ us) {p : List Nat} (hp : p.length = 96) (t : ByteArray) :
    docProg s.b s.pages i p 0 (-1) t = ((s.program i (s.b i).pages.length p 1).2.b, 0, false, -1, t) := by
  unfold docProg
  by_cases hr : (s.b i).pages.length < s.pages ∧ (s.b i).torn = false
  · rw [if_pos hr, if_neg (by decide), h.program hi hp 1 hr.1 hr.2 _ rfl]
    rfl
  · rw [if_neg hr]
    obtain ⟨z, hz, -⟩ := h.program_no hi hp 1 _ rfl (by
      rcases Nat.lt_or_ge (s.b i).pages.length s.pages with h1 | h1
      · exact .inr (by cases ht : (s.b i).torn with | true => rfl | false => exact absurd ⟨h1, ht⟩ hr)
      · exact .inl h1)
    rw [hz]
section
variable {B : Nat} {K : List Nat} {w : World} {g : Nat} {s : Arr} {m n P : Nat} {b : Nat → Blk} {left : Nat} {off : Bool} {cut : Int} {t : ByteArray} {v : Value} {L : List (Sh × Value)}
set_option maxRecDepth 100000 in
theorem two_left (h : Two B K w g s m n P b left off cut t v L) : (∃ u, w.cell? ⟨m, 4, none⟩ = some u) ∧ w.frozen? ⟨m, 4, none⟩ = false ∧ Two B K (w.setCell ⟨m, 4, none⟩ (.int .i64 1)) g s m n P b 1 off cut t v L ∧ Left B K w (w.setCell ⟨m, 4, none⟩ (.int .i64 1)) := by
  obtain ⟨F, G, a1, a2, a3, a4, a5, a6⟩ := h.mem
  have hm := a2.head 4 (.int .i64 1) fun _ h => h.setLeft 1
  have hd := h.doc a1 a3 a4 a5 a6 ((((MOnly.refl m w).set 4 (.int .i64 1)).keep a2.gm).did hm)
  obtain ⟨⟨rb, rows, h1, h2⟩, -⟩ := a2
  exact ⟨⟨_, h1.c4⟩, h1.fz 4, hd⟩
set_option maxRecDepth 100000 in
/-- Both restart behind a programming that was armed. -/
theorem armed_prog {us : List Int} (h : Two B K w g ({ s with armed := 1 } : Arr) m n P s.b 1 false (-1) t v L) (hg : Scan.Good s us) {i : Nat} (hi : (i : Int) ∈ us) (hin : i < n) (hP : s.pages = P) {p : List Nat} (hp : p.length = 96) (k o c : Nat) (hr : Rd w (some ⟨k, o, none⟩) p) (hk : k ∈ K) :
    Calls Tryd.prog 16 #[.pointer (some ⟨g, 0, none⟩), .int .i64 i, .int .i64 (s.b i).pages.length, .slice (some ⟨k, o, none⟩) 96 c, .int .u64 1] w fun x w1 => (∃ z, x = .returned (.int .i64 z)) ∧ Left B K w w1 ∧
      Calls Tryd.prog 22 #[.pointer (some ⟨m, 0, none⟩), .int .i64 i, .int .i64 (s.b i).pages.length, .slice (some ⟨k, o, none⟩) 96 c, .int .u64 1] w1 fun x w2 => (∃ z, x = .returned (.int .i64 z)) ∧ Left B K w w2 ∧ ∀ c : Nat,
      Calls Tryd.prog 26 #[.pointer (some ⟨g, 0, none⟩), .int .i64 c] w2 fun x w3 => x = .returned (.int .i64 0) ∧ Left B K w w3 ∧
      Calls Tryd.prog 27 #[.pointer (some ⟨m, 0, none⟩), .int .i64 c] w3 fun x w4 => x = .returned (.tuple #[]) ∧ Left B K w w4 ∧
        ∃ t', Two B K w4 g ((({ s with armed := 1 } : Arr).program i (s.b i).pages.length p 1).2.restart c) m n P ((({ s with armed := 1 } : Arr).program i (s.b i).pages.length p 1).2.restart c).b 0 false (-1) t' v L := by
  subst hP
  obtain ⟨z, hz⟩ := hg.cut_program hi hp 1
  refine (two_program h i (s.b i).pages.length p _ c 1 hr hp).mono ?_
  rintro _ w1 ⟨rfl, h1, l1⟩
  refine ⟨⟨_, rfl⟩, l1, ?_⟩
  have hr1 : Rd w1 (some ⟨k, o, none⟩) p := hr.keep (l1.keep k hk)
  refine (two_mprog h1 (.inr rfl) i hin (hg.ok i hi).2.2 p k o c hr1 hp hk).mono ?_
  rintro _ w2 ⟨he, h2, l2⟩
  refine ⟨he, l1.trans l2, fun c => ?_⟩
  refine (two_restart h2 c).mono ?_
  rintro _ w3 ⟨rfl, h3, l3⟩
  refine ⟨rfl, (l1.trans l2).trans l3, ?_⟩
  rw [hz] at h3 ⊢
  unfold docProg at h3
  by_cases hc : (s.b i).pages.length < s.pages ∧ (s.b i).torn = false
  · rw [if_pos hc] at h3 ⊢
    rw [if_pos hc, if_pos rfl] at h3
    refine (two_mrest_lay p hp i h3 hin c hc.1).mono ?_
    rintro _ w4 ⟨he, h4, l4⟩
    exact ⟨he, ((l1.trans l2).trans l3).trans l4, _, h4⟩
  · rw [if_neg hc] at h3 ⊢
    rw [if_neg hc] at h3
    refine (two_mrest_idle h3 c).mono ?_
    rintro _ w4 ⟨he, h4, l4⟩
    refine ⟨he, ((l1.trans l2).trans l3).trans l4, t, ?_⟩
    have hb : ((({ s with armed := 1 } : Arr).restart c)).b = s.b := by
      unfold Arr.restart Arr.resume
      dsimp only
      rw [hg.begun]
    have hb2 : ((z, ({ s with armed := 1 } : Arr)).2.restart c).b = s.b := hb
    rw [hb2]
    exact h4
set_option maxRecDepth 100000 in
theorem armed_erase {us : List Int} (h : Two B K w g ({ s with armed := 1 } : Arr) m n P s.b 1 false (-1) t v L) (hg : Scan.Good s us) {i : Nat} (hi : (i : Int) ∈ us) (hin : i < n) (hP : 0 < P) :
    Calls Tryd.prog 23 #[.pointer (some ⟨g, 0, none⟩), .int .i64 i, .int .u64 1] w fun x w1 => (∃ z, x = .returned (.int .i64 z)) ∧ Left B K w w1 ∧
      Calls Tryd.prog 24 #[.pointer (some ⟨m, 0, none⟩), .int .i64 i, .int .u64 1] w1 fun x w2 => (∃ z, x = .returned (.int .i64 z)) ∧ Left B K w w2 ∧ ∀ c : Nat,
      Calls Tryd.prog 26 #[.pointer (some ⟨g, 0, none⟩), .int .i64 c] w2 fun x w3 => x = .returned (.int .i64 0) ∧ Left B K w w3 ∧
      Calls Tryd.prog 27 #[.pointer (some ⟨m, 0, none⟩), .int .i64 c] w3 fun x w4 => x = .returned (.tuple #[]) ∧ Left B K w w4 ∧
        ∃ t', Two B K w4 g ((({ s with armed := 1 } : Arr).erase i 1).2.restart c) m n P ((({ s with armed := 1 } : Arr).erase i 1).2.restart c).b 0 false (-1) t' v L := by
  refine (two_erase h i 1).mono ?_
  rintro _ w1 ⟨rfl, h1, l1⟩
  refine ⟨⟨_, rfl⟩, l1, ?_⟩
  refine (two_merase_cut h1 i hin hP).mono ?_
  rintro _ w2 ⟨he, h2, l2⟩
  refine ⟨he, l1.trans l2, fun c => ?_⟩
  refine (two_restart h2 c).mono ?_
  rintro _ w3 ⟨rfl, h3, l3⟩
  refine ⟨rfl, (l1.trans l2).trans l3, ?_⟩
  rw [hg.cut_erase hi 1] at h3 ⊢
  refine (two_mrest_erase i h3 hin c).mono ?_
  rintro _ w4 ⟨he, h4, l4⟩
  exact ⟨he, ((l1.trans l2).trans l3).trans l4, _, h4⟩
set_option maxRecDepth 100000 in
theorem good_prog {us : List Int} (h : Two B K w g s m n P s.b 0 false (-1) t v L) (hg : Scan.Good s us) {i : Nat} (hi : (i : Int) ∈ us) (hin : i < n) (hP : s.pages = P) {p : List Nat} (hp : p.length = 96) (k o c : Nat) (hr : Rd w (some ⟨k, o, none⟩) p) (hk : k ∈ K) :
    Calls Tryd.prog 16 #[.pointer (some ⟨g, 0, none⟩), .int .i64 i, .int .i64 (s.b i).pages.length, .slice (some ⟨k, o, none⟩) 96 c, .int .u64 1] w fun x w1 => (∃ z, x = .returned (.int .i64 z)) ∧ Left B K w w1 ∧
      Calls Tryd.prog 22 #[.pointer (some ⟨m, 0, none⟩), .int .i64 i, .int .i64 (s.b i).pages.length, .slice (some ⟨k, o, none⟩) 96 c, .int .u64 1] w1 fun x w2 => (∃ z, x = .returned (.int .i64 z)) ∧ Left B K w w2 ∧
        Two B K w2 g (s.program i (s.b i).pages.length p 1).2 m n P (s.program i (s.b i).pages.length p 1).2.b 0 false (-1) t v L := by
  subst hP
  refine (two_program h i (s.b i).pages.length p _ c 1 hr hp).mono ?_
  rintro _ w1 ⟨rfl, h1, l1⟩
  refine ⟨⟨_, rfl⟩, l1, ?_⟩
  have hr1 : Rd w1 (some ⟨k, o, none⟩) p := hr.keep (l1.keep k hk)
  refine (two_mprog h1 (.inl rfl) i hin (hg.ok i hi).2.2 p k o c hr1 hp hk).mono ?_
  rintro _ w2 ⟨he, h2, l2⟩
  rw [doc_prog hg hi hp t] at h2
  exact ⟨he, l1.trans l2, h2⟩
set_option maxRecDepth 100000 in
theorem good_erase {us : List Int} (h : Two B K w g s m n P s.b 0 false (-1) t v L) (hg : Scan.Good s us) {i : Nat} (hi : (i : Int) ∈ us) (hin : i < n) (hP : 0 < P) :
    Calls Tryd.prog 23 #[.pointer (some ⟨g, 0, none⟩), .int .i64 i, .int .u64 1] w fun x w1 => (∃ z, x = .returned (.int .i64 z)) ∧ Left B K w w1 ∧
      Calls Tryd.prog 24 #[.pointer (some ⟨m, 0, none⟩), .int .i64 i, .int .u64 1] w1 fun x w2 => (∃ z, x = .returned (.int .i64 z)) ∧ Left B K w w2 ∧ Two B K w2 g (s.erase i 1).2 m n P (s.erase i 1).2.b 0 false (-1) t v L := by
  refine (two_erase h i 1).mono ?_
  rintro _ w1 ⟨rfl, h1, l1⟩
  refine ⟨⟨_, rfl⟩, l1, ?_⟩
  refine (two_merase h1 i hin hP (hg.ok i hi).2.2 (wrap64 ((s.b i).erases + 1))).mono ?_
  rintro _ w2 ⟨he, h2, l2⟩
  rw [hg.erase hi 1] at h2 ⊢
  exact ⟨he, l1.trans l2, h2⟩
set_option maxRecDepth 100000 in
/-- A sheet more in the row. -/
theorem Two.app (h : Two B K w g s m n P b left off cut t v L) (x : Sh) (u : Value) (hu : DaB B w u x.da) {W w1 : World} (hW : Below w.heap.size w W) {gg cap : Nat} (hown : w1.ownsRow B 47 6 (.slice (some ⟨gg, 0, none⟩) (L.length + 1) cap) (L.length + 1) (rowS L ++ scells x u)) (hg : W.grownBy w1 v.ownBlock) (hat : v.ownBlock = some gg ∨ gg = W.heap.size) :
    Two B K w1 g s m n P b left off cut t (.slice (some ⟨gg, 0, none⟩) (L.length + 1) cap) (L ++ [(x, u)]) ∧ Left B K w w1 := by
  have hb : ∀ d, d < w.heap.size → v.ownBlock ≠ some d → w1.heap[d]? = w.heap[d]? := fun d hd hne => (hg.block d (Nat.lt_of_lt_of_le hd hW.size) (fun e => hne e.symm)).trans (hW.block d hd)
  have hbl : Below B w w1 := (hW.mono h.size).grown hg (Nat.le_trans h.size hW.size) fun d hd => (h.row.lt d hd).1
  obtain ⟨F, G, a1, a2, a3, a4, a5, a6⟩ := h.mem
  have hF : ∀ d, F d → w1.heap[d]? = w.heap[d]? := fun d hd => hb d (a1.bound d hd) fun e => (a6 d e).1 hd
  have hG : ∀ d, G d → w1.heap[d]? = w.heap[d]? := fun d hd => hb d (a2.bound d hd) fun e => (a6 d e).2 hd
  have hsz : w.heap.size ≤ w1.heap.size := Nat.le_trans hW.size hg.size
  have hnew : ∀ d, (Value.slice (some ⟨gg, 0, none⟩) (L.length + 1) cap).ownBlock = some d → v.ownBlock = some d ∨ w.heap.size ≤ d := fun d hd => by
    obtain rfl : gg = d := by simpa [Value.ownBlock] using hd
    rcases hat with h1 | h1
    · exact .inl h1
    · exact .inr (by rw [h1]; exact hW.size)
  have hrow : rowS (L ++ [(x, u)]) = rowS L ++ scells x u := by rw [rowS_append]; simp [rowS]
  refine ⟨⟨Nat.le_trans h.size hsz, h.tab.below hbl h.pos, h.pos, fun k hk => ⟨(h.kk k hk).1, Nat.lt_of_lt_of_le (h.kk k hk).2 hsz⟩, ⟨F, G, a1.keepF hF hsz, a2.keep (fun _ h => h) (fun d hd => Nat.lt_of_lt_of_le (a2.bound d hd) hsz) hG, a3, a4, fun k hk => ⟨(a5 k hk).1, (a5 k hk).2.1, fun e => ?_⟩, fun d hd => ?_⟩, by rw [hrow, List.length_append]; exact hown, fun q hq => ?_⟩, hbl, fun k hk => hb k (h.kk k hk).2 (a5 k hk).2.2⟩
  · rcases hnew k e with h1 | h1
    · exact (a5 k hk).2.2 h1
    · have := (h.kk k hk).2; omega
  · rcases hnew d hd with h1 | h1
    · exact a6 d h1
    · exact ⟨fun hf => by have := a1.bound d hf; omega, fun hf => by have := a2.bound d hf; omega⟩
  · rcases List.mem_append.1 hq with h1 | h1
    · exact (h.da q h1).keep hbl
    · obtain rfl := List.mem_singleton.1 h1
      exact hu.keep hbl
end
end Go.Proofs.YtkapnpcolmhdbaaDoor.Sc
namespace Drawbar.Scan
open Drawbar Drawbar.Sheet Drawbar.Nand
set_option maxRecDepth 100000 in
theorem blockF_show (m : Int) (s : Arr) (i : Nat) : blockF m s i = foundTo m i (showS s i) (showS s i).length := by
  unfold blockF showS
  split <;> rfl
end Drawbar.Scan
namespace Go.Proofs.YtkapnpcolmhdbaaDoor.Sc
open Go.RowKit
open Drawbar Drawbar.Sheet Drawbar.Nand Drawbar.Scan Drawbar.Gm Go.Proofs.YtkapnpcolmhdbaaDoor.Nd
/-- The texts of a block's pages, in memory. -/
def TextsAt (w : World) (ra : Option Addr) (ps : List (List Nat)) : Prop := ∀ k, k < ps.length → ∃ x, ra = some ⟨x, 0, none⟩ ∧ w.cell? ⟨x, k, none⟩ = some (.string (strOf (ps.getD k [])))
set_option maxRecDepth 100000 in
theorem TextsAt.below {w w' : World} {ra : Option Addr} {ps : List (List Nat)} (h : TextsAt w ra ps) (hb : Below w.heap.size w w') : TextsAt w' ra ps := fun k hk => by
  obtain ⟨x, rfl, hc⟩ := h k hk
  exact ⟨x, rfl, (hb.cell (p := ⟨x, k, none⟩) (World.block_lt_of_cell? w _ hc)).trans hc⟩
def OutAt (w : World) (oa : Option Addr) (N : Nat) (s : Arr) : Prop := ∃ ob, oa = some ⟨ob, 0, none⟩ ∧ ∀ b, b < N → ∃ ra rc, w.cell? ⟨ob, b, none⟩ = some (.slice ra (showS s b).length rc) ∧ TextsAt w ra (showS s b)
set_option maxRecDepth 100000 in
theorem OutAt.below {w w' : World} {oa : Option Addr} {N : Nat} {s : Arr} (h : OutAt w oa N s) (hb : Below w.heap.size w w') : OutAt w' oa N s := by
  obtain ⟨ob, rfl, h⟩ := h
  refine ⟨ob, rfl, fun b hb2 => ?_⟩
  obtain ⟨ra, rc, hc, ht⟩ := h b hb2
  exact ⟨ra, rc, (hb.cell (p := ⟨ob, b, none⟩) (World.block_lt_of_cell? w _ hc)).trans hc, ht.below hb⟩
/-- What the laws' array tells. -/
def ArrQ (W : World) (n : Nat) (e : Ending) (w' : World) : Prop := ∃ g oa oc s, e = .returned (.tuple #[.pointer (some ⟨g, 0, none⟩), .slice oa (gN n) oc]) ∧ Scan.Good s (gus n) ∧ s.n = gN n ∧ s.pages = gP n ∧ Free W.heap.size [] w' g s ∧ OutAt w' oa (gN n) s ∧ Below W.heap.size W w'
set_option maxRecDepth 100000 in
theorem geom_small (n : Nat) : Plan.Small (gb n) (gp n) (gs n) := ⟨by have := gN_le n; rw [gb_eq]; omega, by have := gP_le n; rw [gp_eq]; omega, by unfold gs; split <;> omega⟩
set_option maxRecDepth 100000 in
theorem blk_cells {w : World} {g : Nat} {u0 u1 u2 u3 u4 u5 : Value} {t : TypeId} (h : w.heap[g]? = some (.cells #[u0, u1, u2, u3, u4, u5] t (0, 0))) : w.heap[g]? = some (.cells #[u0, u1, u2, u3, u4, u5] t (0, 0)) ∧
    (w.cell? ⟨g, 0, none⟩ = some u0 ∧ w.cell? ⟨g, 1, none⟩ = some u1 ∧ w.cell? ⟨g, 2, none⟩ = some u2 ∧ w.cell? ⟨g, 3, none⟩ = some u3 ∧ w.cell? ⟨g, 4, none⟩ = some u4 ∧ w.cell? ⟨g, 5, none⟩ = some u5) ∧
    (w.frozen? ⟨g, 0, none⟩ = false ∧ w.frozen? ⟨g, 1, none⟩ = false ∧ w.frozen? ⟨g, 2, none⟩ = false ∧ w.frozen? ⟨g, 3, none⟩ = false ∧ w.frozen? ⟨g, 4, none⟩ = false ∧ w.frozen? ⟨g, 5, none⟩ = false) := ⟨h, six_cells h⟩
set_option maxRecDepth 100000 in
theorem gus_at {n : Nat} (hn : n < 256) (k : Nat) : ∃ i : Nat, (gus n).getD (k % (gus n).length) 0 = (i : Int) ∧ (i : Int) ∈ gus n ∧ i < gN n := by
  have hl := gus_len n hn
  have hlt := Nat.mod_lt k (show 0 < (gus n).length by omega)
  have hm : (gus n).getD (k % (gus n).length) 0 ∈ gus n := by
    rw [List.getD_eq_getElem?_getD, List.getElem?_eq_getElem hlt]; exact List.getElem_mem _
  have hr := gus_rng n _ hm
  exact ⟨((gus n).getD (k % (gus n).length) 0).toNat, by omega, by rw [Int.toNat_of_nonneg (by omega)]; exact hm, by omega⟩
set_option maxRecDepth 100000 in
theorem held_len (m : Int) (s : Arr) : ∀ (us : List Int), (∀ i ∈ us, (showS s i.toNat).length ≤ 32) → (heldI m s us).length ≤ 32 * us.length
  | [], _ => by simp [heldI]
  | i :: us, h => by
    have ih := held_len m s us fun j hj => h j (List.mem_cons_of_mem _ hj)
    have h1 := foundTo_len m i.toNat (showS s i.toNat) (showS s i.toNat).length
    have h2 := h i (List.mem_cons_self ..)
    unfold heldI at ih ⊢
    rw [List.flatMap_cons, List.length_append, blockF_show, List.length_cons]
    omega
/-- What the document's Pages tells. -/
def PgsQ (W : World) (L : List Fnd) (e : Ending) (w' : World) : Prop := ∃ v, e = .returned v ∧ RowF w' W.heap.size 49 v L ∧ Below W.heap.size W w'
end Go.Proofs.YtkapnpcolmhdbaaDoor.Sc
