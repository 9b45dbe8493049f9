/- The contract of scan's fits. The contract of scan's Block. The contract of scan's greatest. The contract of scan's All. The contract of scan's All of an array whose power is off. The contract of scan's All of an array whose power is on. -/
import Derived.Test.YtkapnpcolmhdbaaDoorZSc
import Derived.Deep.LoopGhost
import Derived.Lib.MinMax
import Derived.Test.YtkapnpcolmhdbaaDoorPnForms
namespace Go.Proofs.YtkapnpcolmhdbaaDoor.Sc
open Go.RowKit
open Drawbar Drawbar.Sheet Drawbar.Nand Drawbar.Scan Drawbar.Gm Go.Proofs.YtkapnpcolmhdbaaDoor.Nd

set_option maxRecDepth 100000 in
theorem fits_nil (b p s : Int) (a : Option Addr) (n c : Nat) (w : World) :
    Calls Tryd.prog 29 #[.pointer none, Pn.geo b p s a n c] w fun e w' => e = .returned (.int .i64 5) ∧ Below w.heap.size w w' := by
  unfold Pn.geo
  have hbx : Below w.heap.size w (w.alloc (Pn.boxed b p s a n c)) := (Below.refl _ _).alloc (Nat.le_refl _) _
  go_enter Tryd.func29, Tryd.ntmps29
  go_wp2
  go_ret
  exact ⟨rfl, hbx⟩

/-- Form answers fb. -/
def Forms (w : World) (b p s : Int) (a : Option Addr) (n c : Nat) (fb : Bool) : Prop :=
  ∀ W, Below w.heap.size w W → Calls Tryd.prog 64 #[Pn.geo b p s a n c] W fun e w' => e = .returned (.bool fb) ∧ Below W.heap.size W w'

set_option maxRecDepth 100000 in
set_option maxHeartbeats 4000000 in
theorem fits_any {w : World} {F : Nat → Prop} {g : Nat} {ar : Arr} (h : ArrAt w F g ar) (b p s : Int) (a : Option Addr) (n c : Nat) (fb : Bool) (hF : Forms w b p s a n c fb) :
    Calls Tryd.prog 29 #[.pointer (some ⟨g, 0, none⟩), Pn.geo b p s a n c] w fun e w' => e = .returned (.int .i64 (if fb = true ∧ (ar.n : Int) = b ∧ (ar.pages : Int) = p then 0 else 1)) ∧ Below w.heap.size w w' := by
  have hbx : Below w.heap.size w (w.alloc (Pn.boxed b p s a n c)) := (Below.refl _ _).alloc (Nat.le_refl _) _
  have hcells := Pn.boxed_cells w b p s a n c
  have hsz0 : (w.alloc (Pn.boxed b p s a n c)).heap.size = w.heap.size + 1 := by simp
  have HF := Lib.hid (fun W (hb : Below (w.alloc (Pn.boxed b p s a n c)).heap.size (w.alloc (Pn.boxed b p s a n c)) W) => hF W (hbx.trans (hb.mono (by rw [hsz0]; omega))))
  have HBL := Lib.hid (fun W (hb : Below (w.alloc (Pn.boxed b p s a n c)).heap.size (w.alloc (Pn.boxed b p s a n c)) W) => blocks_at (h.keep (hbx.trans (hb.mono (by rw [hsz0]; omega)))))
  have HPG := Lib.hid (fun W (hb : Below (w.alloc (Pn.boxed b p s a n c)).heap.size (w.alloc (Pn.boxed b p s a n c)) W) => pages_at (h.keep (hbx.trans (hb.mono (by rw [hsz0]; omega)))))
  have HC := Lib.hid hcells
  have HB := Lib.hid (fun W (hb : Below (w.alloc (Pn.boxed b p s a n c)).heap.size (w.alloc (Pn.boxed b p s a n c)) W) => hbx.trans (hb.mono (by rw [hsz0]; omega)))
  have hb0 := Pn.drew_below (w.alloc (Pn.boxed b p s a n c))
  have hq0 := hcells _ hb0
  unfold Pn.geo at HF ⊢
  have hcase : (fb = false ∧ (if fb = true ∧ (ar.n : Int) = b ∧ (ar.pages : Int) = p then (0 : Int) else 1) = 1) ∨ (fb = true ∧ ((ar.n : Int) != b) = true ∧ (if fb = true ∧ (ar.n : Int) = b ∧ (ar.pages : Int) = p then (0 : Int) else 1) = 1) ∨
      (fb = true ∧ ((ar.n : Int) != b) = false ∧ ((ar.pages : Int) != p) = true ∧ (if fb = true ∧ (ar.n : Int) = b ∧ (ar.pages : Int) = p then (0 : Int) else 1) = 1) ∨ (fb = true ∧ ((ar.n : Int) != b) = false ∧ ((ar.pages : Int) != p) = false ∧ (if fb = true ∧ (ar.n : Int) = b ∧ (ar.pages : Int) = p then (0 : Int) else 1) = 0) := by
    simp only [bne_iff_ne, ne_eq, bne_eq_false_iff_eq]
    cases fb with
    | false => exact .inl ⟨rfl, by simp⟩
    | true =>
      by_cases e1 : (ar.n : Int) = b
      · by_cases e2 : (ar.pages : Int) = p
        · exact .inr (.inr (.inr ⟨rfl, e1, e2, by rw [if_pos ⟨rfl, e1, e2⟩]⟩))
        · exact .inr (.inr (.inl ⟨rfl, e1, e2, by rw [if_neg (fun h => e2 h.2.2)]⟩))
      · exact .inr (.inl ⟨rfl, e1, by rw [if_neg (fun h => e1 h.2.1)]⟩)
  generalize (if fb = true ∧ (ar.n : Int) = b ∧ (ar.pages : Int) = p then (0 : Int) else 1) = z at *
  clear hcells h hF hbx hsz0
  rcases hcase with ⟨rfl, rfl⟩ | ⟨rfl, q1, rfl⟩ | ⟨rfl, q1, q2, rfl⟩ | ⟨rfl, q1, q2, rfl⟩
  · go_enter Tryd.func29, Tryd.ntmps29
    obtain ⟨x0, x1, x2, x3⟩ := hq0
    go_wp2_with fail
    first
      | (go_region_with (first
          | (go_at_call 64; ((with_reducible refine (HF.out _ (by assumption)).mono ?_); rintro e w9 ⟨rfl, hb9⟩; have hb19 := (show Below (w.alloc (Pn.boxed b p s a n c)).heap.size (w.alloc (Pn.boxed b p s a n c)) _ by assumption).trans (hb9.mono (show Below (w.alloc (Pn.boxed b p s a n c)).heap.size (w.alloc (Pn.boxed b p s a n c)) _ by assumption).size); have hq9 := HC.out _ hb19; obtain ⟨y0, y1, y2, y3⟩ := hq9))
          | (go_at_call 65; ((with_reducible refine (HBL.out _ (by assumption)).mono ?_); rintro e w9 ⟨rfl, rfl⟩))
          | (go_at_call 66; ((with_reducible refine (HPG.out _ (by assumption)).mono ?_); rintro e w9 ⟨rfl, rfl⟩))))
      | fail
    all_goals
      go_wp2
      go_ret
      exact ⟨rfl, HB.out _ (by assumption)⟩
  · go_enter Tryd.func29, Tryd.ntmps29
    obtain ⟨x0, x1, x2, x3⟩ := hq0
    go_wp2_with fail
    first
      | (go_region_with (first
          | (go_at_call 64; ((with_reducible refine (HF.out _ (by assumption)).mono ?_); rintro e w9 ⟨rfl, hb9⟩; have hb19 := (show Below (w.alloc (Pn.boxed b p s a n c)).heap.size (w.alloc (Pn.boxed b p s a n c)) _ by assumption).trans (hb9.mono (show Below (w.alloc (Pn.boxed b p s a n c)).heap.size (w.alloc (Pn.boxed b p s a n c)) _ by assumption).size); have hq9 := HC.out _ hb19; obtain ⟨y0, y1, y2, y3⟩ := hq9))
          | (go_at_call 65; ((with_reducible refine (HBL.out _ (by assumption)).mono ?_); rintro e w9 ⟨rfl, rfl⟩))
          | (go_at_call 66; ((with_reducible refine (HPG.out _ (by assumption)).mono ?_); rintro e w9 ⟨rfl, rfl⟩))))
      | fail
    all_goals
      go_wp2
      go_ret
      exact ⟨rfl, HB.out _ (by assumption)⟩
  · go_enter Tryd.func29, Tryd.ntmps29
    go_wp2_with fail
    go_region_held (fun W => W.cell? ⟨w.heap.size, 0, none⟩ = some (.int .i64 b) ∧ W.cell? ⟨w.heap.size, 1, none⟩ = some (.int .i64 p) ∧ W.cell? ⟨w.heap.size, 2, none⟩ = some (.int .i64 s) ∧ W.cell? ⟨w.heap.size, 3, none⟩ = some (.slice a n c)) (first | exact hq0 | exact hq9) (first
          | (go_at_call 64; ((with_reducible refine (HF.out _ (by assumption)).mono ?_); rintro e w9 ⟨rfl, hb9⟩; have hb19 := (show Below (w.alloc (Pn.boxed b p s a n c)).heap.size (w.alloc (Pn.boxed b p s a n c)) _ by assumption).trans (hb9.mono (show Below (w.alloc (Pn.boxed b p s a n c)).heap.size (w.alloc (Pn.boxed b p s a n c)) _ by assumption).size); have hq9 := HC.out _ hb19))
          | (go_at_call 65; ((with_reducible refine (HBL.out _ (by assumption)).mono ?_); rintro e w9 ⟨rfl, rfl⟩))
          | (go_at_call 66; ((with_reducible refine (HPG.out _ (by assumption)).mono ?_); rintro e w9 ⟨rfl, rfl⟩)))
    all_goals
      go_wp2
      go_ret
      exact ⟨rfl, HB.out _ (by assumption)⟩
  · go_enter Tryd.func29, Tryd.ntmps29
    go_wp2_with fail
    go_region_held (fun W => W.cell? ⟨w.heap.size, 0, none⟩ = some (.int .i64 b) ∧ W.cell? ⟨w.heap.size, 1, none⟩ = some (.int .i64 p) ∧ W.cell? ⟨w.heap.size, 2, none⟩ = some (.int .i64 s) ∧ W.cell? ⟨w.heap.size, 3, none⟩ = some (.slice a n c)) (first | exact hq0 | exact hq9) (first
          | (go_at_call 64; ((with_reducible refine (HF.out _ (by assumption)).mono ?_); rintro e w9 ⟨rfl, hb9⟩; have hb19 := (show Below (w.alloc (Pn.boxed b p s a n c)).heap.size (w.alloc (Pn.boxed b p s a n c)) _ by assumption).trans (hb9.mono (show Below (w.alloc (Pn.boxed b p s a n c)).heap.size (w.alloc (Pn.boxed b p s a n c)) _ by assumption).size); have hq9 := HC.out _ hb19))
          | (go_at_call 65; ((with_reducible refine (HBL.out _ (by assumption)).mono ?_); rintro e w9 ⟨rfl, rfl⟩))
          | (go_at_call 66; ((with_reducible refine (HPG.out _ (by assumption)).mono ?_); rintro e w9 ⟨rfl, rfl⟩)))
    all_goals
      go_wp2
      go_ret
      exact ⟨rfl, HB.out _ (by assumption)⟩
end Go.Proofs.YtkapnpcolmhdbaaDoor.Sc
namespace Go.Proofs.YtkapnpcolmhdbaaDoor.Sc
open Go.RowKit
open Drawbar Drawbar.Sheet Drawbar.Nand Drawbar.Scan Drawbar.Gm Go.Proofs.YtkapnpcolmhdbaaDoor.Nd

set_option maxRecDepth 100000 in
theorem block_nil (b p s : Int) (a : Option Addr) (n c : Nat) (i : Int) (w : World) :
    Calls Tryd.prog 9 #[.pointer none, Pn.geo b p s a n c, .int .i64 i] w (Tell w [] 5) := by
  have hF := fits_nil b p s a n c (w.alloc (Pn.boxed b p s a n c))
  have hbx : Below w.heap.size w (w.alloc (Pn.boxed b p s a n c)) := (Below.refl _ _).alloc (Nat.le_refl _) _
  unfold Pn.geo at hF ⊢
  have HF := Lib.hid hF
  have HB := Lib.hid hbx
  clear hF hbx
  go_enter Tryd.func9, Tryd.ntmps9
  go_wp2_with fail
  (with_reducible refine HF.out.mono ?_)
  rintro e w2 ⟨rfl, hb2⟩
  have HB2 := Lib.hid (tell_nil w w2 5 (HB.out.trans (hb2.mono HB.out.size)))
  clear hb2
  go_wp2
  go_ret2
  exact HB2.out

/-- A geometry with the form, of an array: its usable blocks us, its address Meta C. -/
structure Geom (w : World) (ar : Arr) (b p s : Int) (B : List Int) (a : Option Addr) (C : Nat) : Prop where
  rd : Pn.RdI w a B
  len : B.length ≤ 1000
  small : Plan.Small b p s
  form : Plan.form b p s B = true
  cap : Plan.cap b p s B = C
  n : (ar.n : Int) = b
  pages : (ar.pages : Int) = p
def usb (b : Int) (B : List Int) : List Int := Plan.us B (Plan.kk b)
set_option maxRecDepth 100000 in
theorem Geom.below {w w' : World} {ar : Arr} {b p s : Int} {B : List Int} {a : Option Addr} {C : Nat} (h : Geom w ar b p s B a C) (hb : Below w.heap.size w w') : Geom w' ar b p s B a C :=
  ⟨h.rd.below hb, h.len, h.small, h.form, h.cap, h.n, h.pages⟩
set_option maxRecDepth 100000 in
theorem us_nodup (B : List Int) (k : Nat) : (Plan.us B k).Nodup := by
  induction k with
  | zero => exact List.nodup_nil
  | succ k ih =>
    show (Plan.us B k ++ _).Nodup
    refine List.nodup_append.2 ⟨ih, by split <;> simp, fun x hx y hy e => ?_⟩
    have h1 := ((Plan.mem_us B k x).1 hx).2.1
    split at hy
    · cases hy
    · simp at hy; omega
set_option maxRecDepth 100000 in
theorem Geom.blocks {w : World} {ar : Arr} {b p s : Int} {B : List Int} {a : Option Addr} {C : Nat} (h : Geom w ar b p s B a C) : Blocks ar.n (usb b B) := by
  refine ⟨fun i hi => ?_, us_nodup _ _⟩
  have h1 := (Plan.mem_us B _ i).1 hi
  have h2 := h.n
  unfold Plan.kk at h1
  omega
set_option maxRecDepth 100000 in
theorem Geom.us_lt {w : World} {ar : Arr} {b p s : Int} {B : List Int} {a : Option Addr} {C : Nat} (_ : Geom w ar b p s B a C) : (usb b B).length ≤ 62 := Plan.us_le B b
set_option maxRecDepth 100000 in
theorem Geom.forms {w : World} {ar : Arr} {b p s : Int} {B : List Int} {a : Option Addr} {C c : Nat} (h : Geom w ar b p s B a C) : Forms w b p s a B.length c true := fun W hb => by
  have := Pn.form_any b p s B a c W (h.rd.below hb) h.len h.small
  rw [h.form] at this
  exact this
set_option maxRecDepth 100000 in
theorem Geom.fits {w : World} {F : Nat → Prop} {g : Nat} {ar : Arr} (hA : ArrAt w F g ar) {b p s : Int} {B : List Int} {a : Option Addr} {C c : Nat} (h : Geom w ar b p s B a C) :
    Calls Tryd.prog 29 #[.pointer (some ⟨g, 0, none⟩), Pn.geo b p s a B.length c] w fun e w' => e = .returned (.int .i64 0) ∧ Below w.heap.size w w' := by
  have := fits_any hA b p s a B.length c true h.forms
  rw [if_pos ⟨rfl, h.n, h.pages⟩] at this
  exact this
set_option maxRecDepth 100000 in
theorem usable_at {w : World} {ar : Arr} {b p s : Int} {B : List Int} {a : Option Addr} {C : Nat} (h : Geom w ar b p s B a C) (c : Nat) : Calls Tryd.prog 31 #[Pn.geo b p s a B.length c] w (Pn.NewInts w (usb b B)) := Pn.usable_any b p s B a c w h.rd h.len
set_option maxRecDepth 100000 in
theorem meta_at {w : World} {ar : Arr} {b p s : Int} {B : List Int} {a : Option Addr} {C : Nat} (h : Geom w ar b p s B a C) (c : Nat) : Calls Tryd.prog 33 #[Pn.geo b p s a B.length c] w fun e w' => e = .returned (.int .i64 C) ∧ Below w.heap.size w w' := by
  have := Pn.meta_any b p s B a c w h.rd h.len h.small
  rw [h.cap] at this
  exact this

set_option maxRecDepth 100000 in
set_option maxHeartbeats 2000000 in
theorem block_on {w : World} {F : Nat → Prop} {g : Nat} {ar : Arr} (hA : ArrAt w F g ar) {b p s : Int} {B : List Int} {a : Option Addr} {C c : Nat} (h : Geom w ar b p s B a C) (hoff : ar.off = false) (hT : Tab w) (i : Int) :
    Calls Tryd.prog 9 #[.pointer (some ⟨g, 0, none⟩), Pn.geo b p s a B.length c, .int .i64 i] w (if i ∈ usb b B then Tell w (blockF C ar i.toNat) 0 else Tell w [] 1) := by
  have hbx : Below w.heap.size w (w.alloc (Pn.boxed b p s a B.length c)) := (Below.refl _ _).alloc (Nat.le_refl _) _
  have hcells := Pn.boxed_cells w b p s a B.length c
  have hsz0 : (w.alloc (Pn.boxed b p s a B.length c)).heap.size = w.heap.size + 1 := by simp
  obtain ⟨x0, x1, x2, x3⟩ := hcells _ (Below.refl _ _)
  have HF := Lib.hid (Geom.fits (c := c) (hA.keep hbx) (h.below hbx))
  have hul := h.us_lt
  have HC := Lib.hid (fun W (hb : Below (w.alloc (Pn.boxed b p s a B.length c)).heap.size (w.alloc (Pn.boxed b p s a B.length c)) W) => hcells W hb)
  have HBW := Lib.hid (fun W (hb : Below (w.alloc (Pn.boxed b p s a B.length c)).heap.size (w.alloc (Pn.boxed b p s a B.length c)) W) => hbx.trans (hb.mono (by rw [hsz0]; omega)))
  have HU := Lib.hid (fun W (hb : Below w.heap.size w W) => usable_at (h.below hb) c)
  have HM := Lib.hid (fun W (hb : Below w.heap.size w W) => meta_at (h.below hb) c)
  have HCT := Lib.hid (fun W a2 c2 (hr : Pn.RdI W a2 (usb b B)) => Pn.contains_any (usb b B) a2 c2 i W hr (by omega))
  have HR := Lib.hid (fun W (hb : Below w.heap.size w W) (hi : i ∈ usb b B) => (by
    have hrg := h.blocks.rng i hi
    have := read_on (hA.keep hb) i.toNat (by omega) C hoff (hT.below hb hT.pos)
    rw [Int.toNat_of_nonneg hrg.1] at this
    exact this : Calls Tryd.prog 32 #[.pointer (some ⟨g, 0, none⟩), .int .i64 i, .int .i64 C] W (Tell W (blockF C ar i.toNat) 0)))
  unfold Pn.geo at HF HU HM ⊢
  clear hbx hcells hsz0 h hA hoff hT
  by_cases hi : i ∈ usb b B
  · rw [if_pos hi]
    have HI := Lib.hid hi
    have hd : decide (i ∈ usb b B) = true := decide_eq_true hi
    clear hi
    generalize usb b B = us at *
    go_enter Tryd.func9, Tryd.ntmps9
    go_wp2_with fail
    (with_reducible refine HF.out.mono ?_)
    rintro e w2 ⟨rfl, hb2⟩
    obtain ⟨y0, y1, y2, y3⟩ := HC.out _ hb2
    have HB2 := Lib.hid hb2
    clear hb2 x0 x1 x2 x3
    go_wp2_with fail
    (with_reducible refine (HU.out _ (HBW.out _ HB2.out)).mono ?_)
    rintro e w3 ⟨a3, c3, rfl, hr3, hb3⟩
    have hb23 := HB2.out.trans (hb3.mono HB2.out.size)
    obtain ⟨z0, z1, z2, z3⟩ := HC.out _ hb23
    have HB3 := Lib.hid hb23
    have HCC := Lib.hid (HCT.out w3 a3 c3 hr3)
    clear hb3 hr3 hb23 y0 y1 y2 y3
    go_wp2_with fail
    (with_reducible refine HCC.out.mono ?_)
    rintro e w4 ⟨rfl, rfl⟩
    rw [hd]
    clear hd
    go_wp2_with fail
    (with_reducible refine (HM.out _ (HBW.out _ HB3.out)).mono ?_)
    rintro e w5 ⟨rfl, hb5⟩
    have HB5 := Lib.hid (HBW.out _ (HB3.out.trans (hb5.mono HB3.out.size)))
    clear hb5 z0 z1 z2 z3
    go_wp2_with fail
    (with_reducible refine (HR.out _ HB5.out HI.out).mono ?_)
    rintro e w6 ⟨a6, c6, rfl, hf6, hn6, hb6⟩
    have HF6 := Lib.hid (⟨a6, c6, rfl, hf6, hn6, HB5.out.trans (hb6.mono HB5.out.size)⟩ : Tell w (blockF C ar i.toNat) 0 (.returned (.tuple #[.slice a6 (blockF C ar i.toNat).length c6, .int .i64 0])) w6)
    clear hf6 hn6 hb6
    go_wp2
    go_ret2
    exact HF6.out
  · rw [if_neg hi]
    have hd : decide (i ∈ usb b B) = false := decide_eq_false hi
    clear hi
    generalize usb b B = us at *
    go_enter Tryd.func9, Tryd.ntmps9
    go_wp2_with fail
    (with_reducible refine HF.out.mono ?_)
    rintro e w2 ⟨rfl, hb2⟩
    obtain ⟨y0, y1, y2, y3⟩ := HC.out _ hb2
    have HB2 := Lib.hid hb2
    clear hb2 x0 x1 x2 x3
    go_wp2_with fail
    (with_reducible refine (HU.out _ (HBW.out _ HB2.out)).mono ?_)
    rintro e w3 ⟨a3, c3, rfl, hr3, hb3⟩
    have hb23 := HB2.out.trans (hb3.mono HB2.out.size)
    have HF3 := Lib.hid (tell_nil w w3 1 (HBW.out _ hb23))
    have HCC := Lib.hid (HCT.out w3 a3 c3 hr3)
    clear hb3 hr3 hb23 y0 y1 y2 y3
    go_wp2_with fail
    (with_reducible refine HCC.out.mono ?_)
    rintro e w4 ⟨rfl, rfl⟩
    rw [hd]
    clear hd
    go_wp2
    go_ret2
    exact HF3.out
end Go.Proofs.YtkapnpcolmhdbaaDoor.Sc
namespace Drawbar.Scan
open Drawbar Drawbar.Sheet Drawbar.Nand
set_option maxRecDepth 100000 in
theorem most_snoc (L : List Fnd) (x : Fnd) : most (L ++ [x]) = max (most L) x.s.sq := by simp [most, List.foldl_append]
set_option maxRecDepth 100000 in
theorem most_le (L : List Fnd) : ∀ x ∈ L, x.s.sq ≤ most L := by
  induction L using snocRec with
  | nil => intro x h; cases h
  | append L y ih =>
    intro x h
    rw [most_snoc]
    rcases List.mem_append.1 h with h | h
    · have := ih x h; omega
    · obtain rfl := List.mem_singleton.1 h; omega
set_option maxRecDepth 100000 in
theorem most_mem (L : List Fnd) : most L = 0 ∨ ∃ x ∈ L, x.s.sq = most L := by
  induction L using snocRec with
  | nil => exact .inl rfl
  | append L y ih =>
    rw [most_snoc]
    by_cases h : most L ≤ y.s.sq
    · exact .inr ⟨y, by simp, by omega⟩
    · rcases ih with h0 | ⟨x, hx, he⟩
      · omega
      · exact .inr ⟨x, List.mem_append_left _ hx, by omega⟩
/-- What has come is no greater. -/
structure Gr (L : List Fnd) (left : Int → Bool) (M : Nat) : Prop where
  le : ∀ x ∈ L, left x.b = false → x.s.sq ≤ M
  at_ : M = 0 ∨ ∃ x ∈ L, x.s.sq = M
set_option maxRecDepth 100000 in
theorem Gr.fin {L : List Fnd} {left : Int → Bool} {M : Nat} (h : Gr L left M) (h0 : ∀ x ∈ L, left x.b = false) : M = most L := by
  apply Nat.le_antisymm
  · rcases h.at_ with h1 | ⟨x, hx, h1⟩
    · omega
    · rw [← h1]; exact most_le L x hx
  · rcases most_mem L with h1 | ⟨x, hx, h1⟩
    · omega
    · rw [← h1]; exact h.le x hx (h0 x hx)
/-- .. and of the block i the first j. -/
structure GrI (L : List Fnd) (left : Int → Bool) (i : Int) (j M : Nat) : Prop where
  le : ∀ x ∈ L, left x.b = false → x.s.sq ≤ M
  le2 : ∀ x ∈ (of i L).take j, x.s.sq ≤ M
  at_ : M = 0 ∨ ∃ x ∈ L, x.s.sq = M
set_option maxRecDepth 100000 in
theorem GrI.start {L : List Fnd} {left : Int → Bool} {M : Nat} (h : Gr L left M) (i : Int) : GrI L left i 0 M := ⟨h.le, fun x hx => by simp at hx, h.at_⟩
set_option maxRecDepth 100000 in
theorem GrI.step {L : List Fnd} {left : Int → Bool} {i : Int} {j M : Nat} (h : GrI L left i j M) {x : Fnd} (hx : (of i L)[j]? = some x) : GrI L left i (j + 1) (max M x.s.sq) := by
  have hj := (List.getElem?_eq_some_iff.1 hx).1
  have hm : x ∈ L := (mem_of.1 (List.mem_of_getElem? hx)).1
  refine ⟨fun y hy hl => Nat.le_trans (h.le y hy hl) (Nat.le_max_left _ _), fun y hy => ?_, ?_⟩
  · rw [List.take_add_one, hx] at hy
    rcases List.mem_append.1 hy with h1 | h1
    · exact Nat.le_trans (h.le2 y h1) (Nat.le_max_left _ _)
    · obtain rfl : y = x := by simpa using h1
      exact Nat.le_max_right _ _
  · rcases Nat.le_total M x.s.sq with h1 | h1
    · exact .inr ⟨x, hm, by omega⟩
    · rcases h.at_ with h2 | ⟨z, hz, h2⟩
      · exact .inl (by omega)
      · exact .inr ⟨z, hz, by omega⟩
set_option maxRecDepth 100000 in
theorem GrI.fin {L : List Fnd} {left : Int → Bool} {i : Int} {M : Nat} (h : GrI L left i (of i L).length M) : Gr L (fun y => left y && !(decide (y = i))) M := by
  refine ⟨fun x hx hl => ?_, h.at_⟩
  by_cases e : (x.b : Int) = i
  · exact h.le2 x (by rw [List.take_length]; exact mem_of.2 ⟨hx, e⟩)
  · exact h.le x hx (by simpa [e] using hl)
end Drawbar.Scan
namespace Go.Proofs.YtkapnpcolmhdbaaDoor.Sc
open Go.RowKit
open Drawbar Drawbar.Sheet Drawbar.Nand Drawbar.Scan Drawbar.Gm Go.Proofs.YtkapnpcolmhdbaaDoor.Nd

set_option maxRecDepth 100000 in
set_option maxHeartbeats 2000000 in
theorem greatest_any {w : World} {b n : Nat} {L : List Fnd} (h : Hold w b n L) (hlen : L.length ≤ 100000) :
    Calls Tryd.prog 36 #[.map (some b)] w fun e w' => e = .returned (.int .u64 (most L : Nat)) ∧ Below w.heap.size w w' := by
  obtain ⟨f, hG, h2, h3⟩ := h
  have H2 := Lib.hid h2
  have hlt := hG.lt
  have hg0 : Gr L (fun x => (f x).isSome) 0 := ⟨fun x hx hl => by
    have : f x.b = none := by cases hf : f x.b with | none => rfl | some v => rw [hf] at hl; cases hl
    have h4 := h3 _ this
    have h5 : x ∈ of (x.b : Int) L := mem_of.2 ⟨hx, rfl⟩
    rw [h4] at h5; exact absurd h5 List.not_mem_nil, .inl rfl⟩
  have HG0 := Lib.hid hg0
  have HWF := Lib.hid (fun x v hx => hG.wf x v hx)
  have H3 := Lib.hid h3
  clear hg0 h2 h3
  go_enter Tryd.func36, Tryd.ntmps36
  go_wp2_with (at_range; refine wpList_range_gm _ rfl _ 94 rfl Tryd.underlying3 Tryd.underlying94 b n f rfl hG ?_; intro w0 cnt0 hrg0 hg0 hs0)
  have hb0 : Below w.heap.size w w0 := grown_below' hg0 (fun d hd => by cases hd) (Nat.le_refl _)
  go_frame
  go_loopw [3] (fun acc wr => ∃ (left : Int → Bool) (cnt M : Nat), acc = .int .u64 M ∧ GRange Tryd.prog 3 wr b w.heap.size n f left cnt ∧ Below w.heap.size w wr ∧ w.heap.size < wr.heap.size ∧ Hid (Gr L left M)) (fun _ wr => wr.rangeLeft b w.heap.size)
  case atStart => exact ⟨_, _, 0, rfl, hrg0, hb0, by omega, HG0⟩
  case round =>
    obtain ⟨left, cnt, M, rfl, hrg, hbw, hsz, HGr⟩ := hrel
    go_wp2_with (at_next; refine wpList_next_gm _ rfl _ rfl Tryd.underlying3 b w.heap.size n f left cnt rfl hrg ?_ ?_)
    · intro _ hl0
      have hM : M = most L := HGr.out.fin fun x hx => by
        cases hf : f x.b with
        | none => exact absurd (mem_of.2 ⟨hx, rfl⟩ : x ∈ of (x.b : Int) L) (by rw [H3.out _ hf]; exact List.not_mem_nil)
        | some v => exact hl0 _ (HWF.out _ v hf)
      subst hM
      clear hrg0
      go_wp2
      go_ret
      exact ⟨rfl, hbw⟩
    · intro i v w1 cnt1 hfi hli hrg1 hcl hg1 hs1 hen
      have hb1 : Below w.heap.size w w1 := hbw.trans (grown_below' hg1 (fun d hd => by cases hd; exact Nat.le_refl _) hbw.size)
      obtain ⟨a, c, rfl, hfd⟩ := (H2.out i v hfi).below hb1
      have HFD := Lib.hid hfd
      have HR1 := Lib.hid (And.intro hrg1 (And.intro hb1 hrg))
      have HGI := Lib.hid (GrI.start HGr.out i)
      have hl64 : (of i L).length ≤ 100000 := Nat.le_trans (of_len i L) hlen
      clear hfd hrg hrg1 hb1 hg1 hrg0 hfi hg0 hb0 hbw
      go_wp2
      go_loopw [3, 16] (fun acc iv wr2 => ∃ j M2 : Nat, j ≤ (of i L).length ∧ iv = .int .i64 j ∧ acc = .int .u64 M2 ∧ Below w1.heap.size w1 wr2 ∧ Hid (GrI L left i j M2)) (fun _ iv _ => (of i L).length - (intOf iv).toNat)
      case atStart => exact ⟨0, M, Nat.zero_le _, rfl, rfl, Below.refl _ _, HGI⟩
      case round =>
        obtain ⟨j, M2, hj, rfl, rfl, hb2, HGJ⟩ := hrel
        by_cases hjl : j < (of i L).length
        · obtain ⟨x, hx⟩ : ∃ x, (of i L)[j]? = some x := ⟨_, List.getElem?_eq_getElem hjl⟩
          obtain ⟨bb, off, v, rfl, hc, av, cv, rfl, -⟩ := (HFD.out.below hb2) j x hx
          have c0 := hc 0 _ rfl
          have c1 := hc 1 _ rfl
          have c2 := hc 2 _ rfl
          have c3 := hc 3 _ rfl
          have c4 := hc 4 _ rfl
          have c5 := hc 5 _ rfl
          have c6 := hc 6 _ rfl
          have c7 := hc 7 _ rfl
          rw [Nat.add_zero] at c0
          have HGN := Lib.hid (HGJ.out.step hx)
          have hjl2 : (j : Int) < ((of i L).length : Int) := by omega
          clear hc hx
          have hmx : max (M2 : Int) (x.s.sq : Int) = ((max M2 x.s.sq : Nat) : Int) := by omega
          have hb3 : Below w1.heap.size w1 (wr.alloc (.cells #[.int .i64 x.b, .int .i64 x.p, .int .u8 x.s.k, .int .u64 x.s.ep, .int .u64 x.s.sq, .int .i64 x.s.ad, .int .i64 x.s.fr, .slice av x.s.da.length cv] 46)) := hb2.trans ((Below.refl _ _).alloc hb2.size _)
          have HB3 := Lib.hid hb3
          clear hb3
          go_wp2_with fail
          go_roundw
          case rel => exact ⟨j + 1, max M2 x.s.sq, by omega, by go_num, by first | rfl | rw [hmx], HB3.out, HGN⟩
          case measure => simp [intOf]; omega
        · have hjl2 : ¬ ((j : Int) < ((of i L).length : Int)) := by omega
          obtain rfl : j = (of i L).length := by omega
          have HGF := Lib.hid HGJ.out.fin
          go_wp2_with fail
          go_roundw
          case rel => exact ⟨_, cnt1, M2, rfl, HR1.out.1.below hb2, HR1.out.2.1.trans (hb2.mono HR1.out.2.1.size), Nat.lt_of_lt_of_le hsz (by rw [← hs1]; exact hb2.size), HGF⟩
          case measure => rw [(HR1.out.1.below hb2).left_eq, HR1.out.2.2.left_eq]; exact hcl
end Go.Proofs.YtkapnpcolmhdbaaDoor.Sc
namespace Go.Proofs.YtkapnpcolmhdbaaDoor.Sc
open Go.RowKit
open Drawbar Drawbar.Sheet Drawbar.Nand Drawbar.Scan Drawbar.Gm Go.Proofs.YtkapnpcolmhdbaaDoor.Nd

abbrev sob (v0 v1 v2 v3 : Value) : Obj := .cells #[v0, v1, v2, v3] 54
abbrev zst : Obj := sob (.pointer none) (.map none) (.int .u64 0) (.slice none 0 0)
set_option maxRecDepth 100000 in
theorem info_state : (Tryd.prog.info? 54).map (·.size) = some 4 := by kernel_rfl
set_option maxRecDepth 100000 in
theorem four_cells {w : World} {g : Nat} {u0 u1 u2 u3 : Value} {t : TypeId} (h : w.heap[g]? = some (.cells #[u0, u1, u2, u3] t (0, 0))) :
    (w.cell? ⟨g, 0, none⟩ = some u0 ∧ w.cell? ⟨g, 1, none⟩ = some u1 ∧ w.cell? ⟨g, 2, none⟩ = some u2 ∧ w.cell? ⟨g, 3, none⟩ = some u3) ∧
    (w.frozen? ⟨g, 0, none⟩ = false ∧ w.frozen? ⟨g, 1, none⟩ = false ∧ w.frozen? ⟨g, 2, none⟩ = false ∧ w.frozen? ⟨g, 3, none⟩ = false) := by
  simp [World.cell?, World.frozen?, h]
set_option maxRecDepth 100000 in
theorem four_set {w : World} {g : Nat} {u0 u1 u2 u3 v0 v1 v2 v3 : Value} {t : TypeId} (h : w.heap[g]? = some (.cells #[u0, u1, u2, u3] t (0, 0))) :
    ((((w.setCell ⟨g, 0, none⟩ v0).setCell ⟨g, 1, none⟩ v1).setCell ⟨g, 2, none⟩ v2).setCell ⟨g, 3, none⟩ v3).heap[g]? = some (.cells #[v0, v1, v2, v3] t (0, 0)) := by
  have h4 := set_one (set_one (set_one (set_one h 0 v0) 1 v1) 2 v2) 3 v3
  simpa using h4
set_option maxRecDepth 100000 in
theorem one_below {B : Nat} (w : World) (g o : Nat) (v : Value) (hg : B ≤ g) : Below B w (w.setCell ⟨g, o, none⟩ v) := ⟨rfl, rfl, rfl, by simp [World.setCell], fun k hk => Below.heap_setCell _ _ _ _ (fun e => by simp at e; omega)⟩
set_option maxRecDepth 100000 in
theorem four_below {w : World} {B g : Nat} {v0 v1 v2 v3 : Value} (hg : B ≤ g) : Below B w ((((w.setCell ⟨g, 0, none⟩ v0).setCell ⟨g, 1, none⟩ v1).setCell ⟨g, 2, none⟩ v2).setCell ⟨g, 3, none⟩ v3) :=
  (((one_below _ _ _ _ hg).trans (one_below _ _ _ _ hg)).trans (one_below _ _ _ _ hg)).trans (one_below _ _ _ _ hg)
set_option maxRecDepth 100000 in
theorem one_grown (w : World) (g o : Nat) (v : Value) : w.grownBy (w.setCell ⟨g, o, none⟩ v) (some g) := ⟨rfl, rfl, rfl, by simp [World.setCell], fun k _ hne => Below.heap_setCell _ _ _ _ (fun e => hne (by rw [e]))⟩
set_option maxRecDepth 100000 in
theorem four_grown {w : World} {g : Nat} {v0 v1 v2 v3 : Value} : w.grownBy ((((w.setCell ⟨g, 0, none⟩ v0).setCell ⟨g, 1, none⟩ v1).setCell ⟨g, 2, none⟩ v2).setCell ⟨g, 3, none⟩ v3) (some g) :=
  grownBy_trans (grownBy_trans (grownBy_trans (one_grown _ _ _ _) (one_grown _ _ _ _)) (one_grown _ _ _ _)) (one_grown _ _ _ _)

/-- What All answers where it answers an error. -/
def AllNo (w : World) (z : Int) (e : Ending) (w' : World) : Prop :=
  e = .returned (.tuple #[.agg #[.pointer none, .map none, .int .u64 0, .slice none 0 0], .int .i64 z]) ∧ Below w.heap.size w w'
set_option maxRecDepth 100000 in
set_option maxHeartbeats 2000000 in
theorem all_early {w : World} {gp : Option Addr} {b p s : Int} {a : Option Addr} {n c : Nat} (z : Int) (hz : z = 5 ∨ z = 1)
    (hF : Calls Tryd.prog 29 #[.pointer gp, Pn.geo b p s a n c] ((w.alloc (Pn.boxed b p s a n c)).alloc zst) fun e w' => e = .returned (.int .i64 z) ∧ Below ((w.alloc (Pn.boxed b p s a n c)).alloc zst).heap.size ((w.alloc (Pn.boxed b p s a n c)).alloc zst) w') :
    Calls Tryd.prog 11 #[.pointer gp, Pn.geo b p s a n c] w (AllNo w z) := by
  have hbx : Below w.heap.size w ((w.alloc (Pn.boxed b p s a n c)).alloc zst) := ((Below.refl _ _).alloc (Nat.le_refl _) _).alloc (by simp) _
  have hsz : ((w.alloc (Pn.boxed b p s a n c)).alloc zst).heap.size = w.heap.size + 2 := by simp
  have hblk : ((w.alloc (Pn.boxed b p s a n c)).alloc zst).heap[w.heap.size + 1]? = some zst := by
    have := heap_alloc_new (w.alloc (Pn.boxed b p s a n c)) zst
    simpa using this
  have hq : (z != 0) = true := by rcases hz with rfl | rfl <;> rfl
  unfold Pn.geo at hF ⊢
  have HF := Lib.hid hF
  have HB := Lib.hid (And.intro hbx (And.intro hsz hblk))
  clear hF hbx hblk hz hsz
  go_enter Tryd.func11, Tryd.ntmps11
  go_wp2_with fail
  (with_reducible refine HF.out.mono ?_)
  rintro e w2 ⟨rfl, hb2⟩
  obtain ⟨hbx, hsz, hblk⟩ := HB.out
  have hblk2 := (hb2.block (w.heap.size + 1) (by omega)).trans hblk
  obtain ⟨⟨t0, t1, t2, t3⟩, ⟨z0, z1, z2, z3⟩⟩ := four_cells hblk2
  have hblkz := four_set (v0 := .pointer none) (v1 := .map none) (v2 := .int .u64 0) (v3 := .slice none 0 0) hblk2
  have hbz := (hbx.trans (hb2.mono (by omega))).trans (four_below (v0 := .pointer none) (v1 := .map none) (v2 := .int .u64 0) (v3 := .slice none 0 0) (Nat.le_succ w.heap.size))
  have HF := Lib.hid (And.intro hblkz hbz)
  clear hblkz hbz hb2 hblk hblk2 hbx hsz
  go_wp2
  obtain ⟨hblkz, hbz⟩ := HF.out
  generalize ((((w2.setCell ⟨w.heap.size + 1, 0, none⟩ (.pointer none)).setCell ⟨w.heap.size + 1, 1, none⟩ (.map none)).setCell ⟨w.heap.size + 1, 2, none⟩ (.int .u64 0)).setCell ⟨w.heap.size + 1, 3, none⟩ (.slice none 0 0)) = wz at *
  clear t0 t1 t2 t3 z0 z1 z2 z3
  refine bodyPost_ret (results_cell_tmp_row rfl _ _ (w.heap.size + 1) 54 _ (0, 0) _ rfl hblkz Tryd.underlying54 rfl info_state) rfl ?_
  exact ⟨rfl, hbz⟩
end Go.Proofs.YtkapnpcolmhdbaaDoor.Sc
namespace Go.Proofs.YtkapnpcolmhdbaaDoor.Sc
open Go.RowKit
open Drawbar Drawbar.Sheet Drawbar.Nand Drawbar.Scan Drawbar.Gm Go.Proofs.YtkapnpcolmhdbaaDoor.Nd

set_option maxRecDepth 100000 in
set_option maxHeartbeats 2000000 in
theorem readAll_off {w : World} {F : Nat → Prop} {g : Nat} {s : Arr} (h : ArrAt w F g s) (us : List Int) (a : Option Addr) (c : Nat) (hus : Blocks s.n us) (hru : Pn.RdI w a us) (m : Int) (hoff : s.off = true) (hne : 0 < us.length) :
    Calls Tryd.prog 35 #[.pointer (some ⟨g, 0, none⟩), .slice a us.length c, .int .i64 m] w fun e w' => e = .returned (.tuple #[.map none, .int .i64 9]) ∧ Below w.heap.size w w' := by
  have hb0 : Below w.heap.size w (w.alloc (.map #[] 0)) := (Below.refl _ _).alloc (Nat.le_refl _) _
  obtain ⟨b, off, rfl, hcu⟩ := (hru.below hb0) hne
  have hc := hcu 0 hne
  have hmem : us[0] ∈ us := List.getElem_mem hne
  have hrg := hus.rng _ hmem
  have hgd : us.getD 0 0 = us[0] := by simp [List.getD_eq_getElem?_getD, hne]
  obtain ⟨i, hi⟩ : ∃ i : Nat, us[0] = i := ⟨us[0].toNat, by omega⟩
  rw [hgd, hi] at hc
  rw [Nat.add_zero] at hc
  have HR := Lib.hid (read_off (h.keep hb0) i (by omega) m hoff)
  have HB := Lib.hid hb0
  have hmk := make_hold w
  have hlt2 : (0 : Int) < (us.length : Int) := by omega
  clear hcu hmem hrg hgd hi hus hru h hoff hb0
  go_enter Tryd.func35, Tryd.ntmps35
  go_wp2
  go_loopw [16] (fun iv wr => iv = .int .i64 0 ∧ w.alloc (.map #[] 0) = wr) (fun _ _ => 1)
  case atStart => exact ⟨rfl, rfl⟩
  case round =>
    obtain ⟨rfl, rfl⟩ := hrel
    go_wp2_with fail
    (with_reducible refine HR.out.mono ?_)
    rintro e w2 ⟨a2, c2, rfl, hfd, -, hb2⟩
    have HB2 := Lib.hid (HB.out.trans (hb2.mono HB.out.size))
    clear hb2 hfd
    go_wp2
    go_ret2
    exact ⟨rfl, HB2.out⟩

set_option maxRecDepth 100000 in
set_option maxHeartbeats 2000000 in
theorem all_off {w : World} {F : Nat → Prop} {g : Nat} {ar : Arr} (hA : ArrAt w F g ar) {b p s : Int} {B : List Int} {a : Option Addr} {C c : Nat} (h : Geom w ar b p s B a C) (hoff : ar.off = true) (hne : 0 < (usb b B).length) :
    Calls Tryd.prog 11 #[.pointer (some ⟨g, 0, none⟩), Pn.geo b p s a B.length c] w (AllNo w 9) := by
  have hbx : Below w.heap.size w ((w.alloc (Pn.boxed b p s a B.length c)).alloc zst) := ((Below.refl _ _).alloc (Nat.le_refl _) _).alloc (by simp) _
  have hsz0 : ((w.alloc (Pn.boxed b p s a B.length c)).alloc zst).heap.size = w.heap.size + 2 := by simp
  have hblk : ((w.alloc (Pn.boxed b p s a B.length c)).alloc zst).heap[w.heap.size + 1]? = some zst := by
    have := heap_alloc_new (w.alloc (Pn.boxed b p s a B.length c)) zst
    simpa using this
  have hcells := fun W hb => Pn.boxed_cells w b p s a B.length c W (((Below.refl _ _).alloc (Nat.le_refl _) zst).trans hb)
  have HF := Lib.hid (Geom.fits (c := c) (hA.keep hbx) (h.below hbx))
  have HC := Lib.hid (fun W (hb : Below ((w.alloc (Pn.boxed b p s a B.length c)).alloc zst).heap.size ((w.alloc (Pn.boxed b p s a B.length c)).alloc zst) W) => hcells W (hb.mono (by simp)))
  have HBW := Lib.hid (fun W (hb : Below ((w.alloc (Pn.boxed b p s a B.length c)).alloc zst).heap.size ((w.alloc (Pn.boxed b p s a B.length c)).alloc zst) W) => hbx.trans (hb.mono (by rw [hsz0]; omega)))
  have HBK := Lib.hid (fun W (hb : Below ((w.alloc (Pn.boxed b p s a B.length c)).alloc zst).heap.size ((w.alloc (Pn.boxed b p s a B.length c)).alloc zst) W) => (hb.block (w.heap.size + 1) (by rw [hsz0]; omega)).trans hblk)
  have HU := Lib.hid (fun W (hb : Below w.heap.size w W) => usable_at (h.below hb) c)
  have HM := Lib.hid (fun W (hb : Below w.heap.size w W) => meta_at (h.below hb) c)
  have HR := Lib.hid (fun W (hb : Below w.heap.size w W) a2 c2 (hr : Pn.RdI W a2 (usb b B)) => readAll_off (hA.keep hb) (usb b B) a2 c2 h.blocks hr C hoff hne)
  obtain ⟨x0, x1, x2, x3⟩ := hcells _ (by simpa using (Below.refl (w.heap.size + 1) ((w.alloc (Pn.boxed b p s a B.length c)).alloc zst)))
  unfold Pn.geo at HF HU HM ⊢
  clear hbx hcells hsz0 h hA hoff hblk hne
  generalize usb b B = us at *
  go_enter Tryd.func11, Tryd.ntmps11
  go_wp2_with fail
  (with_reducible refine HF.out.mono ?_)
  rintro e w2 ⟨rfl, hb2⟩
  obtain ⟨y0, y1, y2, y3⟩ := HC.out _ hb2
  have HB2 := Lib.hid hb2
  clear hb2 x0 x1 x2 x3
  go_wp2_with fail
  (with_reducible refine (HU.out _ (HBW.out _ HB2.out)).mono ?_)
  rintro e w3 ⟨a3, c3, rfl, hr3, hb3⟩
  have hb23 := HB2.out.trans (hb3.mono HB2.out.size)
  obtain ⟨z0, z1, z2, z3⟩ := HC.out _ hb23
  have HB3 := Lib.hid hb23
  have HR3 := Lib.hid hr3
  clear hb3 hr3 hb23 y0 y1 y2 y3
  go_wp2_with fail
  (with_reducible refine (HM.out _ (HBW.out _ HB3.out)).mono ?_)
  rintro e w4 ⟨rfl, hb4⟩
  have HB4 := Lib.hid (HB3.out.trans (hb4.mono HB3.out.size))
  have HRR := Lib.hid (HR.out w4 (HBW.out _ HB4.out) a3 c3 (HR3.out.below hb4))
  clear hb4 z0 z1 z2 z3
  go_wp2_with fail
  (with_reducible refine HRR.out.mono ?_)
  rintro e w5 ⟨rfl, hb5⟩
  have hb45 := HB4.out.trans (hb5.mono HB4.out.size)
  have hblk5 := HBK.out _ hb45
  obtain ⟨⟨t0, t1, t2, t3⟩, ⟨z0, z1, z2, z3⟩⟩ := four_cells hblk5
  have hblkz := four_set (v0 := .pointer none) (v1 := .map none) (v2 := .int .u64 0) (v3 := .slice none 0 0) hblk5
  have hbz := (HBW.out _ hb45).trans (four_below (v0 := .pointer none) (v1 := .map none) (v2 := .int .u64 0) (v3 := .slice none 0 0) (Nat.le_succ w.heap.size))
  have HFF := Lib.hid (And.intro hblkz hbz)
  clear hblkz hbz hb5 hblk5 hb45
  go_wp2
  obtain ⟨hblkz, hbz⟩ := HFF.out
  generalize ((((w5.setCell ⟨w.heap.size + 1, 0, none⟩ (.pointer none)).setCell ⟨w.heap.size + 1, 1, none⟩ (.map none)).setCell ⟨w.heap.size + 1, 2, none⟩ (.int .u64 0)).setCell ⟨w.heap.size + 1, 3, none⟩ (.slice none 0 0)) = wz at *
  clear t0 t1 t2 t3 z0 z1 z2 z3
  refine bodyPost_ret (results_cell_tmp_row rfl _ _ (w.heap.size + 1) 54 _ (0, 0) _ rfl hblkz Tryd.underlying54 rfl info_state) rfl ?_
  exact ⟨rfl, hbz⟩
end Go.Proofs.YtkapnpcolmhdbaaDoor.Sc
namespace Go.Proofs.YtkapnpcolmhdbaaDoor.Sc
open Go.RowKit
open Drawbar Drawbar.Sheet Drawbar.Nand Drawbar.Scan Drawbar.Gm Go.Proofs.YtkapnpcolmhdbaaDoor.Nd

set_option maxRecDepth 100000 in
theorem rdI_other {w w' : World} {a : Option Addr} {l : List Int} {d : Nat} (h : Pn.RdI w a l) (hg : w.grownBy w' (some d)) (hm : ∀ o u, w.cell? ⟨d, o, none⟩ ≠ some (.int .i64 u)) : Pn.RdI w' a l := fun h0 => by
  obtain ⟨b, off, rfl, hc⟩ := h h0
  refine ⟨b, off, rfl, fun i hi => ?_⟩
  have h1 := hc i hi
  have hne : b ≠ d := fun e => by rw [e] at h1; exact hm _ _ h1
  exact (World.cell?_of_block (a := ⟨b, off + i, none⟩) (hg.block b (World.block_lt_of_cell? w _ h1) (fun e => hne (by cases e; rfl)))).trans h1
set_option maxRecDepth 100000 in
theorem state_cells {w : World} {d : Nat} {pt mp : Option Addr} {mm : Option Nat} {q : Int} {n c : Nat} {t : TypeId} (h : w.heap[d]? = some (.cells #[.pointer pt, .map mm, .int .u64 q, .slice mp n c] t (0, 0))) :
    No8 w d ∧ ∀ o u, w.cell? ⟨d, o, none⟩ ≠ some (.int .i64 u) := by
  have key : ∀ o (k : IntKind) u, w.cell? ⟨d, o, none⟩ = some (.int k u) → k = .u64 := fun o k u he => by
    unfold World.cell? at he
    rw [h] at he
    rcases o with _ | _ | _ | _ | o
    all_goals simp at he
    exact he.1.symm
  exact ⟨fun o u he => (by cases key o _ u he), fun o u he => (by cases key o _ u he)⟩

/-- What All answers. -/
def AllOk (w : World) (ar : Arr) (C : Nat) (us : List Int) (L : List Fnd) (e : Ending) (w' : World) : Prop :=
  ∃ g0 pb0 cb0 pb N a c, e = .returned (.tuple #[.agg #[.pointer (some ⟨g0, 0, none⟩), .map (some pb), .int .u64 (most L : Nat), .slice a (takeS us L).1.length c], .int .i64 0]) ∧
    Pm.MapAt w' g0 pb0 cb0 (whereS C ar.n (best (takeS us L).2)) ∧ PagesAt w' pb N (best (takeS us L).2) ∧ Pn.RdI w' a (takeS us L).1 ∧ Below w.heap.size w w'
set_option maxRecDepth 100000 in
set_option maxHeartbeats 4000000 in
theorem all_on {w : World} {F : Nat → Prop} {g : Nat} {ar : Arr} (hA : ArrAt w F g ar) {b p s : Int} {B : List Int} {a : Option Addr} {C c : Nat} (h : Geom w ar b p s B a C) (hoff : ar.off = false) (hT : Tab w) (hl9 : (heldI C ar (usb b B)).length ≤ 100000) :
    Calls Tryd.prog 11 #[.pointer (some ⟨g, 0, none⟩), Pn.geo b p s a B.length c] w (AllOk w ar C (usb b B) (heldI C ar (usb b B))) := by
  have hbx : Below w.heap.size w ((w.alloc (Pn.boxed b p s a B.length c)).alloc zst) := ((Below.refl _ _).alloc (Nat.le_refl _) _).alloc (by simp) _
  have hsz0 : ((w.alloc (Pn.boxed b p s a B.length c)).alloc zst).heap.size = w.heap.size + 2 := by simp
  have hblk : ((w.alloc (Pn.boxed b p s a B.length c)).alloc zst).heap[w.heap.size + 1]? = some zst := by
    have := heap_alloc_new (w.alloc (Pn.boxed b p s a B.length c)) zst
    simpa using this
  have hcells := fun W hb => Pn.boxed_cells w b p s a B.length c W (((Below.refl _ _).alloc (Nat.le_refl _) zst).trans hb)
  have HF := Lib.hid (Geom.fits (c := c) (hA.keep hbx) (h.below hbx))
  have HC := Lib.hid (fun W (hb : Below ((w.alloc (Pn.boxed b p s a B.length c)).alloc zst).heap.size ((w.alloc (Pn.boxed b p s a B.length c)).alloc zst) W) => hcells W (hb.mono (by simp)))
  have HBW := Lib.hid (fun W (hb : Below ((w.alloc (Pn.boxed b p s a B.length c)).alloc zst).heap.size ((w.alloc (Pn.boxed b p s a B.length c)).alloc zst) W) => hbx.trans (hb.mono (by rw [hsz0]; omega)))
  have HBK := Lib.hid (fun W (hb : Below ((w.alloc (Pn.boxed b p s a B.length c)).alloc zst).heap.size ((w.alloc (Pn.boxed b p s a B.length c)).alloc zst) W) => (hb.block (w.heap.size + 1) (by rw [hsz0]; omega)).trans hblk)
  have HU := Lib.hid (fun W (hb : Below w.heap.size w W) => usable_at (h.below hb) c)
  have HM := Lib.hid (fun W (hb : Below w.heap.size w W) => meta_at (h.below hb) c)
  have HR := Lib.hid (fun W (hb : Below w.heap.size w W) a2 c2 (hr : Pn.RdI W a2 (usb b B)) => readAll_on (hA.keep hb) (usb b B) a2 c2 h.blocks hr C hoff (hT.below hb hT.pos))
  obtain ⟨x0, x1, x2, x3⟩ := hcells _ (by simpa using (Below.refl (w.heap.size + 1) ((w.alloc (Pn.boxed b p s a B.length c)).alloc zst)))
  unfold Pn.geo at HF HU HM ⊢
  have hwf := arr_wf hA
  have hft := held_fit (m := C) hwf h.blocks
  have hgr := held_grouped (m := C) hwf h.blocks
  have hC9 : C < 65000 := by
    have h1 := h.cap
    have h2 := Plan.cap_bounds B h.small
    have h3 := Plan.us_le B b
    have h4 := h.form
    obtain ⟨-, h5, h6, -⟩ := Pn.form_true h4
    have h7 : p * (((Plan.us B (Plan.kk b)).length : Int) - s - 1) ≤ 32 * 62 := by
      have e1 : ((Plan.us B (Plan.kk b)).length : Int) - s - 1 ≤ 62 := by omega
      rcases Int.le_total 0 (((Plan.us B (Plan.kk b)).length : Int) - s - 1) with h8 | h8
      · exact Int.le_trans (Int.mul_le_mul_of_nonneg_right h5.2 h8) (by omega)
      · have := Int.mul_nonpos_of_nonneg_of_nonpos (show 0 ≤ p by omega) h8; omega
    unfold Plan.cap at h1
    omega
  have hn0 := hwf.n0
  have hn64 := hwf.n64
  have hbn := h.n
  have hul := h.us_lt
  have HW := Lib.hid (fun W (hb : Below w.heap.size w W) mb n pg (hP : PagesAt W mb n pg) (hpg : ∀ a x, pg a = some x → 0 ≤ a ∧ a ≤ C ∧ x.b < ar.n ∧ x.p < 32) => where_any hP C ar.n hC9 hpg hn0 hn64 b p s B a c hbn.symm (h.rd.below hb) h.len h.small h.cap)
  have HFT := Lib.hid (And.intro hft (And.intro hgr (And.intro hwf.p32 (fun i hi => h.blocks.rng i hi : ∀ i ∈ usb b B, 0 ≤ i ∧ i < ar.n))))
  have HND := Lib.hid h.blocks.nd
  clear hbx hcells hsz0 h hA hoff hblk hT hwf hft hgr
  generalize usb b B = us at *
  generalize heldI C ar us = L0 at *
  go_enter Tryd.func11, Tryd.ntmps11
  go_wp2_with fail
  (with_reducible refine HF.out.mono ?_)
  rintro e w2 ⟨rfl, hb2⟩
  obtain ⟨y0, y1, y2, y3⟩ := HC.out _ hb2
  have HB2 := Lib.hid hb2
  clear hb2 x0 x1 x2 x3
  go_wp2_with fail
  (with_reducible refine (HU.out _ (HBW.out _ HB2.out)).mono ?_)
  rintro e w3 ⟨a3, c3, rfl, hr3, hb3⟩
  have hb23 := HB2.out.trans (hb3.mono HB2.out.size)
  obtain ⟨z0, z1, z2, z3⟩ := HC.out _ hb23
  have HB3 := Lib.hid hb23
  have HR3 := Lib.hid hr3
  clear hb3 hr3 hb23 y0 y1 y2 y3
  go_wp2_with fail
  (with_reducible refine (HM.out _ (HBW.out _ HB3.out)).mono ?_)
  rintro e w4 ⟨rfl, hb4⟩
  have HB4 := Lib.hid (HB3.out.trans (hb4.mono HB3.out.size))
  have hb4q := Lib.hid hb4
  have HRR := Lib.hid (HR.out w4 (HBW.out _ HB4.out) a3 c3 (HR3.out.below hb4))
  clear hb4 z0 z1 z2 z3
  go_wp2_with fail
  (with_reducible refine HRR.out.mono ?_)
  rintro e w5 ⟨mb, nm, rfl, hH5, hnm, hmb5, hb5⟩
  have HB5 := Lib.hid (HB4.out.trans (hb5.mono HB4.out.size))
  have HR5 := Lib.hid (HR3.out.below (hb4q.out.trans (hb5.mono hb4q.out.size)))
  have HGT := Lib.hid (greatest_any hH5 hl9)
  have HH5 := Lib.hid hH5
  have HMB := Lib.hid hmb5
  clear hb5 hH5 hmb5
  go_wp2_with fail
  (with_reducible refine HGT.out.mono ?_)
  rintro e w6 ⟨rfl, hb6⟩
  obtain ⟨sb, hsb⟩ : ∃ sb, sb = w6.heap.size := ⟨_, rfl⟩
  have hb7 : Below w6.heap.size w6 (w6.alloc (sob (.pointer none) (.map none) (.int .u64 (most L0 : Nat)) (.slice none 0 0))) := (Below.refl _ _).alloc (Nat.le_refl _) _
  have hblk7 := heap_alloc_new w6 (sob (.pointer none) (.map none) (.int .u64 (most L0 : Nat)) (.slice none 0 0))
  have hs7 : (w6.alloc (sob (.pointer none) (.map none) (.int .u64 (most L0 : Nat)) (.slice none 0 0))).heap.size = w6.heap.size + 1 := by simp
  have hb57 := hb6.trans (hb7.mono hb6.size)
  have HTK := Lib.hid (takeSpoilt_any (HH5.out.below hb57) hl9 (fun x hx => (HFT.out.1 x hx).1.fr) us a3 c3 (HR5.out.below hb57) (fun i hi => by have := HFT.out.2.2.2 i hi; omega) (by omega))
  have hfresh : mb < w5.heap.size := HH5.out.lt
  have H7 := Lib.hid (And.intro hb57 (And.intro hblk7 (And.intro hs7 (And.intro (HB5.out.trans (hb57.mono HB5.out.size)) (And.intro hfresh hb6.size)))))
  clear hb6 hb7 hblk7 hs7 hb57 hfresh hsb
  go_wp2_with fail
  (with_reducible refine HTK.out.mono ?_)
  rintro e w8 ⟨a8, c8, rfl, hr8, hH8, hg8⟩
  obtain ⟨hb57, hblk7, hs7, hB7, hfr, hle6⟩ := H7.out
  have hblk8 := (hg8.block w6.heap.size (by omega) (fun e => by cases e; omega)).trans hblk7
  have hB8 := hB7.trans (grown_below' (base := ((w.alloc (Pn.boxed b p s a B.length c)).alloc zst).heap.size) hg8 (fun d hd => by cases hd; have := HMB.out; have := HB4.out.size; omega) hB7.size)
  obtain ⟨⟨t0, t1, t2, t3⟩, ⟨z0, z1, z2, z3⟩⟩ := four_cells hblk8
  have hst8 := state_cells hblk8
  have hg9 := one_grown w8 w6.heap.size 3 (.slice a8 (takeS us L0).1.length c8)
  have hblk9 := set_one hblk8 3 (.slice a8 (takeS us L0).1.length c8)
  have hB9 := hB8.trans (one_below w8 w6.heap.size 3 (.slice a8 (takeS us L0).1.length c8) (show ((w.alloc (Pn.boxed b p s a B.length c)).alloc zst).heap.size ≤ w6.heap.size by have := HB5.out.size; omega))
  have hH9 := hH8.other hg9 hst8.1 (show w6.heap.size ≠ mb by omega)
  have hr9 := rdI_other hr8 hg9 hst8.2
  have hru8 : Pn.RdI w8 a3 us := rdI_other (HR5.out.below hb57) hg8 (fun o u he => by
    have := gmap_cell (HH5.out.below hb57).choose_spec.1 o
    rw [this] at he; cases he)
  have HNW := Lib.hid (newest_any hH9 (Nat.le_trans takeS_len.1 hl9) (fun x hx => (by have := (HFT.out.1 x (takeS_sub x hx)).1; exact ⟨this.ad0, this.ad2⟩)) us a3 c3 (rdI_other hru8 hg9 hst8.2) (fun i hi => by have := HFT.out.2.2.2 i hi; omega) (takeS_grouped HFT.out.2.1 HND.out) (by omega))
  have H9 := Lib.hid (And.intro hblk9 (And.intro hB9 (And.intro hr9 (And.intro hle6 (show w6.heap.size < (w8.setCell ⟨w6.heap.size, 3, none⟩ (.slice a8 (takeS us L0).1.length c8)).heap.size from (Array.getElem?_eq_some_iff.1 hblk9).1)))))
  clear hb57 hblk7 hs7 hB7 hfr hle6 hblk8 hB8 hst8 hg9 hblk9 hB9 hH9 hr9 hru8 hr8 hH8 hg8
  go_wp2_with fail
  (with_reducible refine HNW.out.mono ?_)
  rintro e w10 ⟨pb, N, rfl, hP10, hN, hpb, hb10⟩
  obtain ⟨hblk9, hB9, hr9, hle6, hlt9⟩ := H9.out
  have hblk10 := (hb10.block w6.heap.size hlt9).trans hblk9
  have hblk10 : w10.heap[w6.heap.size]? = some (sob (.pointer none) (.map none) (.int .u64 (most L0 : Nat)) (.slice a8 (takeS us L0).1.length c8)) := by simpa using hblk10
  have hB10 := hB9.trans (hb10.mono hB9.size)
  obtain ⟨⟨t0, t1, t2, t3⟩, ⟨z0, z1, z2, z3⟩⟩ := four_cells hblk10
  have hst10 := state_cells hblk10
  have hg11 := one_grown w10 w6.heap.size 1 (.map (some pb))
  have hblk11 : (w10.setCell ⟨w6.heap.size, 1, none⟩ (.map (some pb))).heap[w6.heap.size]? = some (sob (.pointer none) (.map (some pb)) (.int .u64 (most L0 : Nat)) (.slice a8 (takeS us L0).1.length c8)) := by simpa using set_one hblk10 1 (.map (some pb))
  have hB11 := hB10.trans (one_below w10 w6.heap.size 1 (.map (some pb)) (show ((w.alloc (Pn.boxed b p s a B.length c)).alloc zst).heap.size ≤ w6.heap.size by have := HB5.out.size; omega))
  have hP11 := hP10.other hg11 hst10.1 (show w6.heap.size ≠ pb by omega)
  have hr11 := rdI_other (hr9.below hb10) hg11 hst10.2
  have HWW := Lib.hid (HW.out (w10.setCell ⟨w6.heap.size, 1, none⟩ (.map (some pb))) (HBW.out _ hB11) pb N (best (takeS us L0).2) hP11 (fun ad x hx => by
    obtain ⟨hm, he⟩ := best_mem _ ad x hx
    have := (HFT.out.1 x (takeS_sub x hm)).1
    have hp32 := HFT.out.2.2.1
    have h1 := this.b
    have h2 := this.p
    have h3 := this.ad0
    have h4 := this.ad1
    exact ⟨by omega, by omega, by omega, by omega⟩))
  have hgc := HC.out _ hB11
  obtain ⟨g0, g1, g2, g3⟩ := hgc
  have hne1 : w6.heap.size ≠ pb := by omega
  have HSZ9 := Lib.hid (show w6.heap.size < pb by omega)
  obtain ⟨⟨r0, r1, r2, r3⟩, -⟩ := four_cells hblk11
  have hB11s := hB11.size
  have H11 := Lib.hid (And.intro hblk11 (And.intro hB11 (And.intro hP11 (And.intro hr11 (And.intro hle6 (And.intro hne1 (show w6.heap.size < (w10.setCell ⟨w6.heap.size, 1, none⟩ (.map (some pb))).heap.size from (Array.getElem?_eq_some_iff.1 hblk11).1)))))))
  clear hblk10 hB10 hst10 hg11 hblk11 hB11 hP11 hr11 hblk9 hB9 hr9 hle6 hlt9 hb10 hP10 hN hpb hne1 hB11s
  unfold Pn.geo at HWW
  go_wp2_with fail
  (with_reducible refine HWW.out.mono ?_)
  rintro e w12 ⟨gq, pq, cq, rfl, hM12, hg12, hp12, hc12, hb12⟩
  obtain ⟨hblk11, hB11, hP11, hr11, hle6, hne1, hlt11⟩ := H11.out
  have hblk12 := (hb12.block w6.heap.size hlt11).trans hblk11
  have hB12 := hB11.trans (hb12.mono hB11.size)
  obtain ⟨⟨s0, s1, s2, s3⟩, ⟨y0, y1, y2, y3⟩⟩ := four_cells hblk12
  have hst12 := state_cells hblk12
  have hg13 := one_grown w12 w6.heap.size 0 (.pointer (some ⟨gq, 0, none⟩))
  have hblk13 : (w12.setCell ⟨w6.heap.size, 0, none⟩ (.pointer (some ⟨gq, 0, none⟩))).heap[w6.heap.size]? = some (sob (.pointer (some ⟨gq, 0, none⟩)) (.map (some pb)) (.int .u64 (most L0 : Nat)) (.slice a8 (takeS us L0).1.length c8)) := by simpa using set_one hblk12 0 (.pointer (some ⟨gq, 0, none⟩))
  have hB13 := hB12.trans (one_below w12 w6.heap.size 0 (.pointer (some ⟨gq, 0, none⟩)) (show ((w.alloc (Pn.boxed b p s a B.length c)).alloc zst).heap.size ≤ w6.heap.size by have := HB5.out.size; omega))
  have hP13 := (hP11.below hb12).other hg13 hst12.1 hne1
  have hr13 := rdI_other (hr11.below hb12) hg13 hst12.2
  have hM13 : Pm.MapAt (w12.setCell ⟨w6.heap.size, 0, none⟩ (.pointer (some ⟨gq, 0, none⟩))) gq pq cq _ := hM12.keep fun d hd => hg13.block d (by have h1 := hM12.gl; have h2 := hM12.pbl; have h3 := hM12.cbl; rcases hd with rfl | rfl | rfl <;> assumption) (fun e => by cases e; rcases hd with h | h | h <;> omega)
  have hblkR := HBK.out _ hB13
  have hstR := state_cells hblkR
  obtain ⟨⟨q0, q1, q2, q3⟩, ⟨k0, k1, k2, k3⟩⟩ := four_cells hblkR
  obtain ⟨⟨m0, m1, m2, m3⟩, -⟩ := four_cells hblk13
  have hg14 := four_grown (w := (w12.setCell ⟨w6.heap.size, 0, none⟩ (.pointer (some ⟨gq, 0, none⟩)))) (g := w.heap.size + 1) (v0 := .pointer (some ⟨gq, 0, none⟩)) (v1 := .map (some pb)) (v2 := .int .u64 (most L0 : Nat)) (v3 := .slice a8 (takeS us L0).1.length c8)
  have hblk14 := four_set (v0 := .pointer (some ⟨gq, 0, none⟩)) (v1 := .map (some pb)) (v2 := .int .u64 (most L0 : Nat)) (v3 := .slice a8 (takeS us L0).1.length c8) hblkR
  have hbz := (HBW.out _ hB13).trans (four_below (v0 := .pointer (some ⟨gq, 0, none⟩)) (v1 := .map (some pb)) (v2 := .int .u64 (most L0 : Nat)) (v3 := .slice a8 (takeS us L0).1.length c8) (Nat.le_succ w.heap.size))
  have hB11s := hB11.size
  have hszB : ((w.alloc (Pn.boxed b p s a B.length c)).alloc zst).heap.size = w.heap.size + 2 := by simp
  have hR9 : w.heap.size + 1 < (w10.setCell ⟨w6.heap.size, 1, none⟩ (.map (some pb))).heap.size := by omega
  have hpb9 : w.heap.size + 1 ≠ pb := by have := HB5.out.size; have := HSZ9.out; omega
  have hP14 := hP13.other hg14 hstR.1 hpb9
  have hr14 := rdI_other hr13 hg14 hstR.2
  have hM14 : Pm.MapAt _ gq pq cq _ := hM13.keep fun d hd => hg14.block d (by have h1 := hM13.gl; have h2 := hM13.pbl; have h3 := hM13.cbl; rcases hd with rfl | rfl | rfl <;> assumption) (fun e => by cases e; rcases hd with h | h | h <;> omega)
  have HFIN := Lib.hid (And.intro hblk14 (And.intro hbz (And.intro hP14 (And.intro hr14 hM14))))
  clear hblk14 hbz hP14 hr14 hM14 hblk11 hB11 hP11 hr11 hle6 hne1 hlt11 hblk12 hB12 hst12 hg13 hblk13 hB13 hP13 hr13 hM13 hblkR hstR hg14 hM12 hg12 hp12 hc12 hb12 hB11s hR9 hpb9 hszB
  go_wp2
  obtain ⟨hblk14, hbz, hP14, hr14, hM14⟩ := HFIN.out
  generalize (((((w12.setCell ⟨w6.heap.size, 0, none⟩ (.pointer (some ⟨gq, 0, none⟩))).setCell ⟨w.heap.size + 1, 0, none⟩ (.pointer (some ⟨gq, 0, none⟩))).setCell ⟨w.heap.size + 1, 1, none⟩ (.map (some pb))).setCell ⟨w.heap.size + 1, 2, none⟩ (.int .u64 (most L0 : Nat))).setCell ⟨w.heap.size + 1, 3, none⟩ (.slice a8 (takeS us L0).1.length c8)) = wz at *
  clear q0 q1 q2 q3 k0 k1 k2 k3
  refine bodyPost_ret (results_cell_tmp_row rfl _ _ (w.heap.size + 1) 54 _ (0, 0) _ rfl hblk14 Tryd.underlying54 rfl info_state) rfl ?_
  exact ⟨gq, pq, cq, pb, N, a8, c8, rfl, hM14, hP14, hr14, hbz⟩
end Go.Proofs.YtkapnpcolmhdbaaDoor.Sc
