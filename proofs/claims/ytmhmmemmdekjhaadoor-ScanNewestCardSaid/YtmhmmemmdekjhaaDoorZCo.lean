/- What the law ScanCopies lays, as plain data. The walk of the law ScanCopies. -/
import Derived.Test.YtmhmmemmdekjhaaDoorZFo
import Derived.Deep.RegionHeld
import Derived.Deep.CutRange
import Derived.BigQuiet
import Derived.Deep.QuietTactic
import Derived.IntWalk
namespace Drawbar.Scan
open Go.RowKit
open Drawbar Drawbar.Sheet Drawbar.Nand Go.Proofs.YtmhmmemmdekjhaaDoor.Nd Go.Proofs.YtmhmmemmdekjhaaDoor.Sc
set_option maxRecDepth 100000 in
theorem best_some {L : List Fnd} {a : Int} {x : Fnd} (hx : x ∈ L) (ha : x.s.ad = a) : ∃ y, best L a = some y := by
  induction L using snocRec with
  | nil => cases hx
  | append L z ih =>
    rw [best_snoc]
    unfold Scan.step
    by_cases e : z.s.ad = a
    · rw [if_pos e]
      cases best L a with
      | none => exact ⟨_, rfl⟩
      | some y => dsimp only; split <;> exact ⟨_, rfl⟩
    · rw [if_neg e]
      rcases List.mem_append.1 hx with h | h
      · exact ih h
      · obtain rfl := List.mem_singleton.1 h; exact absurd ha e
set_option maxRecDepth 100000 in
theorem best_max {L : List Fnd} {a : Int} {y : Fnd} (h : best L a = some y) : ∀ x ∈ L, x.s.ad = a → x.s.sq ≤ y.s.sq := by
  induction L using snocRec generalizing y with
  | nil => intro x hx; cases hx
  | append L z ih =>
    intro x hx ha
    rw [best_snoc] at h
    unfold Scan.step at h
    by_cases e : z.s.ad = a
    · rw [if_pos e] at h
      cases hb : best L a with
      | none =>
        rw [hb] at h
        cases h
        rcases List.mem_append.1 hx with hm | hm
        · obtain ⟨y, hy⟩ := best_some hm ha; rw [hb] at hy; cases hy
        · obtain rfl := List.mem_singleton.1 hm; exact Nat.le_refl _
      | some u =>
        rw [hb] at h
        dsimp only at h
        have h1 := ih hb
        split at h
        · cases h
          rcases List.mem_append.1 hx with hm | hm
          · have := h1 x hm ha; omega
          · obtain rfl := List.mem_singleton.1 hm; exact Nat.le_refl _
        · cases h
          rcases List.mem_append.1 hx with hm | hm
          · exact h1 x hm ha
          · obtain rfl := List.mem_singleton.1 hm; omega
    · rw [if_neg e] at h
      rcases List.mem_append.1 hx with hm | hm
      · exact ih h x hm ha
      · obtain rfl := List.mem_singleton.1 hm; exact absurd ha e
set_option maxRecDepth 100000 in
theorem best_isSome {L : List Fnd} {a : Int} : (best L a).isSome = true ↔ ∃ x ∈ L, x.s.ad = a := by
  constructor
  · intro h
    obtain ⟨y, hy⟩ := Option.isSome_iff_exists.1 h
    exact ⟨y, best_mem L a y hy⟩
  · rintro ⟨x, hx, ha⟩
    obtain ⟨y, hy⟩ := best_some hx ha
    rw [hy]; rfl
set_option maxRecDepth 100000 in
theorem best_uniq {L : List Fnd} {a : Int} {x : Fnd} (hx : x ∈ L) (ha : x.s.ad = a) (hu : ∀ y ∈ L, y.s.ad = a → y = x) : best L a = some x := by
  obtain ⟨y, hy⟩ := best_some hx ha
  obtain ⟨h1, h2⟩ := best_mem L a y hy
  rw [hy, hu y h1 h2]
/-- Some pages, one behind the other. -/
def putN (s : Arr) (a : Nat) (f : Nat → List Nat) : Nat → Arr
  | 0 => s
  | i + 1 => putA (putN s a f i) a (f i)
set_option maxRecDepth 100000 in
theorem putN_good {s : Arr} {us : List Int} (h : Good s us) (a : Nat) (f : Nat → List Nat) (i : Nat) : Good (putN s a f i) us := by
  induction i with
  | zero => exact h
  | succ i ih => exact ih.put a (f i)
set_option maxRecDepth 100000 in
theorem putN_n (s : Arr) (a : Nat) (f : Nat → List Nat) (i : Nat) : (putN s a f i).n = s.n ∧ (putN s a f i).pages = s.pages := by
  induction i with
  | zero => exact ⟨rfl, rfl⟩
  | succ i ih => exact ih
set_option maxRecDepth 100000 in
theorem putN_b (s : Arr) (a : Nat) (f : Nat → List Nat) (i j : Nat) (h : j ≠ a) : (putN s a f i).b j = s.b j := by
  induction i with
  | zero => rfl
  | succ i ih => exact (put_b _ _ _ _ h).trans ih
set_option maxRecDepth 100000 in
theorem putN_a (s : Arr) (a : Nat) (f : Nat → List Nat) (i : Nat) : ((putN s a f i).b a).pages = (s.b a).pages ++ (List.range i).map f ∧ ((putN s a f i).b a).torn = (s.b a).torn := by
  induction i with
  | zero => exact ⟨by simp [putN], rfl⟩
  | succ i ih =>
    rw [putN, (put_i _ _ _).1, (put_i _ _ _).2, ih.1, ih.2, List.range_succ, List.map_append, List.append_assoc]
    exact ⟨rfl, rfl⟩
set_option maxRecDepth 100000 in
theorem putN_F (m : Int) (s : Arr) (a : Nat) (f : Nat → List Nat) (x : Nat → Sh) (hp : (s.b a).pages = []) (ht : (s.b a).torn = false) (i : Nat) (hx : ∀ j, j < i → one m a j (f j) = [⟨a, j, x j⟩]) :
    blockF m (putN s a f i) a = (List.range i).map fun j => (⟨a, j, x j⟩ : Fnd) := by
  induction i with
  | zero => exact blockF_fresh hp
  | succ i ih =>
    have h1 := blockF_put m (putN s a f i) a (f i) (by rw [(putN_a _ _ _ _).2]; exact ht)
    rw [ih fun j hj => hx j (by omega), (putN_a _ _ _ _).1, hp, List.nil_append, List.length_map, List.length_range, hx i (by omega)] at h1
    rw [List.range_succ, List.map_append]
    exact h1
set_option maxRecDepth 100000 in
theorem spoilt_minus {L : List Fnd} {i : Int} (h : ∀ x ∈ of i L, x.s.fr = -1) : spoilt L i = false := by
  cases ho : of i L with
  | nil => exact spoilt_nil ho
  | cons y r =>
    rw [spoilt_cons ho, ho, List.all_cons, h y (by rw [ho]; simp)]
    unfold okS stands
    rw [of_neg]
    simp
set_option maxRecDepth 100000 in
theorem takeS_none' {us : List Int} {L : List Fnd} (h : ∀ i ∈ us, spoilt L i = false) : takeS us L = ([], L) := by
  induction us with
  | nil => rfl
  | cons i us ih => rw [takeS_no (h i (by simp)), ih fun j hj => h j (by simp [hj])]
end Drawbar.Scan
namespace Go.Proofs.YtmhmmemmdekjhaaDoor.Sc
open Go.RowKit
open Drawbar Drawbar.Sheet Drawbar.Nand Drawbar.Scan Drawbar.Gm Go.Proofs.YtmhmmemmdekjhaaDoor.Nd

def yS (d : List Nat) (i : Nat) : Sh := ⟨1, 0, 1 + i, i, -1, [d.getD i 0]⟩
def zS (d : List Nat) (a i : Nat) : Sh := ⟨1, 0, 100 + i, i, a, [d.getD i 0]⟩
def yL (d : List Nat) (a k : Nat) : List Fnd := (List.range k).map fun j => ⟨a, j, yS d j⟩
def zL (d : List Nat) (a b k : Nat) : List Fnd := (List.range k).map fun j => ⟨b, j, zS d a j⟩
def cA (n a : Nat) (d : List Nat) (k : Nat) : Arr := putN (S0 n) a (fun i => page (yS d i)) k
def cB (n a b : Nat) (d : List Nat) (k c : Nat) : Arr := putN (cA n a d k) b (fun i => page (zS d a i)) c
def cE (n a b : Nat) (d : List Nat) (k c : Nat) : Arr := wipeA (cB n a b d k c) a
section
variable {n a b k c : Nat} {d : List Nat} {r : List Int}
set_option maxRecDepth 100000 in
theorem yS_fm (d : List Nat) (i : Nat) (h : i < 40) : fm (yS d i) = true := by unfold fm yS; simp; omega
set_option maxRecDepth 100000 in
theorem zS_fm (d : List Nat) (a i : Nat) (h : i < 40) (ha : a < 64) : fm (zS d a i) = true := by unfold fm zS; simp; omega
set_option maxRecDepth 100000 in
theorem getD_lt {d : List Nat} (hd : ∀ x ∈ d, x < 256) (i : Nat) : d.getD i 0 < 256 := by
  rw [List.getD_eq_getElem?_getD]
  rcases Nat.lt_or_ge i d.length with h | h
  · rw [List.getElem?_eq_getElem h]; exact hd _ (List.getElem_mem h)
  · rw [List.getElem?_eq_none h]; simp
set_option maxRecDepth 100000 in
theorem yS_lt (hd : ∀ x ∈ d, x < 256) (i : Nat) : ∀ u ∈ (yS d i).da, u < 256 := fun u hu => by obtain rfl := List.mem_singleton.1 hu; exact getD_lt hd i
set_option maxRecDepth 100000 in
theorem zS_lt (hd : ∀ x ∈ d, x < 256) (a i : Nat) : ∀ u ∈ (zS d a i).da, u < 256 := fun u hu => by obtain rfl := List.mem_singleton.1 hu; exact getD_lt hd i
set_option maxRecDepth 100000 in
theorem mem_yL {x : Fnd} : x ∈ yL d a k ↔ ∃ j, j < k ∧ x = ⟨a, j, yS d j⟩ := by
  unfold yL; simp [eq_comm]
set_option maxRecDepth 100000 in
theorem mem_zL {x : Fnd} : x ∈ zL d a b k ↔ ∃ j, j < k ∧ x = ⟨b, j, zS d a j⟩ := by
  unfold zL; simp [eq_comm]
set_option maxRecDepth 100000 in
theorem c_heldB (hu : gus n = (a : Int) :: (b : Int) :: r) (hab : a ≠ b) (hr : ∀ i ∈ r, i.toNat ≠ a ∧ i.toNat ≠ b) (hd : ∀ x ∈ d, x < 256) (ha : a < 64) (C : Nat) (hk : k ≤ C + 1) (hk9 : k < 40) (hc : c ≤ k) : heldI C (cB n a b d k c) (gus n) = yL d a k ++ zL d a b c := by
  rw [held_two (m := C) (s := cB n a b d k c) hu fun i hi => (blockF_other ((putN_b _ _ _ _ _ (hr i hi).2).trans (putN_b _ _ _ _ _ (hr i hi).1))).trans (blockF_fresh (S0_b n _).1), Int.toNat_natCast, Int.toNat_natCast]
  have e1 : blockF C (cB n a b d k c) a = yL d a k := by
    have h := putN_F C (S0 n) a (fun i => page (yS d i)) (yS d) (S0_b n a).1 (S0_b n a).2 k fun j hj => one_page _ _ _ _ (yS_fm d j (by omega)) (yS_lt hd j) (by simp [yS]) (by simp [yS]; omega)
    exact (blockF_other (putN_b _ _ _ _ _ hab)).trans h
  have e2 : blockF C (cB n a b d k c) b = zL d a b c := by
    have hb : (cA n a d k).b b = (S0 n).b b := putN_b _ _ _ _ _ hab.symm
    exact putN_F C (cA n a d k) b (fun i => page (zS d a i)) (zS d a) (by rw [hb]; exact (S0_b n b).1) (by rw [hb]; exact (S0_b n b).2) c fun j hj => one_page _ _ _ _ (zS_fm d a j (by omega) ha) (zS_lt hd a j) (by simp [zS]) (by simp [zS]; omega)
  rw [e1, e2]
set_option maxRecDepth 100000 in
theorem c_heldE (hu : gus n = (a : Int) :: (b : Int) :: r) (hab : a ≠ b) (hr : ∀ i ∈ r, i.toNat ≠ a ∧ i.toNat ≠ b) (hd : ∀ x ∈ d, x < 256) (ha : a < 64) (C : Nat) (hk : k ≤ C + 1) (hk9 : k < 40) (hc : c ≤ k) : heldI C (cE n a b d k c) (gus n) = zL d a b c := by
  rw [held_two (m := C) (s := cE n a b d k c) hu fun i hi => (blockF_other ((wipe_b _ _ _ (hr i hi).1).trans ((putN_b _ _ _ _ _ (hr i hi).2).trans (putN_b _ _ _ _ _ (hr i hi).1)))).trans (blockF_fresh (S0_b n _).1), Int.toNat_natCast, Int.toNat_natCast]
  have e1 : blockF C (cE n a b d k c) a = [] := blockF_wipe _ _ _
  have e2 : blockF C (cE n a b d k c) b = zL d a b c := by
    have hb : (cA n a d k).b b = (S0 n).b b := putN_b _ _ _ _ _ hab.symm
    exact (blockF_other (wipe_b _ _ _ hab.symm)).trans (putN_F C (cA n a d k) b (fun i => page (zS d a i)) (zS d a) (by rw [hb]; exact (S0_b n b).1) (by rw [hb]; exact (S0_b n b).2) c fun j hj => one_page _ _ _ _ (zS_fm d a j (by omega) ha) (zS_lt hd a j) (by simp [zS]) (by simp [zS]; omega))
  rw [e1, e2, List.nil_append]
set_option maxRecDepth 100000 in
theorem of_yL : of (a : Int) (yL d a k ++ zL d a b c) = yL d a k ++ of (a : Int) (zL d a b c) := by
  rw [of_append, of_all fun x hx => by obtain ⟨j, _, rfl⟩ := mem_yL.1 hx; rfl]
set_option maxRecDepth 100000 in
theorem of_zL_ne {i : Int} (h : i ≠ b) : of i (zL d a b c) = [] := of_none fun x hx => by obtain ⟨j, _, rfl⟩ := mem_zL.1 hx; exact fun e => h e.symm
set_option maxRecDepth 100000 in
theorem of_yL_ne {i : Int} (h : i ≠ a) : of i (yL d a k) = [] := of_none fun x hx => by obtain ⟨j, _, rfl⟩ := mem_yL.1 hx; exact fun e => h e.symm
set_option maxRecDepth 100000 in
theorem c_take0 : takeS (gus n) (yL d a k ++ zL d a b 0) = ([], yL d a k) := by
  rw [show zL d a b 0 = [] from rfl, List.append_nil]
  exact takeS_none (spoilt_plain fun x hx => by obtain ⟨j, _, rfl⟩ := mem_yL.1 hx; rfl)
set_option maxRecDepth 100000 in
theorem c_takeE (hab : a ≠ b) : takeS (gus n) (zL d a b c) = ([], zL d a b c) := by
  refine takeS_none fun i => ?_
  by_cases hi : i = b
  · cases ho : of i (zL d a b c) with
    | nil => exact spoilt_nil ho
    | cons y t =>
      have hy : y ∈ zL d a b c := (mem_of.1 (by rw [ho]; simp : y ∈ of i (zL d a b c))).1
      obtain ⟨j, _, rfl⟩ := mem_zL.1 hy
      rw [spoilt_cons ho, ho, List.all_cons]
      unfold okS stands
      rw [show ((⟨b, j, zS d a j⟩ : Fnd).s.fr) = (a : Int) from rfl, of_zL_ne (by omega)]
      simp
  · exact spoilt_nil (of_zL_ne hi)
set_option maxRecDepth 100000 in
theorem c_takeB (hu : gus n = (a : Int) :: (b : Int) :: r) (hab : a ≠ b) (hr : ∀ i ∈ r, i.toNat ≠ a ∧ i.toNat ≠ b) (hr0 : ∀ i ∈ r, 0 ≤ i) (hc0 : 0 < c) (hc : c ≤ k) : takeS (gus n) (yL d a k ++ zL d a b c) = ([(b : Int)], yL d a k) := by
  have hoa : of (a : Int) (yL d a k ++ zL d a b c) = yL d a k := by rw [of_yL, of_zL_ne (by omega), List.append_nil]
  have hob : of (b : Int) (yL d a k ++ zL d a b c) = zL d a b c := by
    rw [of_append, of_yL_ne (by omega), List.nil_append, of_all fun x hx => by obtain ⟨j, _, rfl⟩ := mem_zL.1 hx; rfl]
  have hsa : spoilt (yL d a k ++ zL d a b c) a = false := spoilt_minus fun x hx => by
    rw [hoa] at hx
    obtain ⟨j, _, rfl⟩ := mem_yL.1 hx; rfl
  have hsb : spoilt (yL d a k ++ zL d a b c) b = true := by
    cases ho : of (b : Int) (yL d a k ++ zL d a b c) with
    | nil =>
      rw [hob] at ho
      have : (zL d a b c).length = 0 := by rw [ho]; rfl
      unfold zL at this
      simp at this
      omega
    | cons y t =>
      have hy : y ∈ zL d a b c := by rw [← hob, ho]; simp
      obtain ⟨j0, _, rfl⟩ := mem_zL.1 hy
      rw [spoilt_cons ho, hob, List.all_eq_true]
      intro x hx
      obtain ⟨j, hj, rfl⟩ := mem_zL.1 hx
      unfold okS stands
      rw [show ((⟨b, j0, zS d a j0⟩ : Fnd).s.fr) = (a : Int) from rfl, show ((⟨b, j, zS d a j⟩ : Fnd).s.fr) = (a : Int) from rfl, hoa]
      have : (yL d a k).any (fun x => stem (zS d a j) x.s) = true := List.any_eq_true.2 ⟨⟨a, j, yS d j⟩, mem_yL.2 ⟨j, by omega, rfl⟩, by unfold stem yS zS; simp⟩
      rw [this]
      simp
  have hdr : drop (b : Int) (yL d a k ++ zL d a b c) = yL d a k := by
    unfold Scan.drop
    rw [List.filter_append, List.filter_eq_self.2, List.filter_eq_nil_iff.2, List.append_nil]
    · intro x hx; obtain ⟨j, _, rfl⟩ := mem_zL.1 hx; simp
    · intro x hx; obtain ⟨j, _, rfl⟩ := mem_yL.1 hx; simp; omega
  rw [hu, takeS_no hsa, takeS_yes hsb, hdr, takeS_none' fun i hi => spoilt_nil (of_yL_ne (by have := hr i hi; have := hr0 i hi; omega))]
set_option maxRecDepth 100000 in
theorem best_yL (v : Nat) (h : v < k) : best (yL d a k) v = some ⟨a, v, yS d v⟩ := best_uniq (mem_yL.2 ⟨v, h, rfl⟩) rfl fun y hy he => by
  obtain ⟨j, _, rfl⟩ := mem_yL.1 hy
  obtain rfl : j = v := by have : ((j : Nat) : Int) = v := he; omega
  rfl
set_option maxRecDepth 100000 in
theorem best_zL (v : Nat) (h : v < c) : best (zL d a b c) v = some ⟨b, v, zS d a v⟩ := best_uniq (mem_zL.2 ⟨v, h, rfl⟩) rfl fun y hy he => by
  obtain ⟨j, _, rfl⟩ := mem_zL.1 hy
  obtain rfl : j = v := by have : ((j : Nat) : Int) = v := he; omega
  rfl
def keysL (k : Nat) : List Int := (List.range k).map Int.ofNat
set_option maxRecDepth 100000 in
theorem keysL_nodup (k : Nat) : (keysL k).Nodup := by
  unfold keysL
  rw [List.nodup_iff_pairwise_ne, List.pairwise_map]
  exact (List.nodup_iff_pairwise_ne.1 List.nodup_range).imp fun h e => h (by cases e; rfl)
set_option maxRecDepth 100000 in
theorem keysL_len (k : Nat) : (keysL k).length = k := by unfold keysL; simp
set_option maxRecDepth 100000 in
theorem keys_yL (v : Int) : v ∈ keysL k ↔ (best (yL d a k) v).isSome = true := by
  rw [best_isSome]
  unfold keysL
  constructor
  · intro h
    obtain ⟨j, hj, rfl⟩ := List.mem_map.1 h
    exact ⟨_, mem_yL.2 ⟨j, List.mem_range.1 hj, rfl⟩, rfl⟩
  · rintro ⟨x, hx, rfl⟩
    obtain ⟨j, hj, rfl⟩ := mem_yL.1 hx
    exact List.mem_map.2 ⟨j, List.mem_range.2 hj, rfl⟩
set_option maxRecDepth 100000 in
theorem keys_zL (v : Int) : v ∈ keysL c ↔ (best (zL d a b c) v).isSome = true := by
  rw [best_isSome]
  unfold keysL
  constructor
  · intro h
    obtain ⟨j, hj, rfl⟩ := List.mem_map.1 h
    exact ⟨_, mem_zL.2 ⟨j, List.mem_range.1 hj, rfl⟩, rfl⟩
  · rintro ⟨x, hx, rfl⟩
    obtain ⟨j, hj, rfl⟩ := mem_zL.1 hx
    exact List.mem_map.2 ⟨j, List.mem_range.2 hj, rfl⟩
end
end Go.Proofs.YtmhmmemmdekjhaaDoor.Sc
namespace Go.Proofs.YtmhmmemmdekjhaaDoor.Sc
open Go.RowKit
open Drawbar Drawbar.Sheet Drawbar.Nand Drawbar.Scan Drawbar.Gm Go.Proofs.YtmhmmemmdekjhaaDoor.Nd

set_option maxRecDepth 100000 in
theorem one_of (l : List Nat) (i : Nat) (h : i < l.length) : (l.drop i).take 1 = [l.getD i 0] := by
  rw [List.drop_eq_getElem_cons h, List.take_succ_cons, List.take_zero, List.getD_eq_getElem?_getD, List.getElem?_eq_getElem h]
  rfl
set_option maxRecDepth 100000 in
theorem page_all {w : World} {b n : Nat} {pg : Int → Option Fnd} (h : PagesAt w b n pg) (a : Int) (ha : (Lit.int .i64 a).wf = true) (x : Fnd) (hx : pg a = some x) :
    ∃ av cv, (∀ W, Below w.heap.size w W → (Instr.lookup 52 (.map (some b)) (.int .i64 a) false).run Tryd.prog W = .ok (fv x av cv) W) ∧ (∀ W, Below w.heap.size w W → Rd W av x.s.da) := by
  obtain ⟨f, h1, h2, h3⟩ := h
  obtain ⟨av, cv, h4, h5⟩ := h3 a x hx
  refine ⟨av, cv, fun W hb => ?_, fun W hb => ?_⟩
  · have := (h1.below hb).look Tryd.underlying3 Tryd.underlying52 (zero_found W) a ha
    rw [h4] at this
    exact this
  · obtain ⟨a9, c9, he9, hr9, -, -⟩ := h5.below hb
    cases he9
    exact hr9
set_option maxRecDepth 100000 in
theorem below_dr {B : Nat} {a w : World} (h : Below B a w) (n : Nat) : Below B a (w.drewN n) := ⟨h.os, h.tape, h.output, h.size, h.block⟩
set_option maxRecDepth 100000 in
theorem rd_one {w : World} {b o : Nat} {l : List Nat} (h : Rd w (some ⟨b, o, none⟩) l) (j : Nat) (hj : j < l.length) : Rd w (some ⟨b, o + j, none⟩) [l.getD j 0] := by
  obtain ⟨b', o', he, hc⟩ := h.2.2 (by omega)
  cases he
  refine ⟨fun x hx => ?_, by simp, fun _ => ⟨b, o + j, rfl, fun t ht => ?_⟩⟩
  · obtain rfl := List.mem_singleton.1 hx
    rw [List.getD_eq_getElem?_getD, List.getElem?_eq_getElem hj]
    exact h.1 _ (List.getElem_mem hj)
  · obtain rfl : t = 0 := by simp at ht; omega
    exact hc j hj
set_option maxRecDepth 100000 in
theorem c_progA {n a b : Nat} {d : List Nat} {r : List Int} (hu : gus n = (a : Int) :: (b : Int) :: r) (i : Nat) (hi : i < gP n) : (cA n a d i).program a i (page (yS d i)) 0 = (0, cA n a d (i + 1)) :=
  (putN_good (good_S0 n) a _ i).program (i := a) (by rw [hu]; simp) (page_length _ (by simp [yS])) 0 (by rw [(putN_a _ _ _ _).1, (S0_b n a).1, (putN_n _ _ _ _).2]; show (([] ++ (List.range i).map _ : List (List Nat)).length) < gP n; rw [List.nil_append, List.length_map, List.length_range]; exact hi) (by rw [(putN_a _ _ _ _).2]; exact (S0_b n a).2) i (by rw [(putN_a _ _ _ _).1, (S0_b n a).1]; simp)
set_option maxRecDepth 100000 in
theorem c_progB {n a b k : Nat} {d : List Nat} {r : List Int} (hu : gus n = (a : Int) :: (b : Int) :: r) (hab : a ≠ b) (i : Nat) (hi : i < gP n) : (cB n a b d k i).program b i (page (zS d a i)) 0 = (0, cB n a b d k (i + 1)) := by
  have hb : (cA n a d k).b b = (S0 n).b b := putN_b _ _ _ _ _ hab.symm
  exact (putN_good (putN_good (good_S0 n) a _ k) b _ i).program (i := b) (by rw [hu]; simp) (page_length _ (by simp [zS])) 0 (by
    show ((cB n a b d k i).b b).pages.length < (cB n a b d k i).pages
    unfold cB
    rw [(putN_a _ _ _ _).1, hb, (S0_b n b).1, (putN_n _ _ _ _).2]
    show (([] ++ (List.range i).map _ : List (List Nat)).length) < (putN _ _ _ _).pages
    rw [(putN_n _ _ _ _).2, List.nil_append, List.length_map, List.length_range]
    exact hi) (by
    show ((cB n a b d k i).b b).torn = false
    unfold cB
    rw [(putN_a _ _ _ _).2, hb]; exact (S0_b n b).2) i (by
    show (i : Int) = ((cB n a b d k i).b b).pages.length
    unfold cB
    rw [(putN_a _ _ _ _).1, hb, (S0_b n b).1]; simp)
set_option maxRecDepth 100000 in
theorem cB_np (n a b : Nat) (d : List Nat) (k c : Nat) : (cB n a b d k c).off = false ∧ (cB n a b d k c).n = gN n ∧ (cB n a b d k c).pages = gP n := by
  refine ⟨(putN_good (putN_good (good_S0 n) a _ k) b _ c).off, ?_, ?_⟩
  · unfold cB cA; rw [(putN_n _ _ _ _).1, (putN_n _ _ _ _).1]; rfl
  · unfold cB cA; rw [(putN_n _ _ _ _).2, (putN_n _ _ _ _).2]; rfl
set_option maxRecDepth 100000 in
theorem c_erase {n a b k c : Nat} {d : List Nat} {r : List Int} (hu : gus n = (a : Int) :: (b : Int) :: r) : (cB n a b d k c).erase a 0 = (0, cE n a b d k c) :=
  (putN_good (putN_good (good_S0 n) a _ k) b _ c).erase (by rw [hu]; simp) 0
/-- What All tells at each of the law's two rounds. -/
structure Told (n a b : Nat) (l : List Nat) (kk cc t : Nat) (s : Arr) (sp : List Int) (M L : List Fnd) : Prop where
  held : heldI (gCn n) s (gus n) = L
  take : takeS (gus n) L = (sp, M)
  keys : ∀ v, v ∈ keysL kk ↔ (best M v).isSome = true
  at_ : ∀ v : Nat, v < kk → ∃ x, best M v = some x ∧ x.s.da = [l.getD v 0]
  len : L.length ≤ 100000
  off : s.off = false
  n_ : s.n = gN n
  p_ : s.pages = gP n
  one : (sp.length = 1 ∧ t = 0 ∧ 0 < cc) ∨ (sp.length = 0 ∧ t = 1) ∨ (sp.length = 0 ∧ t = 0 ∧ cc = 0)
  kc : t = 1 → cc = kk
  st : t = 0 → s = cB n a b l kk cc
set_option maxRecDepth 100000 in
set_option maxHeartbeats 4000000 in
theorem copies_any (n : Nat) (hn : n < 256) (l : List Nat) (a1 : Option Addr) (c1 : Nat) (sm : Nat) (hsm : sm < 256) (w : World) (hr : Rd w a1 l) (hc1 : l.length ≤ c1) (hnil : a1 = none → c1 = 0) (hT : Tab w) :
    Calls Tryd.prog 5 #[.int .u8 n, .slice a1 l.length c1, .int .u8 sm] w (Yes w) := by
  have HAW := Lib.hid (awake_any w hT)
  have HT := Lib.hid hT
  have HRD := Lib.hid hr
  have HG := Lib.hid (fun W => (geometry_any n hn W : Calls Tryd.prog 10 #[.int .u8 n] W (Geos W n)))
  have hl48 := hr.2.1
  clear hT hr
  go_enter Tryd.func5, Tryd.ntmps5
  go_wp2_with fail
  (with_reducible refine HAW.out.mono ?_)
  rintro e w1 ⟨rfl, hb1⟩
  go_wp2_with fail
  (with_reducible refine (HG.out _).mono ?_)
  rintro e w2 ⟨ga, gc, rfl, hBd, hb2⟩
  obtain ⟨w3, hw3⟩ : ∃ w3, w3 = w2.alloc (Pn.boxed (gb n) (gp n) (gs n) ga (gB n).length gc) := ⟨_, rfl⟩
  have hb23 : Below w2.heap.size w2 w3 := by rw [hw3]; exact (Below.refl _ _).alloc (Nat.le_refl _) _
  have hb13 := (hb1.trans (hb2.mono hb1.size)).trans (hb23.mono (Nat.le_trans hb1.size hb2.size))
  have HN := Lib.hid (new_geo n w3 (HT.out.below hb13 HT.out.pos) ga gc (hBd.below hb23))
  have hgeo : w3.heap[w2.heap.size]? = some (Pn.boxed (gb n) (gp n) (gs n) ga (gB n).length gc) := by rw [hw3]; exact heap_alloc_new _ _
  have H3 := Lib.hid (And.intro (hBd.below hb23) (And.intro hb13 (And.intro hgeo (Array.getElem?_eq_some_iff.1 hgeo).1)))
  have HW3 := Lib.hid hw3
  rw [hw3] at HN
  unfold Pn.geo
  clear hb1 hb2 hb23 hb13 hBd hgeo hw3
  go_wp2_with fail
  (with_reducible refine HN.out.mono ?_)
  rintro e w4 ⟨g, rfl, hF4, hb4⟩
  rw [← HW3.out] at hF4 hb4
  obtain ⟨hBd3, hB3, hgeo3, hgl3⟩ := H3.out
  obtain ⟨⟨t0, t1, t2, t3⟩, -⟩ := four_cells ((hb4.block _ hgl3).trans hgeo3)
  have hU : Calls Tryd.prog 20 #[Pn.geo (gb n) (gp n) (gs n) ga (gB n).length gc] w4 (Pn.NewIntsF w4 (gus n)) := Pn.refusable_fr (gb n) (gp n) (gs n) (gB n) ga gc w4 ((hBd3.below hb4).rd) (Nat.le_trans (gB_len n) (by omega)) (by rw [gb_eq]; have := gN_le n; omega)
  unfold Pn.geo at hU
  have HU := Lib.hid hU
  have H4 := Lib.hid (And.intro hF4 hb4)
  clear hF4 hb4 hBd3 hB3 hgeo3 hgl3 hU
  go_wp2_with fail
  (with_reducible refine HU.out.mono ?_)
  rintro e w5 ⟨au, cu, rfl, hru5, hb5, hfr5⟩
  obtain ⟨ua, ub, ru, hus, hab, hrn, han, hbn, ha64, hb64⟩ := gus_two n hn
  rw [hus] at hru5
  obtain ⟨bu, ou, rfl, hcu⟩ := hru5 (by simp)
  have hcu0 := hcu 0 (by simp)
  have hcu1 := hcu 1 (by simp)
  simp only [List.getD_cons_zero, List.getD_cons_succ, Nat.add_zero] at hcu0 hcu1
  have hlus : (gus n).length = ru.length + 2 := by rw [hus]; simp
  have hb35 : Below w3.heap.size w3 w5 := H4.out.2.trans (hb5.mono H4.out.2.size)
  have H5 := Lib.hid (And.intro (H4.out.1.keep hb5) (And.intro hb35 (And.intro hus (And.intro hab hrn))))
  obtain ⟨hBd3, hB3, hgeo3, hgl3⟩ := H3.out
  obtain ⟨⟨t0, t1, t2, t3⟩, -⟩ := four_cells ((hb35.block _ hgl3).trans hgeo3)
  rw [hlus]
  have HGP := Lib.hid (gp_eq n)
  have hgp := gP_le n
  obtain ⟨P, hP⟩ : ∃ P, gP n = P := ⟨_, rfl⟩
  have HPP := Lib.hid hP
  rw [gp_eq, hP] at t1
  rw [hP] at hgp
  clear hru5 hb5 hfr5 hcu hus hlus hab hrn hb35 hBd3 hB3 hgeo3 hgl3 hP
  go_upto_if 48 with fail
  go_cut [13] from 48 to 50 (fun v wx => v = .int .i64 (min l.length P : Nat) ∧ wx = w5)
  case first =>
    by_cases h : (P : Int) < l.length
    · have hd : decide ((P : Int) < (l.length : Int)) = true := decide_eq_true h
      have HM := Lib.hid (show min l.length P = P by omega)
      go_wp2_with fail
      go_meet
      exact ⟨by rw [HM.out], rfl⟩
    · have hd : decide ((P : Int) < (l.length : Int)) = false := decide_eq_false h
      have HM := Lib.hid (show min l.length P = l.length by omega)
      go_wp2_with fail
      go_meet
      exact ⟨by rw [HM.out], rfl⟩
  case rest =>
    obtain ⟨rfl, rfl⟩ := hcut
    obtain ⟨hBd3, hB3, hgeo3, hgl3⟩ := H3.out
    have hsm : Plan.Small (gb n) (gp n) (gs n) := ⟨by have := gN_le n; rw [gb_eq]; omega, by have := gP_le n; rw [gp_eq]; omega, by unfold gs; split <;> omega⟩
    have HCP := Lib.hid (fun W (hb : Below w3.heap.size w3 W) => (show Calls Tryd.prog 21 #[.agg #[.int .i64 (gb n), .int .i64 P, .int .i64 (gs n), .slice ga (gB n).length gc]] W (fun e w' => e = .returned (.int .i64 (gCn n : Nat)) ∧ Below W.heap.size W w') from by
      have h := Pn.refcap_any (gb n) (gp n) (gs n) (gB n) ga gc W ((hBd3.below hb).rd) (Nat.le_trans (gB_len n) (by omega)) hsm (by rw [gb_eq]; have := gN_le n; omega)
      rw [show Plan.cap (gb n) (gp n) (gs n) (gB n) = gCn n from (gC_eq n hn).1] at h
      unfold Pn.geo at h
      rw [gp_eq, HPP.out] at h
      exact h))
    obtain ⟨C, hC⟩ : ∃ C, gCn n = C := ⟨_, rfl⟩
    have HCC := Lib.hid hC
    rw [hC] at HCP
    obtain ⟨m, hm⟩ : ∃ m, min l.length P = m := ⟨_, rfl⟩
    rw [hm]
    have hm5 : m ≤ P ∧ m ≤ l.length := by omega
    have HMM := Lib.hid hm
    have hcp5 := HCP.out _ H5.out.2.1
    clear hC hm hBd3 hB3 hgl3 hsm hgeo3
    have HC5 := Lib.hid hcp5
    clear hcp5
    go_wp2_with fail
    (with_reducible refine HC5.out.mono ?_)
    rintro e w6 ⟨rfl, hb6⟩
    have hb36 := H5.out.2.1.trans (hb6.mono H5.out.2.1.size)
    obtain ⟨hBd3, hB3, hgeo3, hgl3⟩ := H3.out
    obtain ⟨⟨t0, t1, t2, t3⟩, -⟩ := four_cells ((hb36.block _ hgl3).trans hgeo3)
    rw [gp_eq, HPP.out] at t1
    have HC6 := Lib.hid (HCP.out _ hb36)
    have HB6 := Lib.hid (And.intro hb36 (H5.out.1.keep hb6))
    clear hb36 hb6 hBd3 hB3 hgeo3 hgl3
    go_upto_if 54 with fail
    go_cut [13] from 54 to 56 (fun v wx => v = .int .i64 (min m C : Nat) ∧ Free w3.heap.size [] wx g (S0 n) ∧ Below w3.heap.size w3 wx)
    case first =>
      by_cases h : (C : Int) < m
      · have hd : decide ((C : Int) < (m : Int)) = true := decide_eq_true h
        have HM := Lib.hid (show min m C = C by omega)
        go_wp2_with fail
        (with_reducible refine HC6.out.mono ?_)
        rintro e w7 ⟨rfl, hb7⟩
        have H7 := Lib.hid (And.intro (HB6.out.2.keep hb7) (HB6.out.1.trans (hb7.mono HB6.out.1.size)))
        clear hb7
        go_wp2_with fail
        go_meet
        exact ⟨by rw [HM.out], H7.out⟩
      · have hd : decide ((C : Int) < (m : Int)) = false := decide_eq_false h
        have HM := Lib.hid (show min m C = m by omega)
        go_wp2_with fail
        go_meet
        exact ⟨by rw [HM.out], HB6.out.2, HB6.out.1⟩
    case rest =>
      obtain ⟨rfl, hF6, hb36⟩ := hcut
      obtain ⟨k, hk⟩ : ∃ k, min m C = k := ⟨_, rfl⟩
      rw [hk]
      have hk5 : k ≤ P ∧ k ≤ l.length ∧ k ≤ C := by omega
      clear hk hm5 HC5 HC6 HCP t0 t1 t2 t3
      rcases Nat.eq_zero_or_pos k with rfl | hk0
      · have HFIN := Lib.hid (H3.out.2.1.trans (hb36.mono H3.out.2.1.size))
        clear hF6 hb36
        go_wp2
        go_ret
        exact ⟨rfl, HFIN.out⟩
      · have hdk : ((k : Int) == 0) = false := by simp; omega
        have HS6 := Lib.hid (And.intro hF6 hb36)
        clear hF6 hb36
        obtain ⟨bp, op, rfl, -⟩ := HRD.out.2.2 (by omega)
        have hcap : k ≤ c1 := by omega
        go_wp2
        go_loopw [14] (fun iv wr => ∃ j : Nat, j ≤ k ∧ iv = .int .i64 j ∧ Free w3.heap.size [] wr g (cA n ua l j) ∧ Below w3.heap.size w3 wr) (fun iv _ => k - (intOf iv).toNat)
        case atStart => exact ⟨0, Nat.zero_le _, rfl, HS6.out.1, HS6.out.2⟩
        case round =>
          obtain ⟨j, hj, rfl, hF, hb⟩ := hrel
          by_cases hjk : j < k
          · have hjk2 : (j : Int) < (k : Int) := by omega
            have hjl : j < l.length := by omega
            have HL := Lib.hid (show Calls Tryd.prog 23 #[.agg #[.int .u8 1, .int .u64 0, .int .u64 (1 + (j : Int)), .int .i64 j, .int .i64 (-1), .slice (some ⟨bp, op + j, none⟩) 1 (c1 - j)]] wr (Gives wr (page (yS l j)) 96) from
              lay_gives (yS l j) (some ⟨bp, op + j, none⟩) (c1 - j) wr (yS_fm l j (by omega)) (rd_one (HRD.out.below (H3.out.2.1.trans (hb.mono H3.out.2.1.size))) j hjl) (by show 1 ≤ c1 - j; omega) (fun h => by cases h) hF.tab)
            have HP := Lib.hid (fun W (hb : Below wr.heap.size wr W) a c (hrd : Rd W a (page (yS l j))) => (show Calls Tryd.prog 22 #[.pointer (some ⟨g, 0, none⟩), .int .i64 ua, .int .i64 j, .slice a 96 c, .int .u64 0] W (fun e w' => e = .returned (.int .i64 0) ∧ Did2 w3.heap.size [] W g (cA n ua l (j + 1)) w') from (by
              have h := program_f (hF.keep hb) ua j (page (yS l j)) a c 0 hrd 96 (page_length _ (by simp [yS]))
              rw [c_progA H5.out.2.2.1 j (by rw [HPP.out]; omega)] at h
              exact h)))
            have HB := Lib.hid hb
            clear hF hb
            go_wp2_with fail
            (with_reducible refine HL.out.mono ?_)
            rintro e w10 ⟨a10, c10, rfl, hc10, hr10, hb10, -⟩
            have HP10 := Lib.hid (HP.out _ hb10 _ c10 hr10)
            have HB10 := Lib.hid (HB.out.trans (hb10.mono HB.out.size))
            clear hr10 hb10 hc10
            go_wp2_with fail
            (with_reducible refine HP10.out.mono ?_)
            rintro e w11 ⟨rfl, hD⟩
            have HS := Lib.hid (And.intro hD.free (HB10.out.trans hD.below))
            clear hD
            go_wp2
            go_roundw
            case rel => exact ⟨j + 1, by omega, by go_num, HS.out.1, HS.out.2⟩
            case measure => simp [intOf]; omega
          · obtain rfl : k = j := by omega
            have hjk2 : ¬ ((k : Int) < (k : Int)) := by omega
            have HS7 := Lib.hid (And.intro hF hb)
            obtain ⟨c, hc, hck⟩ : ∃ c : Nat, (sm : Int) % ((k : Int) + 1) = c ∧ c ≤ k := ⟨sm % (k + 1), rfl, by have := Nat.mod_lt sm (show 0 < k + 1 by omega); omega⟩
            clear hF hb
            go_wp2
            clear hc
            go_loopw [16] (fun iv wr => ∃ j : Nat, j ≤ c ∧ iv = .int .i64 j ∧ Free w3.heap.size [] wr g (cB n ua ub l k j) ∧ Below w3.heap.size w3 wr) (fun iv _ => c - (intOf iv).toNat)
            case atStart => exact ⟨0, Nat.zero_le _, rfl, HS7.out.1, HS7.out.2⟩
            case round =>
              obtain ⟨j, hj, rfl, hF, hb⟩ := hrel
              by_cases hjk : j < c
              · have hjk2 : (j : Int) < (c : Int) := by omega
                have hjl : j < l.length := by omega
                have HL := Lib.hid (show Calls Tryd.prog 23 #[.agg #[.int .u8 1, .int .u64 0, .int .u64 (100 + (j : Int)), .int .i64 j, .int .i64 ua, .slice (some ⟨bp, op + j, none⟩) 1 (c1 - j)]] _ (Gives _ (page (zS l ua j)) 96) from
                  lay_gives (zS l ua j) (some ⟨bp, op + j, none⟩) (c1 - j) _ (zS_fm l ua j (by omega) ha64) (rd_one (HRD.out.below (H3.out.2.1.trans (hb.mono H3.out.2.1.size))) j hjl) (by show 1 ≤ c1 - j; omega) (fun h => by cases h) hF.tab)
                have HP := Lib.hid (fun W hb a c (hrd : Rd W a (page (zS l ua j))) => (show Calls Tryd.prog 22 #[.pointer (some ⟨g, 0, none⟩), .int .i64 ub, .int .i64 j, .slice a 96 c, .int .u64 0] W (fun e w' => e = .returned (.int .i64 0) ∧ Did2 w3.heap.size [] W g (cB n ua ub l k (j + 1)) w') from (by
                  have h := program_f (hF.keep hb) ub j (page (zS l ua j)) a c 0 hrd 96 (page_length _ (by simp [zS]))
                  rw [c_progB H5.out.2.2.1 H5.out.2.2.2.1 j (by rw [HPP.out]; omega)] at h
                  exact h)))
                have HB := Lib.hid hb
                clear hF hb
                go_wp2_with fail
                (with_reducible refine HL.out.mono ?_)
                rintro e w10 ⟨a10, c10, rfl, hc10, hr10, hb10, -⟩
                have HP10 := Lib.hid (HP.out _ hb10 _ c10 hr10)
                have HB10 := Lib.hid (HB.out.trans (hb10.mono HB.out.size))
                clear hr10 hb10 hc10
                go_wp2_with fail
                (with_reducible refine HP10.out.mono ?_)
                rintro e w11 ⟨rfl, hD⟩
                have HS := Lib.hid (And.intro hD.free (HB10.out.trans hD.below))
                clear hD
                go_wp2
                go_roundw
                case rel => exact ⟨j + 1, by omega, by go_num, HS.out.1, HS.out.2⟩
                case measure => simp [intOf]; omega
              · obtain rfl : c = j := by omega
                have hjk2 : ¬ ((c : Int) < (c : Int)) := by omega
                have hT0 : ∃ sp M L, Told n ua ub l k c 0 (cB n ua ub l k c) sp M L := by
                  obtain ⟨hus, hab, hrn⟩ := H5.out.2.2
                  have hP := HPP.out
                  have hkC : k ≤ gCn n + 1 := by rw [HCC.out]; omega
                  have hd := HRD.out.1
                  have hB := c_heldB hus hab hrn hd ha64 (gCn n) hkC (by omega) hck
                  have hr0 : ∀ i ∈ ru, 0 ≤ i := fun i hi => by have := (gus_rng n i (by rw [hus]; simp [hi])).1; omega
                  refine ⟨if 0 < c then [(ub : Int)] else [], yL l ua k, _, hB, ?_, keys_yL, fun v hv => ⟨_, best_yL v hv, rfl⟩, ?_, (cB_np n ua ub l k c).1, (cB_np n ua ub l k c).2.1, (cB_np n ua ub l k c).2.2, ?_, (fun h => absurd h (by decide)), fun _ => rfl⟩
                  · by_cases h0 : 0 < c
                    · rw [if_pos h0]; exact c_takeB hus hab hrn hr0 h0 hck
                    · obtain rfl : c = 0 := by omega
                      exact c_take0
                  · unfold yL zL; simp; omega
                  · by_cases h0 : 0 < c
                    · rw [if_pos h0]; exact .inl ⟨rfl, rfl, h0⟩
                    · rw [if_neg h0]; exact .inr (.inr ⟨rfl, rfl, by omega⟩)
                have hT1 : c = k → ∃ sp M L, Told n ua ub l k c 1 (cE n ua ub l k c) sp M L := by
                  intro hck2
                  obtain ⟨hus, hab, hrn⟩ := H5.out.2.2
                  have hP := HPP.out
                  have hkC : k ≤ gCn n + 1 := by rw [HCC.out]; omega
                  have hd := HRD.out.1
                  have hE := c_heldE hus hab hrn hd ha64 (gCn n) hkC (by omega) hck
                  refine ⟨[], zL l ua ub c, _, hE, c_takeE hab, by rw [← hck2]; exact keys_zL, fun v hv => ⟨_, best_zL v (by omega), rfl⟩, ?_, (cB_np n ua ub l k c).1, (cB_np n ua ub l k c).2.1, (cB_np n ua ub l k c).2.2, .inr (.inl ⟨rfl, rfl⟩), fun _ => hck2, fun h => absurd h (by decide)⟩
                  unfold zL; simp; omega
                have HT0 := Lib.hid hT0
                have HT1 := Lib.hid hT1
                have HS8 := Lib.hid (And.intro hF hb)
                clear hF hb hT0 hT1
                have hHS := Lib.hid (fun t (h : t ≤ 1) (hc : t = 1 → c = k) => (show ∃ s sp M L, Told n ua ub l k c t s sp M L from by
                  rcases Nat.eq_zero_or_pos t with rfl | h0
                  · obtain ⟨sp, M, L, h⟩ := HT0.out; exact ⟨_, sp, M, L, h⟩
                  · obtain rfl : t = 1 := by omega
                    obtain ⟨sp, M, L, h⟩ := HT1.out (hc rfl); exact ⟨_, sp, M, L, h⟩))
                go_wp2
                go_loopw [17] (fun iv wr => ∃ t : Nat, t ≤ 2 ∧ iv = .int .i64 t ∧ Below w.heap.size w wr ∧ (t < 2 → ∃ s sp M L, Told n ua ub l k c t s sp M L ∧ Free w3.heap.size [] wr g s ∧ Below w3.heap.size w3 wr)) (fun iv _ => 2 - (intOf iv).toNat)
                case atStart =>
                  obtain ⟨sp, M, L, h⟩ := HT0.out
                  exact ⟨0, Nat.zero_le _, rfl, H3.out.2.1.trans (HS8.out.2.mono H3.out.2.1.size), fun _ => ⟨_, sp, M, L, h, HS8.out.1, HS8.out.2⟩⟩
                case round =>
                  obtain ⟨t, ht, rfl, hbw, hst⟩ := hrel
                  by_cases ht2 : t < 2
                  · have ht3 : (t : Int) < 2 := by omega
                    obtain ⟨s, sp, M, L, told, hF, hb3⟩ := hst ht2
                    obtain ⟨hBd3, hB3, hgeo3, hgl3⟩ := H3.out
                    obtain ⟨⟨t0, t1, t2, t3⟩, -⟩ := four_cells ((hb3.block _ hgl3).trans hgeo3)
                    obtain ⟨F, hA, -, -⟩ := hF.arr
                    have hgm := geom_of hn (s := s) (hBd3.below hb3) told.n_ told.p_
                    have hAll := all_on (c := gc) hA hgm told.off hF.tab (by
                      show (heldI (gCn n) s (gus n)).length ≤ _
                      rw [told.held]; exact told.len)
                    rw [show usb (gb n) (gB n) = gus n from rfl, told.held] at hAll
                    unfold AllOk Pn.geo at hAll
                    rw [told.take] at hAll
                    dsimp only at hAll
                    have HA := Lib.hid hAll
                    have HTD := Lib.hid (And.intro told (And.intro hF (And.intro hb3 hbw)))
                    clear hAll hgm hA hF hb3 hbw told hBd3 hB3 hgeo3 hgl3 hst
                    go_wp2_with fail
                    (with_reducible refine HA.out.mono ?_)
                    rintro e w14 ⟨g0, pb0, cb0, pb, N, sa, sc, rfl, -, hPa, -, hb14⟩
                    obtain ⟨w15, hw15⟩ : ∃ w15, w15 = w14.alloc (.cells #[.pointer (some ⟨g0, 0, none⟩), .map (some pb), .int .u64 (most L : Nat), .slice sa sp.length sc] 54) := ⟨_, rfl⟩
                    have hbs : Below w14.heap.size w14 w15 := by rw [hw15]; exact (Below.refl _ _).alloc (Nat.le_refl _) _
                    have hb15 : Below wr.heap.size wr w15 := hb14.trans (hbs.mono hb14.size)
                    have hP15 := hPa.below hbs
                    have hgs : w15.heap[w14.heap.size]? = some (.cells #[.pointer (some ⟨g0, 0, none⟩), .map (some pb), .int .u64 (most L : Nat), .slice sa sp.length sc] 54 (0, 0)) := by rw [hw15]; exact heap_alloc_new _ _
                    have hln : (Builtin.len_ #[52] 3 #[.map (some pb)]).run Tryd.prog w15 = .ok (.int .i64 k) w15 := by
                      have h := keys_of hP15 (keysL k) (keysL_nodup k) HTD.out.1.keys 3
                      rw [keysL_len] at h
                      exact h
                    obtain ⟨⟨y0, y1, y2, y3⟩, -⟩ := four_cells hgs
                    have H15 := Lib.hid (And.intro hb15 (And.intro hP15 hgs))
                    have HW15 := Lib.hid hw15
                    rw [hw15] at hln y0 y1 y2 y3
                    clear hw15 hbs hb15 hP15 hgs hPa hb14
                    clear t0 t1 t2 t3
                    go_upto_region 28 with fail
                    go_cut [136] from 115 to 135 (fun v wx => v = .bool false ∧ w15 = wx)
                    case first =>
                      rcases HTD.out.1.one with ⟨hsp, rfl, hc0⟩ | ⟨hsp, rfl⟩ | ⟨hsp, rfl, rfl⟩
                      · have hdc : decide ((0 : Int) < (c : Int)) = true := decide_eq_true (by omega)
                        have hsb : ((sp.length : Int) == 1) = true := by rw [hsp]; rfl
                        clear hsp
                        go_wp2_with fail
                        go_meet
                        exact ⟨rfl, HW15.out⟩
                      · have hsb : ((sp.length : Int) == 1) = false := by rw [hsp]; rfl
                        clear hsp
                        go_wp2_with fail
                        go_meet
                        exact ⟨rfl, HW15.out⟩
                      · have hsb : ((sp.length : Int) == 1) = false := by rw [hsp]; rfl
                        clear hsp
                        go_wp2_with fail
                        go_meet
                        exact ⟨rfl, HW15.out⟩
                    case rest =>
                      obtain ⟨rfl, rfl⟩ := hcut
                      clear hln y0 y1 y2 y3
                      have hbw15 : Below w.heap.size w w15 := HTD.out.2.2.2.trans (H15.out.1.mono HTD.out.2.2.2.size)
                      have HBW15 := Lib.hid hbw15
                      clear hbw15
                      go_wp2
                      go_loopw [20] (fun iv wx => ∃ i : Nat, i ≤ k ∧ iv = .int .i64 i ∧ Below w15.heap.size w15 wx) (fun iv _ => k - (intOf iv).toNat)
                      case atStart => exact ⟨0, Nat.zero_le _, rfl, Below.refl _ _⟩
                      case round =>
                        obtain ⟨i, hi, rfl, hbx⟩ := hrel
                        by_cases hik : i < k
                        · have hik2 : (i : Int) < (k : Int) := by omega
                          obtain ⟨x, hbest, hda⟩ := HTD.out.1.at_ i hik
                          obtain ⟨av, cv, hlk0, hdx⟩ := page_all H15.out.2.1 i (wf_of (by omega) (by omega)) x hbest
                          have hl1 : x.s.da.length = 1 := by rw [hda]; rfl
                          have hlk := fun m => hlk0 (wr.drewN m) (below_dr hbx m)
                          have hcv := fun m => conv_str (wr.drewN m) av x.s.da cv (hdx _ (below_dr hbx m))
                          have hcw := fun m => conv_str (wr.drewN m) _ _ (c1 - i) (rd_one (HRD.out.below (HBW15.out.trans ((below_dr hbx m).mono HBW15.out.size))) i (by omega))
                          rw [← hda] at hcw
                          simp only [hl1] at hcv hcw
                          unfold fv at hlk
                          simp only [hl1] at hlk
                          clear hlk0 hdx
                          obtain ⟨⟨y0, y1, y2, y3⟩, -⟩ := four_cells ((hbx.block _ (lt_of_block H15.out.2.2)).trans H15.out.2.2)
                          generalize strOf x.s.da = S at *
                          have hss : (S.toList == S.toList) = true := by simp
                          have hf1 := fun (w : World) => field_s (.int .i64 x.b) (.int .i64 x.p) (.int .u8 x.s.k) (.int .u64 x.s.ep) (.int .u64 x.s.sq) (.int .i64 x.s.ad) (.int .i64 x.s.fr) (.slice av 1 cv) w
                          have hf2 := fun (w : World) => field_da (.int .u8 x.s.k) (.int .u64 x.s.ep) (.int .u64 x.s.sq) (.int .i64 x.s.ad) (.int .i64 x.s.fr) av 1 cv w
                          have HBX := Lib.hid hbx
                          clear hbx hda hl1 hbest
                          have hw1 : IntKind.i64.wrap ((i : Int) + 1) = (i : Int) + 1 := IntWalk.i64_in _ (by omega)
                          have hw2 : (0 : Int) ≤ (i : Int) + 1 := by omega
                          have hw3 : ((i : Int) + 1).toNat = i + 1 := by omega
                          go_wp2_with fail
                          go_quiet (fail)
                          go_wp2
                          go_roundw
                          case rel => exact ⟨i + 1, by omega, by go_num, below_dr HBX.out _⟩
                          case measure => simp [intOf]; omega
                        · obtain rfl : k = i := by omega
                          have hik2 : ¬ ((k : Int) < (k : Int)) := by omega
                          have HBX := Lib.hid hbx
                          have hb3x := HTD.out.2.2.1.trans ((H15.out.1.trans (hbx.mono H15.out.1.size)).mono HTD.out.2.2.1.size)
                          have HE := Lib.hid (And.intro (show Calls Tryd.prog 24 #[.pointer (some ⟨g, 0, none⟩), .int .i64 ua, .int .u64 0] _ (fun e w' => e = .returned (.int .i64 (s.erase ua 0).1) ∧ Did2 w3.heap.size [] _ g (s.erase ua 0).2 w') from erase_f (HTD.out.2.1.keep (H15.out.1.trans (hbx.mono H15.out.1.size))) ua 0) (And.intro hb3x (HBW15.out.trans (hbx.mono HBW15.out.size))))
                          clear hbx hb3x
                          by_cases hlt : c < k
                          · have hlt2 : (c : Int) < (k : Int) := by omega
                            go_wp2_with fail
                            go_ret
                            exact ⟨rfl, HE.out.2.2⟩
                          · have hlt2 : ¬ ((c : Int) < (k : Int)) := by omega
                            go_wp2_with fail
                            (with_reducible refine HE.out.1.mono ?_)
                            rintro e w16 ⟨rfl, hD⟩
                            have HS := Lib.hid (show ∀ t' : Nat, t' = t + 1 → Below w.heap.size w w16 ∧ (t' < 2 → ∃ s sp M L, Told n ua ub l k c t' s sp M L ∧ Free w3.heap.size [] w16 g s ∧ Below w3.heap.size w3 w16) from by
                              intro t' ht'
                              have hb16 := HE.out.2.1.trans hD.below
                              refine ⟨H3.out.2.1.trans (hb16.mono H3.out.2.1.size), fun h2 => ?_⟩
                              obtain rfl : t = 0 := by omega
                              subst ht'
                              obtain ⟨sp', M', L', h'⟩ := HT1.out (by omega)
                              refine ⟨_, sp', M', L', h', ?_, hb16⟩
                              have hf := hD.free
                              rw [HTD.out.1.st rfl, c_erase H5.out.2.2.1] at hf
                              exact hf)
                            clear hD
                            go_wp2
                            go_roundw
                            case rel => exact ⟨t + 1, by omega, by go_num, (HS.out _ rfl).1, (HS.out _ rfl).2⟩
                            case measure => simp [intOf]; omega
                  · obtain rfl : t = 2 := by omega
                    have HFIN := Lib.hid hbw
                    clear hbw hst
                    go_wp2
                    go_ret
                    exact ⟨rfl, HFIN.out⟩
end Go.Proofs.YtmhmmemmdekjhaaDoor.Sc
