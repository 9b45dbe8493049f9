/- What an array holds, as plain data: found pages, what a block has, which blocks are spoilt, the newest page of each address. -/
import Derived.Test.YtkapnpcolmhdbaaDoorRead
import Derived.Test.YtkapnpcolmhdbaaDoorNdState
namespace Drawbar.Scan
open Drawbar Drawbar.Sheet Drawbar.Nand

theorem snocRec {α : Type} {P : List α → Prop} (nil : P []) (append : ∀ l x, P l → P (l ++ [x])) (l : List α) : P l := by
  have h : ∀ r : List α, P r.reverse := fun r => by
    induction r with
    | nil => exact nil
    | cons x r ih => rw [List.reverse_cons]; exact append _ x ih
  have := h l.reverse
  rwa [List.reverse_reverse] at this
/-- A page that is whole: its block, its place there, what stands on it. -/
structure Fnd where
  b : Nat
  p : Nat
  s : Sh

/-- The sheet on a page, if it is one, of an address up to m. -/
noncomputable def adr (m : Int) (l : List Nat) : Option Sh := if (readS l).2 = 0 ∧ (readS l).1.k ≠ 3 ∧ (readS l).1.ad ≤ m then some (readS l).1 else none
noncomputable def one (m : Int) (i j : Nat) (l : List Nat) : List Fnd := match adr m l with
  | some x => [⟨i, j, x⟩]
  | none => []
/-- The first n pages. -/
noncomputable def foundTo (m : Int) (i : Nat) (pages : List (List Nat)) : Nat → List Fnd
  | 0 => []
  | n + 1 => foundTo m i pages n ++ one m i n (pages.getD n [])
noncomputable def blockF (m : Int) (s : Arr) (i : Nat) : List Fnd := if (s.b i).torn = true then [] else foundTo m i (s.b i).pages (s.b i).pages.length
theorem one_len (m : Int) (i j : Nat) (l : List Nat) : (one m i j l).length ≤ 1 := by unfold one; split <;> simp
theorem foundTo_len (m : Int) (i : Nat) (pages : List (List Nat)) (n : Nat) : (foundTo m i pages n).length ≤ n := by
  induction n with
  | zero => simp [foundTo]
  | succ n ih => have := one_len m i n (pages.getD n []); rw [foundTo, List.length_append]; omega
theorem blockF_len (m : Int) (s : Arr) (i : Nat) : (blockF m s i).length ≤ (s.b i).pages.length := by
  unfold blockF; split
  · simp
  · exact foundTo_len _ _ _ _
/-- What is found is of an address. -/
structure Fit (m : Int) (n q : Nat) (x : Fnd) : Prop where
  b : x.b < n
  p : x.p < q
  ad0 : 0 ≤ x.s.ad
  ad1 : x.s.ad ≤ m
  ad2 : x.s.ad ≤ 65535
  k : x.s.k = 1 ∨ x.s.k = 2
  fr : -1 ≤ x.s.fr ∧ x.s.fr ≤ 63
  sq : x.s.sq ≤ 281474976710655
  ep : x.s.ep ≤ 281474976710655
  da : x.s.da.length ≤ 64
theorem readS_ok {l : List Nat} (h : (readS l).2 = 0) : fm (readS l).1 = true ∧ page (readS l).1 = l := by
  unfold readS at h ⊢
  split at h
  · rename_i h1
    split at h
    · rename_i h2
      split at h
      · rename_i h3
        rw [if_pos h1, if_pos h2, if_pos h3]
        exact h3
      · cases h
    · cases h
  · cases h
theorem fm_true {s : Sh} (h : fm s = true) : 1 ≤ s.k ∧ s.k ≤ 3 ∧ s.ep ≤ 281474976710655 ∧ s.sq ≤ 281474976710655 ∧ 0 ≤ s.ad ∧ s.ad ≤ 65535 ∧ -1 ≤ s.fr ∧ s.fr ≤ 63 ∧ s.da.length ≤ 64 := by
  have h9 := fm_len h
  unfold fm at h
  simp at h
  omega
theorem adr_fit {m : Int} {l : List Nat} {x : Sh} (h : adr m l = some x) (i j n q : Nat) (hi : i < n) (hj : j < q) : Fit m n q ⟨i, j, x⟩ := by
  unfold adr at h
  split at h
  · rename_i h1
    obtain ⟨h1, h2, h3⟩ := h1
    have hf := fm_true (readS_ok h1).1
    cases h
    exact ⟨hi, hj, hf.2.2.2.2.1, h3, hf.2.2.2.2.2.1, (by dsimp only; omega), (by dsimp only; omega), hf.2.2.2.1, hf.2.2.1, hf.2.2.2.2.2.2.2.2⟩
  · cases h
theorem foundTo_fit {m : Int} {i : Nat} {pages : List (List Nat)} {n q : Nat} (hi : i < n) : ∀ k, k ≤ q → ∀ x ∈ foundTo m i pages k, Fit m n q x ∧ x.b = i := by
  intro k
  induction k with
  | zero => intro _ x hx; cases hx
  | succ k ih =>
    intro hk x hx
    rcases List.mem_append.1 hx with h | h
    · exact ih (by omega) x h
    · unfold one at h
      split at h
      · rename_i y hy
        obtain rfl := List.mem_singleton.1 h
        exact ⟨adr_fit hy i k n q hi (by omega), rfl⟩
      · cases h
theorem blockF_fit {m : Int} {s : Arr} {i q : Nat} (hi : i < s.n) (hq : (s.b i).pages.length ≤ q) : ∀ x ∈ blockF m s i, Fit m s.n q x ∧ x.b = i := by
  intro x hx
  unfold blockF at hx
  split at hx
  · cases hx
  · exact foundTo_fit hi _ hq x hx

/-- What some blocks hold, one behind the other. -/
noncomputable def heldTo (m : Int) (s : Arr) (us : List Nat) : List Fnd := us.flatMap (blockF m s)
/-- The pages of a block. -/
def of (i : Int) (L : List Fnd) : List Fnd := L.filter fun x => decide ((x.b : Int) = i)
theorem of_len (i : Int) (L : List Fnd) : (of i L).length ≤ L.length := List.length_filter_le _ _
theorem of_append (i : Int) (L M : List Fnd) : of i (L ++ M) = of i L ++ of i M := List.filter_append ..
/-- A page of which the copy c can be. -/
def stem (c x : Sh) : Bool := ((decide (x.k = c.k) && decide (x.ad = c.ad)) && decide (x.sq < c.sq)) && decide (x.da = c.da)
def stands (L : List Fnd) (i : Int) (c : Sh) : Bool := (of i L).any fun x => stem c x.s
/-- Is a block but the beginning of a copying? -/
def spoilt (L : List Fnd) (i : Int) : Bool :=
  match of i L with
  | [] => false
  | x :: r => (x :: r).all fun y => decide (y.s.fr = x.s.fr) && stands L x.s.fr y.s
/-- Those that are, of some blocks, one behind the other; what is left. -/
def takeS : List Int → List Fnd → List Int × List Fnd
  | [], L => ([], L)
  | i :: us, L => if spoilt L i = true then
      let r := takeS us (L.filter fun x => !decide ((x.b : Int) = i)); (i :: r.1, r.2)
    else takeS us L
def most (L : List Fnd) : Nat := L.foldl (fun a x => max a x.s.sq) 0
/-- The newest page of an address. -/
def step (a : Int) (o : Option Fnd) (x : Fnd) : Option Fnd := if x.s.ad = a then (match o with
  | some y => if y.s.sq < x.s.sq then some x else some y
  | none => some x) else o
def best (L : List Fnd) (a : Int) : Option Fnd := L.foldl (step a) none
theorem best_snoc (L : List Fnd) (x : Fnd) (a : Int) : best (L ++ [x]) a = step a (best L a) x := by simp [best, List.foldl_append]
theorem best_mem (L : List Fnd) (a : Int) : ∀ x, best L a = some x → x ∈ L ∧ x.s.ad = a := by
  induction L using snocRec with
  | nil => intro x h; cases h
  | append L y ih =>
    intro x h
    rw [best_snoc] at h
    unfold step at h
    split at h
    · rename_i hy
      cases hz : best L a with
      | none => rw [hz] at h; cases h; exact ⟨by simp, hy⟩
      | some z =>
        rw [hz] at h
        dsimp only at h
        split at h
        · cases h; exact ⟨by simp, hy⟩
        · have := ih z hz; cases h; exact ⟨List.mem_append_left _ this.1, this.2⟩
    · have := ih x h; exact ⟨List.mem_append_left _ this.1, this.2⟩
end Drawbar.Scan
