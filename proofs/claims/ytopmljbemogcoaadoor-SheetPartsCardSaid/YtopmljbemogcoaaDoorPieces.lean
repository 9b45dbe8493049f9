/- Each part of a sheet stands in its bytes: two sheets that are alike but for one part have pages that are alike but there, and in the sum. -/
import Derived.Test.YtopmljbemogcoaaDoorBack
import Derived.Laws.BitsAllLaws
namespace Drawbar.Sheet
open Go.Proofs.YtopmljbemogcoaaDoor Go
theorem i64_xor_nat (a b : Nat) (ha : a < 9223372036854775808) (hb : b < 9223372036854775808) : bits .xor .i64 (a : Int) (b : Int) = ((a ^^^ b : Nat) : Int) := by
  have hx : a ^^^ b < 2 ^ 63 := Nat.xor_lt_two_pow (by omega) (by omega)
  show IntKind.i64.wrap ((BitVec.ofInt 64 (a : Int) ^^^ BitVec.ofInt 64 (b : Int)).toNat : Int) = _
  rw [BitVec.toNat_xor, ofInt_u64 a (by omega), ofInt_u64 b (by omega), IntKind.wrap_i64]
  omega

theorem seg_eq (A M M' R : List Nat) (hlen : M.length = M'.length) (j : Nat) (hj : j < A.length ∨ A.length + M.length ≤ j) : (A ++ (M ++ R)).getD j 0 = (A ++ (M' ++ R)).getD j 0 := by
  rw [List.getD_eq_getElem?_getD, List.getD_eq_getElem?_getD]
  congr 1
  rcases hj with hj | hj
  · rw [List.getElem?_append_left hj, List.getElem?_append_left hj]
  · rw [List.getElem?_append_right (by omega), List.getElem?_append_right (by omega), List.getElem?_append_right (by omega), List.getElem?_append_right (by omega), hlen]

/-- Pages whose sealed bytes are alike at j. -/
theorem page_at {x y : Sh} (hx : x.da.length ≤ 64) (hy : y.da.length ≤ 64) (j : Nat) (hj : j < 91 ∧ (body x).getD j 0 = (body y).getD j 0 ∨ 95 ≤ j) : (page x).getD j 0 = (page y).getD j 0 := by
  have bx := body_length x hx
  have by' := body_length y hy
  unfold page
  rw [List.getD_eq_getElem?_getD, List.getD_eq_getElem?_getD]
  rcases hj with ⟨h1, h2⟩ | h1
  · rw [List.append_assoc, List.append_assoc, List.getElem?_append_left (by omega), List.getElem?_append_left (by omega), ← List.getD_eq_getElem?_getD, ← List.getD_eq_getElem?_getD]
    exact h2
  · rw [List.getElem?_append_right (by rw [List.length_append, bx, put_length]; omega), List.getElem?_append_right (by rw [List.length_append, by', put_length]; omega), List.length_append, List.length_append, bx, by', put_length, put_length]

theorem body_ep (s : Sh) : body s = put s.k 1 ++ (put s.ep 6 ++ (put s.sq 6 ++ (put s.ad.toNat 2 ++ (put (s.fr + 1).toNat 1 ++ (laid1 s.da ++ List.replicate (73 - s.da.length) 0))))) := by
  unfold body head
  simp only [List.append_assoc]
theorem body_sq (s : Sh) : body s = (put s.k 1 ++ put s.ep 6) ++ (put s.sq 6 ++ (put s.ad.toNat 2 ++ (put (s.fr + 1).toNat 1 ++ (laid1 s.da ++ List.replicate (73 - s.da.length) 0)))) := by
  unfold body head
  simp only [List.append_assoc]
theorem body_ad (s : Sh) : body s = ((put s.k 1 ++ put s.ep 6) ++ put s.sq 6) ++ (put s.ad.toNat 2 ++ (put (s.fr + 1).toNat 1 ++ (laid1 s.da ++ List.replicate (73 - s.da.length) 0))) := by
  unfold body head
  simp only [List.append_assoc]
theorem body_fr (s : Sh) : body s = (((put s.k 1 ++ put s.ep 6) ++ put s.sq 6) ++ put s.ad.toNat 2) ++ (put (s.fr + 1).toNat 1 ++ (laid1 s.da ++ List.replicate (73 - s.da.length) 0)) := by
  unfold body head
  simp only [List.append_assoc]

/-- A sheet, one part of which is another. -/
structure Near1 (x y : Sh) (lo hi : Nat) : Prop where
  fy : fm y = true
  da : y.da = x.da
  out : ∀ j, j < 96 → (page x).getD j 0 ≠ (page y).getD j 0 → (lo ≤ j ∧ j < hi) ∨ (91 ≤ j ∧ j < 95)

theorem near_of {x y : Sh} {lo hi : Nat} (hx : fm x = true) (hy : fm y = true) (hd : y.da = x.da) (h : ∀ j, j < lo ∨ hi ≤ j → (body x).getD j 0 = (body y).getD j 0) : Near1 x y lo hi := by
  refine ⟨hy, hd, fun j hj hne => ?_⟩
  by_cases h1 : lo ≤ j ∧ j < hi
  · exact .inl h1
  · by_cases h2 : 91 ≤ j ∧ j < 95
    · exact .inr h2
    · exfalso
      apply hne
      refine page_at (fm_len hx) (fm_len hy) j ?_
      by_cases h3 : j < 91
      · exact .inl ⟨h3, h j (by omega)⟩
      · exact .inr (by omega)

theorem xor_lt48 (a b : Nat) (ha : a ≤ 281474976710655) (hb : b < 257) : a ^^^ b ≤ 281474976710655 := by
  have := Nat.xor_lt_two_pow (n := 48) (x := a) (y := b) (by omega) (by omega)
  omega
theorem near_ep {x : Sh} (hx : fm x = true) (b : Nat) (hb : b < 257) : Near1 x { x with ep := x.ep ^^^ b } 1 7 := by
  have h := of_decide_eq_true hx
  have hy : fm { x with ep := x.ep ^^^ b } = true := decide_eq_true ⟨h.1, h.2.1, xor_lt48 _ _ h.2.2.1 hb, h.2.2.2⟩
  refine near_of hx hy rfl fun j hj => ?_
  rw [body_ep, body_ep]
  exact seg_eq _ _ _ _ (by simp [put_length]) j (by simp [put_length]; omega)
theorem near_sq {x : Sh} (hx : fm x = true) (b : Nat) (hb : b < 257) : Near1 x { x with sq := x.sq ^^^ b } 7 13 := by
  have h := of_decide_eq_true hx
  have hy : fm { x with sq := x.sq ^^^ b } = true := decide_eq_true ⟨h.1, h.2.1, h.2.2.1, xor_lt48 _ _ h.2.2.2.1 hb, h.2.2.2.2⟩
  refine near_of hx hy rfl fun j hj => ?_
  rw [body_sq, body_sq]
  exact seg_eq _ _ _ _ (by simp [put_length]) j (by simp [put_length]; omega)
theorem near_ad {x : Sh} (hx : fm x = true) (b : Nat) (hb : b < 257) : Near1 x { x with ad := ((x.ad.toNat ^^^ b : Nat) : Int) } 13 15 := by
  have h := of_decide_eq_true hx
  have h1 := h.2.2.2.2.1
  have h2 := h.2.2.2.2.2.1
  have h3 := Nat.xor_lt_two_pow (n := 16) (x := x.ad.toNat) (y := b) (by omega) (by omega)
  have hy : fm { x with ad := ((x.ad.toNat ^^^ b : Nat) : Int) } = true := decide_eq_true ⟨h.1, h.2.1, h.2.2.1, h.2.2.2.1, by dsimp only; omega, by dsimp only; omega, h.2.2.2.2.2.2⟩
  refine near_of hx hy rfl fun j hj => ?_
  rw [body_ad, body_ad]
  exact seg_eq _ _ _ _ (by simp [put_length]) j (by simp [put_length]; omega)
theorem near_fr {x : Sh} (hx : fm x = true) (f : Int) (hf : -1 ≤ f ∧ f ≤ 63) : Near1 x { x with fr := f } 15 16 := by
  have h := of_decide_eq_true hx
  have hy : fm { x with fr := f } = true := decide_eq_true ⟨h.1, h.2.1, h.2.2.1, h.2.2.2.1, h.2.2.2.2.1, h.2.2.2.2.2.1, hf.1, hf.2, h.2.2.2.2.2.2.2.2⟩
  refine near_of hx hy rfl fun j hj => ?_
  rw [body_fr, body_fr]
  exact seg_eq _ _ _ _ (by simp [put_length]) j (by simp [put_length]; omega)
end Drawbar.Sheet
