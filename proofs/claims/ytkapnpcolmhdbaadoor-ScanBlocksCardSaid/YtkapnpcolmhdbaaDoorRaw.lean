/- A sheet as the document reads it off a page's bytes: the same answers as Read. -/
import Derived.Test.YtkapnpcolmhdbaaDoorBack
namespace Drawbar.Sheet
open Go.Proofs.YtkapnpcolmhdbaaDoor
def rawN (l : List Nat) : Nat := l.getD 16 0 + 256 * l.getD 17 0
def rawS (l : List Nat) : Sh := ⟨l.getD 0 0, Crc.le ((l.drop 1).take 6), Crc.le ((l.drop 7).take 6), Crc.le ((l.drop 13).take 2), (l.getD 15 0 : Int) - 1, (l.drop 18).take (rawN l)⟩

set_option maxRecDepth 100000 in
theorem seg {a b c : List Nat} {n k : Nat} (hn : a.length = n) (hk : b.length = k) : ((a ++ (b ++ c)).drop n).take k = b := by
  subst hn hk
  rw [List.drop_left, List.take_left]
set_option maxRecDepth 100000 in
theorem at_seg {a c : List Nat} {x n : Nat} (hn : a.length = n) : (a ++ (x :: c)).getD n 0 = x := by
  subst hn
  rw [List.getD_eq_getElem?_getD, List.getElem?_append_right (Nat.le_refl _), Nat.sub_self]
  rfl
set_option maxRecDepth 100000 in
theorem put1 {n : Nat} (h : n < 256) : put n 1 = [n] := by
  show [n / 2 ^ (8 * 0) % 256] = [n]
  congr 1
  simp
  omega
set_option maxRecDepth 100000 in
theorem put2 (n : Nat) (h : n < 65536) : put n 2 = [n % 256, n / 256] := by
  show [n / 2 ^ (8 * 0) % 256, n / 2 ^ (8 * 1) % 256] = [n % 256, n / 256]
  congr 1
  · simp
  · congr 1
    omega

set_option maxRecDepth 100000 in
theorem raw_back {s : Sh} (hf : fm s = true) : rawS (body s) = s ∧ rawN (body s) = s.da.length := by
  obtain ⟨a1, a2, a3, a4, a5, a6, a7, a8, a9⟩ := of_decide_eq_true hf
  have hl := fm_len hf
  obtain ⟨z, hz⟩ : ∃ z, z = List.replicate (73 - s.da.length) 0 := ⟨_, rfl⟩
  have hb : body s = s.k :: (put s.ep 6 ++ (put s.sq 6 ++ (put s.ad.toNat 2 ++ ((s.fr + 1).toNat :: (s.da.length % 256 :: (s.da.length / 256 :: (s.da ++ z))))))) := by
    unfold body head laid1
    rw [← hz, put1 (n := s.k) (by omega), put1 (n := (s.fr + 1).toNat) (by omega), put2 s.da.length (by omega)]
    simp only [List.append_assoc, List.cons_append, List.nil_append]
  have e0 : (body s).getD 0 0 = s.k := by rw [hb]; rfl
  have e1 : ((body s).drop 1).take 6 = put s.ep 6 := by
    rw [hb]
    exact seg (a := [s.k]) (by rfl) (put_length _ _)
  have e2 : ((body s).drop 7).take 6 = put s.sq 6 := by
    rw [hb, ← List.singleton_append, ← List.append_assoc]
    exact seg (by simp [put_length]) (put_length _ _)
  have e3 : ((body s).drop 13).take 2 = put s.ad.toNat 2 := by
    rw [hb, ← List.singleton_append, ← List.append_assoc, ← List.append_assoc]
    exact seg (by simp [put_length]) (put_length _ _)
  have e4 : (body s).getD 15 0 = (s.fr + 1).toNat := by
    rw [hb, ← List.singleton_append, ← List.append_assoc, ← List.append_assoc, ← List.append_assoc]
    exact at_seg (by simp [put_length])
  have e5 : (body s).getD 16 0 = s.da.length % 256 := by
    rw [hb, ← List.singleton_append, ← List.append_assoc, ← List.append_assoc, ← List.append_assoc, ← List.singleton_append (x := (s.fr + 1).toNat), ← List.append_assoc]
    exact at_seg (by simp [put_length])
  have e6 : (body s).getD 17 0 = s.da.length / 256 := by
    rw [hb, ← List.singleton_append, ← List.append_assoc, ← List.append_assoc, ← List.append_assoc, ← List.singleton_append (x := (s.fr + 1).toNat), ← List.append_assoc, ← List.singleton_append (x := s.da.length % 256), ← List.append_assoc]
    exact at_seg (by simp [put_length])
  have e7 : rawN (body s) = s.da.length := by unfold rawN; rw [e5, e6]; omega
  have e8 : ((body s).drop 18).take s.da.length = s.da := by
    rw [hb, ← List.singleton_append, ← List.append_assoc, ← List.append_assoc, ← List.append_assoc, ← List.singleton_append (x := (s.fr + 1).toNat), ← List.append_assoc, ← List.singleton_append (x := s.da.length % 256), ← List.append_assoc, ← List.singleton_append (x := s.da.length / 256), ← List.append_assoc]
    exact seg (by simp [put_length]) rfl
  refine ⟨?_, e7⟩
  unfold rawS
  rw [e0, e1, e2, e3, e4, e7, e8, le_put, le_put, le_put, Nat.mod_eq_of_lt (by omega), Nat.mod_eq_of_lt (by omega), Nat.mod_eq_of_lt (by omega)]
  cases s
  simp only [Sh.mk.injEq, true_and, and_true]
  dsimp only at *
  omega

set_option maxRecDepth 100000 in
/-- Read's answer, as the document reckons it. -/
theorem read_raw (l : List Nat) (h96 : l.length = 96) (h90 : l.getD 95 0 = 90) (hv : valid (l.take 95)) :
    (rawN (l.take 91) ≤ 64 ∧ fm (rawS (l.take 91)) = true ∧ page (rawS (l.take 91)) = l → readS l = (rawS (l.take 91), 0)) ∧
    (¬ (rawN (l.take 91) ≤ 64 ∧ fm (rawS (l.take 91)) = true ∧ page (rawS (l.take 91)) = l) → readS l = (zeroS, 3)) := by
  have hR : readS l = if fm (partsS (l.take 91)) = true ∧ page (partsS (l.take 91)) = l then (partsS (l.take 91), 0) else (zeroS, 3) := by
    unfold readS
    rw [if_pos ⟨h96, h90⟩, if_pos hv]
  constructor
  · rintro ⟨_, h2, h3⟩
    have h91 : l.take 91 = body (rawS (l.take 91)) := by
      conv => lhs; rw [← h3]
      exact page_take91 (fm_len h2)
    have hp : partsS (l.take 91) = rawS (l.take 91) := by
      conv => lhs; rw [h91]
      exact parts_back h2
    rw [hR, hp, if_pos ⟨h2, h3⟩]
  · intro hn
    rw [hR, if_neg]
    rintro ⟨h2, h3⟩
    have h91 : l.take 91 = body (partsS (l.take 91)) := by
      conv => lhs; rw [← h3]
      exact page_take91 (fm_len h2)
    have hb := raw_back h2
    rw [← h91] at hb
    exact hn ⟨by rw [hb.2]; exact fm_len h2, by rw [hb.1]; exact h2, by rw [hb.1]; exact h3⟩
end Drawbar.Sheet
