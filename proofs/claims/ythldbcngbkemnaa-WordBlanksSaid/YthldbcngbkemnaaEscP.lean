/- A text with its escapes, as plain mathematics; the table of replacements in memory. -/
import Derived.Test.YthldbcngbkemnaaGo
import Derived.Test.YthldbcngbkemnaaSigns
namespace Drawbar.Esc
open Drawbar.Sign

/-- Is this byte written with a \ ahead? -/
def isE (c : Nat) : Bool := c == 34 || c == 92 || c == 10 || c == 9
/-- What stands behind the \. -/
def snd (c : Nat) : Nat := if c = 10 then 110 else if c = 9 then 116 else c
def escB (c : Nat) : List Nat := if isE c = true then [92, snd c] else [c]
def esc (l : List Nat) : List Nat := l.flatMap escB
def cntE : List Nat → Nat
  | [] => 0
  | c :: l => (if isE c = true then 1 else 0) + cntE l
theorem cnt_le (l : List Nat) : cntE l ≤ l.length := by
  induction l with
  | nil => exact Nat.le_refl _
  | cons c l ih =>
    show (if isE c = true then 1 else 0) + cntE l ≤ l.length + 1
    split <;> omega
theorem cnt_app (l m : List Nat) : cntE (l ++ m) = cntE l + cntE m := by
  induction l with
  | nil => show cntE m = 0 + cntE m; omega
  | cons c l ih =>
    show (if isE c = true then 1 else 0) + cntE (l ++ m) = (if isE c = true then 1 else 0) + cntE l + cntE m
    omega
theorem esc_app (l m : List Nat) : esc (l ++ m) = esc l ++ esc m := by simp [esc]
theorem esc_length (l : List Nat) : (esc l).length = l.length + cntE l := by
  induction l with
  | nil => rfl
  | cons c l ih =>
    have h : esc (c :: l) = escB c ++ esc l := by simp [esc]
    rw [h, List.length_append, ih]
    show (escB c).length + (l.length + cntE l) = l.length + 1 + ((if isE c = true then 1 else 0) + cntE l)
    unfold escB
    by_cases hc : isE c = true
    · rw [if_pos hc, if_pos hc]; show 2 + _ = _; omega
    · rw [if_neg hc, if_neg hc]; show 1 + _ = _; omega
theorem esc_none (l : List Nat) (h : cntE l = 0) : esc l = l := by
  induction l with
  | nil => rfl
  | cons c l ih =>
    have h2 : (if isE c = true then 1 else 0) + cntE l = 0 := h
    have e : esc (c :: l) = escB c ++ esc l := by simp [esc]
    by_cases hc : isE c = true
    · rw [if_pos hc] at h2; omega
    · rw [if_neg hc] at h2
      rw [e, ih (by omega)]
      unfold escB
      rw [if_neg hc]; rfl
theorem takes (l : List Nat) (k : Nat) (h : k < l.length) : l.take (k + 1) = l.take k ++ [l.getD k 0] := by
  rw [List.take_succ_eq_append_getElem h, List.getD_eq_getElem?_getD, List.getElem?_eq_getElem h]; rfl
theorem cnt_take (l : List Nat) (k : Nat) (h : k < l.length) : cntE (l.take (k + 1)) = cntE (l.take k) + (if isE (l.getD k 0) = true then 1 else 0) := by
  rw [takes l k h, cnt_app]; rfl
theorem esc_take (l : List Nat) (k : Nat) (h : k < l.length) : esc (l.take (k + 1)) = esc (l.take k) ++ escB (l.getD k 0) := by
  rw [takes l k h, esc_app]; simp [esc]
theorem escB_lt {c : Nat} (h : c < 256) : ∀ x ∈ escB c, x < 256 := by
  intro x hx
  unfold escB at hx
  by_cases hc : isE c = true
  · rw [if_pos hc] at hx
    simp only [List.mem_cons, List.not_mem_nil, or_false] at hx
    rcases hx with rfl | rfl
    · omega
    · unfold snd; split
      · omega
      · split <;> omega
  · rw [if_neg hc] at hx
    simp only [List.mem_cons, List.not_mem_nil, or_false] at hx
    subst hx; exact h
theorem esc_lt {l : List Nat} (h : ∀ x ∈ l, x < 256) : ∀ x ∈ esc l, x < 256 := by
  intro x hx
  obtain ⟨c, hc, hx2⟩ := List.mem_flatMap.1 hx
  exact escB_lt (h c hc) x hx2
end Drawbar.Esc
namespace Go.Proofs.Ythldbcngbkemnaa
open Go.RowKit
open Drawbar Drawbar.Sign Drawbar.Esc

theorem get_str (l : List Nat) (hl : ∀ x ∈ l, x < 256) (k : Nat) (hk : k < l.length) : ((strOf l).get! k).toNat = l.getD k 0 := by
  have hm : l.getD k 0 ∈ l := getD_mem l k hk
  have hlt := hl _ hm
  show (((strOf l).data[k]!).toNat) = _
  have e : (strOf l).data[k]! = UInt8.ofNat (l.getD k 0) := by
    show (l.map UInt8.ofNat).toArray[k]! = _
    simp [hk, List.getD_eq_getElem?_getD]
  rw [e, UInt8.toNat_ofNat']
  omega

/-- The table of a byteStringReplacer in block rb: the four bytes and what they become. -/
structure RepAt (w : World) (rb : Nat) : Prop where
  no : ∀ c, c < 256 → isE c = false → w.cell? ⟨rb, c, none⟩ = some (.slice none 0 0)
  yes : ∀ c, c < 256 → isE c = true → ∃ b cp, w.cell? ⟨rb, c, none⟩ = some (.slice (some ⟨b, 0, none⟩) 2 cp) ∧ w.cell? ⟨b, 0, none⟩ = some (.int .u8 92) ∧ w.cell? ⟨b, 1, none⟩ = some (.int .u8 (snd c : Nat))
  tr : ∃ b cp, w.cell? ⟨rb, 256, none⟩ = some (.slice (some ⟨b, 0, none⟩) 4 cp) ∧ 4 ≤ cp ∧ w.cell? ⟨b, 0, none⟩ = some (.string ⟨#[9]⟩) ∧ w.cell? ⟨b, 1, none⟩ = some (.string ⟨#[10]⟩) ∧ w.cell? ⟨b, 2, none⟩ = some (.string ⟨#[92]⟩) ∧ w.cell? ⟨b, 3, none⟩ = some (.string ⟨#[34]⟩)
theorem RepAt.below {w w' : World} {rb : Nat} (h : RepAt w rb) (hb : Below w.heap.size w w') : RepAt w' rb := by
  have one : ∀ (p : Addr) (v : Value), w.cell? p = some v → w'.cell? p = some v := fun p v hp => (hb.cell (World.block_lt_of_cell? w p hp)).trans hp
  refine ⟨fun c hc he => one _ _ (h.no c hc he), fun c hc he => ?_, ?_⟩
  · obtain ⟨b, cp, h1, h3, h4⟩ := h.yes c hc he
    exact ⟨b, cp, one _ _ h1, one _ _ h3, one _ _ h4⟩
  · obtain ⟨b, cp, h1, h2, h3, h4, h5, h6⟩ := h.tr
    exact ⟨b, cp, one _ _ h1, h2, one _ _ h3, one _ _ h4, one _ _ h5, one _ _ h6⟩
end Go.Proofs.Ythldbcngbkemnaa
