/- strings.HasPrefix, and word.whole: is a sign whole? -/
import Derived.Test.YthldbcngbkemnaaProg
import Derived.Test.YthldbcngbkemnaaSign
import Derived.WalkKit
import Derived.Handy
import Derived.Lib.Hide
namespace Go.Proofs.Ythldbcngbkemnaa
open Go.RowKit
open Drawbar.Sign

theorem toList_beq (a b : ByteArray) : (a.toList == b.toList) = decide (a = b) := by
  rw [Bool.eq_iff_iff]
  simp only [beq_iff_eq, decide_eq_true_eq]
  constructor
  · intro h
    rw [ByteArray.toList_eq, ByteArray.toList_eq] at h
    exact ByteArray.ext (Array.toList_inj.mp h)
  · rintro rfl; rfl

theorem prefix_bad (s : ByteArray) (p : Nat) : (decide ((Utf8.encode 65533).size ≤ (s.extract p s.size).size ∧ (s.extract p s.size).extract 0 (Utf8.encode 65533).size = Utf8.encode 65533)) =
    decide (p + 2 < s.size ∧ bt s p = 239 ∧ bt s (p + 1) = 191 ∧ bt s (p + 2) = 189) := by
  have he : Utf8.encode 65533 = ⟨#[239, 191, 189]⟩ := by decide
  rw [he]
  apply decide_eq_decide.2
  have hz : (⟨#[239, 191, 189]⟩ : ByteArray).size = 3 := rfl
  rw [hz, ByteArray.size_extract]
  by_cases hp : p + 2 < s.size
  · have hx : (s.extract p s.size).extract 0 3 = [s[p]'(by omega), s[p + 1]'(by omega), s[p + 2]'(by omega)].toByteArray := by
      rw [ByteArray.extract_extract, Nat.add_zero, Nat.min_eq_left (by omega)]
      exact ByteArray.extract_add_three (by omega)
    have h0 := bt_at s p (by omega)
    have h1 := bt_at s (p + 1) (by omega)
    have h2 := bt_at s (p + 2) hp
    rw [hx, ← h0, ← h1, ← h2]
    generalize s[p]'(by omega) = x
    generalize s[p + 1]'(by omega) = y
    generalize s[p + 2]'hp = z
    constructor
    · rintro ⟨_, h⟩
      have h := congrArg (fun b : ByteArray => b.data.toList) h
      simp only [List.toList_data_toByteArray, List.cons.injEq, and_true] at h
      obtain ⟨rfl, rfl, rfl⟩ := h
      exact ⟨hp, rfl, rfl, rfl⟩
    · rintro ⟨_, hx, hy, hz⟩
      refine ⟨by omega, ?_⟩
      have ex : x = 239 := UInt8.toNat_inj.1 hx
      have ey : y = 191 := UInt8.toNat_inj.1 hy
      have ez : z = 189 := UInt8.toNat_inj.1 hz
      rw [ex, ey, ez]
      rfl
  · constructor
    · rintro ⟨h, _⟩; omega
    · rintro ⟨h, _⟩; omega

theorem whole_any (s : ByteArray) (p : Nat) (hs : s.size < 1000000) (w : World) :
    Calls Try.prog 28 #[.int .i32 (Utf8.decode s p).1, .string (s.extract p s.size)] w fun e w' => e = .returned (.bool (decide ((sgn s p).1 ≠ 0))) ∧ w = w' := by
  have hd := prefix_bad s p
  have hw := whole_iff s p
  have hu : (Utf8.encode 65533).size = 3 := by decide
  generalize hX : decide ((sgn s p).1 ≠ 0) = X
  generalize hY : decide (p + 2 < s.size ∧ bt s p = 239 ∧ bt s (p + 1) = 191 ∧ bt s (p + 2) = 189) = Y at hd
  have hq : (Utf8.decode s p).1 ≠ 65533 → X = true := by
    intro h; rw [← hX]; exact decide_eq_true (hw.1 (Or.inl h))
  have hq2 : (Utf8.decode s p).1 = 65533 → X = Y := by
    intro h; rw [← hX, ← hY]; apply decide_eq_decide.2; rw [← hw]; simp [h]
  clear hw hX hY
  have ht : (s.extract p s.size).size < 1000000 := by simp; omega
  generalize (s.extract p s.size) = t at hd ht
  generalize (Utf8.decode s p).1 = r at hq hq2 ⊢
  by_cases hr : r = 65533
  · have e := hq2 hr
    subst hr e
    by_cases h : (Utf8.encode 65533).size ≤ t.size
    · go_enter Try.func28, Try.ntmps28
      go_wp2
      go_ret
      refine ⟨?_, rfl⟩
      show Ending.returned (Value.bool ((t.extract 0 (Utf8.encode 65533).size).toList == (Utf8.encode 65533).toList)) = _
      rw [toList_beq, ← hd]
      simp only [h, true_and]
    · go_enter Try.func28, Try.ntmps28
      go_wp2
      go_ret
      refine ⟨?_, rfl⟩
      show Ending.returned (Value.bool false) = _
      rw [← hd]
      simp only [h, false_and, decide_false]
  · have e := hq hr
    subst e
    go_enter Try.func28, Try.ntmps28
    go_wp2
    go_ret
    exact ⟨rfl, rfl⟩

end Go.Proofs.Ythldbcngbkemnaa
