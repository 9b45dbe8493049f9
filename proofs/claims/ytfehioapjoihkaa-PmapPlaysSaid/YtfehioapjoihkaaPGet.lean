/- The contracts of Get and Len (package pmap). -/
import Derived.Test.YtfehioapjoihkaaPMem
namespace Go.Proofs.Ytfehioapjoihkaa
open Go.RowKit
open Drawbar Drawbar.Pm

/-- As Get tells where an address is. -/
def told (v : Pl) : Value := .tuple #[.agg #[.int .i64 (tellB v), .int .i64 (pgOf v)], .bool v.isSome]
section
variable {w : World} {g pb cb : Nat} {s : St} (h : MapAt w g pb cb s)
include h
theorem get_out (i : Int) (hi : ¬ inR i s.addrs) : Calls Try.prog 16 #[.pointer (some ⟨g, 0, none⟩), .int .i64 i] w fun e w' => e = .returned (told none) ∧ Below w.heap.size w w' := by
  have HB := Lib.hid (hasAddr_no (h.alloc (.cells #[.int .i64 0, .int .i64 0] 33)) i hi)
  have HB2 := Lib.hid (hasAddr_no (h.alloc (.cells #[.int .i64 0, .int .i64 0] 34)) i hi)
  clear h hi
  unfold told
  go_enter Try.func16, Try.ntmps16
  go_wp2_with (go_at_call 29; (with_reducible first | refine HB.out.mono ?_ | refine HB2.out.mono ?_); rintro e w' ⟨rfl, rfl⟩)
  exact bodyPost_ret (v := .tuple #[.agg #[.int .i64 0, .int .i64 0], .bool false]) (by simp [results, Try.results16, go_sem]) rfl ⟨rfl, (Below.refl _ _).alloc (Nat.le_refl _) _⟩
theorem get_in (k : Nat) (hk : k < s.addrs) : Calls Try.prog 16 #[.pointer (some ⟨g, 0, none⟩), .int .i64 k] w fun e w' => e = .returned (told (s.at_ k)) ∧ Below w.heap.size w w' := by
  have HB2 := Lib.hid (hasAddr_yes (h.alloc (.cells #[.int .i64 0, .int .i64 0] 34)) k hk)
  have c0 := h.c0
  have a9 := h.wf.a9
  obtain ⟨p0, p1⟩ := h.raw.pl k hk
  have hg := h.gl
  have hpb := h.pbl
  have hwf := h.wf.pl k
  cases hv : s.at_ k with
  | none =>
    rw [hv] at p0 p1
    simp only [blkOf, pgOf] at p0 p1
    generalize s.addrs = n at *
    clear h hwf hv
    unfold told
    go_enter Try.func16, Try.ntmps16
    go_wp2_with (go_at_call 29; (with_reducible refine HB2.out.mono ?_); rintro e w' ⟨rfl, rfl⟩)
    exact bodyPost_ret (v := .tuple #[.agg #[.int .i64 0, .int .i64 0], .bool false]) (by simp [results, Try.results16, go_sem]) rfl ⟨rfl, (Below.refl _ _).alloc (Nat.le_refl _) _⟩
  | some v =>
    obtain ⟨b, p⟩ := v
    rw [hv] at p0 p1
    simp only [blkOf, pgOf] at p0 p1
    have hne : ((b : Int) == -1) = false := by simp
    generalize s.addrs = n at *
    have HW := Lib.hid hwf
    clear h hwf hv
    unfold told
    go_enter Try.func16, Try.ntmps16
    go_wp2_with (go_at_call 29; (with_reducible refine HB2.out.mono ?_); rintro e w' ⟨rfl, rfl⟩)
    exact bodyPost_ret (v := .tuple #[.agg #[.int .i64 b, .int .i64 p], .bool true]) (by simp [results, Try.results16, go_sem]) rfl ⟨rfl, (Below.refl _ _).alloc (Nat.le_refl _) _⟩
theorem len_any : Calls Try.prog 18 #[.pointer (some ⟨g, 0, none⟩)] w fun e w' => e = .returned (.int .i64 s.len) ∧ w = w' := by
  have c1 := h.c1
  have b9 := h.wf.b9
  have CT := Lib.hid h.raw.ct
  rw [← sum_len h.wf]
  have hle : ∀ n, s.sumTo n ≤ s.addrs := fun n => by rw [sumTo_eq]; exact cntTo_le _ _
  have HLE := Lib.hid hle
  have a9 := h.wf.a9
  clear h hle
  go_enter Try.func18, Try.ntmps18
  go_wp2
  go_loop [3, 13] (fun v i => ∃ n : Nat, n ≤ s.blocks ∧ i = .int .i64 n ∧ v = .int .i64 (s.sumTo n)) (fun _ i => s.blocks - (intOf i).toNat)
  case atStart => exact ⟨0, Nat.zero_le _, rfl, rfl⟩
  case round =>
    obtain ⟨n, hn, rfl, rfl⟩ := hrel
    by_cases hlt : n < s.blocks
    · have ct := CT.out n hlt
      have h1 := HLE.out n
      have h2 := HLE.out (n + 1)
      have h3 : s.sumTo (n + 1) = s.sumTo n + s.cnt n := rfl
      rw [h3] at h2
      have H3 := Lib.hid h3
      have i1 : (n : Int) < (s.blocks : Int) := by omega
      generalize s.sumTo n = x at *
      generalize s.cnt n = y at *
      clear h3
      go_wp2
      go_round
      case rel => exact ⟨n + 1, by omega, by go_num, by rw [H3.out]; go_num⟩
      case measure => simp [intOf]; omega
    · obtain rfl : n = s.blocks := by omega
      have i1 : ¬ (s.blocks : Int) < (s.blocks : Int) := by omega
      go_wp2
      go_ret
      exact ⟨rfl, rfl⟩
end
end Go.Proofs.Ytfehioapjoihkaa
