/- The walks of WordNumbers and WordTexts. -/
import Derived.Test.YthaicfnlchkcoaaDoorNum
namespace Go.Proofs.YthaicfnlchkcoaaDoor
open Go.RowKit
open Drawbar Drawbar.Num

theorem numR_bounds {l : List UInt8} {k : Int} {b : Bool} (h : numR l = (k, b)) : -9223372036854775808 ≤ k ∧ k ≤ 9223372036854775807 := by
  unfold numR at h
  split at h
  · rename_i v hv
    have := parse_bounds hv
    split at h
    · cases h; exact this
    · cases h; omega
  · cases h; omega
theorem beq_self (s : ByteArray) : (s.toList == s.toList) = true := by simp

theorem below_alloc_self (w : World) (o : Obj) : Below w.heap.size w (w.alloc o) := (Below.refl _ _).alloc (Nat.le_refl _) o

set_option maxHeartbeats 1000000 in
theorem texts_any (s : ByteArray) (hs : s.size ≤ 281474976710656) (W : World) (hL : Laid W) : Calls Tryd.prog 4 #[.string s] W (Yes W) := by
  have hN := number_any s hs W hL
  cases hR : numR s.data.toList with
  | mk k b =>
    rw [hR] at hN
    have hb := numR_bounds hR
    have HA := Lib.hid awake_any
    cases b with
    | false =>
      clear hR hb
      go_enter Tryd.func4, Tryd.ntmps4
      go_wp2_with (first | (go_at_call 6; (with_reducible refine hN.mono ?_); rintro e w1 ⟨rfl, hb1⟩) | (go_at_call 7; (with_reducible refine (HA.out _).mono ?_); rintro e w2 ⟨rfl, hb2⟩))
      go_ret
      exact ⟨rfl, below_step hb1 hb2⟩
    | true =>
      have hx : (⟨(Lib.itoa k).toArray⟩ : ByteArray) = s := str_ext (by rw [← numR_true hR])
      have hU := num_any k hb.1 hb.2
      rw [hx] at hU
      have hq := beq_self s
      clear hx hR hb
      go_enter Tryd.func4, Tryd.ntmps4
      go_wp2_with (first | (go_at_call 6; (with_reducible refine hN.mono ?_); rintro e w1 ⟨rfl, hb1⟩) | (go_at_call 7; (with_reducible refine (HA.out _).mono ?_); rintro e w2 ⟨rfl, hb2⟩) | (go_at_call 5; (with_reducible refine (hU _).mono ?_); rintro e w3 ⟨rfl, hb3⟩))
      go_ret
      exact ⟨by first | rfl | simp, below_step (below_step hb1 hb2) hb3⟩

set_option maxHeartbeats 1000000 in
theorem numbers_any (n : Int) (h0 : -9223372036854775808 ≤ n) (h1 : n ≤ 9223372036854775807) (c : Nat) (hc : c < 256) (W : World) (hL : Laid W) : Calls Tryd.prog 3 #[.int .i64 n, .int .u8 c] W (Yes W) := by
  have hU := num_any n h0 h1
  have hlen := Lib.itoa_length_le n h0 h1
  have hS := numR_itoa n h0 h1
  have hO := numR_nought n
  have hsz : (⟨(Lib.itoa n).toArray⟩ : ByteArray).size ≤ 21 := hlen
  have eO : (⟨#[48]⟩ : ByteArray) ++ ⟨(Lib.itoa n).toArray⟩ = ⟨(48 :: Lib.itoa n).toArray⟩ := by rw [show (48 :: Lib.itoa n) = [48] ++ Lib.itoa n from rfl, ← dcat]
  have hsy : (strOf [c]).size = 1 := rfl
  have hcv : ∀ w : World, (convert 25 9 (.slice (some ⟨w.heap.size, 0, none⟩) 1 1)).run Tryd.prog (w.alloc (.cells #[.int .u8 c] 5)) = .ok (.string (strOf [c])) (w.alloc (.cells #[.int .u8 c] 5)) :=
    fun w => conv_str (w.alloc (.cells #[.int .u8 c] 5)) (some ⟨w.heap.size, 0, none⟩) [c] 1 (rd_one w c hc)
  have s48 : (⟨#[48]⟩ : ByteArray).size = 1 := rfl
  have dS : (⟨(Lib.itoa n).toArray⟩ : ByteArray).data.toList = Lib.itoa n := rfl
  have dO : ((⟨#[48]⟩ : ByteArray) ++ ⟨(Lib.itoa n).toArray⟩).data.toList = 48 :: Lib.itoa n := by rw [eO]
  rw [← dS] at hS
  rw [← dO] at hO
  clear eO dS dO hlen
  generalize (⟨(Lib.itoa n).toArray⟩ : ByteArray) = S at *
  generalize strOf [c] = X at *
  have k1 : ¬ 9223372036854775807 < S.size + X.size := by omega
  have k2 : ¬ 9223372036854775807 < (⟨#[48]⟩ : ByteArray).size + S.size := by omega
  have k3 : ¬ 9223372036854775807 < 1 + S.size := by omega
  have hz : ∀ a b : ByteArray, (a ++ b).size = a.size + b.size := fun a b => by simp
  have N1 := fun W' (hL : Laid W') => number_any S (by omega) W' hL
  have N2 := fun W' (hL : Laid W') => number_any (S ++ X) (by rw [hz]; omega) W' hL
  have N3 := fun W' (hL : Laid W') => number_any (⟨#[48]⟩ ++ S) (by rw [hz]; omega) W' hL
  rw [hS] at N1
  cases hR : numR (S ++ X).data.toList with
  | mk k b =>
    cases hR3 : numR ((⟨#[48]⟩ : ByteArray) ++ S).data.toList with
    | mk k3' b3 =>
      rw [hR3] at hO N3
      dsimp only at hO
      subst hO
      rw [hR] at N2
      have hb := numR_bounds hR
      have HA := Lib.hid awake_any
      have HN1 := Lib.hid N1
      have HN2 := Lib.hid N2
      have HN3 := Lib.hid N3
      have HL := Lib.hid hL
      cases b with
      | false =>
        clear hR hb hR3 hL N1 N2 N3 hS hsz hsy
        go_enter Tryd.func3, Tryd.ntmps3
        go_wp2_with (first | (go_at_call 5; (with_reducible refine (hU W).mono ?_); rintro e w1 ⟨rfl, hb1⟩; have hl1 := Lib.hid (HL.out.below hb1)) | (go_at_call 6; (with_reducible refine (HN1.out w1 hl1.out).mono ?_); rintro e w2 ⟨rfl, hb2⟩; have hl2 := Lib.hid ((hl1.out.below hb2).below (below_alloc_self w2 (.cells #[.int .u8 c] 5))); have hb2' := Lib.hid (below_step (below_step hb1 hb2) (below_alloc_self w2 (.cells #[.int .u8 c] 5)))) | (go_at_call 6; (with_reducible refine (HN2.out _ hl2.out).mono ?_); rintro e w3 ⟨rfl, hb3⟩; have hl3 := Lib.hid (hl2.out.below hb3); have hb3' := Lib.hid (below_step hb2'.out hb3)) | (go_at_call 6; (with_reducible refine (HN3.out w3 hl3.out).mono ?_); rintro e w4 ⟨rfl, hb4⟩; have hb4' := Lib.hid (below_step hb3'.out hb4)) | (go_at_call 7; (with_reducible refine (HA.out w4).mono ?_); rintro e w5 ⟨rfl, hb5⟩; have hb5' := Lib.hid (below_step hb4'.out hb5)))
        go_ret
        exact ⟨rfl, hb5'.out⟩
      | true =>
        have hx : (⟨(Lib.itoa k).toArray⟩ : ByteArray) = S ++ X := str_ext (by rw [← numR_true hR])
        have hU2 := num_any k hb.1 hb.2
        rw [hx] at hU2
        have hq := beq_self (S ++ X)
        clear hx hR hb hR3 hL N1 N2 N3 hS hsz hsy
        go_enter Tryd.func3, Tryd.ntmps3
        go_wp2_with (first | (go_at_call 5; (with_reducible refine (hU W).mono ?_); rintro e w1 ⟨rfl, hb1⟩; have hl1 := Lib.hid (HL.out.below hb1)) | (go_at_call 6; (with_reducible refine (HN1.out w1 hl1.out).mono ?_); rintro e w2 ⟨rfl, hb2⟩; have hl2 := Lib.hid ((hl1.out.below hb2).below (below_alloc_self w2 (.cells #[.int .u8 c] 5))); have hb2' := Lib.hid (below_step (below_step hb1 hb2) (below_alloc_self w2 (.cells #[.int .u8 c] 5)))) | (go_at_call 6; (with_reducible refine (HN2.out _ hl2.out).mono ?_); rintro e w3 ⟨rfl, hb3⟩; have hl3 := Lib.hid (hl2.out.below hb3); have hb3' := Lib.hid (below_step hb2'.out hb3)) | (go_at_call 6; (with_reducible refine (HN3.out w3 hl3.out).mono ?_); rintro e w4 ⟨rfl, hb4⟩; have hb4' := Lib.hid (below_step hb3'.out hb4)) | (go_at_call 7; (with_reducible refine (HA.out w4).mono ?_); rintro e w5 ⟨rfl, hb5⟩; have hb5' := Lib.hid (below_step hb4'.out hb5)) | (go_at_call 5; (with_reducible refine (hU2 w5).mono ?_); rintro e w6 ⟨rfl, hb6⟩))
        go_ret
        exact ⟨by first | rfl | simp, below_step hb5'.out hb6⟩
end Go.Proofs.YthaicfnlchkcoaaDoor
