/- The walk of WordSigns. -/
import Derived.Test.YthaicfnlchkcoaaSigns
import Derived.Laws.Runes
namespace Go.Proofs.Ythaicfnlchkcoaa
open Go.RowKit
open Drawbar Drawbar.Line Drawbar.Sign

theorem rdS_alloc (w : World) (l : List ByteArray) : RdS (w.alloc (.cells (l.map Value.string).toArray 9)) (some ⟨w.heap.size, 0, none⟩) l := by
  intro _
  refine ⟨_, _, rfl, fun i hi => ?_⟩
  rw [World.cell?_alloc_mark, Nat.zero_add, List.getElem?_toArray, List.getElem?_map, List.getElem?_eq_getElem hi, List.getD_eq_getElem?_getD, List.getElem?_eq_getElem hi]
  rfl

/-- Two lists that are one. -/
theorem same_self (k : List ByteArray) (hk : k.length ≤ 1000) (n : Nat) (hn : n = k.length) (a1 a2 : Option Addr) (c1 c2 : Nat) (w : World) (h1 : RdS w a1 k) (h2 : RdS w a2 k) :
    Calls Try.prog 14 #[.slice a1 n c1, .slice a2 n c2] w fun e w' => e = .returned (.bool true) ∧ Below w.heap.size w w' := by
  subst hn
  exact (same_any k k a1 a2 c1 c2 w h1 h2 (by omega) (by omega)).mono (fun e w' (h : _ ∧ _) => ⟨by rw [h.1]; simp, h.2⟩)

theorem Lst.rd {w : World} {a : Option Addr} {c : Nat} {l : List ByteArray} (h : Lst w a c l) : RdS w a l := h.2
theorem same_two (x y : ByteArray) (a1 : Option Addr) (c1 : Nat) (w : World) (h1 : RdS w a1 [x, y]) :
    Calls Try.prog 14 #[.slice a1 2 c1, .slice (some ⟨w.heap.size, 0, none⟩) 2 2] (w.alloc (.cells #[.string x, .string y] 9)) fun e w' => e = .returned (.bool true) ∧ Below w.heap.size w w' :=
  (same_self [x, y] (by simp) 2 rfl a1 (some ⟨w.heap.size, 0, none⟩) c1 2 (w.alloc (.cells #[.string x, .string y] 9)) (h1.below ((Below.refl _ _).alloc (Nat.le_refl _) _)) (rdS_alloc w [x, y])).mono
    (fun _ _ h => ⟨h.1, below_step ((Below.refl _ _).alloc (Nat.le_refl _) _) h.2⟩)
theorem same_one (x : ByteArray) (a1 : Option Addr) (c1 : Nat) (w : World) (h1 : RdS w a1 [x]) :
    Calls Try.prog 14 #[.slice a1 1 c1, .slice (some ⟨w.heap.size, 0, none⟩) 1 1] (w.alloc (.cells #[.string x] 9)) fun e w' => e = .returned (.bool true) ∧ Below w.heap.size w w' :=
  (same_self [x] (by simp) 1 rfl a1 (some ⟨w.heap.size, 0, none⟩) c1 1 (w.alloc (.cells #[.string x] 9)) (h1.below ((Below.refl _ _).alloc (Nat.le_refl _) _)) (rdS_alloc w [x])).mono
    (fun _ _ h => ⟨h.1, below_step ((Below.refl _ _).alloc (Nat.le_refl _) _) h.2⟩)
theorem below_alloc_step {w w1 : World} (hb : Below w.heap.size w w1) (o : Obj) : Below w.heap.size w (w1.alloc o) := hb.alloc hb.size o

set_option maxRecDepth 100000 in
set_option maxHeartbeats 1000000 in
theorem signs_small (Y X : Int) (hm : Y.tmod 1114112 = X) (i0 : 0 ≤ X) (iX : X < 1114112) (s : ByteArray) (hs : s.size ≤ 4) (l : List ByteArray) (at' e : Nat)
    (hcv : Utf8.encode X = s)
    (hv : X < 55296 ∨ (55296 ≤ X ∧ ¬ X < 57344))
    (hW : ∀ w, Calls Try.prog 12 #[.string (⟨#[97]⟩ ++ s ++ ⟨#[98]⟩)] w (Told w (l, at', e)))
    (hC : ∀ w, Calls Try.prog 15 #[.string s] w fun e w' => e = .returned (.tuple #[.int .i64 1, .bool true]) ∧ Below w.heap.size w w')
    (h1 : (X = 32 ∨ X = 9 ∨ X = 12288) → l = [⟨#[97]⟩, ⟨#[98]⟩] ∧ e = 0)
    (h2 : ¬ (X = 32 ∨ X = 9 ∨ X = 12288) → (X < 32 ∨ X = 34 ∨ X = 127) → e = 14 ∧ at' = 1)
    (h3 : ¬ (X = 32 ∨ X = 9 ∨ X = 12288) → ¬ (X < 32 ∨ X = 34 ∨ X = 127) → l = [⟨#[97]⟩ ++ s ++ ⟨#[98]⟩] ∧ e = 0) (W : World) :
    Calls Try.prog 7 #[.int .u32 Y] W (Yes W) := by
  have HA := Lib.hid awake_any
  have e1 : ({ data := #[97] } : ByteArray).size = 1 := rfl
  have e2 : ({ data := #[98] } : ByteArray).size = 1 := rfl
  have k1 : ¬ 9223372036854775807 < ({ data := #[97] } : ByteArray).size + s.size := by rw [e1]; omega
  have k2 : ¬ 9223372036854775807 < 1 + s.size := by omega
  have k3 : ¬ 9223372036854775807 < (({ data := #[97] } : ByteArray) ++ s).size + ({ data := #[98] } : ByteArray).size := by rw [size_app, e1, e2]; omega
  have k4 : ¬ 9223372036854775807 < 1 + s.size + 1 := by omega
  have hw32 : IntKind.i32.wrap X = X := IntWalk.i32_in _ (by omega)
  have HX := Lib.hid hW
  have HY := Lib.hid hC
  clear hW hC
  by_cases hp : X = 32 ∨ X = 9 ∨ X = 12288
  · obtain ⟨rfl, rfl⟩ := h1 hp
    clear h1 h2 h3
    have HS := Lib.hid (same_two ⟨#[97]⟩ ⟨#[98]⟩)
    rcases hp with h | h | h
    · subst h
      clear hv i0 iX
      go_enter Try.func7, Try.ntmps7
      go_wp2_with (first | (go_at_call 12; with_reducible refine (HX.out W).mono ?_; intro e w3 ht; obtain ⟨a1, c1, rfl, hl1, hb3⟩ := told_lst ht; clear ht) | (go_at_call 15; with_reducible refine (HY.out w3).mono ?_; rintro e w4 ⟨rfl, hb4⟩) | (go_at_call 11; refine (HA.out w4).mono ?_; rintro e w5 ⟨rfl, hb5⟩) | (go_at_call 14; with_reducible refine (HS.out a1 c1 w5 ((hl1.below hb4).below hb5).rd).mono ?_; rintro e w6 ⟨rfl, hb6⟩))
      go_ret
      exact ⟨by first | rfl | simp, below_step (below3 hb3 hb4 hb5) hb6⟩
    · subst h
      clear hv i0 iX
      go_enter Try.func7, Try.ntmps7
      go_wp2_with (first | (go_at_call 12; with_reducible refine (HX.out W).mono ?_; intro e w3 ht; obtain ⟨a1, c1, rfl, hl1, hb3⟩ := told_lst ht; clear ht) | (go_at_call 15; with_reducible refine (HY.out w3).mono ?_; rintro e w4 ⟨rfl, hb4⟩) | (go_at_call 11; refine (HA.out w4).mono ?_; rintro e w5 ⟨rfl, hb5⟩) | (go_at_call 14; with_reducible refine (HS.out a1 c1 w5 ((hl1.below hb4).below hb5).rd).mono ?_; rintro e w6 ⟨rfl, hb6⟩))
      go_ret
      exact ⟨by first | rfl | simp, below_step (below3 hb3 hb4 hb5) hb6⟩
    · subst h
      clear hv i0 iX
      go_enter Try.func7, Try.ntmps7
      go_wp2_with (first | (go_at_call 12; with_reducible refine (HX.out W).mono ?_; intro e w3 ht; obtain ⟨a1, c1, rfl, hl1, hb3⟩ := told_lst ht; clear ht) | (go_at_call 15; with_reducible refine (HY.out w3).mono ?_; rintro e w4 ⟨rfl, hb4⟩) | (go_at_call 11; refine (HA.out w4).mono ?_; rintro e w5 ⟨rfl, hb5⟩) | (go_at_call 14; with_reducible refine (HS.out a1 c1 w5 ((hl1.below hb4).below hb5).rd).mono ?_; rintro e w6 ⟨rfl, hb6⟩))
      go_ret
      exact ⟨by first | rfl | simp, below_step (below3 hb3 hb4 hb5) hb6⟩
  · have hp2 : ¬ X = 32 ∧ ¬ X = 9 ∧ ¬ X = 12288 := by omega
    have b1 : (X == 32) = false := by simp; omega
    have b2 : (X == 9) = false := by simp; omega
    have b3 : (X == 12288) = false := by simp; omega
    obtain ⟨p1, p2, p3⟩ := hp2
    by_cases hq : X < 32 ∨ X = 34 ∨ X = 127
    · obtain ⟨rfl, rfl⟩ := h2 hp hq
      clear h1 h2 h3 hp
      have hv1 : X < 55296 := by omega
      clear hv
      by_cases q1 : X < 32
      · clear hq p1 p2 p3 iX
        go_enter Try.func7, Try.ntmps7
        go_wp2_with (first | (go_at_call 12; with_reducible refine (HX.out W).mono ?_; intro e w3 ht; obtain ⟨a1, c1, rfl, hl1, hb3⟩ := told_lst ht; clear ht) | (go_at_call 15; with_reducible refine (HY.out w3).mono ?_; rintro e w4 ⟨rfl, hb4⟩) | (go_at_call 11; refine (HA.out w4).mono ?_; rintro e w5 ⟨rfl, hb5⟩))
        go_ret
        exact ⟨by first | rfl | simp, below3 hb3 hb4 hb5⟩
      · have hq2 : X = 34 ∨ X = 127 := hq.resolve_left q1
        clear hq
        rcases hq2 with h | h
        · subst h
          clear i0 iX p1 p2 p3 b1 b2 b3
          go_enter Try.func7, Try.ntmps7
          go_wp2_with (first | (go_at_call 12; with_reducible refine (HX.out W).mono ?_; intro e w3 ht; obtain ⟨a1, c1, rfl, hl1, hb3⟩ := told_lst ht; clear ht) | (go_at_call 15; with_reducible refine (HY.out w3).mono ?_; rintro e w4 ⟨rfl, hb4⟩) | (go_at_call 11; refine (HA.out w4).mono ?_; rintro e w5 ⟨rfl, hb5⟩))
          go_ret
          exact ⟨by first | rfl | simp, below3 hb3 hb4 hb5⟩
        · subst h
          clear i0 iX p1 p2 p3 b1 b2 b3
          go_enter Try.func7, Try.ntmps7
          go_wp2_with (first | (go_at_call 12; with_reducible refine (HX.out W).mono ?_; intro e w3 ht; obtain ⟨a1, c1, rfl, hl1, hb3⟩ := told_lst ht; clear ht) | (go_at_call 15; with_reducible refine (HY.out w3).mono ?_; rintro e w4 ⟨rfl, hb4⟩) | (go_at_call 11; refine (HA.out w4).mono ?_; rintro e w5 ⟨rfl, hb5⟩))
          go_ret
          exact ⟨by first | rfl | simp, below3 hb3 hb4 hb5⟩
    · obtain ⟨rfl, rfl⟩ := h3 hp hq
      have hq2 : ¬ X < 32 ∧ ¬ X = 34 ∧ ¬ X = 127 := by omega
      have d1 : (X == 34) = false := by simp; omega
      have d2 : (X == 127) = false := by simp; omega
      obtain ⟨q1, q2, q3⟩ := hq2
      clear h1 h2 h3 hp hq
      have HS := Lib.hid (same_one (⟨#[97]⟩ ++ s ++ ⟨#[98]⟩))
      rcases hv with hv | ⟨hv, hv2⟩
      · go_enter Try.func7, Try.ntmps7
        go_wp2_with (first | (go_at_call 12; with_reducible refine (HX.out W).mono ?_; intro e w3 ht; obtain ⟨a1, c1, rfl, hl1, hb3⟩ := told_lst ht; clear ht) | (go_at_call 15; with_reducible refine (HY.out w3).mono ?_; rintro e w4 ⟨rfl, hb4⟩) | (go_at_call 11; refine (HA.out w4).mono ?_; rintro e w5 ⟨rfl, hb5⟩) | (go_at_call 14; with_reducible refine (HS.out a1 c1 w5 ((hl1.below hb4).below hb5).rd).mono ?_; rintro e w6 ⟨rfl, hb6⟩))
        go_ret
        exact ⟨by first | rfl | simp, below_step (below3 hb3 hb4 hb5) hb6⟩
      · go_enter Try.func7, Try.ntmps7
        go_wp2_with (first | (go_at_call 12; with_reducible refine (HX.out W).mono ?_; intro e w3 ht; obtain ⟨a1, c1, rfl, hl1, hb3⟩ := told_lst ht; clear ht) | (go_at_call 15; with_reducible refine (HY.out w3).mono ?_; rintro e w4 ⟨rfl, hb4⟩) | (go_at_call 11; refine (HA.out w4).mono ?_; rintro e w5 ⟨rfl, hb5⟩) | (go_at_call 14; with_reducible refine (HS.out a1 c1 w5 ((hl1.below hb4).below hb5).rd).mono ?_; rintro e w6 ⟨rfl, hb6⟩))
        go_ret
        exact ⟨by first | rfl | simp, below_step (below3 hb3 hb4 hb5) hb6⟩

theorem signs_any (y : Nat) (W : World) : Calls Try.prog 7 #[.int .u32 y] W (Yes W) := by
  obtain ⟨r, hr⟩ : ∃ r, r = y % 1114112 := ⟨_, rfl⟩
  have hm : ((y : Int).tmod 1114112) = (r : Int) := by
    rw [Int.tmod_eq_emod_of_nonneg (by omega)]
    omega
  by_cases hs : 55296 ≤ r ∧ r < 57344
  · have HA := Lib.hid awake_any
    have i0 : (0 : Int) ≤ r := by omega
    have i1 : (55296 : Int) ≤ r := by omega
    have i2 : (r : Int) < 57344 := by omega
    have hw32 : IntKind.i32.wrap (r : Int) = (r : Int) := IntWalk.i32_in _ (by omega)
    clear hs hr
    generalize (y : Int) = Y at *
    generalize (r : Int) = X at *
    go_enter Try.func7, Try.ntmps7
    go_wp2_with (go_at_call 11; refine (HA.out W).mono ?_; rintro e w2 ⟨rfl, hb⟩)
    go_ret
    exact ⟨rfl, hb⟩
  · have hv : Utf8.valid (r : Int) = true := by simp [Utf8.valid]; omega
    have hw := words_sign r hv
    have hW : ∀ w, Calls Try.prog 12 #[.string (⟨#[97]⟩ ++ strOf (enc r) ++ ⟨#[98]⟩)] w (Told w (wordsR (⟨#[97]⟩ ++ strOf (enc r) ++ ⟨#[98]⟩))) := fun w => words_any _ w
    have hC : ∀ w, Calls Try.prog 15 #[.string (strOf (enc r))] w fun e w' => e = .returned (.tuple #[.int .i64 1, .bool true]) ∧ Below w.heap.size w w' := fun w => by
      have h := count_any (strOf (enc r)) (by rw [size_str, enc_length]; have := (rlen_le r).2; omega) w
      rw [cntR_one r hv] at h
      exact h
    have hP : isPart r = true ↔ ((r : Int) = 32 ∨ (r : Int) = 9 ∨ (r : Int) = 12288) := by
      unfold isPart
      simp
      omega
    have hQ : ¬ isPart r = true → (isPlain r = false ↔ ((r : Int) < 32 ∨ (r : Int) = 34 ∨ (r : Int) = 127)) := by
      intro h
      rw [hP] at h
      unfold isPlain
      rw [← Bool.not_eq_true]
      simp
      omega
    generalize wordsR (⟨#[97]⟩ ++ strOf (enc r) ++ ⟨#[98]⟩) = Z at hw hW
    obtain ⟨l, at', e⟩ := Z
    refine signs_small y r hm (by omega) (by omega) (strOf (enc r)) (by rw [size_str, enc_length]; exact (rlen_le r).2) l at' e (encode_str r hv) (by omega) hW hC (fun h => ?_) (fun h h2 => ?_) (fun h h2 => ?_) W
    · rw [if_pos (hP.2 h)] at hw
      cases hw
      exact ⟨rfl, rfl⟩
    · have h' : ¬ isPart r = true := fun c => h (hP.1 c)
      rw [if_neg h', if_pos ((hQ h').2 h2)] at hw
      cases hw
      exact ⟨rfl, rfl⟩
    · have h' : ¬ isPart r = true := fun c => h (hP.1 c)
      rw [if_neg h', if_neg (fun c => h2 ((hQ h').1 c))] at hw
      cases hw
      exact ⟨rfl, rfl⟩
end Go.Proofs.Ythaicfnlchkcoaa
