/- drawbarref02.Num, and word.Number: their contracts. -/
import Derived.Test.YthaicfnlchkcoaaDoorNumM
import Derived.Test.YthaicfnlchkcoaaDoorShelf
import Derived.Test.YthaicfnlchkcoaaDoorAwake
import Derived.Lib.AppendIntMem
import Derived.WalkSmall
namespace Go.Proofs.YthaicfnlchkcoaaDoor
open Go.RowKit
open Drawbar Drawbar.Num

theorem dstr (l : List UInt8) : (⟨l.toArray⟩ : ByteArray).size = l.length := rfl
theorem dcat (l m : List UInt8) : (⟨l.toArray⟩ : ByteArray) ++ ⟨m.toArray⟩ = ⟨(l ++ m).toArray⟩ := by
  apply str_ext
  simp
theorem below_step {w w1 w2 : World} (hb : Below w.heap.size w w1) (h : Below w1.heap.size w1 w2) : Below w.heap.size w w2 := hb.trans (h.mono hb.size)
theorem rd_one (w : World) (c : Nat) (h : c < 256) : Rd (w.alloc (.cells #[.int .u8 c] 5)) (some ⟨w.heap.size, 0, none⟩) [c] := by
  refine ⟨by simpa using h, by simp, fun _ => ⟨_, _, rfl, fun i hi => ?_⟩⟩
  obtain rfl : i = 0 := by simpa using hi
  rw [World.cell?_alloc_mark]
  rfl

set_option maxHeartbeats 1000000 in
theorem digits_any (n : Nat) : n < 18446744073709551616 → ∀ w, Calls Tryd.prog 8 #[.int .u64 n] w fun e w' => e = .returned (.string ⟨(Lib.decDigits n).toArray⟩) ∧ Below w.heap.size w w' := by
  induction n using Nat.strongRecOn with
  | _ n ih =>
    intro hn w
    by_cases h : n < 10
    · rw [dec_small h]
      have i1 : (n : Int) < 10 := by omega
      have hcv : ∀ w : World, (convert 25 9 (.slice (some ⟨w.heap.size, 0, none⟩) 1 1)).run Tryd.prog (w.alloc (.cells #[.int .u8 ((48 : Int) + (n : Int))] 5)) = .ok (.string ⟨#[UInt8.ofNat (48 + n)]⟩) (w.alloc (.cells #[.int .u8 ((48 : Int) + (n : Int))] 5)) :=
        fun w => conv_str (w.alloc (.cells #[.int .u8 ((48 + n : Nat) : Int)] 5)) (some ⟨w.heap.size, 0, none⟩) [48 + n] 1 (rd_one w (48 + n) (by omega))
      have hw8 : IntKind.u8.wrap ((48 : Int) + (n : Int)) = (48 : Int) + (n : Int) := IntWalk.u8_in _ (by omega)
      have hw64 : IntKind.u64.wrap ((48 : Int) + (n : Int)) = (48 : Int) + (n : Int) := IntWalk.u64_in _ (by omega)
      clear ih hn h
      generalize UInt8.ofNat (48 + n) = X at hcv ⊢
      go_enter Tryd.func8, Tryd.ntmps8
      go_wp2
      go_ret
      exact ⟨rfl, (Below.refl _ _).alloc (Nat.le_refl _) _⟩
    · rw [dec_big h, ← dec_small (u := n % 10) (by omega)]
      have i1 : ¬ (n : Int) < 10 := by omega
      have hq : (n : Int).tdiv 10 = ((n / 10 : Nat) : Int) := by rw [Int.tdiv_eq_ediv_of_nonneg (by omega)]; omega
      have hr : (n : Int).tmod 10 = ((n % 10 : Nat) : Int) := by rw [Int.tmod_eq_emod_of_nonneg (by omega)]; omega
      have hq2 : (n : Int) / 10 = ((n / 10 : Nat) : Int) := by omega
      have hr2 : (n : Int) % 10 = ((n % 10 : Nat) : Int) := by omega
      have w1 : IntKind.u64.wrap ((n / 10 : Nat) : Int) = ((n / 10 : Nat) : Int) := IntWalk.u64_in _ (by omega)
      have w2 : IntKind.u64.wrap ((n % 10 : Nat) : Int) = ((n % 10 : Nat) : Int) := IntWalk.u64_in _ (by omega)
      have A := ih (n / 10) (by omega) (by omega)
      have B := ih (n % 10) (by omega) (by omega)
      have l1 : (Lib.decDigits (n / 10)).length ≤ 20 := by rw [Lib.decDigits_length]; exact Lib.nDigits_le20 _ (by omega)
      have l2 : (Lib.decDigits (n % 10)).length ≤ 20 := by rw [Lib.decDigits_length]; exact Lib.nDigits_le20 _ (by omega)
      have hc := dcat (Lib.decDigits (n / 10)) (Lib.decDigits (n % 10))
      have k1 : ¬ 9223372036854775807 < (⟨(Lib.decDigits (n / 10)).toArray⟩ : ByteArray).size + (⟨(Lib.decDigits (n % 10)).toArray⟩ : ByteArray).size := by rw [dstr, dstr]; omega
      rw [← hc]
      clear hc l1 l2 ih h hn
      generalize (⟨(Lib.decDigits (n / 10)).toArray⟩ : ByteArray) = X at *
      generalize (⟨(Lib.decDigits (n % 10)).toArray⟩ : ByteArray) = Y at *
      generalize n / 10 = q at *
      generalize n % 10 = r at *
      go_enter Tryd.func8, Tryd.ntmps8
      go_wp2_with (first | (go_at_call 8; (with_reducible refine (A _).mono ?_); rintro e w1 ⟨rfl, hb1⟩) | (go_at_call 8; (with_reducible refine (B _).mono ?_); rintro e w2 ⟨rfl, hb2⟩))
      go_ret
      exact ⟨rfl, below_step hb1 hb2⟩

theorem itoa_of_neg (n : Int) (h : n < 0) : Lib.itoa n = 45 :: Lib.decDigits n.natAbs := by unfold Lib.itoa; rw [if_pos h]
theorem itoa_of_nonneg (n : Int) (h : ¬ n < 0) : Lib.itoa n = Lib.decDigits n.toNat := by unfold Lib.itoa; rw [if_neg h]

set_option maxHeartbeats 1000000 in
/-- The document's number in digits. -/
theorem num_any (n : Int) (h0 : -9223372036854775808 ≤ n) (h1 : n ≤ 9223372036854775807) (w : World) :
    Calls Tryd.prog 5 #[.int .i64 n] w fun e w' => e = .returned (.string ⟨(Lib.itoa n).toArray⟩) ∧ Below w.heap.size w w' := by
  by_cases h : n < 0
  · obtain ⟨u, hu⟩ : ∃ u, u = n.natAbs := ⟨_, rfl⟩
    have A := digits_any u (by omega)
    rw [itoa_of_neg n h, ← hu]
    have e : (⟨(45 :: Lib.decDigits u).toArray⟩ : ByteArray) = ⟨#[45]⟩ ++ ⟨(Lib.decDigits u).toArray⟩ := by rw [show (45 :: Lib.decDigits u) = [45] ++ Lib.decDigits u from rfl, ← dcat]
    have l1 : (Lib.decDigits u).length ≤ 20 := by rw [Lib.decDigits_length]; exact Lib.nDigits_le20 _ (by omega)
    rw [e]
    have k1 : ¬ 9223372036854775807 < (⟨#[45]⟩ : ByteArray).size + (⟨(Lib.decDigits u).toArray⟩ : ByteArray).size := by
      have e1 : (⟨#[45]⟩ : ByteArray).size = 1 := rfl
      have e2 : (⟨(Lib.decDigits u).toArray⟩ : ByteArray).size = (Lib.decDigits u).length := rfl
      omega
    have k2 : ¬ 9223372036854775807 < 1 + (⟨(Lib.decDigits u).toArray⟩ : ByteArray).size := by rw [dstr]; omega
    generalize (⟨(Lib.decDigits u).toArray⟩ : ByteArray) = X at *
    obtain rfl : n = -(u : Int) := by omega
    have w1 : IntKind.i64.wrap (-(u : Int) + 1) = -(u : Int) + 1 := IntWalk.i64_in _ (by omega)
    have w2 : IntKind.i64.wrap (-(-(u : Int) + 1)) = (u : Int) - 1 := by rw [IntWalk.i64_in _ (by omega)]; omega
    have w3 : IntKind.u64.wrap ((u : Int) - 1) = (u : Int) - 1 := IntWalk.u64_in _ (by omega)
    have w4 : IntKind.u64.wrap ((u : Int) - 1 + 1) = (u : Int) := by rw [IntWalk.u64_in _ (by omega)]; omega
    have w5 : (u : Int) - 1 + 1 = (u : Int) := by omega
    clear hu e l1
    go_enter Tryd.func5, Tryd.ntmps5
    go_wp2_with (go_at_call 8; (with_reducible refine (A _).mono ?_); rintro e w1 ⟨rfl, hb1⟩)
    go_ret
    exact ⟨rfl, hb1⟩
  · obtain ⟨u, rfl⟩ : ∃ u : Nat, n = u := ⟨n.toNat, by omega⟩
    rw [itoa_of_nonneg _ h, Int.toNat_natCast]
    have A := digits_any u (by omega)
    have w1 : IntKind.u64.wrap (u : Int) = (u : Int) := IntWalk.u64_in _ (by omega)
    generalize (⟨(Lib.decDigits u).toArray⟩ : ByteArray) = X at *
    go_enter Tryd.func5, Tryd.ntmps5
    go_wp2_with (go_at_call 8; (with_reducible refine (A _).mono ?_); rintro e w1 ⟨rfl, hb1⟩)
    go_ret
    exact ⟨rfl, hb1⟩
/-- What the listed variables hold. -/
structure Laid (W : World) : Prop where
  tab : Lib.TabIs Tryd.prog W "internal/strconv.uint64pow10" .u64 Lib.pow10Tab
  syn : ∃ tp p, W.var? Tryd.prog "strconv.ErrSyntax" = some #[.iface tp p]
  rng : ∃ tp p, W.var? Tryd.prog "strconv.ErrRange" = some #[.iface tp p]
theorem gTab : Tryd.prog.globalNamed "internal/strconv.uint64pow10" = some 2 := by kernel_rfl
theorem gSyn : Tryd.prog.globalNamed "strconv.ErrSyntax" = some 0 := by kernel_rfl
theorem gRng : Tryd.prog.globalNamed "strconv.ErrRange" = some 1 := by kernel_rfl
theorem var_lt {W : World} {n : String} {g : Nat} {cs : Array Value} (hg : Tryd.prog.globalNamed n = some g) (h : W.var? Tryd.prog n = some cs) : g < W.heap.size := by
  unfold World.var? at h
  rw [hg] at h
  simp only [Option.bind_some] at h
  split at h
  · rename_i hh
    exact (Array.getElem?_eq_some_iff.1 hh).1
  · cases h
theorem Laid.below {W W' : World} (h : Laid W) (hb : Below W.heap.size W W') : Laid W' := by
  obtain ⟨h1, ⟨tp, p, h2⟩, ⟨tq, q, h3⟩⟩ := h
  exact ⟨var?_below hb gTab (var_lt gTab h1) h1, ⟨tp, p, var?_below hb gSyn (var_lt gSyn h2) h2⟩, ⟨tq, q, var?_below hb gRng (var_lt gRng h3) h3⟩⟩

theorem parse_any (s : ByteArray) (hs : s.size ≤ 281474976710656) (W : World) (hL : Laid W) :
    (∃ v, Lib.parseIntB 64 s.data.toList = .ok v ∧ Calls Tryd.prog 9 #[.string s, .int .i64 10, .int .i64 64] W fun e w' => e = .returned (.tuple #[.int .i64 v, .nilIface]) ∧ Below W.heap.size W w') ∨
    ((∀ v, Lib.parseIntB 64 s.data.toList ≠ .ok v) ∧ Calls Tryd.prog 9 #[.string s, .int .i64 10, .int .i64 64] W fun e w' => ∃ k t N, e = .returned (.tuple #[.int .i64 k, .iface t (.pointer (some ⟨N, 0, none⟩))]) ∧ Below W.heap.size W w') := by
  obtain ⟨tp, p, h2⟩ := hL.syn
  obtain ⟨tq, q, h3⟩ := hL.rng
  rcases h : Lib.parseIntB 64 s.data.toList with v | _ | _
  · refine .inl ⟨v, rfl, (parse_ok s (by omega) v h W).mono ?_⟩
    rintro e w' ⟨rfl, hw⟩
    refine ⟨rfl, ?_⟩
    rcases hw with rfl | ⟨t, rfl⟩
    · exact Below.refl _ _
    · exact Lib.bytesWorld_below _ _ _
  · refine .inr ⟨(fun v hv => by cases hv), (Any.strconv_ParseInt_10_at64_syntax_var lays174 s hs h tp p W h2).mono ?_⟩
    rintro e w' ⟨N, rfl, _, _, hb⟩
    exact ⟨_, _, N, rfl, hb⟩
  · refine .inr ⟨(fun v hv => by cases hv), (Any.strconv_ParseInt_10_at64_range_var lays174 s hs h tq q W h3).mono ?_⟩
    rintro e w' ⟨N, rfl, _, _, hb⟩
    exact ⟨_, _, N, rfl, hb⟩

theorem parse_bounds {l : List UInt8} {v : Int} (h : Lib.parseIntB 64 l = .ok v) : -9223372036854775808 ≤ v ∧ v ≤ 9223372036854775807 := by
  have := Lib.parseIntB_bounds h
  have e : (2 : Nat) ^ (64 - 1) = 9223372036854775808 := by decide
  omega

set_option maxHeartbeats 1000000 in
theorem number_any (s : ByteArray) (hs : s.size ≤ 281474976710656) (W : World) (hL : Laid W) :
    Calls Tryd.prog 6 #[.string s] W fun e w' => e = .returned (.tuple #[.int .i64 (numR s.data.toList).1, .bool (numR s.data.toList).2]) ∧ Below W.heap.size W w' := by
  rcases parse_any s hs W hL with ⟨v, hv, hP⟩ | ⟨hno, hP⟩
  · have hb := parse_bounds hv
    have hF := fun w' hb' => format_any v hb.1 hb.2 w' (hL.below hb').tab
    have hN : numR s.data.toList = if Lib.itoa v = s.data.toList then (v, true) else (0, false) := by unfold numR; rw [hv]
    by_cases he : Lib.itoa v = s.data.toList
    · rw [if_pos he] at hN
      rw [hN]
      have hx : (⟨(Lib.itoa v).toArray⟩ : ByteArray) = s := str_ext (by rw [← he])
      rw [hx] at hF
      have hne : (s.toList != s.toList) = false := by simp
      have HF := Lib.hid hF
      clear hN hx he hv hb hF hL
      go_enter Tryd.func6, Tryd.ntmps6
      go_wp2_with (first | (go_at_call 9; (with_reducible refine hP.mono ?_); rintro e w1 ⟨rfl, hb1⟩) | (go_at_call 10; (with_reducible refine (HF.out _ hb1).mono ?_); rintro e w2 ⟨rfl, k, os, hw2⟩; have hb2 := Lib.hid (show Below w1.heap.size w1 w2 by rw [hw2]; exact Lib.below_grow _ _ (Nat.le_refl _) _ _); clear hw2))
      go_ret2
      exact ⟨rfl, below_step hb1 hb2.out⟩
    · rw [if_neg he] at hN
      rw [hN]
      have hx : (⟨(Lib.itoa v).toArray⟩ : ByteArray) ≠ s := fun e => he (by rw [← e])
      have hne : ((⟨(Lib.itoa v).toArray⟩ : ByteArray).toList != s.toList) = true := by
        rw [ByteArray.toList_eq, ByteArray.toList_eq, bne_iff_ne]
        exact fun e => hx (str_ext e)
      have hne2 : ((⟨(Lib.itoa v).toArray⟩ : ByteArray).toList == s.toList) = false := by simpa using hne
      have HF := Lib.hid hF
      clear hN hx he hv hb hF hL hne
      generalize (⟨(Lib.itoa v).toArray⟩ : ByteArray) = X at *
      go_enter Tryd.func6, Tryd.ntmps6
      go_wp2_with (first | (go_at_call 9; (with_reducible refine hP.mono ?_); rintro e w1 ⟨rfl, hb1⟩) | (go_at_call 10; (with_reducible refine (HF.out _ hb1).mono ?_); rintro e w2 ⟨rfl, k, os, hw2⟩; have hb2 := Lib.hid (show Below w1.heap.size w1 w2 by rw [hw2]; exact Lib.below_grow _ _ (Nat.le_refl _) _ _); clear hw2))
      go_ret2
      exact ⟨rfl, below_step hb1 hb2.out⟩
  · have hN : numR s.data.toList = (0, false) := by
      unfold numR
      split
      · rename_i v hv
        exact absurd hv (hno v)
      · rfl
    rw [hN]
    clear hN hno hL
    go_enter Tryd.func6, Tryd.ntmps6
    go_wp2_with (go_at_call 9; (with_reducible refine hP.mono ?_); rintro e w1 ⟨k, t, N, rfl, hb1⟩)
    go_ret2
    exact ⟨rfl, hb1⟩
end Go.Proofs.YthaicfnlchkcoaaDoor
