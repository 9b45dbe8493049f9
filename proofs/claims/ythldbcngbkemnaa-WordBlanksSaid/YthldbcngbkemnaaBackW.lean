/- The walk of WordBack. -/
import Derived.Test.YthldbcngbkemnaaFit
import Derived.Test.YthldbcngbkemnaaJoinsW
import Derived.Test.YthldbcngbkemnaaAwake
import Derived.Test.YthldbcngbkemnaaSame
import Derived.Test.YthldbcngbkemnaaCounts
import Derived.Test.YthldbcngbkemnaaRefWords
namespace Go.Proofs.Ythldbcngbkemnaa
open Go.RowKit
open Drawbar Drawbar.Line Drawbar.Sign Drawbar.Esc

theorem same_self (k : List ByteArray) (hk : k.length ≤ 1000) (n : Nat) (hn : n = k.length) (a1 a2 : Option Addr) (c1 c2 : Nat) (w : World) (h1 : RdS w a1 k) (h2 : RdS w a2 k) :
    Calls Try.prog 10 #[.slice a1 n c1, .slice a2 n c2] w fun e w' => e = .returned (.bool true) ∧ Below w.heap.size w w' := by
  subst hn
  exact (same_any k k a1 a2 c1 c2 w h1 h2 (by omega) (by omega)).mono (fun e w' (h : _ ∧ _) => ⟨by rw [h.1]; simp, h.2⟩)
theorem rdS_alloc (w : World) (l : List ByteArray) : RdS (w.alloc (.cells (l.map Value.string).toArray 9)) (some ⟨w.heap.size, 0, none⟩) l := by
  intro _
  refine ⟨_, _, rfl, fun i hi => ?_⟩
  rw [World.cell?_alloc_mark, Nat.zero_add, List.getElem?_toArray, List.getElem?_map, List.getElem?_eq_getElem hi, List.getD_eq_getElem?_getD, List.getElem?_eq_getElem hi]
  rfl
theorem words_long (T : ByteArray) (h : 400 < T.size) (w : World) : Calls Try.prog 9 #[.string T] w fun e w' => ∃ a c, e = .returned (.tuple #[.slice a 0 c, .int .i64 400, .int .i64 2]) ∧ Below w.heap.size w w' := by
  refine (words_any T w).mono fun e w' ht => ?_
  have hR : wordsR T = ([], 400, 2) := by unfold wordsR; rw [if_pos h]
  rw [hR] at ht
  obtain ⟨a, c, rfl, _, hb⟩ := told_lst ht
  exact ⟨a, c, rfl, hb⟩
theorem words_ok (T : ByteArray) (l : List ByteArray) (hl : LineOf T l) (h : T.size ≤ 400) (w : World) : Calls Try.prog 9 #[.string T] w fun e w' => ∃ a c, e = .returned (.tuple #[.slice a l.length c, .int .i64 0, .int .i64 0]) ∧ RdS w' a l ∧ Below w.heap.size w w' := by
  refine (words_any T w).mono fun e w' ht => ?_
  rw [hl.words h] at ht
  obtain ⟨a, c, rfl, h1, hb⟩ := told_lst ht
  exact ⟨a, c, rfl, h1.2, hb⟩
def gapS (j : Nat) : List Nat := if j = 0 then [32] else if j = 1 then [9] else if j = 2 then [12288] else if j = 3 then [32, 32] else [32, 9]
/-- A line that grows by a blank and a word. -/
theorem grow {T : ByteArray} {ls : List ByteArray} (h : LineOf T ls) (hT : T.size ≤ 205 * ls.length) (G S Q : ByteArray) (L : List Nat) (hL : ∀ x ∈ L, x < 256) (hS : S = strOf L) (hf : fitL L = true) (hQ : Q = strOf (quoteR L)) (b : Nat) (bs : List Nat)
    (hb : ∀ r ∈ b :: bs, isPart r = true) (hG : G = strOf (flat (b :: bs))) (hGs : G.size ≤ 3) : LineOf (T ++ (G ++ Q)) (ls ++ [S]) ∧ (T ++ (G ++ Q)).size ≤ 205 * (ls ++ [S]).length := by
  obtain ⟨hn, rs, hv, hfs, rfl⟩ := fit_of hL hf
  have h1 := (h.blank b bs hb).word rs hv hfs (by omega)
  rw [← hG, ← hQ, ← hS] at h1
  have e : T ++ (G ++ Q) = T ++ G ++ Q := by rw [ByteArray.append_assoc]
  refine ⟨by rw [e]; exact h1, ?_⟩
  have hq : Q.size ≤ 202 := by
    rw [hQ, size_str]
    unfold quoteR
    split
    · omega
    · have := cnt_le (flat rs)
      rw [List.length_append, List.length_cons, esc_length, List.length_cons, List.length_nil]; omega
  rw [size_app, size_app, List.length_append, List.length_cons, List.length_nil]; omega
theorem taken (l : List ByteArray) (k : Nat) (h : k < l.length) : l.take (k + 1) = l.take k ++ [l.getD k ⟨#[]⟩] := by
  rw [List.take_succ_eq_append_getElem h, List.getD_eq_getElem?_getD, List.getElem?_eq_getElem h]; rfl
theorem quote_le (L : List Nat) (hL : ∀ x ∈ L, x < 256) (hf : fitL L = true) : (strOf (quoteR L)).size ≤ 202 := by
  obtain ⟨hn, _⟩ := fit_of hL hf
  rw [size_str]
  unfold quoteR
  split
  · omega
  · have := cnt_le L
    rw [List.length_append, List.length_cons, esc_length, List.length_cons, List.length_nil]; omega
theorem quotes (L : List Nat) (hL : ∀ x ∈ L, x < 256) (hf : fitL L = true) : ∃ Q, Q = strOf (quoteR L) ∧ Q.size ≤ 202 ∧
    (∀ w, Calls Try.prog 7 #[.string (strOf L)] w fun e w' => e = .returned (.string Q) ∧ Below w.heap.size w w') ∧
    (∀ w, Calls Try.prog 8 #[.string (strOf L)] w fun e w' => e = .returned (.string Q) ∧ w = w') := by
  have hq := quote_le L hL hf
  obtain ⟨hn, rs, hv, _, h⟩ := fit_of hL hf
  refine ⟨_, rfl, hq, fun w => quote_any L w hL hn, fun w => ?_⟩
  have := refquote_any L w hL hn
  rw [h] at this ⊢
  rw [quote_same rs hv]
  exact this

set_option maxRecDepth 100000 in
set_option maxHeartbeats 8000000 in
theorem back_any (l : List ByteArray) (g : List Nat) (a1 a2 : Option Addr) (c1 c2 : Nat) (W : World) (h1 : RdS W a1 l) (hlen : l.length < 281474976710656) (hl : ∀ s ∈ l, s.size < 281474976710656) (h2 : Rd W a2 g) (hg : g.length < 281474976710656) :
    Calls Try.prog 3 #[.slice a1 l.length c1, .slice a2 g.length c2] W (Yes W) := by
  have HA := Lib.hid awake_any
  by_cases h8 : 8 < l.length
  · have i8 : 8 < (l.length : Int) := by omega
    go_enter Try.func3, Try.ntmps3
    clear h1 hl h2 hg hlen
    go_wp2_with (first | (go_at_call 5; (with_reducible refine (HA.out W).mono ?_); rintro e1 w2 ⟨rfl, hb⟩) | (go_at_call 5; (with_reducible refine (HA.out w2).mono ?_); rintro e1 w3 ⟨rfl, hb3⟩))
    go_ret
    exact ⟨rfl, below_step hb hb3⟩
  · have i8 : ¬ 8 < (l.length : Int) := by omega
    go_enter Try.func3, Try.ntmps3
    go_wp2_with (go_at_call 5; (with_reducible refine (HA.out W).mono ?_); rintro e1 w2 ⟨rfl, hb⟩)
    clear HA
    go_loopw [6, 7] (fun tv iv wq => ∃ (k : Nat) (T : ByteArray), k ≤ l.length ∧ iv = .int .i64 k ∧ tv = .string T ∧ LineOf T (l.take k) ∧ T.size ≤ 205 * k ∧ Below W.heap.size W wq ∧ RdS wq (some ⟨w2.heap.size, 0, none⟩) [⟨#[32]⟩, ⟨#[9]⟩, ⟨#[227, 128, 128]⟩, ⟨#[32, 32]⟩, ⟨#[32, 9]⟩]) (fun _ iv _ => l.length - (intOf iv).toNat)
    case atStart =>
      refine ⟨0, ⟨#[]⟩, by omega, rfl, rfl, lineB_nil.line, by show 0 ≤ _; omega, ?_, ?_⟩
      · exact hb.alloc hb.size _
      · exact rdS_alloc w2 [⟨#[32]⟩, ⟨#[9]⟩, ⟨#[227, 128, 128]⟩, ⟨#[32, 32]⟩, ⟨#[32, 9]⟩]
    case round =>
      obtain ⟨k, T, hk, rfl, rfl, hLO, hTs, hbq, hSG⟩ := hrel
      by_cases hlt : k < l.length
      · obtain ⟨b1, o1, ha1, hc1⟩ := (h1.below hbq) (by omega)
        subst ha1
        have e1 := hc1 k hlt
        have hS0 : l.getD k ⟨#[]⟩ ∈ l := by rw [List.getD_eq_getElem?_getD, List.getElem?_eq_getElem hlt]; exact List.getElem_mem hlt
        have hsz := hl _ hS0
        have htk := taken l k hlt
        clear hc1 hS0
        have hlt0 : (k : Int) < (l.length : Int) := by omega
        have hlk : (l.take k).length = k := by rw [List.length_take]; omega
        generalize l.getD k ⟨#[]⟩ = S at *
        obtain ⟨L, hL, hS, hLn⟩ := bytes_of S
        have hfit := fun w => fit_any L w hL (by omega)
        by_cases hf : fitL L = true
        · obtain ⟨Q, hQ, hQs, hq1, hq2⟩ := quotes L hL hf
          rw [← hS] at hq1 hq2
          rw [hf, ← hS] at hfit
          have hGR := fun G b bs h1 h2 h3 => grow hLO (by rw [hlk]; exact hTs) G S Q L hL hS hf hQ b bs h1 h2 h3
          rw [← htk, List.length_take, Nat.min_eq_left (show k + 1 ≤ l.length by omega)] at hGR
          have HK1 := Lib.hid (fun w6 (hb6 : Below wr.heap.size wr w6) => show w6.cell? ⟨b1, o1 + k, none⟩ = some (.string S) by
            rw [hb6.cell (p := ⟨b1, o1 + k, none⟩) (World.block_lt_of_cell? _ _ e1)]; exact e1)
          have HFIT := Lib.hid hfit
          have HQ1 := Lib.hid hq1
          have HQ2 := Lib.hid hq2
          have hxx : (Q.toList != Q.toList) = false := by simp
          have HSG := Lib.hid hSG
          have HL1 := Lib.hid h1
          clear hfit hq1 hq2 hS hLn hL hQ hf htk hlk hLO hSG h1
          have hT2 : T.size ≤ 1640 := by omega
          by_cases hgk : k < g.length
          · have igk : (k : Int) < (g.length : Int) := by omega
            obtain ⟨b2, o2, ha2, hc2⟩ := h2.2.2 (by omega)
            subst ha2
            have e2 := hc2 k hgk
            have hx : g.getD k 0 < 256 := h2.1 _ (getD_mem g k hgk)
            clear hc2 h2
            generalize g.getD k 0 = x at *
            have e2' : wr.cell? ⟨b2, o2 + k, none⟩ = some (.int .u8 (x : Nat)) := by
              rw [hbq.cell (p := ⟨b2, o2 + k, none⟩) (World.block_lt_of_cell? _ _ e2)]; exact e2
            have HK2 := Lib.hid (fun w6 (hb6 : Below wr.heap.size wr w6) => show w6.cell? ⟨b2, o2 + k, none⟩ = some (.int .u8 (x : Nat)) by
              rw [hb6.cell (p := ⟨b2, o2 + k, none⟩) (World.block_lt_of_cell? _ _ e2')]; exact e2')
            clear e2 e2'
            have hj : x % 5 = 0 ∨ x % 5 = 1 ∨ x % 5 = 2 ∨ x % 5 = 3 ∨ x % 5 = 4 := by omega
            rcases hj with hj | hj | hj | hj | hj
            · have hm : ((x : Nat) : Int).tmod 5 = 0 := by rw [Int.tmod_eq_emod_of_nonneg (by omega)]; omega
              have hG0 := hGR ⟨#[32]⟩ 32 [] (by simp [isPart]) rfl (by decide)
              have hK3 : ∀ w6 (hb6 : Below wr.heap.size wr w6), w6.cell? ⟨w2.heap.size, 0, none⟩ = some (.string ⟨#[32]⟩) := fun w6 hb6 => by
                obtain ⟨b, off, hbo, hc⟩ := (HSG.out.below hb6) (by simp)
                cases hbo
                have := hc 0 (by simp)
                rw [Nat.zero_add] at this
                exact this
              have hGs : (⟨#[32]⟩ : ByteArray).size ≤ 3 := by decide
              obtain ⟨G, hGe⟩ : ∃ G : ByteArray, G = ⟨#[32]⟩ := ⟨_, rfl⟩
              rw [← hGe] at hG0 hK3 hGs
              clear hGe
              have HG := Lib.hid hG0
              have HK3 := Lib.hid hK3
              clear hGR hK3 hG0 hj
              go_wp2_with (first
                | (go_at_call 6; (with_reducible refine (HFIT.out _).mono ?_); rintro e5 w5 ⟨rfl, rfl⟩)
                | (go_at_call 7; (with_reducible refine (HQ1.out _).mono ?_); rintro e5 w6 ⟨rfl, hb6⟩; have f6 := HK1.out _ hb6; have f7 := HK2.out _ hb6; have f8 := HK3.out _ hb6)
                | (go_at_call 8; (with_reducible refine (HQ2.out _).mono ?_); rintro e5 w7 ⟨rfl, rfl⟩))
              go_roundw
              case rel => exact ⟨k + 1, _, by omega, by go_num, rfl, HG.out.1, HG.out.2, by first | exact below_step hbq hb6 | exact below_drewN (below_step hbq hb6) _, by first | exact HSG.out.below hb6 | exact HSG.out.below (below_drewN hb6 _)⟩
              case measure => simp [intOf]; omega
            · have hm : ((x : Nat) : Int).tmod 5 = 1 := by rw [Int.tmod_eq_emod_of_nonneg (by omega)]; omega
              have hG0 := hGR ⟨#[9]⟩ 9 [] (by simp [isPart]) rfl (by decide)
              have hK3 : ∀ w6 (hb6 : Below wr.heap.size wr w6), w6.cell? ⟨w2.heap.size, 1, none⟩ = some (.string ⟨#[9]⟩) := fun w6 hb6 => by
                obtain ⟨b, off, hbo, hc⟩ := (HSG.out.below hb6) (by simp)
                cases hbo
                have := hc 1 (by simp)
                rw [Nat.zero_add] at this
                exact this
              have hGs : (⟨#[9]⟩ : ByteArray).size ≤ 3 := by decide
              obtain ⟨G, hGe⟩ : ∃ G : ByteArray, G = ⟨#[9]⟩ := ⟨_, rfl⟩
              rw [← hGe] at hG0 hK3 hGs
              clear hGe
              have HG := Lib.hid hG0
              have HK3 := Lib.hid hK3
              clear hGR hK3 hG0 hj
              go_wp2_with (first
                | (go_at_call 6; (with_reducible refine (HFIT.out _).mono ?_); rintro e5 w5 ⟨rfl, rfl⟩)
                | (go_at_call 7; (with_reducible refine (HQ1.out _).mono ?_); rintro e5 w6 ⟨rfl, hb6⟩; have f6 := HK1.out _ hb6; have f7 := HK2.out _ hb6; have f8 := HK3.out _ hb6)
                | (go_at_call 8; (with_reducible refine (HQ2.out _).mono ?_); rintro e5 w7 ⟨rfl, rfl⟩))
              go_roundw
              case rel => exact ⟨k + 1, _, by omega, by go_num, rfl, HG.out.1, HG.out.2, by first | exact below_step hbq hb6 | exact below_drewN (below_step hbq hb6) _, by first | exact HSG.out.below hb6 | exact HSG.out.below (below_drewN hb6 _)⟩
              case measure => simp [intOf]; omega
            · have hm : ((x : Nat) : Int).tmod 5 = 2 := by rw [Int.tmod_eq_emod_of_nonneg (by omega)]; omega
              have hG0 := hGR ⟨#[227, 128, 128]⟩ 12288 [] (by simp [isPart]) rfl (by decide)
              have hK3 : ∀ w6 (hb6 : Below wr.heap.size wr w6), w6.cell? ⟨w2.heap.size, 2, none⟩ = some (.string ⟨#[227, 128, 128]⟩) := fun w6 hb6 => by
                obtain ⟨b, off, hbo, hc⟩ := (HSG.out.below hb6) (by simp)
                cases hbo
                have := hc 2 (by simp)
                rw [Nat.zero_add] at this
                exact this
              have hGs : (⟨#[227, 128, 128]⟩ : ByteArray).size ≤ 3 := by decide
              obtain ⟨G, hGe⟩ : ∃ G : ByteArray, G = ⟨#[227, 128, 128]⟩ := ⟨_, rfl⟩
              rw [← hGe] at hG0 hK3 hGs
              clear hGe
              have HG := Lib.hid hG0
              have HK3 := Lib.hid hK3
              clear hGR hK3 hG0 hj
              go_wp2_with (first
                | (go_at_call 6; (with_reducible refine (HFIT.out _).mono ?_); rintro e5 w5 ⟨rfl, rfl⟩)
                | (go_at_call 7; (with_reducible refine (HQ1.out _).mono ?_); rintro e5 w6 ⟨rfl, hb6⟩; have f6 := HK1.out _ hb6; have f7 := HK2.out _ hb6; have f8 := HK3.out _ hb6)
                | (go_at_call 8; (with_reducible refine (HQ2.out _).mono ?_); rintro e5 w7 ⟨rfl, rfl⟩))
              go_roundw
              case rel => exact ⟨k + 1, _, by omega, by go_num, rfl, HG.out.1, HG.out.2, by first | exact below_step hbq hb6 | exact below_drewN (below_step hbq hb6) _, by first | exact HSG.out.below hb6 | exact HSG.out.below (below_drewN hb6 _)⟩
              case measure => simp [intOf]; omega
            · have hm : ((x : Nat) : Int).tmod 5 = 3 := by rw [Int.tmod_eq_emod_of_nonneg (by omega)]; omega
              have hG0 := hGR ⟨#[32, 32]⟩ 32 [32] (by simp [isPart]) rfl (by decide)
              have hK3 : ∀ w6 (hb6 : Below wr.heap.size wr w6), w6.cell? ⟨w2.heap.size, 3, none⟩ = some (.string ⟨#[32, 32]⟩) := fun w6 hb6 => by
                obtain ⟨b, off, hbo, hc⟩ := (HSG.out.below hb6) (by simp)
                cases hbo
                have := hc 3 (by simp)
                rw [Nat.zero_add] at this
                exact this
              have hGs : (⟨#[32, 32]⟩ : ByteArray).size ≤ 3 := by decide
              obtain ⟨G, hGe⟩ : ∃ G : ByteArray, G = ⟨#[32, 32]⟩ := ⟨_, rfl⟩
              rw [← hGe] at hG0 hK3 hGs
              clear hGe
              have HG := Lib.hid hG0
              have HK3 := Lib.hid hK3
              clear hGR hK3 hG0 hj
              go_wp2_with (first
                | (go_at_call 6; (with_reducible refine (HFIT.out _).mono ?_); rintro e5 w5 ⟨rfl, rfl⟩)
                | (go_at_call 7; (with_reducible refine (HQ1.out _).mono ?_); rintro e5 w6 ⟨rfl, hb6⟩; have f6 := HK1.out _ hb6; have f7 := HK2.out _ hb6; have f8 := HK3.out _ hb6)
                | (go_at_call 8; (with_reducible refine (HQ2.out _).mono ?_); rintro e5 w7 ⟨rfl, rfl⟩))
              go_roundw
              case rel => exact ⟨k + 1, _, by omega, by go_num, rfl, HG.out.1, HG.out.2, by first | exact below_step hbq hb6 | exact below_drewN (below_step hbq hb6) _, by first | exact HSG.out.below hb6 | exact HSG.out.below (below_drewN hb6 _)⟩
              case measure => simp [intOf]; omega
            · have hm : ((x : Nat) : Int).tmod 5 = 4 := by rw [Int.tmod_eq_emod_of_nonneg (by omega)]; omega
              have hG0 := hGR ⟨#[32, 9]⟩ 32 [9] (by simp [isPart]) rfl (by decide)
              have hK3 : ∀ w6 (hb6 : Below wr.heap.size wr w6), w6.cell? ⟨w2.heap.size, 4, none⟩ = some (.string ⟨#[32, 9]⟩) := fun w6 hb6 => by
                obtain ⟨b, off, hbo, hc⟩ := (HSG.out.below hb6) (by simp)
                cases hbo
                have := hc 4 (by simp)
                rw [Nat.zero_add] at this
                exact this
              have hGs : (⟨#[32, 9]⟩ : ByteArray).size ≤ 3 := by decide
              obtain ⟨G, hGe⟩ : ∃ G : ByteArray, G = ⟨#[32, 9]⟩ := ⟨_, rfl⟩
              rw [← hGe] at hG0 hK3 hGs
              clear hGe
              have HG := Lib.hid hG0
              have HK3 := Lib.hid hK3
              clear hGR hK3 hG0 hj
              go_wp2_with (first
                | (go_at_call 6; (with_reducible refine (HFIT.out _).mono ?_); rintro e5 w5 ⟨rfl, rfl⟩)
                | (go_at_call 7; (with_reducible refine (HQ1.out _).mono ?_); rintro e5 w6 ⟨rfl, hb6⟩; have f6 := HK1.out _ hb6; have f7 := HK2.out _ hb6; have f8 := HK3.out _ hb6)
                | (go_at_call 8; (with_reducible refine (HQ2.out _).mono ?_); rintro e5 w7 ⟨rfl, rfl⟩))
              go_roundw
              case rel => exact ⟨k + 1, _, by omega, by go_num, rfl, HG.out.1, HG.out.2, by first | exact below_step hbq hb6 | exact below_drewN (below_step hbq hb6) _, by first | exact HSG.out.below hb6 | exact HSG.out.below (below_drewN hb6 _)⟩
              case measure => simp [intOf]; omega
          · have igk : ¬ (k : Int) < (g.length : Int) := by omega
            have HG := Lib.hid (hGR ⟨#[32]⟩ 32 [] (by simp [isPart]) rfl (by decide))
            have k1 : ¬ 9223372036854775807 < ({ data := #[32] } : ByteArray).size + Q.size := by rw [show ({ data := #[32] } : ByteArray).size = 1 from rfl]; omega
            have k2 : ¬ 9223372036854775807 < 1 + Q.size := by omega
            have k3 : ¬ 9223372036854775807 < T.size + (({ data := #[32] } : ByteArray) ++ Q).size := by rw [size_app, show ({ data := #[32] } : ByteArray).size = 1 from rfl]; omega
            have k4 : ¬ 9223372036854775807 < T.size + (1 + Q.size) := by omega
            clear hGR h2
            go_wp2_with (first
              | (go_at_call 6; (with_reducible refine (HFIT.out _).mono ?_); rintro e5 w5 ⟨rfl, rfl⟩)
              | (go_at_call 7; (with_reducible refine (HQ1.out _).mono ?_); rintro e5 w6 ⟨rfl, hb6⟩; have f6 := HK1.out _ hb6)
              | (go_at_call 8; (with_reducible refine (HQ2.out _).mono ?_); rintro e5 w7 ⟨rfl, rfl⟩))
            go_roundw
            case rel => exact ⟨k + 1, _, by omega, by go_num, rfl, HG.out.1, HG.out.2, by first | exact below_step hbq hb6 | exact below_drewN (below_step hbq hb6) _, by first | exact HSG.out.below hb6 | exact HSG.out.below (below_drewN hb6 _)⟩
            case measure => simp [intOf]; omega
        · have hff : fitL L = false := by simpa using hf
          rw [hff, ← hS] at hfit
          have HFIT := Lib.hid hfit
          clear hfit hff hf hS hLn hL hLO hSG
          go_wp2_with (go_at_call 6; (with_reducible refine (HFIT.out _).mono ?_); rintro e5 w5 ⟨rfl, rfl⟩)
          go_ret
          exact ⟨rfl, by first | exact hbq | exact below_drewN hbq _⟩
      · have hk2 : k = l.length := by omega
        subst hk2
        rw [List.take_length] at hLO
        have HL1 := Lib.hid h1
        by_cases h4 : 400 < T.size
        · have HW := Lib.hid (words_long T h4)
          have i4 : 400 < (T.size : Int) := by omega
          clear hLO h2 hSG h1 hl
          go_wp2_with (go_at_call 9; (with_reducible refine (HW.out _).mono ?_); rintro e5 w5 ⟨a5, c5, rfl, hb5⟩)
          go_ret
          exact ⟨rfl, below_step hbq hb5⟩
        · have HW := Lib.hid (words_ok T l hLO (by omega))
          have i4 : ¬ 400 < (T.size : Int) := by omega
          have HS := Lib.hid (fun a2 c2 w h2 h3 => same_self l (by omega) l.length rfl a1 a2 c1 c2 w h2 h3)
          clear hLO h2 hSG h1 hl
          go_wp2_with (first
            | (go_at_call 9; (with_reducible refine (HW.out _).mono ?_); rintro e5 w5 ⟨a5, c5, rfl, hr5, hb5⟩)
            | (go_at_call 10; (with_reducible refine (HS.out a5 c5 w5 (HL1.out.below (below_step hbq hb5)) hr5).mono ?_); rintro e6 w6 ⟨rfl, hb6⟩))
          go_ret
          exact ⟨by first | rfl | simp, below_step (below_step hbq hb5) hb6⟩
end Go.Proofs.Ythldbcngbkemnaa
