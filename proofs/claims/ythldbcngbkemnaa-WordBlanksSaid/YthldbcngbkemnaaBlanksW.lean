/- The walk of WordBlanks. -/
import Derived.Test.YthldbcngbkemnaaArgB
namespace Go.Proofs.Ythldbcngbkemnaa
open Go.RowKit
open Drawbar Drawbar.Line Drawbar.Sign Drawbar.Esc

theorem refwords_long (T : ByteArray) (h : 400 < T.size) (w : World) : Calls Try.prog 11 #[.string T] w fun e w' => ∃ a c, e = .returned (.tuple #[.slice a 0 c, .int .i64 400, .int .i64 2]) ∧ Below w.heap.size w w' := by
  refine (refwords_any T w).mono fun e w' ht => ?_
  have hR : wordsR T = ([], 400, 2) := by unfold wordsR; rw [if_pos h]
  rw [hR] at ht
  obtain ⟨a, c, rfl, _, hb⟩ := told_lst ht
  exact ⟨a, c, rfl, hb⟩
theorem refwords_ok (T : ByteArray) (l : List ByteArray) (hl : LineOf T l) (h : T.size ≤ 400) (w : World) : Calls Try.prog 11 #[.string T] w fun e w' => ∃ a c, e = .returned (.tuple #[.slice a l.length c, .int .i64 0, .int .i64 0]) ∧ RdS w' a l ∧ Below w.heap.size w w' := by
  refine (refwords_any T w).mono fun e w' ht => ?_
  rw [hl.words h] at ht
  obtain ⟨a, c, rfl, h1, hb⟩ := told_lst ht
  exact ⟨a, c, rfl, h1.2, hb⟩
/-- One more word behind a line that waits for one. -/
theorem word_on {T : ByteArray} {ls : List ByteArray} (h : LineB T ls) (S Q : ByteArray) (L : List Nat) (hL : ∀ x ∈ L, x < 256) (hS : S = strOf L) (hf : fitL L = true) (hQ : Q = strOf (quoteR L)) : LineOf (T ++ Q) (ls ++ [S]) := by
  obtain ⟨hn, rs, hv, hfs, rfl⟩ := fit_of hL hf
  have h1 := h.word rs hv hfs (by omega)
  rw [← hQ, ← hS] at h1
  exact h1
theorem quote_small (L : List Nat) (h : L.length ≤ 30) : (strOf (quoteR L)).size ≤ 62 := by
  rw [size_str]
  unfold quoteR
  split
  · omega
  · have := cnt_le L
    rw [List.length_append, List.length_cons, esc_length, List.length_cons, List.length_nil]; omega
theorem wide_on {T : ByteArray} {ls : List ByteArray} (h : LineB T ls) : LineB (T ++ ⟨#[227, 128, 128]⟩) ls :=
  h.line.blank 12288 [] (by simp [isPart])

set_option maxRecDepth 100000 in
set_option maxHeartbeats 8000000 in
theorem blanks_any (l : List ByteArray) (g : List Nat) (a1 a2 : Option Addr) (c1 c2 : Nat) (W : World) (h1 : RdS W a1 l) (hlen : l.length < 281474976710656) (hl : ∀ s ∈ l, s.size < 281474976710656) (h2 : Rd W a2 g) (hg : g.length < 281474976710656) :
    Calls Try.prog 4 #[.slice a1 l.length c1, .slice a2 g.length c2] W (Yes W) := by
  have HA := Lib.hid awake_any
  by_cases h6 : 6 < l.length
  · have i6 : 6 < (l.length : Int) := by omega
    go_enter Try.func4, Try.ntmps4
    clear h1 hl h2 hg hlen
    go_wp2_with (first | (go_at_call 5; (with_reducible refine (HA.out W).mono ?_); rintro e1 w2 ⟨rfl, hb⟩) | (go_at_call 5; (with_reducible refine (HA.out w2).mono ?_); rintro e1 w3 ⟨rfl, hb3⟩))
    go_ret
    exact ⟨rfl, below_step hb hb3⟩
  · have i6 : ¬ 6 < (l.length : Int) := by omega
    go_enter Try.func4, Try.ntmps4
    go_wp2_with (go_at_call 5; (with_reducible refine (HA.out W).mono ?_); rintro e1 w2 ⟨rfl, hb⟩)
    clear HA
    go_loopw [5, 6, 7] (fun tv uv iv wq => ∃ (k : Nat) (T U : ByteArray), k ≤ l.length ∧ iv = .int .i64 k ∧ tv = .string T ∧ uv = .string U ∧ LineOf T (l.take k) ∧ (k = 0 → T = ⟨#[]⟩) ∧ LineB U (l.take k) ∧ T.size ≤ 63 * k ∧ U.size ≤ 1 + 72 * k ∧ Below W.heap.size W wq) (fun _ _ iv _ => l.length - (intOf iv).toNat)
    case atStart =>
      exact ⟨0, ⟨#[]⟩, ⟨#[9]⟩, by omega, rfl, rfl, rfl, lineB_nil.line, fun _ => rfl, lineB_nil.line.blank 9 [] (by simp [isPart]), by show 0 ≤ _; omega, by show 1 ≤ _; omega, hb⟩
    case round =>
      obtain ⟨k, T, U, hk, rfl, rfl, rfl, hLT, hT0, hLU, hTs, hUs, hbq⟩ := hrel
      by_cases hlt : k < l.length
      · obtain ⟨b1, o1, ha1, hc1⟩ := (h1.below hbq) (by omega)
        subst ha1
        have e1 := hc1 k hlt
        have hS0 : l.getD k ⟨#[]⟩ ∈ l := by rw [List.getD_eq_getElem?_getD, List.getElem?_eq_getElem hlt]; exact List.getElem_mem hlt
        have hsz := hl _ hS0
        have htk := taken l k hlt
        clear hc1 hS0
        have hlt0 : (k : Int) < (l.length : Int) := by omega
        generalize l.getD k ⟨#[]⟩ = S at *
        obtain ⟨L, hL, hS, hLn⟩ := bytes_of S
        have hfit := fun w => fit_any L w hL (by omega)
        rw [← hS] at hfit
        by_cases hf : fitL L = true
        · rw [hf] at hfit
          have HFIT := Lib.hid hfit
          by_cases h30 : 30 < S.size
          · have i30 : 30 < (S.size : Int) := by omega
            clear hfit hf hS hLn hL hLT hLU hl hT0 h30
            go_wp2_with (go_at_call 6; (with_reducible refine (HFIT.out _).mono ?_); rintro e5 w5 ⟨rfl, rfl⟩)
            go_ret
            exact ⟨rfl, by first | exact hbq | exact below_drewN hbq _⟩
          · have i30 : ¬ 30 < (S.size : Int) := by omega
            obtain ⟨Q, hQ, _, hq1, _⟩ := quotes L hL hf
            have hQs : Q.size ≤ 62 := by rw [hQ]; exact quote_small L (by omega)
            rw [← hS] at hq1
            have HQ1 := Lib.hid hq1
            have HK1 := Lib.hid (fun w6 (hb6 : Below wr.heap.size wr w6) => show w6.cell? ⟨b1, o1 + k, none⟩ = some (.string S) by
              rw [hb6.cell (p := ⟨b1, o1 + k, none⟩) (World.block_lt_of_cell? _ _ e1)]; exact e1)
            have HU := Lib.hid (show LineB (U ++ (Q ++ ⟨#[32]⟩)) (l.take (k + 1)) by
              rw [← ByteArray.append_assoc, htk]
              exact (word_on hLU S Q L hL hS hf hQ).blank 32 [] (by simp [isPart]))
            have hTB : ∀ TB, LineB TB (l.take k) → LineOf (TB ++ Q) (l.take (k + 1)) := fun TB h => by
              rw [htk]; exact word_on h S Q L hL hS hf hQ
            have HH := Lib.hid h1
            have q1 : ¬ 9223372036854775807 < Q.size + ({ data := #[32] } : ByteArray).size := by rw [show ({ data := #[32] } : ByteArray).size = 1 from rfl]; omega
            have q2 : ¬ 9223372036854775807 < Q.size + 1 := by omega
            have q3 : ¬ 9223372036854775807 < U.size + (Q ++ ({ data := #[32] } : ByteArray)).size := by rw [size_app, show ({ data := #[32] } : ByteArray).size = 1 from rfl]; omega
            have q4 : ¬ 9223372036854775807 < U.size + (Q.size + 1) := by omega
            have hLU0 : True := trivial
            clear hq1 hfit hf hS hLn hL hQ htk hLU hl h30 h1 hsz
            by_cases hk0 : k = 0
            · have ik : ¬ 0 < (k : Int) := by omega
              have HT := Lib.hid (hTB T (by rw [hT0 hk0, hk0]; exact lineB_nil))
              have t1 : ¬ 9223372036854775807 < T.size + Q.size := by omega
              clear hTB hT0 hLT hk0
              by_cases hgk : k < g.length
              · have igk : (k : Int) < (g.length : Int) := by omega
                obtain ⟨b2, o2, ha2, hc2⟩ := h2.2.2 (by omega)
                subst ha2
                have e2 := hc2 k hgk
                have hx : g.getD k 0 < 256 := h2.1 _ (getD_mem g k hgk)
                clear hc2 h2
                generalize g.getD k 0 = x at *
                have HK2 := Lib.hid (fun w6 (hb6 : Below W.heap.size W w6) => show w6.cell? ⟨b2, o2 + k, none⟩ = some (.int .u8 (x : Nat)) by
                  rw [hb6.cell (p := ⟨b2, o2 + k, none⟩) (World.block_lt_of_cell? _ _ e2)]; exact e2)
                clear e2
                obtain ⟨y, hy, hm⟩ : ∃ y : Nat, y ≤ 3 ∧ ((x : Nat) : Int).tmod 4 = (y : Int) := ⟨x % 4, by omega, by rw [Int.tmod_eq_emod_of_nonneg (by omega)]; omega⟩
                have hw8 : IntKind.u8.wrap (y : Int) = (y : Int) := IntWalk.u8_in _ (by omega)
                go_wp2_with (first
                  | (go_at_call 6; (with_reducible refine (HFIT.out _).mono ?_); rintro e5 w5 ⟨rfl, rfl⟩)
                  | (go_at_call 7; (with_reducible refine (HQ1.out wr).mono ?_); rintro e5 w6 ⟨rfl, hb6⟩; have f6 := HK1.out _ hb6)
                  | (go_at_call 7; (with_reducible refine (HQ1.out w6).mono ?_); rintro e5 w7 ⟨rfl, hb7⟩))
                have hbw := below_step (below_step hbq hb6) hb7
                clear f6 hb6 hb7 e1 hbq HFIT HQ1 HK1 hLU0
                go_loopw [6, 8] (fun uv kv wq => ∃ (j : Nat) (V : ByteArray), j ≤ 3 ∧ kv = .int .i64 j ∧ uv = .string V ∧ Hid (LineB V (l.take (k + 1))) ∧ V.size ≤ 64 + 72 * k + 3 * j ∧ Below W.heap.size W wq) (fun _ kv _ => 3 - (intOf kv).toNat)
                case atStart => exact ⟨0, _, by omega, rfl, rfl, HU, by rw [size_app, size_app, show ({ data := #[32] } : ByteArray).size = 1 from rfl]; omega, hbw⟩
                case round =>
                  obtain ⟨j, V, hj, rfl, rfl, HV, hVs, hbv⟩ := hrel
                  have v1 : ¬ 9223372036854775807 < V.size + ({ data := #[227, 128, 128] } : ByteArray).size := by rw [show ({ data := #[227, 128, 128] } : ByteArray).size = 3 from rfl]; omega
                  have v2 : ¬ 9223372036854775807 < V.size + 3 := by omega
                  have f7 := HK2.out _ hbv
                  by_cases hjy : j < y
                  · have ij : (j : Int) < (y : Int) := by omega
                    have HW := Lib.hid (wide_on HV.out)
                    go_wp2
                    go_roundw
                    case rel => exact ⟨j + 1, _, by omega, by go_num, rfl, HW, by rw [size_app, show ({ data := #[227, 128, 128] } : ByteArray).size = 3 from rfl]; omega, hbv⟩
                    case measure => simp [intOf]; omega
                  · have ij : ¬ (j : Int) < (y : Int) := by omega
                    go_wp2
                    go_roundw
                    case rel => exact ⟨k + 1, _, _, by omega, by go_num, rfl, rfl, HT.out, fun h => by omega, HV.out, by rw [size_app]; omega, by omega, hbv⟩
                    case measure => simp [intOf]; omega
              · have igk : ¬ (k : Int) < (g.length : Int) := by omega
                clear h2
                go_wp2_with (first
                  | (go_at_call 6; (with_reducible refine (HFIT.out _).mono ?_); rintro e5 w5 ⟨rfl, rfl⟩)
                  | (go_at_call 7; (with_reducible refine (HQ1.out wr).mono ?_); rintro e5 w6 ⟨rfl, hb6⟩; have f6 := HK1.out _ hb6)
                  | (go_at_call 7; (with_reducible refine (HQ1.out w6).mono ?_); rintro e5 w7 ⟨rfl, hb7⟩))
                have hbw := below_step (below_step hbq hb6) hb7
                clear f6 hb6 hb7 e1 hbq HFIT HQ1 HK1 hLU0
                go_loopw [6, 8] (fun uv kv wq => ∃ (j : Nat) (V : ByteArray), j ≤ 3 ∧ kv = .int .i64 j ∧ uv = .string V ∧ Hid (LineB V (l.take (k + 1))) ∧ V.size ≤ 64 + 72 * k + 3 * j ∧ Below W.heap.size W wq) (fun _ kv _ => 3 - (intOf kv).toNat)
                case atStart => exact ⟨0, _, by omega, rfl, rfl, HU, by rw [size_app, size_app, show ({ data := #[32] } : ByteArray).size = 1 from rfl]; omega, hbw⟩
                case round =>
                  obtain ⟨j, V, hj, rfl, rfl, HV, hVs, hbv⟩ := hrel
                  have v1 : ¬ 9223372036854775807 < V.size + ({ data := #[227, 128, 128] } : ByteArray).size := by rw [show ({ data := #[227, 128, 128] } : ByteArray).size = 3 from rfl]; omega
                  have v2 : ¬ 9223372036854775807 < V.size + 3 := by omega
                  go_wp2
                  go_roundw
                  case rel => exact ⟨k + 1, _, _, by omega, by go_num, rfl, rfl, HT.out, fun h => by omega, HV.out, by rw [size_app]; omega, by omega, hbv⟩
                  case measure => simp [intOf]; omega
            · have ik : 0 < (k : Int) := by omega
              have HT := Lib.hid (hTB (T ++ ⟨#[32]⟩) (hLT.blank 32 [] (by simp [isPart])))
              have t1 : ¬ 9223372036854775807 < T.size + ({ data := #[32] } : ByteArray).size := by rw [show ({ data := #[32] } : ByteArray).size = 1 from rfl]; omega
              have t2 : ¬ 9223372036854775807 < T.size + 1 := by omega
              have t3 : ¬ 9223372036854775807 < (T ++ ({ data := #[32] } : ByteArray)).size + Q.size := by rw [size_app, show ({ data := #[32] } : ByteArray).size = 1 from rfl]; omega
              have t4 : ¬ 9223372036854775807 < T.size + 1 + Q.size := by omega
              clear hTB hT0 hLT hk0
              by_cases hgk : k < g.length
              · have igk : (k : Int) < (g.length : Int) := by omega
                obtain ⟨b2, o2, ha2, hc2⟩ := h2.2.2 (by omega)
                subst ha2
                have e2 := hc2 k hgk
                have hx : g.getD k 0 < 256 := h2.1 _ (getD_mem g k hgk)
                clear hc2 h2
                generalize g.getD k 0 = x at *
                have HK2 := Lib.hid (fun w6 (hb6 : Below W.heap.size W w6) => show w6.cell? ⟨b2, o2 + k, none⟩ = some (.int .u8 (x : Nat)) by
                  rw [hb6.cell (p := ⟨b2, o2 + k, none⟩) (World.block_lt_of_cell? _ _ e2)]; exact e2)
                clear e2
                obtain ⟨y, hy, hm⟩ : ∃ y : Nat, y ≤ 3 ∧ ((x : Nat) : Int).tmod 4 = (y : Int) := ⟨x % 4, by omega, by rw [Int.tmod_eq_emod_of_nonneg (by omega)]; omega⟩
                have hw8 : IntKind.u8.wrap (y : Int) = (y : Int) := IntWalk.u8_in _ (by omega)
                go_wp2_with (first
                  | (go_at_call 6; (with_reducible refine (HFIT.out _).mono ?_); rintro e5 w5 ⟨rfl, rfl⟩)
                  | (go_at_call 7; (with_reducible refine (HQ1.out wr).mono ?_); rintro e5 w6 ⟨rfl, hb6⟩; have f6 := HK1.out _ hb6)
                  | (go_at_call 7; (with_reducible refine (HQ1.out w6).mono ?_); rintro e5 w7 ⟨rfl, hb7⟩))
                have hbw := below_step (below_step hbq hb6) hb7
                clear f6 hb6 hb7 e1 hbq HFIT HQ1 HK1 hLU0
                go_loopw [6, 8] (fun uv kv wq => ∃ (j : Nat) (V : ByteArray), j ≤ 3 ∧ kv = .int .i64 j ∧ uv = .string V ∧ Hid (LineB V (l.take (k + 1))) ∧ V.size ≤ 64 + 72 * k + 3 * j ∧ Below W.heap.size W wq) (fun _ kv _ => 3 - (intOf kv).toNat)
                case atStart => exact ⟨0, _, by omega, rfl, rfl, HU, by rw [size_app, size_app, show ({ data := #[32] } : ByteArray).size = 1 from rfl]; omega, hbw⟩
                case round =>
                  obtain ⟨j, V, hj, rfl, rfl, HV, hVs, hbv⟩ := hrel
                  have v1 : ¬ 9223372036854775807 < V.size + ({ data := #[227, 128, 128] } : ByteArray).size := by rw [show ({ data := #[227, 128, 128] } : ByteArray).size = 3 from rfl]; omega
                  have v2 : ¬ 9223372036854775807 < V.size + 3 := by omega
                  have f7 := HK2.out _ hbv
                  by_cases hjy : j < y
                  · have ij : (j : Int) < (y : Int) := by omega
                    have HW := Lib.hid (wide_on HV.out)
                    go_wp2
                    go_roundw
                    case rel => exact ⟨j + 1, _, by omega, by go_num, rfl, HW, by rw [size_app, show ({ data := #[227, 128, 128] } : ByteArray).size = 3 from rfl]; omega, hbv⟩
                    case measure => simp [intOf]; omega
                  · have ij : ¬ (j : Int) < (y : Int) := by omega
                    go_wp2
                    go_roundw
                    case rel => exact ⟨k + 1, _, _, by omega, by go_num, rfl, rfl, HT.out, fun h => by omega, HV.out, by rw [size_app, size_app, show ({ data := #[32] } : ByteArray).size = 1 from rfl]; omega, by omega, hbv⟩
                    case measure => simp [intOf]; omega
              · have igk : ¬ (k : Int) < (g.length : Int) := by omega
                clear h2
                go_wp2_with (first
                  | (go_at_call 6; (with_reducible refine (HFIT.out _).mono ?_); rintro e5 w5 ⟨rfl, rfl⟩)
                  | (go_at_call 7; (with_reducible refine (HQ1.out wr).mono ?_); rintro e5 w6 ⟨rfl, hb6⟩; have f6 := HK1.out _ hb6)
                  | (go_at_call 7; (with_reducible refine (HQ1.out w6).mono ?_); rintro e5 w7 ⟨rfl, hb7⟩))
                have hbw := below_step (below_step hbq hb6) hb7
                clear f6 hb6 hb7 e1 hbq HFIT HQ1 HK1 hLU0
                go_loopw [6, 8] (fun uv kv wq => ∃ (j : Nat) (V : ByteArray), j ≤ 3 ∧ kv = .int .i64 j ∧ uv = .string V ∧ Hid (LineB V (l.take (k + 1))) ∧ V.size ≤ 64 + 72 * k + 3 * j ∧ Below W.heap.size W wq) (fun _ kv _ => 3 - (intOf kv).toNat)
                case atStart => exact ⟨0, _, by omega, rfl, rfl, HU, by rw [size_app, size_app, show ({ data := #[32] } : ByteArray).size = 1 from rfl]; omega, hbw⟩
                case round =>
                  obtain ⟨j, V, hj, rfl, rfl, HV, hVs, hbv⟩ := hrel
                  have v1 : ¬ 9223372036854775807 < V.size + ({ data := #[227, 128, 128] } : ByteArray).size := by rw [show ({ data := #[227, 128, 128] } : ByteArray).size = 3 from rfl]; omega
                  have v2 : ¬ 9223372036854775807 < V.size + 3 := by omega
                  go_wp2
                  go_roundw
                  case rel => exact ⟨k + 1, _, _, by omega, by go_num, rfl, rfl, HT.out, fun h => by omega, HV.out, by rw [size_app, size_app, show ({ data := #[32] } : ByteArray).size = 1 from rfl]; omega, by omega, hbv⟩
                  case measure => simp [intOf]; omega
        · have hff : fitL L = false := by simpa using hf
          rw [hff] at hfit
          have HFIT := Lib.hid hfit
          clear hfit hff hf hS hLn hL hLT hLU hl hT0
          go_wp2_with (go_at_call 6; (with_reducible refine (HFIT.out _).mono ?_); rintro e5 w5 ⟨rfl, rfl⟩)
          go_ret
          exact ⟨rfl, by first | exact hbq | exact below_drewN hbq _⟩
      · have hk2 : k = l.length := by omega
        subst hk2
        rw [List.take_length] at hLT hLU
        have HL1 := Lib.hid h1
        have HWT := Lib.hid (words_ok T l hLT (by omega))
        have iT : ¬ 400 < (T.size : Int) := by omega
        have HS := Lib.hid (fun a2 a3 c2 c3 w h2 h3 => same_self l (by omega) l.length rfl a2 a3 c2 c3 w h2 h3)
        by_cases h4 : 400 < U.size
        · have HW := Lib.hid (words_long U h4)
          have HR := Lib.hid (refwords_long U h4)
          have i4 : 400 < (U.size : Int) := by omega
          have hTU : T.size ≠ U.size := by omega
          clear hLT hLU h2 h1 hl hT0
          go_wp2_with (first
            | (go_at_call 9; (with_reducible refine (HWT.out wr).mono ?_); rintro e5 w5 ⟨a5, c5, rfl, hr5, hb5⟩)
            | (go_at_call 9; (with_reducible refine (HW.out w5).mono ?_); rintro e6 w6 ⟨a6, c6, rfl, hb6⟩)
            | (go_at_call 11; (with_reducible refine (HR.out w6).mono ?_); rintro e7 w7 ⟨a7, c7, rfl, hb7⟩)
            | (go_at_call 10; (with_reducible refine (HS.out _ _ _ _ w7 (hr5.below (below_step hb6 hb7)) (HL1.out.below (below_step (below_step (below_step hbq hb5) hb6) hb7))).mono ?_); rintro e8 w8 ⟨rfl, hb8⟩))
          go_ret
          exact ⟨by first | rfl | (simp; done) | (simp; omega), below_step (below_step (below_step (below_step hbq hb5) hb6) hb7) hb8⟩
        · have HW := Lib.hid (words_ok U l hLU.line (by omega))
          have HR := Lib.hid (refwords_ok U l hLU.line (by omega))
          have i4 : ¬ 400 < (U.size : Int) := by omega
          clear hLT hLU h2 h1 hl hT0
          go_wp2_with (first
            | (go_at_call 9; (with_reducible refine (HWT.out wr).mono ?_); rintro e5 w5 ⟨a5, c5, rfl, hr5, hb5⟩)
            | (go_at_call 9; (with_reducible refine (HW.out w5).mono ?_); rintro e6 w6 ⟨a6, c6, rfl, hr6, hb6⟩)
            | (go_at_call 11; (with_reducible refine (HR.out w6).mono ?_); rintro e7 w7 ⟨a7, c7, rfl, hr7, hb7⟩)
            | (go_at_call 10; (with_reducible refine (HS.out a5 a6 c5 c6 w7 (hr5.below (below_step hb6 hb7)) (hr6.below hb7)).mono ?_); rintro e8 w8 ⟨rfl, hb8⟩)
            | (go_at_call 10; (with_reducible refine (HS.out a6 a7 c6 c7 w8 (hr6.below (below_step hb7 hb8)) (hr7.below hb8)).mono ?_); rintro e9 w9 ⟨rfl, hb9⟩))
          go_ret
          exact ⟨by first | rfl | (simp; done) | (simp; omega), below_step (below_step (below_step (below_step (below_step hbq hb5) hb6) hb7) hb8) hb9⟩
end Go.Proofs.Ythldbcngbkemnaa
