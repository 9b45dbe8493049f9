/- The contracts of strings.Count (of one byte), and of (*strings.byteStringReplacer).Replace of a long text. -/
import Derived.Test.YthldbcngbkemnaaRepl
namespace Go.Proofs.Ythldbcngbkemnaa
open Go.RowKit
open Drawbar Drawbar.Sign Drawbar.Esc

set_option maxRecDepth 100000 in
set_option maxHeartbeats 2000000 in
/-- How often a byte stands in a text. -/
theorem count_one (L : List Nat) (c : Nat) (hL : ∀ x ∈ L, x < 256) (hc : c < 256) (w : World) : Calls Try.prog 103 #[.string (strOf L), .string ⟨#[UInt8.ofNat c]⟩] w fun e w' => e = .returned (.int .i64 (L.count c : Nat)) ∧ w = w' := by
  have hcount : Lib.countByte (strOf L).data.toList (UInt8.ofNat c) = L.count c := by
    unfold Lib.countByte
    show (L.map UInt8.ofNat).count (UInt8.ofNat c) = L.count c
    induction L with
    | nil => rfl
    | cons x l ih =>
      rw [List.map_cons, List.count_cons, List.count_cons, ih (fun y hy => hL y (List.mem_cons_of_mem _ hy))]
      congr 1
      have hx := hL x (List.mem_cons_self ..)
      by_cases h : x = c
      · subst h; simp
      · have h2 : UInt8.ofNat x ≠ UInt8.ofNat c := fun e => h (by
          have := congrArg UInt8.toNat e
          rw [UInt8.toNat_ofNat', UInt8.toNat_ofNat'] at this
          omega)
        simp [h, h2]
  generalize strOf L = S at *
  go_enter Try.func103, Try.ntmps103
  go_wp2
  rw [run_callFunc_extern Try.func105 (by kernel_rfl) (by kernel_rfl) (by kernel_rfl) (e := Extern.BytealgCount.count) (by kernel_rfl), Lib.run_countString]
  simp only [Result.andThen]
  rw [Oper.upon_value]
  go_wp2
  go_ret
  exact ⟨congrArg (fun n : Nat => Ending.returned (.int .i64 (n : Int))) hcount, rfl⟩

theorem cnt_sum (l : List Nat) : cntE l = l.count 9 + l.count 10 + l.count 92 + l.count 34 := by
  induction l with
  | nil => rfl
  | cons c l ih =>
    show (if isE c = true then 1 else 0) + cntE l = _
    rw [ih, List.count_cons, List.count_cons, List.count_cons, List.count_cons]
    by_cases h1 : c = 9
    · subst h1; simp [isE]; omega
    · by_cases h2 : c = 10
      · subst h2; simp [isE]; omega
      · by_cases h3 : c = 92
        · subst h3; simp [isE]; omega
        · by_cases h4 : c = 34
          · subst h4; simp [isE]; omega
          · simp [isE, h1, h2, h3, h4]

set_option maxRecDepth 100000 in
set_option maxHeartbeats 8000000 in
theorem replace_long (L : List Nat) (rb : Nat) (w : World) (hL : ∀ x ∈ L, x < 256) (hn : 32 ≤ L.length) (hn2 : L.length ≤ 100) (hR : RepAt w rb) :
    Calls Try.prog 101 #[.pointer (some ⟨rb, 0, none⟩), .string (strOf L)] w fun e w' => e = .returned (.string (strOf (esc L))) ∧ Below w.heap.size w w' := by
  obtain ⟨tb, tc, t0, t1, t2, t3, t4, t5⟩ := hR.tr
  have hsz := size_str L
  have hget := fun k hk h => at_str L hL k hk h
  have hn32 : (32 : Int) ≤ (L.length : Int) := by omega
  have hes : cntE L = 0 → strOf (esc L) = strOf L := fun h => by rw [esc_none L h]
  have hcl := cnt_le L
  have HCM := Lib.hid (fun k => cnt_mono L k)
  have n0 := fun W => count_one L 9 hL (by omega) W
  have n1 := fun W => count_one L 10 hL (by omega) W
  have n2 := fun W => count_one L 92 hL (by omega) W
  have n3 := fun W => count_one L 34 hL (by omega) W
  have hsum := cnt_sum L
  obtain ⟨D0, hD0⟩ : ∃ D, D = L.count 9 := ⟨_, rfl⟩
  obtain ⟨D1, hD1⟩ : ∃ D, D = L.count 10 := ⟨_, rfl⟩
  obtain ⟨D2, hD2⟩ : ∃ D, D = L.count 92 := ⟨_, rfl⟩
  obtain ⟨D3, hD3⟩ : ∃ D, D = L.count 34 := ⟨_, rfl⟩
  rw [← hD0] at n0 hsum
  rw [← hD1] at n1 hsum
  rw [← hD2] at n2 hsum
  rw [← hD3] at n3 hsum
  obtain ⟨S, hS⟩ : ∃ S, S = strOf L := ⟨_, rfl⟩
  obtain ⟨C, hC⟩ : ∃ C, cntE L = C := ⟨_, rfl⟩
  rw [hC] at hes hcl HCM hsum
  rw [← hS] at hsz hget hes n0 n1 n2 n3 ⊢
  have HG := Lib.hid hget
  have HR := Lib.hid hR
  have HES := Lib.hid hes
  have HL := Lib.hid hL
  have HC := Lib.hid hC
  have HSUM := Lib.hid hsum
  have N0 := Lib.hid n0
  have N1 := Lib.hid n1
  have N2 := Lib.hid n2
  have N3 := Lib.hid n3
  have HT := Lib.hid (And.intro t2 (And.intro t3 (And.intro t4 t5)))
  have hDC : D0 + D1 + D2 + D3 ≤ 100 := by omega
  clear hget hR hS hes hL hC n0 n1 n2 n3 hsum hD0 hD1 hD2 hD3 t2 t3 t4 t5
  go_enter Try.func101, Try.ntmps101
  go_wp2
  go_loopw [5, 6, 32] (fun nv av iv wz => Below w.heap.size w wz ∧ ((iv = .int .i64 0 ∧ ∃ m : Nat, nv = .int .i64 m ∧ m = L.length + (0) ∧ av = .bool (decide (0 < 0))) ∨ (iv = .int .i64 1 ∧ ∃ m : Nat, nv = .int .i64 m ∧ m = L.length + (D0) ∧ av = .bool (decide (0 < D0))) ∨ (iv = .int .i64 2 ∧ ∃ m : Nat, nv = .int .i64 m ∧ m = L.length + (D0 + D1) ∧ av = .bool (decide (0 < D0 + D1))) ∨ (iv = .int .i64 3 ∧ ∃ m : Nat, nv = .int .i64 m ∧ m = L.length + (D0 + D1 + D2) ∧ av = .bool (decide (0 < D0 + D1 + D2))) ∨ (iv = .int .i64 4 ∧ ∃ m : Nat, nv = .int .i64 m ∧ m = L.length + (D0 + D1 + D2 + D3) ∧ av = .bool (decide (0 < D0 + D1 + D2 + D3))))) (fun _ _ iv _ => 4 - (intOf iv).toNat)
  case atStart => exact ⟨Below.refl _ _, .inl ⟨rfl, L.length, rfl, rfl, rfl⟩⟩
  case round =>
    obtain ⟨hBr, ⟨rfl, M, rfl, hm, rfl⟩ | ⟨rfl, M, rfl, hm, rfl⟩ | ⟨rfl, M, rfl, hm, rfl⟩ | ⟨rfl, M, rfl, hm, rfl⟩ | ⟨rfl, M, rfl, hm, rfl⟩⟩ := hrel
    · have hT := HT.out
      have q0 := (hBr.cell (p := ⟨tb, 0, none⟩) (World.block_lt_of_cell? w _ hT.1)).trans hT.1
      have HM := Lib.hid hm
      have hM1 : M ≤ 1000 := by omega
      obtain ⟨b, cp, hy, -, -⟩ := (HR.out.below hBr).yes 9 (by omega) rfl
      have hix : ((⟨#[9]⟩ : ByteArray)[0]'(by decide)).toNat = 9 := rfl
      clear hT hm
      by_cases hD : D0 = 0
      · subst hD
        go_wp2_with (go_at_call 103; (refine (N0.out _).mono ?_); rintro e w2 ⟨rfl, rfl⟩)
        go_roundw
        case rel => exact ⟨hBr, .inr (.inl ⟨rfl, M, rfl, HM.out, by simp⟩)⟩
        case measure => simp [intOf]
      · have hq : ((D0 : Int) != 0) = true := by simp; omega
        have hM2 : D0 ≤ 100 := by omega
        go_wp2_with (go_at_call 103; (refine (N0.out _).mono ?_); rintro e w2 ⟨rfl, rfl⟩)
        go_region
        go_wp2
        go_roundw
        case rel => exact ⟨hBr.drew, .inr (.inl ⟨rfl, M + D0, by go_num, by rw [HM.out]; omega, congrArg Value.bool (decide_eq_true (by omega)).symm⟩)⟩
        case measure => simp [intOf]
    · have hT := HT.out
      have q0 := (hBr.cell (p := ⟨tb, 1, none⟩) (World.block_lt_of_cell? w _ hT.2.1)).trans hT.2.1
      have HM := Lib.hid hm
      have hM1 : M ≤ 1000 := by omega
      obtain ⟨b, cp, hy, -, -⟩ := (HR.out.below hBr).yes 10 (by omega) rfl
      have hix : ((⟨#[10]⟩ : ByteArray)[0]'(by decide)).toNat = 10 := rfl
      clear hT hm
      by_cases hD : D1 = 0
      · subst hD
        go_wp2_with (go_at_call 103; (refine (N1.out _).mono ?_); rintro e w2 ⟨rfl, rfl⟩)
        go_roundw
        case rel => exact ⟨hBr, .inr (.inr (.inl ⟨rfl, M, rfl, HM.out, by simp⟩))⟩
        case measure => simp [intOf]
      · have hq : ((D1 : Int) != 0) = true := by simp; omega
        have hM2 : D1 ≤ 100 := by omega
        go_wp2_with (go_at_call 103; (refine (N1.out _).mono ?_); rintro e w2 ⟨rfl, rfl⟩)
        go_region
        go_wp2
        go_roundw
        case rel => exact ⟨hBr.drew, .inr (.inr (.inl ⟨rfl, M + D1, by go_num, by rw [HM.out]; omega, congrArg Value.bool (decide_eq_true (by omega)).symm⟩))⟩
        case measure => simp [intOf]
    · have hT := HT.out
      have q0 := (hBr.cell (p := ⟨tb, 2, none⟩) (World.block_lt_of_cell? w _ hT.2.2.1)).trans hT.2.2.1
      have HM := Lib.hid hm
      have hM1 : M ≤ 1000 := by omega
      obtain ⟨b, cp, hy, -, -⟩ := (HR.out.below hBr).yes 92 (by omega) rfl
      have hix : ((⟨#[92]⟩ : ByteArray)[0]'(by decide)).toNat = 92 := rfl
      clear hT hm
      by_cases hD : D2 = 0
      · subst hD
        go_wp2_with (go_at_call 103; (refine (N2.out _).mono ?_); rintro e w2 ⟨rfl, rfl⟩)
        go_roundw
        case rel => exact ⟨hBr, .inr (.inr (.inr (.inl ⟨rfl, M, rfl, HM.out, by simp⟩)))⟩
        case measure => simp [intOf]
      · have hq : ((D2 : Int) != 0) = true := by simp; omega
        have hM2 : D2 ≤ 100 := by omega
        go_wp2_with (go_at_call 103; (refine (N2.out _).mono ?_); rintro e w2 ⟨rfl, rfl⟩)
        go_region
        go_wp2
        go_roundw
        case rel => exact ⟨hBr.drew, .inr (.inr (.inr (.inl ⟨rfl, M + D2, by go_num, by rw [HM.out]; omega, congrArg Value.bool (decide_eq_true (by omega)).symm⟩)))⟩
        case measure => simp [intOf]
    · have hT := HT.out
      have q0 := (hBr.cell (p := ⟨tb, 3, none⟩) (World.block_lt_of_cell? w _ hT.2.2.2)).trans hT.2.2.2
      have HM := Lib.hid hm
      have hM1 : M ≤ 1000 := by omega
      obtain ⟨b, cp, hy, -, -⟩ := (HR.out.below hBr).yes 34 (by omega) rfl
      have hix : ((⟨#[34]⟩ : ByteArray)[0]'(by decide)).toNat = 34 := rfl
      clear hT hm
      by_cases hD : D3 = 0
      · subst hD
        go_wp2_with (go_at_call 103; (refine (N3.out _).mono ?_); rintro e w2 ⟨rfl, rfl⟩)
        go_roundw
        case rel => exact ⟨hBr, .inr (.inr (.inr (.inr (⟨rfl, M, rfl, HM.out, by simp⟩))))⟩
        case measure => simp [intOf]
      · have hq : ((D3 : Int) != 0) = true := by simp; omega
        have hM2 : D3 ≤ 100 := by omega
        go_wp2_with (go_at_call 103; (refine (N3.out _).mono ?_); rintro e w2 ⟨rfl, rfl⟩)
        go_region
        go_wp2
        go_roundw
        case rel => exact ⟨hBr.drew, .inr (.inr (.inr (.inr (⟨rfl, M + D3, by go_num, by rw [HM.out]; omega, congrArg Value.bool (decide_eq_true (by omega)).symm⟩))))⟩
        case measure => simp [intOf]
    · rename World => wz
      have hM1 : M ≤ 1000 := by omega
      have hsm := HSUM.out
      have HM := Lib.hid (show M = L.length + C by omega)
      rw [← hsm]
      have HRW := Lib.hid (HR.out.below hBr)
      have HWB := Lib.hid hBr
      clear hm hsm hBr HT N0 N1 N2 N3
      rcases Nat.eq_zero_or_pos C with h0 | h0
      · subst h0
        have hsame := HES.out rfl
        go_wp2
        go_ret
        exact ⟨rfl, HWB.out⟩
      · obtain ⟨i0, hi0, hz0, hz1, hz2⟩ := info_parts info_u8
        go_wp2_with (at_make; refine wpList_make_full _ rfl _ _ 23 rfl wz.heap.size 5 i0 (.int .u8 0) 1 Try.underlying23 hi0 hz0 hz1 .i64 .i64 (M : Int) (M : Int) M rfl rfl rfl rfl (by rw [hz2]; omega) (by unfold maxLen; omega) (Nat.le_refl _) ?_)
        intro w1 hown hgr
        have hB1 : Below wz.heap.size wz w1 := (Below.refl _ _).grown hgr (Nat.le_refl _) (fun k hk => by cases hk)
        have hrow := make_row hown
        rw [show (madeCells #[Value.int IntKind.u8 0] M).toList = rowOf [] M from made_row M] at hrow
        clear hown hgr hi0 hz0 hz1 hz2
        go_wp2
        go_loopw [13, 14] (fun jv iv wr => ∃ k j : Nat, k ≤ L.length ∧ iv = .int .i64 k ∧ jv = .int .i64 j ∧ j = (esc (L.take k)).length ∧ wr.heap[wz.heap.size]? = some (.cells (rowOf (esc (L.take k)) M).toArray 5 (0, 0)) ∧ Below wz.heap.size wz wr) (fun _ iv _ => L.length - (intOf iv).toNat)
        case atStart => exact ⟨0, 0, by omega, rfl, rfl, rfl, hrow, hB1⟩
        case round =>
          obtain ⟨k, j, hk, rfl, rfl, hj, hrow2, hB⟩ := hrel
          clear hrow hB1
          by_cases hlt : k < L.length
          · have hg := HG.out k hlt (by rw [hsz]; exact hlt)
            have het := esc_take L k hlt
            have hct := cnt_take L k hlt
            have hcm := HCM.out (k + 1)
            have hjl : j = k + cntE (L.take k) := by rw [hj, esc_length, List.length_take]; omega
            have hxl : L.getD k 0 < 256 := HL.out _ (getD_mem L k hlt)
            have hRw := HRW.out.below hB
            generalize L.getD k 0 = x at *
            generalize esc (L.take k) = E at *
            cases hx : isE x with
            | false =>
              have hno := hRw.no x hxl hx
              rw [hx, if_neg (by decide)] at hct
              have hes : escB x = [x] := by unfold escB; rw [hx]; rfl
              rw [hes] at het
              have hjM : j < M := by have hm := HM.out; omega
              subst hj
              have b0 := cell_row hrow2 E.length _ (rowOf_next E M hjM)
              have z0 := frozen_row hrow2 E.length
              have hfin := set_cells hrow2 E.length (.int .u8 (x : Int))
              have hB2 : Below wz.heap.size wz (wr.setCell ⟨wz.heap.size, E.length, none⟩ (.int .u8 (x : Int))) := hB.setCell (Nat.le_refl _) _
              rw [List.setIfInBounds_toArray, rowOf_set E M x hjM, ← het] at hfin
              have HALL := Lib.hid (And.intro hfin hB2)
              have HLN := Lib.hid (show E.length + 1 = (esc (L.take (k + 1))).length by rw [het, List.length_append]; rfl)
              generalize E.length = j at *
              clear hct hcm hjl hrow2 hB hfin hB2 het hes hx hRw
              go_wp2
              go_roundw
              case rel => exact ⟨k + 1, j + 1, by omega, by go_num, by go_num, HLN.out, HALL.out.1, HALL.out.2⟩
              case measure => simp [intOf]; omega
            | true =>
              obtain ⟨b, cp, hy, hy0, hy1⟩ := hRw.yes x hxl hx
              rw [hx, if_pos rfl] at hct
              have hes : escB x = [92, snd x] := by unfold escB; rw [hx]; rfl
              rw [hes] at het
              have hjM : j + 2 ≤ M := by have hm := HM.out; omega
              have hsp := rowOf_splice E M 92 (snd x)
              rw [← het] at hsp
              have hrl := rowOf_length E M (by omega)
              have hsz1 : (Try.prog.info? 5).map (·.size) = some 1 := by kernel_rfl
              have HLN := Lib.hid (show j + 2 = (esc (L.take (k + 1))).length by rw [het, List.length_append, hj]; rfl)
              rw [← hj] at hsp
              generalize snd x = y at *
              have HH := Lib.hid (show wr.drew.heap[wz.heap.size]? = some (.cells (rowOf E M).toArray 5 (0, 0)) from hrow2)
              have HSP := Lib.hid hsp
              have HB := Lib.hid hB.drew
              have hrl2 : j + [Value.int .u8 ((92 : Nat) : Int), Value.int .u8 (y : Int)].length ≤ (rowOf E M).length := by rw [hrl]; exact hjM
              have hmn : [Value.int .u8 ((92 : Nat) : Int), Value.int .u8 (y : Int)].length = Nat.min 2 (M - j) := by
                show 2 = Nat.min 2 (M - j)
                exact (Nat.min_eq_left (by omega)).symm
              have HMN := Lib.hid hmn
              have HRL := Lib.hid hrl2
              clear hct hcm hjl hrow2 hB het hes hx hRw hsp hrl hrl2 hmn hj
              have q1 : (j : Int) ≤ (M : Int) := by omega
              have q2 : j ≤ M := by omega
              have q3 : (x : Int) < 256 := by omega
              go_wp2
              go_region_law (refine step_copy_splice rfl (.tmp 105) (.tmp 111) 23 23 rfl 5 Try.underlying23 hsz1 (some ⟨wz.heap.size, j, none⟩) (some ⟨b, 0, none⟩) (M - j) (M - j) 2 cp (by simp [Act.eval]; omega) (by simp [Act.eval]) wz.heap.size j (rowOf E M) 5 HH.out [Value.int .u8 ((92 : Nat) : Int), Value.int .u8 (y : Int)] HMN.out (fun _ => ⟨rfl, ⟨b, 0, none⟩, rfl, two_at hy0 hy1⟩) HRL.out (by simp [Value.oneCell']) wz.heap.size wz HB.out (Nat.le_refl _) ?_; intro w4 hg4 hb4)
              all_goals
                go_wp2
                go_roundw
                case rel => exact ⟨k + 1, j + 2, by omega, by go_num, by go_num, HLN.out, HSP.out ▸ hg4.out, hb4⟩
                case measure => simp [intOf]; omega
          · have hend : ¬ ((k : Int) < (L.length : Int)) := by omega
            have e1 : L.take k = L := List.take_of_length_le (by omega)
            rw [e1] at hrow2
            have hEM : (esc L).length = M := by rw [esc_length, HC.out, HM.out]
            have hrd := rd_row (E := esc L) (by rw [hEM]; exact hrow2) (esc_lt HL.out) (by omega)
            have hcv := conv_str wr (some ⟨wz.heap.size, 0, none⟩) (esc L) M hrd
            rw [hEM] at hcv
            clear hrd hrow2 e1 hj
            go_wp2
            go_ret
            exact ⟨rfl, HWB.out.trans (hB.mono HWB.out.size)⟩
end Go.Proofs.Ythldbcngbkemnaa
