/- The contract of (*strings.byteStringReplacer).Replace over the table of four. -/
import Derived.Test.YthldbcngbkemnaaEscP
import Derived.Lib.Bytealg
import Derived.Laws.Externs
import Derived.Laws.CopyOwn
import Derived.WalkLawsBesides
import Derived.BigRegion
import Derived.OwnWalk
namespace Go.Proofs.Ythldbcngbkemnaa
open Go.RowKit
open Drawbar Drawbar.Sign Drawbar.Esc

theorem at_str (l : List Nat) (hl : ∀ x ∈ l, x < 256) (k : Nat) (hk : k < l.length) (h : k < (strOf l).size) : ((strOf l)[k]'h).toNat = l.getD k 0 := by
  have hm : l.getD k 0 ∈ l := getD_mem l k hk
  have hlt := hl _ hm
  have e : (strOf l)[k]'h = UInt8.ofNat (l.getD k 0) := by
    have e2 : k < (l.map UInt8.ofNat).toArray.size := by simpa using hk
    show (l.map UInt8.ofNat).toArray[k]'e2 = _
    rw [List.getElem_toArray, List.getElem_map, List.getD_eq_getElem?_getD, List.getElem?_eq_getElem hk]; rfl
  rw [e, UInt8.toNat_ofNat']
  omega

/-- A row that is filled: the bytes E, and noughts behind them. -/
def rowOf (E : List Nat) (M : Nat) : List Value := E.map bv ++ List.replicate (M - E.length) (.int .u8 0)
theorem rowOf_length (E : List Nat) (M : Nat) (h : E.length ≤ M) : (rowOf E M).length = M := by
  unfold rowOf; rw [List.length_append, List.length_map, List.length_replicate]; omega
theorem rowOf_next (E : List Nat) (M : Nat) (h : E.length < M) : (rowOf E M)[E.length]? = some (.int .u8 0) := by
  unfold rowOf
  rw [List.getElem?_append_right (by simp), List.length_map, Nat.sub_self, List.getElem?_replicate, if_pos (by omega)]
theorem rowOf_set (E : List Nat) (M x : Nat) (h : E.length < M) : (rowOf E M).set E.length (.int .u8 x) = rowOf (E ++ [x]) M := by
  unfold rowOf
  rw [List.set_append_right _ _ (by simp), List.length_map, Nat.sub_self]
  obtain ⟨m, hm⟩ : ∃ m, M - E.length = m + 1 := ⟨M - E.length - 1, by omega⟩
  rw [hm, List.replicate_succ, List.set_cons_zero, List.length_append, List.map_append, List.append_assoc]
  rw [show M - (E.length + [x].length) = m by show M - (E.length + 1) = m; omega]
  rfl
theorem rowOf_splice (E : List Nat) (M x y : Nat) : splice (rowOf E M) E.length [.int .u8 x, .int .u8 y] = rowOf (E ++ [x, y]) M := by
  unfold splice rowOf
  have h1 : (E.map bv ++ List.replicate (M - E.length) (Value.int .u8 0)).take E.length = E.map bv := by
    rw [show E.length = (E.map bv).length by simp, List.take_left]
  have h2 : (E.map bv ++ List.replicate (M - E.length) (Value.int .u8 0)).drop (E.length + 2) = List.replicate (M - E.length - 2) (Value.int .u8 0) := by
    rw [show E.length + 2 = (E.map bv).length + 2 by simp, List.drop_append, List.drop_eq_nil_of_le (by omega), List.nil_append, List.drop_replicate, Nat.add_sub_cancel_left]
  rw [h1, show [Value.int .u8 (x : Int), Value.int .u8 (y : Int)].length = 2 from rfl, h2, List.length_append, List.map_append, List.append_assoc]
  rw [show M - (E.length + [x, y].length) = M - E.length - 2 by show M - (E.length + 2) = _; omega]
  rfl
theorem set_cells {w : World} {g : Nat} {cs : Array Value} {t : TypeId} (h : w.heap[g]? = some (.cells cs t (0, 0))) (o : Nat) (x : Value) : (w.setCell ⟨g, o, none⟩ x).heap[g]? = some (.cells (cs.setIfInBounds o x) t (0, 0)) := by
  have hlt : g < w.heap.size := by
    rcases Nat.lt_or_ge g w.heap.size with h1 | h1
    · exact h1
    · rw [Array.getElem?_eq_none h1] at h; cases h
  have h' : w.heap[g] = .cells cs t (0, 0) := by simpa [Array.getElem?_eq_getElem hlt] using h
  show (w.heap.modify g _)[g]? = _
  rw [Array.getElem?_eq_getElem (by simpa using hlt), Array.getElem_modify_self, h']
  rfl
theorem cell_row {w : World} {g : Nat} {l : List Value} {t : TypeId} (h : w.heap[g]? = some (.cells l.toArray t (0, 0))) (k : Nat) (v : Value) (hk : l[k]? = some v) : w.cell? ⟨g, k, none⟩ = some v := by
  simp [World.cell?, h, hk]
theorem frozen_row {w : World} {g : Nat} {cs : Array Value} {t : TypeId} (h : w.heap[g]? = some (.cells cs t (0, 0))) (k : Nat) : w.frozen? ⟨g, k, none⟩ = false := by
  simp [World.frozen?, h]
theorem two_at {w : World} {b : Nat} {x y : Value} (h0 : w.cell? ⟨b, 0, none⟩ = some x) (h1 : w.cell? ⟨b, 1, none⟩ = some y) : ∀ (i : Nat) (v : Value), [x, y][i]? = some v → w.drew.cell? ((⟨b, 0, none⟩ : Addr).add i) = some v := fun i v hi => by
  rw [Addr.add_lit, Nat.zero_add]
  match i, hi with
  | 0, hi => simp at hi; subst hi; exact h0
  | 1, hi => simp at hi; subst hi; exact h1
theorem rd_row {w : World} {g : Nat} {E : List Nat} (h : w.heap[g]? = some (.cells (rowOf E E.length).toArray 5 (0, 0))) (hE : ∀ x ∈ E, x < 256) (hl : E.length ≤ 1000) : Rd w (some ⟨g, 0, none⟩) E := by
  refine ⟨hE, by omega, fun _ => ⟨g, 0, rfl, fun i hi => ?_⟩⟩
  rw [Nat.zero_add]
  refine cell_row h i _ ?_
  unfold rowOf
  rw [List.getElem?_append_left (by simpa using hi), List.getElem?_map, List.getElem?_eq_getElem hi, List.getD_eq_getElem?_getD, List.getElem?_eq_getElem hi]
  rfl
theorem make_row {w : World} {g n : Nat} {xs : List Value} (h : w.ownsRow g 5 1 (.slice (some ⟨g, 0, none⟩) n n) n xs) : w.heap[g]? = some (.cells xs.toArray 5 (0, 0)) := by
  rcases h.2 with ⟨h', _⟩ | ⟨g', cap', cur, h', hb, hg, _, _, hcs, htake⟩
  · simp at h'
  · have hx := h.1
    simp only [Value.slice.injEq, Option.some.injEq, Addr.mk.injEq, and_true, true_and] at h'
    obtain ⟨rfl, rfl⟩ := h'
    rw [hg]
    congr 2
    rw [List.take_of_length_le (by simp; omega)] at htake
    rw [← htake]

theorem made_row (M : Nat) : (madeCells #[Value.int IntKind.u8 0] M).toList = rowOf [] M := by
  unfold rowOf madeCells
  simp [Nat.mod_one, List.map_const']
theorem cnt_mono (l : List Nat) (k : Nat) : cntE (l.take k) ≤ cntE l := by
  have h := cnt_app (l.take k) (l.drop k)
  rw [List.take_append_drop] at h
  omega

set_option maxRecDepth 100000 in
set_option maxHeartbeats 4000000 in
theorem replace_short (L : List Nat) (rb : Nat) (w : World) (hL : ∀ x ∈ L, x < 256) (hn : L.length < 32) (hR : RepAt w rb) :
    Calls Try.prog 101 #[.pointer (some ⟨rb, 0, none⟩), .string (strOf L)] w fun e w' => e = .returned (.string (strOf (esc L))) ∧ Below w.heap.size w w' := by
  obtain ⟨tb, tc, t0, t1, t2, t3, t4, t5⟩ := hR.tr
  have hsz := size_str L
  have hget := fun k hk h => at_str L hL k hk h
  have hn32 : ¬ ((32 : Int) ≤ (L.length : Int)) := by omega
  have hes : cntE L = 0 → strOf (esc L) = strOf L := fun h => by rw [esc_none L h]
  have hcl := cnt_le L
  have HCM := Lib.hid (fun k => cnt_mono L k)
  obtain ⟨S, hS⟩ : ∃ S, S = strOf L := ⟨_, rfl⟩
  obtain ⟨C, hC⟩ : ∃ C, cntE L = C := ⟨_, rfl⟩
  rw [hC] at hes hcl HCM
  rw [← hS] at hsz hget hes ⊢
  have HG := Lib.hid hget
  have HR := Lib.hid hR
  have HES := Lib.hid hes
  have HL := Lib.hid hL
  have HC := Lib.hid hC
  clear hget hR hS t2 t3 t4 t5 hes hL hC
  go_enter Try.func101, Try.ntmps101
  go_wp2
  go_loop [5, 6, 10] (fun nv av iv => ∃ k m : Nat, k ≤ L.length ∧ iv = .int .i64 k ∧ nv = .int .i64 m ∧ m = L.length + cntE (L.take k) ∧ av = .bool (decide (0 < cntE (L.take k)))) (fun _ _ iv => L.length - (intOf iv).toNat)
  case atStart => exact ⟨0, L.length, by omega, rfl, rfl, by simp [cntE], by simp [cntE]⟩
  case round =>
    obtain ⟨k, M, hk, rfl, rfl, hm, rfl⟩ := hrel
    by_cases hlt : k < L.length
    · have hg := HG.out k hlt (by rw [hsz]; exact hlt)
      have hct := cnt_take L k hlt
      have hcl2 := cnt_le (L.take k)
      have hll : (L.take k).length = k := by rw [List.length_take]; omega
      rw [hll] at hcl2
      have hxl : L.getD k 0 < 256 := HL.out _ (getD_mem L k hlt)
      generalize L.getD k 0 = x at *
      generalize cntE (L.take k) = c at *
      cases hx : isE x with
      | false =>
        have hno := HR.out.no x hxl hx
        rw [hx, if_neg (by decide)] at hct
        have HCT := Lib.hid hct
        have HM := Lib.hid hm
        have hm100 : M ≤ 1000 := by omega
        clear hct hx hm
        go_wp2
        go_round
        case rel => exact ⟨k + 1, M, by omega, by go_num, rfl, by rw [HCT.out, HM.out]; rfl, by rw [HCT.out]; rfl⟩
        case measure => simp [intOf]; omega
      | true =>
        obtain ⟨b, cp, hy, _, _⟩ := HR.out.yes x hxl hx
        rw [hx, if_pos rfl] at hct
        have HCT := Lib.hid hct
        have HM := Lib.hid hm
        have hm100 : M ≤ 1000 := by omega
        clear hct hx hm
        go_wp2
        go_round
        case rel => exact ⟨k + 1, M + 1, by omega, by go_num, by go_num, by rw [HCT.out, HM.out]; omega, by rw [HCT.out]; simp⟩
        case measure => simp [intOf]; omega
    · have hend : ¬ ((k : Int) < (L.length : Int)) := by omega
      have e1 : L.take k = L := List.take_of_length_le (by omega)
      rw [e1, HC.out] at hm ⊢
      have hC := HC.out
      have hM1 : M ≤ 1000 := by omega
      have HM := Lib.hid hm
      clear e1 hm hC
      have HRW := Lib.hid HR.out
      have HWB := Lib.hid (Below.refl w.heap.size w)
      rcases Nat.eq_zero_or_pos C with h0 | h0
      · subst h0
        have hsame := HES.out rfl
        go_wp2
        go_ret
        exact ⟨rfl, HWB.out⟩
      · obtain ⟨i0, hi0, hz0, hz1, hz2⟩ := info_parts info_u8
        go_wp2_with (at_make; refine wpList_make_full _ rfl _ _ 23 rfl w.heap.size 5 i0 (.int .u8 0) 1 Try.underlying23 hi0 hz0 hz1 .i64 .i64 (M : Int) (M : Int) M rfl rfl rfl rfl (by rw [hz2]; omega) (by unfold maxLen; omega) (Nat.le_refl _) ?_)
        intro w1 hown hgr
        have hB1 : Below w.heap.size w w1 := (Below.refl _ _).grown hgr (Nat.le_refl _) (fun k hk => by cases hk)
        have hrow := make_row hown
        rw [show (madeCells #[Value.int IntKind.u8 0] M).toList = rowOf [] M from made_row M] at hrow
        clear hown hgr hi0 hz0 hz1 hz2
        go_wp2
        go_loopw [13, 14] (fun jv iv wr => ∃ k j : Nat, k ≤ L.length ∧ iv = .int .i64 k ∧ jv = .int .i64 j ∧ j = (esc (L.take k)).length ∧ wr.heap[w.heap.size]? = some (.cells (rowOf (esc (L.take k)) M).toArray 5 (0, 0)) ∧ Below w.heap.size w wr) (fun _ iv _ => L.length - (intOf iv).toNat)
        case atStart => exact ⟨0, 0, by omega, rfl, rfl, rfl, hrow, hB1⟩
        case round =>
          obtain ⟨k, j, hk, rfl, rfl, hj, hrow2, hB⟩ := hrel
          clear hrow hB1
          by_cases hlt : k < L.length
          · have hg := HG.out k hlt (by rw [hsz]; exact hlt)
            have het := esc_take L k hlt
            have hct := cnt_take L k hlt
            have hcm := HCM.out (k + 1)
            have hjl : j = k + cntE (L.take k) := by rw [hj, esc_length, List.length_take]; omega
            have hxl : L.getD k 0 < 256 := HL.out _ (getD_mem L k hlt)
            have hRw := HRW.out.below hB
            generalize L.getD k 0 = x at *
            generalize esc (L.take k) = E at *
            cases hx : isE x with
            | false =>
              have hno := hRw.no x hxl hx
              rw [hx, if_neg (by decide)] at hct
              have hes : escB x = [x] := by unfold escB; rw [hx]; rfl
              rw [hes] at het
              have hjM : j < M := by have hm := HM.out; omega
              subst hj
              have b0 := cell_row hrow2 E.length _ (rowOf_next E M hjM)
              have z0 := frozen_row hrow2 E.length
              have hfin := set_cells hrow2 E.length (.int .u8 (x : Int))
              have hB2 : Below w.heap.size w (wr.setCell ⟨w.heap.size, E.length, none⟩ (.int .u8 (x : Int))) := hB.setCell (Nat.le_refl _) _
              rw [List.setIfInBounds_toArray, rowOf_set E M x hjM, ← het] at hfin
              have HALL := Lib.hid (And.intro hfin hB2)
              have HLN := Lib.hid (show E.length + 1 = (esc (L.take (k + 1))).length by rw [het, List.length_append]; rfl)
              generalize E.length = j at *
              clear hct hcm hjl hrow2 hB hfin hB2 het hes hx hRw
              go_wp2
              go_roundw
              case rel => exact ⟨k + 1, j + 1, by omega, by go_num, by go_num, HLN.out, HALL.out.1, HALL.out.2⟩
              case measure => simp [intOf]; omega
            | true =>
              obtain ⟨b, cp, hy, hy0, hy1⟩ := hRw.yes x hxl hx
              rw [hx, if_pos rfl] at hct
              have hes : escB x = [92, snd x] := by unfold escB; rw [hx]; rfl
              rw [hes] at het
              have hjM : j + 2 ≤ M := by have hm := HM.out; omega
              have hsp := rowOf_splice E M 92 (snd x)
              rw [← het] at hsp
              have hrl := rowOf_length E M (by omega)
              have hsz1 : (Try.prog.info? 5).map (·.size) = some 1 := by kernel_rfl
              have HLN := Lib.hid (show j + 2 = (esc (L.take (k + 1))).length by rw [het, List.length_append, hj]; rfl)
              rw [← hj] at hsp
              generalize snd x = y at *
              have HH := Lib.hid (show wr.drew.heap[w.heap.size]? = some (.cells (rowOf E M).toArray 5 (0, 0)) from hrow2)
              have HSP := Lib.hid hsp
              have HB := Lib.hid hB.drew
              have hrl2 : j + [Value.int .u8 ((92 : Nat) : Int), Value.int .u8 (y : Int)].length ≤ (rowOf E M).length := by rw [hrl]; exact hjM
              have hmn : [Value.int .u8 ((92 : Nat) : Int), Value.int .u8 (y : Int)].length = Nat.min 2 (M - j) := by
                show 2 = Nat.min 2 (M - j)
                exact (Nat.min_eq_left (by omega)).symm
              have HMN := Lib.hid hmn
              have HRL := Lib.hid hrl2
              clear hct hcm hjl hrow2 hB het hes hx hRw hsp hrl hrl2 hmn hj
              have q1 : (j : Int) ≤ (M : Int) := by omega
              have q2 : j ≤ M := by omega
              have q3 : (x : Int) < 256 := by omega
              go_wp2
              go_region_law (refine step_copy_splice rfl (.tmp 105) (.tmp 111) 23 23 rfl 5 Try.underlying23 hsz1 (some ⟨w.heap.size, j, none⟩) (some ⟨b, 0, none⟩) (M - j) (M - j) 2 cp (by simp [Act.eval]; omega) (by simp [Act.eval]) w.heap.size j (rowOf E M) 5 HH.out [Value.int .u8 ((92 : Nat) : Int), Value.int .u8 (y : Int)] HMN.out (fun _ => ⟨rfl, ⟨b, 0, none⟩, rfl, two_at hy0 hy1⟩) HRL.out (by simp [Value.oneCell']) w.heap.size w HB.out (Nat.le_refl _) ?_; intro w4 hg4 hb4)
              all_goals
                go_wp2
                go_roundw
                case rel => exact ⟨k + 1, j + 2, by omega, by go_num, by go_num, HLN.out, HSP.out ▸ hg4.out, hb4⟩
                case measure => simp [intOf]; omega
          · have hend : ¬ ((k : Int) < (L.length : Int)) := by omega
            have e1 : L.take k = L := List.take_of_length_le (by omega)
            rw [e1] at hrow2
            have hEM : (esc L).length = M := by rw [esc_length, HC.out, HM.out]
            have hrd := rd_row (E := esc L) (by rw [hEM]; exact hrow2) (esc_lt HL.out) (by omega)
            have hcv := conv_str wr (some ⟨w.heap.size, 0, none⟩) (esc L) M hrd
            rw [hEM] at hcv
            clear hrd hrow2 e1 hj
            go_wp2
            go_ret
            exact ⟨rfl, HWB.out.trans (hB.mono HWB.out.size)⟩
end Go.Proofs.Ythldbcngbkemnaa
