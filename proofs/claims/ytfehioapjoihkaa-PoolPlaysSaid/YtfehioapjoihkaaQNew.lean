/- The contract of New (package pool). -/
import Derived.Test.YtfehioapjoihkaaQCalls
namespace Drawbar.Pl
/-- The i-th is a block's number, and above the one ahead of it. -/
def okAt (l : List Int) (i : Nat) : Prop := 0 ≤ l.getD i 0 ∧ l.getD i 0 < 64 ∧ (i = 0 ∨ l.getD (i - 1) 0 < l.getD i 0)
def Rise (l : List Int) : Prop := ∀ i, i < l.length → okAt l i
theorem Rise.ge {l : List Int} {k : Nat} (h : ∀ i, i < k → okAt l i) : ∀ i, i < k → (i : Int) ≤ l.getD i 0 := by
  intro i hi
  induction i with
  | zero => exact (h 0 hi).1
  | succ i ih =>
    have h1 := ih (by omega)
    have h2 := (h (i + 1) hi).2.2
    simp only [Nat.add_sub_cancel] at h2
    omega
theorem Rise.le {l : List Int} (h : Rise l) : l.length ≤ 64 := by
  by_cases h0 : l.length = 0
  · omega
  · have := Rise.ge h (l.length - 1) (by omega)
    have := (h (l.length - 1) (by omega)).2.1
    omega
theorem Rise.mem {l : List Int} (h : Rise l) : ∀ t ∈ l, 0 ≤ t ∧ t < 64 := by
  intro t ht
  obtain ⟨i, hi, rfl⟩ := List.getElem_of_mem ht
  have := h i hi
  unfold okAt at this
  rw [List.getD_eq_getElem?_getD, List.getElem?_eq_getElem hi] at this
  exact ⟨this.1, this.2.1⟩
theorem new_take (l : List Int) (k : Nat) (hk : k < l.length) : St.new (l.take (k + 1)) = (St.new (l.take k)).put (l.getD k 0) 0 := by
  unfold St.new St.put
  congr 1
  funext t
  have e1 : l.getD k 0 = l[k] := by simp [List.getD_eq_getElem?_getD, hk]
  rw [e1, List.take_add_one, List.getElem?_eq_getElem hk]
  simp only [Option.toList_some, List.mem_append, List.mem_singleton]
  by_cases e : t = l[k]
  · rw [if_pos (.inr e), if_pos e]
  · rw [if_neg e]
    by_cases h : t ∈ l.take k
    · rw [if_pos (.inl h), if_pos h]
    · rw [if_neg h, if_neg (fun hh => hh.elim h e)]
def lo (l : List Int) (k : Nat) : Int := if k = 0 then 0 else l.getD (k - 1) 0 + 1
theorem lo_succ (l : List Int) (k : Nat) : lo l (k + 1) = l.getD k 0 + 1 := rfl
theorem okAt_iff {l : List Int} {k : Nat} (h : ∀ i, i < k → okAt l i) : okAt l k ↔ lo l k ≤ l.getD k 0 ∧ l.getD k 0 < 64 := by
  unfold okAt lo
  by_cases e : k = 0
  · subst e; simp
  · rw [if_neg e]
    have := (h (k - 1) (by omega)).1
    constructor
    · rintro ⟨h1, h2, h3⟩; rcases h3 with h3 | h3; exact absurd h3 e; exact ⟨by omega, h2⟩
    · rintro ⟨h1, h2⟩; exact ⟨by omega, h2, .inr (by omega)⟩
theorem lo_fit {l : List Int} {k : Nat} (h : ∀ i, i < k → okAt l i) : 0 ≤ lo l k ∧ lo l k ≤ 64 := by
  unfold lo
  by_cases e : k = 0
  · rw [if_pos e]; omega
  · rw [if_neg e]
    have := h (k - 1) (by omega)
    unfold okAt at this
    omega
end Drawbar.Pl
namespace Go.Proofs.Ytfehioapjoihkaa
open Go.RowKit Go.Sort
open Drawbar Drawbar.Pl

set_option maxHeartbeats 1000000 in
theorem rising_any (l : List Int) (a : Option Addr) (c : Nat) (w : World) (hr : RdI w a l) (hm : l.length ≤ maxLen) (r : Bool) (h : r = true ↔ Rise l) : Calls Try.prog 36 #[.slice a l.length c] w fun e w' => e = .returned (.bool r) ∧ w = w' := by
  have HR := Lib.hid hr
  have HI := Lib.hid h
  clear hr h
  unfold maxLen at hm
  go_enter Try.func36, Try.ntmps36
  go_wp2_with fail
  go_loopw [3, 8] (fun lv iv wr => ∃ k : Nat, iv = .int .i64 k ∧ k ≤ l.length ∧ lv = .int .i64 (lo l k) ∧ Hid (∀ i, i < k → okAt l i) ∧ w = wr) (fun _ iv _ => l.length - (intOf iv).toNat)
  case atStart => exact ⟨0, rfl, Nat.zero_le _, rfl, Lib.hid (fun i hi => absurd hi (Nat.not_lt_zero i)), rfl⟩
  case round =>
    obtain ⟨k, rfl, hk, rfl, HK, rfl⟩ := hrel
    by_cases hlt : k < l.length
    · have i1 : (k : Int) < l.length := by omega
      obtain ⟨bb, off, rfl, hc⟩ := HR.out (by omega)
      have c0 := hc k hlt
      have hb : bb < w.heap.size := World.block_lt_of_cell? w _ c0
      have hok := okAt_iff HK.out
      have hlo := lo_fit HK.out
      have hls := lo_succ l k
      by_cases h1 : lo l k ≤ l.getD k 0
      · by_cases h2 : l.getD k 0 < 64
        · have HK2 : Hid (∀ i, i < k + 1 → okAt l i) := Lib.hid fun i hi => by
            by_cases e : i = k
            · subst e; exact hok.2 ⟨h1, h2⟩
            · exact HK.out i (by omega)
          have HLS := Lib.hid hls
          clear hc hok hls
          generalize lo l k = q at *
          generalize l.getD k 0 = z at *
          go_wp2
          go_roundw
          case rel => exact ⟨k + 1, by go_num, by omega, by rw [HLS.out], HK2, by first | rfl | trivial⟩
          case measure => simp [intOf]; omega
        · have hrf : r = false := by
            cases r with
            | false => rfl
            | true => exact absurd (hok.1 (HI.out.1 rfl k hlt)).2 h2
          subst hrf
          clear hc hok hls HI
          generalize lo l k = q at *
          generalize l.getD k 0 = z at *
          go_wp2
          go_ret
          exact ⟨rfl, rfl⟩
      · have hrf : r = false := by
          cases r with
          | false => rfl
          | true => exact absurd (hok.1 (HI.out.1 rfl k hlt)).1 h1
        subst hrf
        clear hc hok hls HI
        generalize lo l k = q at *
        generalize l.getD k 0 = z at *
        go_wp2
        go_ret
        exact ⟨rfl, rfl⟩
    · obtain rfl : l.length = k := by omega
      have i1 : ¬ (l.length : Int) < l.length := by omega
      obtain rfl : r = true := HI.out.2 HK.out
      clear HI HK
      go_wp2
      go_ret
      exact ⟨rfl, rfl⟩
theorem make_map (n : Nat) (w : World) : (Instr.makeMap 77 (some (.int .i64 n))).run Try.prog w = .ok (.map (some w.heap.size)) (w.alloc (.map #[] 0)) := by
  simp [Instr.makeMap, run_underlying Try.underlying77, asInt, asIntOf, Result.andThen]

/-- A pool of these blocks, new. -/
def PMade (w : World) (l : List Int) (e : Ending) (w' : World) : Prop :=
  ∃ g mb, e = .returned (.tuple #[.pointer (some ⟨g, 0, none⟩), .int .i64 0]) ∧ PoolAt w' g mb (St.new l) ∧ w.heap.size ≤ g ∧ w.heap.size ≤ mb ∧ Below w.heap.size w w'
theorem new_not (l : List Int) (a : Option Addr) (c : Nat) (w : World) (hr : RdI w a l) (hm : l.length ≤ maxLen) (h : ¬ Rise l) : Calls Try.prog 21 #[.slice a l.length c] w fun e w' => e = .returned (.tuple #[.pointer none, .int .i64 1]) ∧ w = w' := by
  have HR := Lib.hid (rising_any l a c w hr hm false ⟨fun h3 => Bool.noConfusion h3, fun h3 => absurd h3 h⟩)
  clear hr hm h
  go_enter Try.func21, Try.ntmps21
  go_wp2_with fail
  refine HR.out.mono ?_
  rintro e w' ⟨rfl, rfl⟩
  go_wp2
  exact bodyPost_ret (v := .tuple #[.pointer none, .int .i64 1]) (by simp [results, Try.results21, go_sem]) rfl ⟨rfl, rfl⟩
theorem map_new (w : World) : MapIn (w.alloc (.map #[] 0)) w.heap.size 0 (St.new ([] : List Int)) :=
  ⟨.map [], World.ownsMap_made w _ _ _, ⟨fun x _ => rfl, fun x v z h => by simp [St.new] at h⟩⟩
set_option maxHeartbeats 1000000 in
set_option maxRecDepth 100000 in
theorem new_rise (l : List Int) (a : Option Addr) (c : Nat) (w : World) (hr : RdI w a l) (h : Rise l) : Calls Try.prog 21 #[.slice a l.length c] w (PMade w l) := by
  have hle := h.le
  have hmem := h.mem
  have HR := Lib.hid (rising_any l a c w hr (by unfold maxLen; omega) true ⟨fun _ => h, fun _ => rfl⟩)
  have hmk := make_map l.length w
  have HM := Lib.hid hmem
  have HD := Lib.hid hr
  clear hr hmem
  go_enter Try.func21, Try.ntmps21
  go_wp2_with fail
  refine HR.out.mono ?_
  rintro e w' ⟨rfl, rfl⟩
  go_wp2_with fail
  go_loopw [15] (fun iv wr => ∃ k : Nat, iv = .int .i64 k ∧ k ≤ l.length ∧ MapIn wr w.heap.size k (St.new (l.take k)) ∧ Below w.heap.size w wr ∧ w.heap.size + 1 ≤ wr.heap.size) (fun iv _ => l.length - (intOf iv).toNat)
  case atStart => exact ⟨0, rfl, Nat.zero_le _, map_new w, (Below.refl _ _).alloc (Nat.le_refl _) _, by simp⟩
  case round =>
    obtain ⟨k, rfl, hk, hm, hb, hsz⟩ := hrel
    by_cases hlt : k < l.length
    · have i1 : (k : Int) < l.length := by omega
      obtain ⟨bb, off, rfl, hc⟩ := HD.out (by omega)
      have c0 := hc k hlt
      have hbb : bb < w.heap.size := World.block_lt_of_cell? w _ c0
      have c1 := (hb.cell (p := ⟨bb, off + k, none⟩) hbb).trans c0
      have hin := HM.out (l.getD k 0) (by rw [List.getD_eq_getElem?_getD, List.getElem?_eq_getElem hlt]; exact List.getElem_mem hlt)
      obtain ⟨w2, hr2, hm2, -, hg2⟩ := hm.store (l.getD k 0) hin 0 (by decide) (by omega)
      have hr3 : (Instr.mapUpdate 77 (.map (some w.heap.size)) (.int .i64 (l.getD k 0)) (.int .u8 0)).run Try.prog wr = .ok () w2 := hr2
      rw [← new_take l k hlt] at hm2
      have hb2 : Below w.heap.size w w2 := hb.grown hg2 hb.size (fun j hj => by cases hj; exact Nat.le_refl _)
      have hs2 := hg2.size
      clear hc hm hb hg2 hr2 c0 hin
      generalize l.getD k 0 = z at *
      go_wp2_with (at_mapUpdate; refine wpList_mapUpdate_run _ rfl _ _ _ _ rfl _ _ _ rfl rfl rfl hr3 ?_)
      go_roundw
      case rel => exact ⟨k + 1, by go_num, by omega, hm2, hb2, by omega⟩
      case measure => simp [intOf]; omega
    · obtain rfl : l.length = k := by omega
      have i1 : ¬ (l.length : Int) < l.length := by omega
      have hfin : PMade w l (.returned (.tuple #[.pointer (some ⟨wr.heap.size, 0, none⟩), .int .i64 0])) (wr.alloc (.cells #[.map (some w.heap.size)] 79)) := by
        refine ⟨wr.heap.size, w.heap.size, rfl, ⟨Wf.new HM.out, by simp, ?_, by omega⟩, by omega, Nat.le_refl _, hb.alloc hb.size _⟩
        have := hm.keep (w' := wr.alloc (.cells #[.map (some w.heap.size)] 79)) (Below.heap_alloc wr _ _ (by omega))
        rw [List.take_length] at this
        obtain ⟨D, h1, h2⟩ := this
        exact ⟨D, h1.mono hle, h2⟩
      have HF := Lib.hid hfin
      clear hfin hm hb HM HD
      go_wp2
      exact bodyPost_ret (v := .tuple #[.pointer (some ⟨wr.heap.size, 0, none⟩), .int .i64 0]) (by simp [results, Try.results21, go_sem]) rfl HF.out
end Go.Proofs.Ytfehioapjoihkaa
