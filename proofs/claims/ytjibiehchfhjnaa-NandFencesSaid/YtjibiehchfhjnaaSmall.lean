/- The contracts of Next, Erases, Failed, Fence, On, Boots, Ops, Raise, Arm, Doom. -/
import Derived.Test.YtjibiehchfhjnaaOperate
namespace Go.Proofs.Ytjibiehchfhjnaa
open Go.RowKit
open Drawbar Drawbar.Nand

/-- The call has answered, the array has become what it says, and the other memory stands. -/
def Did (w : World) (F : Nat → Prop) (g : Nat) (r : Int × Arr) (e : Ending) (w' : World) : Prop := e = .returned (.int .i64 r.1) ∧ ArrAt w' (ext F w w') g r.2 ∧ Keep F w w'

theorem operate_err (s : Arr) (i : Nat) (bg : Begun) (what : Blk → Blk) : (s.operate i bg what).1 = 9 ∨ (s.operate i bg what).1 = 8 ∨ (s.operate i bg what).1 = 0 := by
  unfold Arr.operate
  split
  · exact .inl rfl
  · split
    · exact .inr (.inl rfl)
    · exact .inr (.inr rfl)
theorem operate_n (s : Arr) (i : Nat) (bg : Begun) (what : Blk → Blk) : (s.operate i bg what).2.n = s.n ∧ (s.operate i bg what).2.pages = s.pages := by
  unfold Arr.operate
  split
  · exact ⟨rfl, rfl⟩
  · split <;> exact ⟨rfl, rfl⟩
theorem operate_fail (s : Arr) (i : Nat) (bg : Begun) (what : Blk → Blk) (h : (s.operate i bg what).1 = 8) (hb : s.begun = .no) : ((s.operate i bg what).2.b i).pages = (s.b i).pages ∧ (s.operate i bg what).2.begun = .no := by
  unfold Arr.operate at *
  split at h
  · simp at h
  · split at h
    · next h1 h2 =>
      rw [if_neg h1, if_pos h2]
      refine ⟨?_, hb⟩
      show (upd s.b i { (s.b i).tick with failed := true } i).pages = _
      rw [upd_same]; rfl
    · simp at h
theorem idle_operate (s : Arr) (i : Nat) (bg : Begun) (what : Blk → Blk) (hid : Idle s) (hoff : s.off = false) (hroom : ∀ j p, bg = .lay j p → (s.b j).pages.length < s.pages) : Idle (s.operate i bg what).2 := by
  have hb := hid.idle hoff
  unfold Arr.operate
  split
  · refine ⟨(fun h => by cases h), fun j p hj => ?_⟩
    show (upd s.b i (s.b i).tick j).pages.length < s.pages
    have := hroom j p hj
    by_cases e : j = i
    · subst e; rw [upd_same]; exact this
    · rw [upd_other _ _ _ _ e]; exact this
  · split
    · exact ⟨(fun _ => hb), (fun j p hj => by rw [show s.begun = .lay j p from hj] at hb; cases hb)⟩
    · exact ⟨(fun _ => hb), (fun j p hj => by rw [show s.begun = .lay j p from hj] at hb; cases hb)⟩

section
variable {w : World} {F R : Nat → Prop} {g hb : Nat} {rows : Nat → Value} {pv : Nat → List Value} {bv : Value} {s : Arr}

theorem did_same (h : ArrIn w F R g hb rows pv bv s) (hid : Idle s) (n : Int) {w' : World} (hw : Below w.heap.size w w') : Did w F g (n, s) (.returned (.int .i64 n)) w' :=
  ⟨rfl, ⟨hid, R, hb, rows, pv, bv, h.below hw⟩, Keep.below hw⟩
theorem did_only {R' : Nat → Prop} {bv' : Value} {s' : Arr} {w' : World} (h : ArrIn w' F R' g hb rows pv bv' s') (hid : Idle s') (n : Int) (ho : Only R' w w') : Did w F g (n, s') (.returned (.int .i64 n)) w' :=
  ⟨rfl, ⟨hid, R', hb, rows, pv, bv', by rw [ext_same F ho.size]; exact h⟩, ho.keep h.rf⟩

theorem become_did {R : Nat → Prop} {s' : Arr} {bv' : Value} {w1 w' : World} {F' : Nat → Prop} (hk : Keep F w w1) (hF' : F' = ext F w w1) (hR : ∀ d, R d → F' d) (hb' : Become w1 F' R g hb bv' s' w') (hid : Idle s') (n : Int) : Did w F g (n, s') (.returned (.int .i64 n)) w' := by
  obtain ⟨R', rows', pv', h1, h2, h3⟩ := hb'
  subst hF'
  rw [ext_ext F hk.size h2.size] at h1
  exact ⟨rfl, ⟨hid, R', hb, rows', pv', bv', h1⟩, hk.trans ⟨h2.os, h2.tape, h2.output, h2.size, fun k hk hF => h2.block k hk fun hr => hF (hR k hr)⟩⟩

theorem next_in (h : ArrIn w F R g hb rows pv bv s) (i : Nat) (hi : i < s.n) :
    Calls Try.prog 17 #[.pointer (some ⟨g, 0, none⟩), .int .i64 i] w fun e w' => e = .returned (.int .i64 (s.b i).pages.length) ∧ w = w' := by
  have c0 := h.gc 0 _ rfl
  have hn := h.wf.n64
  obtain ⟨ra, rc, hrow, hrc, b0, -⟩ := h.blk hi
  clear h hrow
  go_enter Try.func17, Try.ntmps17
  go_wp2_with (first
    | (go_at_call 31; refine (block_in g hb s.n i _ c0 hn hi).mono ?_; rintro e w' ⟨rfl, rfl⟩)
    | (go_at_call 33; refine (next_any hb (i * 6) _ _ _ _ _ b0 rfl).mono ?_; rintro e w' ⟨rfl, rfl⟩))
  go_ret
  exact ⟨rfl, rfl⟩
theorem erases_in (h : ArrIn w F R g hb rows pv bv s) (i : Nat) (hi : i < s.n) :
    Calls Try.prog 29 #[.pointer (some ⟨g, 0, none⟩), .int .i64 i] w fun e w' => e = .returned (.int .i64 (s.b i).erases) ∧ w = w' := by
  have c0 := h.gc 0 _ rfl
  have hn := h.wf.n64
  obtain ⟨ra, rc, hrow, hrc, b0, b1, b2, -⟩ := h.blk hi
  clear h hrow
  generalize (s.b i).erases = er at *
  go_enter Try.func29, Try.ntmps29
  go_wp2_with (go_at_call 31; refine (block_in g hb s.n i _ c0 hn hi).mono ?_; rintro e w' ⟨rfl, rfl⟩)
  go_ret
  exact ⟨rfl, rfl⟩
theorem failed_in (h : ArrIn w F R g hb rows pv bv s) (i : Nat) (hi : i < s.n) :
    Calls Try.prog 26 #[.pointer (some ⟨g, 0, none⟩), .int .i64 i] w fun e w' => e = .returned (.bool (s.b i).failed) ∧ w = w' := by
  have c0 := h.gc 0 _ rfl
  have hn := h.wf.n64
  obtain ⟨ra, rc, hrow, hrc, b0, b1, b2, b3, b4, b5⟩ := h.blk hi
  clear h hrow b0 b1 b2 b3 b4
  generalize (s.b i).failed = er at *
  go_enter Try.func26, Try.ntmps26
  go_wp2_with (go_at_call 31; refine (block_in g hb s.n i _ c0 hn hi).mono ?_; rintro e w' ⟨rfl, rfl⟩)
  go_ret
  exact ⟨rfl, rfl⟩
theorem fence_any (h : ArrIn w F R g hb rows pv bv s) : Calls Try.prog 20 #[.pointer (some ⟨g, 0, none⟩)] w fun e w' => e = .returned (.int .u64 s.fence) ∧ w = w' := by
  have c := h.gc 2 _ rfl
  clear h
  go_enter Try.func20, Try.ntmps20
  go_wp2
  go_ret
  exact ⟨rfl, rfl⟩
theorem boots_any (h : ArrIn w F R g hb rows pv bv s) : Calls Try.prog 24 #[.pointer (some ⟨g, 0, none⟩)] w fun e w' => e = .returned (.int .i64 s.boots) ∧ w = w' := by
  have c := h.gc 6 _ rfl
  clear h
  go_enter Try.func24, Try.ntmps24
  go_wp2
  go_ret
  exact ⟨rfl, rfl⟩
theorem ops_any (h : ArrIn w F R g hb rows pv bv s) : Calls Try.prog 16 #[.pointer (some ⟨g, 0, none⟩)] w fun e w' => e = .returned (.int .i64 s.ops) ∧ w = w' := by
  have c := h.gc 7 _ rfl
  clear h
  go_enter Try.func16, Try.ntmps16
  go_wp2
  go_ret
  exact ⟨rfl, rfl⟩
theorem on_any (h : ArrIn w F R g hb rows pv bv s) : Calls Try.prog 22 #[.pointer (some ⟨g, 0, none⟩)] w fun e w' => e = .returned (.bool (!s.off)) ∧ w = w' := by
  have c := h.gc 4 _ rfl
  clear h
  generalize s.off = off at *
  go_enter Try.func22, Try.ntmps22
  go_wp2
  go_ret
  exact ⟨rfl, rfl⟩

theorem raise_any (h : ArrIn w F R g hb rows pv bv s) (hid : Idle s) (epoch : Nat) (he : epoch < 18446744073709551616) :
    Calls Try.prog 15 #[.pointer (some ⟨g, 0, none⟩), .int .u64 epoch] w (Did w F g (s.raise epoch)) := by
  have c2 := h.gc 2 _ rfl
  have c4 := h.gc 4 _ rfl
  have f2 := h.gf 2
  obtain ⟨P, hP⟩ : ∃ P, Did w F g (s.raise epoch) = P := ⟨_, rfl⟩
  rw [hP]
  have HP := Lib.hid hP
  clear hP
  by_cases h1 : s.off = true
  · have hfin : P (.returned (.int .i64 9)) w := by
      rw [← HP.out, show s.raise epoch = (9, s) by unfold Arr.raise; rw [if_pos h1]]
      exact did_same h hid 9 (Below.refl _ _)
    have HF := Lib.hid hfin
    rw [h1] at c4
    clear h hid hfin h1
    go_enter Try.func15, Try.ntmps15
    go_wp2
    exact HF.out
  · have h1' : s.off = false := by simpa using h1
    rw [h1'] at c4
    by_cases h2 : epoch ≤ s.fence
    · have hfin : P (.returned (.int .i64 7)) w := by
        rw [← HP.out, show s.raise epoch = (7, s) by unfold Arr.raise; rw [if_neg h1, if_pos h2]]
        exact did_same h hid 7 (Below.refl _ _)
      have HF := Lib.hid hfin
      have h3 : (epoch : Int) ≤ (s.fence : Int) := by omega
      clear h hid hfin h1 h1'
      go_enter Try.func15, Try.ntmps15
      go_wp2
      exact HF.out
    · have hwf : Wf { s with fence := epoch } := by obtain ⟨a1, a2, a3, a4, a5, a6, a7, a8⟩ := h.wf; exact ⟨a1, a2, a3, a4, he, a6, a7, a8⟩
      have h5 := h.setG 2 (.int .u64 epoch) { s with fence := epoch } bv (by omega) rfl rfl rfl hwf h.begun
      have hfin : P (.returned (.int .i64 0)) (w.setCell ⟨g, 2, none⟩ (.int .u64 epoch)) := by
        rw [← HP.out, show s.raise epoch = (0, { s with fence := epoch }) by unfold Arr.raise; rw [if_neg h1, if_neg h2]]
        exact did_only h5 ⟨hid.idle, hid.room⟩ 0 ((Only.refl _ _).setCell h.rg _)
      have HF := Lib.hid hfin
      have h3 : ¬ (epoch : Int) ≤ (s.fence : Int) := by omega
      clear h hid hfin h1 h1' h5 hwf
      go_enter Try.func15, Try.ntmps15
      go_wp2
      exact HF.out

theorem arm_any (h : ArrIn w F R g hb rows pv bv s) (hid : Idle s) (n : Int) (hn : n ≤ 9223372036854775807) :
    Calls Try.prog 21 #[.pointer (some ⟨g, 0, none⟩), .int .i64 n] w (Did w F g (s.arm n)) := by
  have c3 := h.gc 3 _ rfl
  have f3 := h.gf 3
  obtain ⟨P, hP⟩ : ∃ P, Did w F g (s.arm n) = P := ⟨_, rfl⟩
  rw [hP]
  have HP := Lib.hid hP
  clear hP
  by_cases h1 : n < 0
  · have hfin : P (.returned (.int .i64 1)) w := by
      rw [← HP.out, show s.arm n = (1, s) by unfold Arr.arm; rw [if_pos h1]]
      exact did_same h hid 1 (Below.refl _ _)
    have HF := Lib.hid hfin
    clear h hid hfin
    go_enter Try.func21, Try.ntmps21
    go_wp2
    exact HF.out
  · obtain ⟨m, rfl⟩ : ∃ m : Nat, n = m := ⟨n.toNat, by omega⟩
    have hwf : Wf { s with armed := m } := by obtain ⟨a1, a2, a3, a4, a5, a6, a7, a8⟩ := h.wf; exact ⟨a1, a2, a3, a4, a5, by show m ≤ _; omega, a7, a8⟩
    have h5 := h.setG 3 (.int .i64 m) { s with armed := m } bv (by omega) rfl rfl rfl hwf h.begun
    have hfin : P (.returned (.int .i64 0)) (w.setCell ⟨g, 3, none⟩ (.int .i64 m)) := by
      rw [← HP.out, show s.arm m = (0, { s with armed := m }) by unfold Arr.arm; rw [if_neg h1]; rfl]
      exact did_only h5 ⟨hid.idle, hid.room⟩ 0 ((Only.refl _ _).setCell h.rg _)
    have HF := Lib.hid hfin
    clear h hid hfin h5 hwf hn
    go_enter Try.func21, Try.ntmps21
    go_wp2
    exact HF.out

theorem doom_any (h : ArrIn w F R g hb rows pv bv s) (hid : Idle s) (i n : Nat) (hi : i < s.n) (hn : n ≤ 9223372036854775807) :
    Calls Try.prog 25 #[.pointer (some ⟨g, 0, none⟩), .int .i64 i, .int .i64 n] w (Did w F g (0, { s with b := upd s.b i { s.b i with doom := n } })) := by
  have c0 := h.gc 0 _ rfl
  have hn64 := h.wf.n64
  obtain ⟨ra, rc, hrow, hrc, b0, b1, b2, b3, -⟩ := h.blk hi
  have hbf := h.bf (i * 6 + 3)
  have h5 := h.setB i 3 (.int .i64 n) { s.b i with doom := n } hi (by omega) rfl rfl hn
  have hid2 : Idle { s with b := upd s.b i { s.b i with doom := n } } := ⟨hid.idle, fun j p hj => by
    show (upd s.b i { s.b i with doom := n } j).pages.length < _
    by_cases e : j = i
    · subst e; rw [upd_same]; exact hid.room j p hj
    · rw [upd_other _ _ _ _ e]; exact hid.room j p hj⟩
  have hfin := did_only h5 hid2 0 ((Only.refl _ _).setCell h.rhb _)
  have HF := Lib.hid hfin
  generalize Did w F g (0, { s with b := upd s.b i { s.b i with doom := n } }) = P at HF ⊢
  clear h hid hid2 hfin h5 hrow
  go_enter Try.func25, Try.ntmps25
  go_wp2_with (go_at_call 31; refine (block_in g hb s.n i _ c0 hn64 hi).mono ?_; rintro e w' ⟨rfl, rfl⟩)
  exact HF.out
end
end Go.Proofs.Ytjibiehchfhjnaa
