/- The contract of (*Array).operate, over any function value that has one. -/
import Derived.Test.YtjibiehchfhjnaaErase
import Derived.Laws.EntriesVeiled
import Derived.Outline
namespace Go.Proofs.Ytjibiehchfhjnaa
open Go.RowKit
open Drawbar Drawbar.Nand

/-- But for what is written nothing is otherwise, and nothing is new. -/
structure Only (R : Nat → Prop) (w w' : World) : Prop where
  os : w'.os = w.os
  tape : w'.tape = w.tape
  output : w'.output = w.output
  size : w'.heap.size = w.heap.size
  block : ∀ d, ¬ R d → w'.heap[d]? = w.heap[d]?
theorem Only.refl (R : Nat → Prop) (w : World) : Only R w w := ⟨rfl, rfl, rfl, rfl, fun _ _ => rfl⟩
theorem Only.setCell {R : Nat → Prop} {w w1 : World} (h : Only R w w1) {g o : Nat} (hR : R g) (x : Value) : Only R w (w1.setCell ⟨g, o, none⟩ x) :=
  ⟨h.os, h.tape, h.output, by simpa [World.setCell] using h.size, fun k hn => (Below.heap_setCell w1 ⟨g, o, none⟩ x k (fun e => hn (by subst e; exact hR))).trans (h.block k hn)⟩
theorem Only.trans {R : Nat → Prop} {w w1 w2 : World} (h : Only R w w1) (h2 : Only R w1 w2) : Only R w w2 :=
  ⟨h2.os.trans h.os, h2.tape.trans h.tape, h2.output.trans h.output, h2.size.trans h.size, fun k hk => (h2.block k hk).trans (h.block k hk)⟩
theorem Only.keep {F R : Nat → Prop} {w w1 : World} (h : Only R w w1) (hR : ∀ d, R d → F d) : Keep F w w1 :=
  ⟨h.os, h.tape, h.output, Nat.le_of_eq h.size.symm, fun k _ hF => h.block k fun hr => hF (hR k hr)⟩

/-- operate's, Program's way to end. -/
def Oped (w : World) (F R : Nat → Prop) (g hb : Nat) (r : Int × Arr) (e : Ending) (w' : World) : Prop := e = .returned (.int .i64 r.1) ∧ ∃ bv', Become w F R g hb bv' r.2 w'

theorem Become.from {F R : Nat → Prop} {w w1 w2 : World} {g hb : Nat} {bv : Value} {s : Arr} (h : Only R w w1) (h2 : Become w1 F R g hb bv s w2) : Become w F R g hb bv s w2 := by
  obtain ⟨R', rows', pv', h3, h4, h5⟩ := h2
  refine ⟨R', rows', pv', ?_, ?_, fun d hd => (h5 d hd).imp id fun h6 => by rw [← h.size]; exact h6⟩
  · rw [show ext F w w2 = ext F w1 w2 by unfold ext; rw [h.size]]; exact h3
  · refine (h.keep (fun _ h => h)).trans ?_
    rw [ext_same R h.size]; exact h4

section
variable {w : World} {F R : Nat → Prop} {g hb : Nat} {rows : Nat → Value} {pv : Nat → List Value} {bv : Value} {s : Arr}

theorem ArrIn.become (h : ArrIn w F R g hb rows pv bv s) {w0 : World} (ho : Only R w0 w) : Become w0 F R g hb bv s w :=
  ⟨R, rows, pv, by rw [ext_same F ho.size]; exact h, ho.keep (fun _ h => h), fun _ => .inl⟩

theorem reachedB (h : ArrIn w F R g hb rows pv bv s) (i : Nat) (hi : i < s.n) :
    Calls Try.prog 39 #[.pointer (some ⟨hb, i * 6 + 3, none⟩)] w fun e w' => e = .returned (.bool ((s.b i).doom == 1)) ∧
      ArrIn w' F R g hb rows pv bv { s with b := upd s.b i { s.b i with doom := (s.b i).doom - 1 } } ∧ Only R w w' := by
  obtain ⟨a, cap, hrow, hcap, c0, c1, c2, c3, c4, c5⟩ := h.blk hi
  have hd := h.wf.doom i hi
  rcases Nat.eq_zero_or_pos (s.b i).doom with h0 | h0
  · rw [h0] at c3 ⊢
    refine (reached_zero hb _ w c3).mono ?_
    rintro e w' ⟨rfl, rfl⟩
    refine ⟨rfl, ?_, Only.refl _ _⟩
    have : ({ s.b i with doom := 0 - 1 } : Blk) = s.b i := by rw [← h0, h0, Nat.zero_sub]; rw [← h0]
    rw [this, upd_id]
    exact h
  · refine (reached_pos hb _ _ w c3 (h.bf _) h0 hd).mono ?_
    rintro e w' ⟨rfl, rfl⟩
    exact ⟨rfl, h.setB i 3 _ { s.b i with doom := (s.b i).doom - 1 } hi (by omega) rfl rfl (by simp; omega), (Only.refl _ _).setCell h.rhb _⟩

theorem reachedG (h : ArrIn w F R g hb rows pv bv s) :
    Calls Try.prog 39 #[.pointer (some ⟨g, 3, none⟩)] w fun e w' => e = .returned (.bool (s.armed == 1)) ∧
      ArrIn w' F R g hb rows pv bv { s with armed := s.armed - 1 } ∧ Only R w w' := by
  have c3 := h.gc 3 _ rfl
  have hd := h.wf.armed
  rcases Nat.eq_zero_or_pos s.armed with h0 | h0
  · rw [h0] at c3
    refine (reached_zero g _ w c3).mono ?_
    rintro e w' ⟨rfl, rfl⟩
    refine ⟨by rw [h0]; rfl, ?_, Only.refl _ _⟩
    have : ({ s with armed := s.armed - 1 } : Arr) = s := by rw [h0, Nat.zero_sub]; rw [← h0]
    rw [this]
    exact h
  · refine (reached_pos g 3 _ w c3 (h.gf _) h0 hd).mono ?_
    rintro e w' ⟨rfl, rfl⟩
    obtain ⟨a1, a2, a3, a4, a5, a6, a7, a8⟩ := h.wf
    exact ⟨rfl, h.setG 3 _ { s with armed := s.armed - 1 } bv (by omega) rfl rfl rfl ⟨a1, a2, a3, a4, a5, by simp; omega, a7, a8⟩ h.begun, (Only.refl _ _).setCell h.rg _⟩

set_option maxHeartbeats 1000000 in
theorem operate_any (h : ArrIn w F R g hb rows pv bv s) (i : Nat) (hi : i < s.n) (K : Nat) (first caps : Array Value) (heg : ∀ args W, (callFunc K args).run Try.prog W = .ok (.enter K args) W)
    (bg : Begun) (hbg : BegunAt w F R hb s.n (.func (.func K) first caps) bg) (what : Blk → Blk)
    (hcall : ∀ w4, ArrIn w4 F R g hb rows pv bv (s.tick i) → Only R w w4 → Calls Try.prog K (first ++ #[.int .i64 96] ++ caps) w4 fun e w' => e = .returned (.tuple #[]) ∧ Become w4 F R g hb bv { s.tick i with b := upd s.b i (what (s.b i).tick) } w') :
    Calls Try.prog 35 #[.pointer (some ⟨g, 0, none⟩), .pointer (some ⟨hb, i * 6, none⟩), .func (.func K) first caps] w (Oped w F R g hb (s.operate i bg what)) := by
  have c7 := h.gc 7 _ rfl
  have f7 := h.gf 7
  have h1 := h.setG 7 (.int .i64 (wrap64 (s.ops + 1))) { s with ops := wrap64 (s.ops + 1) } bv (by omega) rfl rfl rfl (by obtain ⟨a1, a2, a3, a4, a5, a6, a7, a8⟩ := h.wf; exact ⟨a1, a2, a3, a4, a5, a6, a7, a8⟩) h.begun
  have o1 : Only R w (w.setCell ⟨g, 7, none⟩ (.int .i64 (wrap64 (s.ops + 1)))) := (Only.refl _ _).setCell h.rg _
  obtain ⟨Q, hQ⟩ : ∃ Q, Oped w F R g hb (s.operate i bg what) = Q := ⟨_, rfl⟩
  rw [hQ]
  have HQ := Lib.hid hQ
  have H := Lib.hid h
  have HB := Lib.hid hbg
  have HC := Lib.hid hcall
  obtain ⟨ops, hops⟩ : ∃ o, o = s.ops := ⟨_, rfl⟩
  rw [← hops] at c7
  have HO := Lib.hid hops
  rw [← hops] at h1 o1
  clear hQ h hbg hcall hops
  go_enter Try.func35, Try.ntmps35
  go_wp2_with fail
  refine (reachedB h1 i hi).mono ?_
  rintro e w2 ⟨rfl, h2, o2⟩
  have o12 := o1.trans o2
  clear h1 o1 o2 c7 f7
  dsimp only at h2 ⊢
  have hi2 : i < ({ s with b := upd s.b i { s.b i with doom := (s.b i).doom - 1 }, ops := wrap64 (ops + 1) } : Arr).n := hi
  have HT : Hid (({ s with b := upd s.b i (s.b i).tick, ops := wrap64 (ops + 1), armed := s.armed - 1 } : Arr) = s.tick i) := Lib.hid (by unfold Arr.tick; rw [HO.out])
  obtain ⟨d1, hd1⟩ : ∃ d1, d1 = ((s.b i).doom == 1) := ⟨_, rfl⟩
  rw [← hd1]
  have HD := Lib.hid hd1
  clear hd1
  cases d1 with
  | false =>
    have e2 : ({ s.b i with doom := (s.b i).doom - 1 } : Blk) = (s.b i).tick := by unfold Blk.tick; rw [← HD.out, Bool.or_false]
    rw [e2] at h2
    clear e2 hi2
    have h3 := h2
    have o3 := o12
    clear h2 o12
    go_wp2_with fail
    refine (reachedG h3).mono ?_
    rintro e w4 ⟨rfl, h4, o4⟩
    have o := o3.trans o4
    clear h3 o3 o4
    rw [HT.out] at h4
    dsimp only
    obtain ⟨d2, hd2⟩ : ∃ d2, d2 = (s.armed == 1) := ⟨_, rfl⟩
    rw [← hd2]
    have HD2 := Lib.hid hd2
    clear hd2
    have hi4 : i < (s.tick i).n := hi
    cases d2 with
    | true =>
      have c4 := h4.gc 4 _ rfl
      have c5 := h4.gc 5 _ rfl
      have hgf := h4.gf
      have hwf : Wf { s.tick i with off := true } := by obtain ⟨a1, a2, a3, a4, a5, a6, a7, a8⟩ := h4.wf; exact ⟨a1, a2, a3, a4, a5, a6, a7, a8⟩
      have hwf2 : Wf { s.tick i with off := true, begun := bg } := by obtain ⟨a1, a2, a3, a4, a5, a6, a7, a8⟩ := h4.wf; exact ⟨a1, a2, a3, a4, a5, a6, a7, a8⟩
      have h5 := h4.setG 4 (.bool true) { s.tick i with off := true } bv (by omega) rfl rfl rfl hwf h4.begun
      have o5 := o.setCell (o := 4) h4.rg (.bool true)
      have h6 := h5.setG 5 (.func (.func K) first caps) { s.tick i with off := true, begun := bg } (.func (.func K) first caps) (by omega) rfl rfl rfl hwf2 (HB.out.keep (fun _ h => h) (fun _ _ h => h) fun d _ hR => o5.block d hR)
      have o6 := o5.setCell (o := 5) h4.rg (.func (.func K) first caps)
      have hfin : ∀ w', Become w F R g hb (.func (.func K) first caps) { s.tick i with off := true, begun := bg } w' → Q (.returned (.int .i64 9)) w' := fun w' h7 => by
        rw [← HQ.out]
        have e1 : s.operate i bg what = (9, { s.tick i with off := true, begun := bg }) := by
          unfold Arr.operate
          rw [if_pos (by simpa using HD2.out.symm)]
        rw [e1]
        exact ⟨rfl, _, h7⟩
      have HF := Lib.hid (hfin _ (h6.become o6))
      clear h4 h5 h6 hfin o o5 o6 hwf hwf2
      go_wp2
      exact HF.out
    | false =>
      obtain ⟨a, cap, hrow, hcap, c0, c1, c2, c3, c4, c5⟩ := h4.blk hi4
      have hbf := h4.bf
      have hne : s.armed ≠ 1 := by have := HD2.out; simpa using this.symm
      have hbi : (s.tick i).b i = (s.b i).tick := by simp [Arr.tick]
      rw [hbi] at c4 c5
      obtain ⟨fl, hfl⟩ : ∃ fl, fl = (s.b i).tick.fails := ⟨_, rfl⟩
      rw [← hfl] at c4
      have HFL := Lib.hid hfl
      have HBI := Lib.hid hbi
      clear hfl hbi hrow hcap c0 c1 c2 c3
      cases fl with
      | true =>
        have h5 := h4.setB i 5 (.bool true) { (s.b i).tick with failed := true } hi4 (by omega) (by rw [HBI.out]; rfl) (by rw [HBI.out]) (by have := h4.wf.doom i hi4; rw [HBI.out] at this; exact this)
        have o5 := o.setCell (o := i * 6 + 5) h4.rhb (.bool true)
        have hfin : ∀ w', Become w F R g hb bv { s.tick i with b := upd s.b i { (s.b i).tick with failed := true } } w' → Q (.returned (.int .i64 8)) w' := fun w' h6 => by
          rw [← HQ.out]
          have e1 : s.operate i bg what = (8, { s.tick i with b := upd s.b i { (s.b i).tick with failed := true } }) := by
            unfold Arr.operate
            rw [if_neg hne, if_pos HFL.out.symm]
          rw [e1]
          exact ⟨rfl, _, h6⟩
        have h6 := h5.become o5
        rw [show upd (s.tick i).b i { (s.b i).tick with failed := true } = upd s.b i { (s.b i).tick with failed := true } from upd_upd _ _ _ _] at h6
        have HF := Lib.hid (hfin _ h6)
        clear h4 h5 h6 hfin o o5 hne
        go_wp2
        exact HF.out
      | false =>
        have hfin : ∀ w', Become w4 F R g hb bv { s.tick i with b := upd s.b i (what (s.b i).tick) } w' → Q (.returned (.int .i64 0)) w' := fun w' h6 => by
          rw [← HQ.out]
          have e1 : s.operate i bg what = (0, { s.tick i with b := upd s.b i (what (s.b i).tick) }) := by
            unfold Arr.operate
            rw [if_neg hne, if_neg (by rw [← HFL.out]; simp)]
          rw [e1]
          exact ⟨rfl, _, h6.from o⟩
        have HF := Lib.hid hfin
        have hC := HC.out w4 h4 o
        clear h4 hfin o hne c5
        go_wp2_with (refine hC.mono ?_; rintro e w5 ⟨rfl, h6⟩; have h7 := HF.out w5 h6)
        exact h7
  | true =>
    have c4 := h2.bc i hi2 4 _ rfl
    have f4 := h2.bf (i * 6 + 4)
    have h3 := h2.setB i 4 (.bool true) (s.b i).tick hi2 (by omega) (by
        show _ = List.set (bcells (upd s.b i _ i) (rows i)) 4 _
        rw [upd_same]; unfold Blk.tick; rw [← HD.out, Bool.or_true]; rfl) (by
        show _ = (upd s.b i _ i).pages
        rw [upd_same]; rfl) (by
        have h9 : (upd s.b i { s.b i with doom := (s.b i).doom - 1 } i).doom ≤ _ := h2.wf.doom i hi2
        rw [upd_same] at h9; exact h9)
    have o3 := o12.setCell (o := i * 6 + 4) h2.rhb (.bool true)
    dsimp only at h3
    rw [upd_upd] at h3
    clear h2 o12 hi2
    go_wp2_with fail
    clear c4 f4
    refine (reachedG h3).mono ?_
    rintro e w4 ⟨rfl, h4, o4⟩
    have o := o3.trans o4
    clear h3 o3 o4
    rw [HT.out] at h4
    dsimp only
    obtain ⟨d2, hd2⟩ : ∃ d2, d2 = (s.armed == 1) := ⟨_, rfl⟩
    rw [← hd2]
    have HD2 := Lib.hid hd2
    clear hd2
    have hi4 : i < (s.tick i).n := hi
    cases d2 with
    | true =>
      have c4 := h4.gc 4 _ rfl
      have c5 := h4.gc 5 _ rfl
      have hgf := h4.gf
      have hwf : Wf { s.tick i with off := true } := by obtain ⟨a1, a2, a3, a4, a5, a6, a7, a8⟩ := h4.wf; exact ⟨a1, a2, a3, a4, a5, a6, a7, a8⟩
      have hwf2 : Wf { s.tick i with off := true, begun := bg } := by obtain ⟨a1, a2, a3, a4, a5, a6, a7, a8⟩ := h4.wf; exact ⟨a1, a2, a3, a4, a5, a6, a7, a8⟩
      have h5 := h4.setG 4 (.bool true) { s.tick i with off := true } bv (by omega) rfl rfl rfl hwf h4.begun
      have o5 := o.setCell (o := 4) h4.rg (.bool true)
      have h6 := h5.setG 5 (.func (.func K) first caps) { s.tick i with off := true, begun := bg } (.func (.func K) first caps) (by omega) rfl rfl rfl hwf2 (HB.out.keep (fun _ h => h) (fun _ _ h => h) fun d _ hR => o5.block d hR)
      have o6 := o5.setCell (o := 5) h4.rg (.func (.func K) first caps)
      have hfin : ∀ w', Become w F R g hb (.func (.func K) first caps) { s.tick i with off := true, begun := bg } w' → Q (.returned (.int .i64 9)) w' := fun w' h7 => by
        rw [← HQ.out]
        have e1 : s.operate i bg what = (9, { s.tick i with off := true, begun := bg }) := by
          unfold Arr.operate
          rw [if_pos (by simpa using HD2.out.symm)]
        rw [e1]
        exact ⟨rfl, _, h7⟩
      have HF := Lib.hid (hfin _ (h6.become o6))
      clear h4 h5 h6 hfin o o5 o6 hwf hwf2
      go_wp2
      exact HF.out
    | false =>
      obtain ⟨a, cap, hrow, hcap, c0, c1, c2, c3, c4, c5⟩ := h4.blk hi4
      have hbf := h4.bf
      have hne : s.armed ≠ 1 := by have := HD2.out; simpa using this.symm
      have hbi : (s.tick i).b i = (s.b i).tick := by simp [Arr.tick]
      rw [hbi] at c4 c5
      obtain ⟨fl, hfl⟩ : ∃ fl, fl = (s.b i).tick.fails := ⟨_, rfl⟩
      rw [← hfl] at c4
      have HFL := Lib.hid hfl
      have HBI := Lib.hid hbi
      clear hfl hbi hrow hcap c0 c1 c2 c3
      cases fl with
      | true =>
        have h5 := h4.setB i 5 (.bool true) { (s.b i).tick with failed := true } hi4 (by omega) (by rw [HBI.out]; rfl) (by rw [HBI.out]) (by have := h4.wf.doom i hi4; rw [HBI.out] at this; exact this)
        have o5 := o.setCell (o := i * 6 + 5) h4.rhb (.bool true)
        have hfin : ∀ w', Become w F R g hb bv { s.tick i with b := upd s.b i { (s.b i).tick with failed := true } } w' → Q (.returned (.int .i64 8)) w' := fun w' h6 => by
          rw [← HQ.out]
          have e1 : s.operate i bg what = (8, { s.tick i with b := upd s.b i { (s.b i).tick with failed := true } }) := by
            unfold Arr.operate
            rw [if_neg hne, if_pos HFL.out.symm]
          rw [e1]
          exact ⟨rfl, _, h6⟩
        have h6 := h5.become o5
        rw [show upd (s.tick i).b i { (s.b i).tick with failed := true } = upd s.b i { (s.b i).tick with failed := true } from upd_upd _ _ _ _] at h6
        have HF := Lib.hid (hfin _ h6)
        clear h4 h5 h6 hfin o o5 hne
        go_wp2
        exact HF.out
      | false =>
        have hfin : ∀ w', Become w4 F R g hb bv { s.tick i with b := upd s.b i (what (s.b i).tick) } w' → Q (.returned (.int .i64 0)) w' := fun w' h6 => by
          rw [← HQ.out]
          have e1 : s.operate i bg what = (0, { s.tick i with b := upd s.b i (what (s.b i).tick) }) := by
            unfold Arr.operate
            rw [if_neg hne, if_neg (by rw [← HFL.out]; simp)]
          rw [e1]
          exact ⟨rfl, _, h6.from o⟩
        have HF := Lib.hid hfin
        have hC := HC.out w4 h4 o
        clear h4 hfin o hne c5
        go_wp2_with (refine hC.mono ?_; rintro e w5 ⟨rfl, h6⟩; have h7 := HF.out w5 h6)
        exact h7
end
end Go.Proofs.Ytjibiehchfhjnaa
