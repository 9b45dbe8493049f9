/- word.each once more: over any function value that has a contract for the signs of this text, with what holds place by place. -/
import Derived.Test.YthldbcngbkemnaaEach
namespace Go.Proofs.Ythldbcngbkemnaa
open Go.RowKit
open Drawbar.Sign

set_option maxRecDepth 1000000 in
set_option maxHeartbeats 2000000 in
theorem each_with {σ : Type} (step : σ → Nat → Nat × σ) (I : σ → World → Prop) (J : σ → Nat → Prop) (g : Nat) (caps : Array Value) (s : ByteArray) (hs : s.size < 1000000) (st0 : σ) (w : World)
    (heg : ∀ args W, (callFunc g args).run Try.prog W = .ok (.enter g args) W)
    (h0 : I st0 (w.iter s 0))
    (hit : ∀ st W p, W.heap[w.heap.size]? = some (.stringIter s p) → I st W → ∀ p', I st (W.iterAt w.heap.size s p'))
    (herr : ∀ st r, (step st r).1 < 1000) (hJ0 : J st0 0) (hJ : ∀ st pos r n, J st pos → 1 ≤ n → J (step st r).2 (pos + n))
    (hstep : ∀ st W (r p pos : Nat), J st pos → pos < s.size → (sgn s pos).1 ≠ 0 → r = (sgn s pos).2 → I st W → W.heap[w.heap.size]? = some (.stringIter s p) → r ≤ 1114111 → Utf8.valid (r : Int) = true →
      Calls Try.prog g (#[.int .i32 (r : Int)] ++ caps) W fun e W' => e = .returned (.int .i64 ((step st r).1 : Nat)) ∧ I (step st r).2 W' ∧ W'.heap[w.heap.size]? = some (.stringIter s p)) :
    Calls Try.prog 16 #[.string s, .func (.func g) #[] caps] w fun e w' =>
      e = .returned (.tuple #[.int .i64 ((eachR step s s.size 0 st0).1.1 : Nat), .int .i64 ((eachR step s s.size 0 st0).1.2 : Nat)]) ∧ I (eachR step s s.size 0 st0).2 w' := by
  generalize hR : eachR step s s.size 0 st0 = R
  go_enter Try.func16, Try.ntmps16
  go_wp2
  go_loopw [] (fun wr => ∃ (pos fuel : Nat) (st : σ), wr.heap[w.heap.size]? = some (.stringIter s pos) ∧ I st wr ∧ Hid (J st pos) ∧ Hid (eachR step s fuel pos st = R) ∧ s.size ≤ pos + fuel) (fun w' => s.size - w'.iterPos w.heap.size)
  case atStart => exact ⟨0, s.size, st0, World.iter_heap w s 0, h0, Lib.hid hJ0, Lib.hid hR, by omega⟩
  case round =>
    obtain ⟨pos, fuel, st, hi, hI, HJP, HR, hb⟩ := hrel
    have hpos0 := iterPos_of hi
    by_cases hp : pos < s.size
    · have hnx : ∀ ty, (Instr.next (.pointer (some ⟨w.heap.size, 0, none⟩)) true ty).run Try.prog wr = _ := fun ty => Lib.run_next_any_at wr w.heap.size s pos ty hi hp
      obtain ⟨fuel, rfl⟩ : ∃ f', fuel = f' + 1 := ⟨fuel - 1, by omega⟩
      have hi2 := Lib.iterAt_heap wr w.heap.size s pos (pos + (Utf8.decode s pos).2) hi
      have hI2 := hit st wr pos hi hI (pos + (Utf8.decode s pos).2)
      have HW := Lib.hid (fun W => whole_any s pos hs W)
      obtain ⟨W1, hW1⟩ : ∃ W1, W1 = wr.iterAt w.heap.size s (pos + (Utf8.decode s pos).2) := ⟨_, rfl⟩
      rw [← hW1] at hnx hi2 hI2
      clear hW1 hi hI hit h0
      have hstep2 := fun r hz hr => hstep st W1 r _ pos HJP.out hp hz hr hI2 hi2
      have hle := sgn_le s pos hp
      by_cases hz : (sgn s pos).1 = 0
      · have hR2 : R = ((pos, 14), st) := by rw [← HR.out]; simp only [eachR, if_pos hp, if_pos hz]
        subst hR2
        rw [hz] at HW
        go_wp2_with (go_at_call 28; refine (HW.out _).mono ?_; rintro e w2 ⟨rfl, rfl⟩)
        go_ret2
        exact ⟨rfl, hI2⟩
      · have hd := sgn_pos s pos hz
        have hdec : decide ((sgn s pos).1 ≠ 0) = true := decide_eq_true hz
        rw [hdec] at HW
        rw [hd] at hnx hi2 HW
        have hv := hle.2.2 hz
        have hC := hstep2 (sgn s pos).2 hz rfl hle.2.1 hv
        have hJ2 := hJ st pos (sgn s pos).2 (sgn s pos).1 HJP.out (by omega)
        have HJ2 := Lib.hid hJ2
        clear hJ2
        rw [hd] at hC
        have he9 := herr st (sgn s pos).2
        have hR1 : eachR step s (fuel + 1) pos st = if (step st (sgn s pos).2).1 = 0 then eachR step s fuel (pos + (sgn s pos).1) (step st (sgn s pos).2).2
          else ((pos, (step st (sgn s pos).2).1), (step st (sgn s pos).2).2) := by simp only [eachR, if_pos hp, if_neg hz]
        have HR1 := Lib.hid hR1
        have HZ := Lib.hid hz
        clear hz hstep2 hR1 hd hdec hstep herr
        generalize hT : step st (sgn s pos).2 = T at *
        by_cases he : T.1 = 0
        · have HR2 : Hid (eachR step s fuel (pos + (sgn s pos).1) T.2 = R) := Lib.hid (by rw [← HR.out, HR1.out, if_pos he])
          have HE := Lib.hid he
          rw [he] at hC
          go_wp2_with (first
            | (go_at_call 28; refine (HW.out _).mono ?_; rintro e w2 ⟨rfl, rfl⟩)
            | (refine hC.mono ?_; rintro e w3 ⟨rfl, hI3, hi3⟩))
          have hz1 : (sgn s pos).1 ≠ 0 := HZ.out
          go_roundw
          case rel => exact ⟨pos + (sgn s pos).1, fuel, T.2, hi3, hI3, HJ2, HR2, by omega⟩
          case measure =>
            rw [iterPos_of hi3, hpos0]
            omega
        · have hR2 : R = ((pos, T.1), T.2) := by rw [← HR.out, HR1.out, if_neg he]
          subst hR2
          have hi9 : ¬ ((T.1 : Nat) : Int) = 0 := by omega
          have hi8 : (((T.1 : Nat) : Int) == 0) = false := by simpa using hi9
          go_wp2_with (first
            | (go_at_call 28; refine (HW.out _).mono ?_; rintro e w2 ⟨rfl, rfl⟩)
            | (refine hC.mono ?_; rintro e w3 ⟨rfl, hI3, hi3⟩))
          go_ret2
          exact ⟨rfl, hI3⟩
    · have hnx : ∀ ty, (Instr.next (.pointer (some ⟨w.heap.size, 0, none⟩)) true ty).run Try.prog wr = _ := fun ty => Lib.run_next_end_at wr w.heap.size s pos ty hi hp
      have hR2 : R = ((s.size, 0), st) := by rw [← HR.out]; exact eachR_end step s fuel pos st hp
      subst hR2
      go_wp2
      go_ret2
      exact ⟨rfl, hI⟩

end Go.Proofs.Ythldbcngbkemnaa
