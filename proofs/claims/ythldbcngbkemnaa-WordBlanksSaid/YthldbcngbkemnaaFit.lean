/- drawbarlaw02.fit: can a text be a word of a line? -/
import Derived.Test.YthldbcngbkemnaaLong
namespace Go.Proofs.Ythldbcngbkemnaa
open Go.RowKit
open Drawbar Drawbar.Line Drawbar.Sign Drawbar.Esc

theorem bytes_of (s : ByteArray) : ∃ L : List Nat, (∀ x ∈ L, x < 256) ∧ s = strOf L ∧ L.length = s.size := by
  refine ⟨s.data.toList.map UInt8.toNat, ?_, ?_, ?_⟩
  · intro x hx
    obtain ⟨b, _, rfl⟩ := List.mem_map.1 hx
    exact b.toNat_lt
  · apply str_ext
    show _ = (((s.data.toList.map UInt8.toNat).map UInt8.ofNat).toArray).toList
    rw [List.toList_toArray, List.map_map]
    have : (UInt8.ofNat ∘ UInt8.toNat) = id := by funext b; simp
    rw [this, List.map_id]
  · rw [List.length_map, Array.length_toList]; rfl

def okB (x : Nat) : Bool := decide (32 ≤ x ∨ x = 10 ∨ x = 9)
def fitL (L : List Nat) : Bool := ((cntR (strOf L)).2 && L.all okB) && decide (L.length ≤ 100)
theorem fit_of {L : List Nat} (hL : ∀ x ∈ L, x < 256) (h : fitL L = true) : L.length ≤ 100 ∧ ∃ rs, validS rs ∧ fitS rs ∧ L = flat rs := by
  unfold fitL at h
  simp only [Bool.and_eq_true, decide_eq_true_eq, List.all_eq_true] at h
  exact ⟨h.2, fit_signs L hL h.1.1 fun x hx => by have := h.1.2 x hx; unfold okB at this; rwa [decide_eq_true_eq] at this⟩

set_option maxRecDepth 100000 in
set_option maxHeartbeats 4000000 in
theorem fit_any (L : List Nat) (w : World) (hL : ∀ x ∈ L, x < 256) (hn : L.length < 281474976710656) :
    Calls Try.prog 6 #[.string (strOf L)] w fun e w' => e = .returned (.bool (fitL L)) ∧ w = w' := by
  have hsz := size_str L
  have hget := fun k hk h => at_str L hL k hk h
  have hcnt := fun W => refcountb_any (strOf L) (by rw [hsz]; exact hn) W
  have hfit : fitL L = (((cntR (strOf L)).2 && L.all okB) && decide (L.length ≤ 100)) := rfl
  generalize cntR (strOf L) = Z at *
  obtain ⟨z, c⟩ := Z
  dsimp only at hfit hcnt
  generalize strOf L = S at *
  have HG := Lib.hid hget
  have HC := Lib.hid hcnt
  have HF := Lib.hid hfit
  clear hget hcnt hL hfit
  go_enter Try.func6, Try.ntmps6
  go_wp2_with (go_at_call 12; (with_reducible refine (HC.out _).mono ?_); rintro e w1 ⟨rfl, rfl⟩)
  clear HC
  go_loop [4, 5] (fun ov iv => ∃ k : Nat, k ≤ L.length ∧ iv = .int .i64 k ∧ ov = .bool (c && (L.take k).all okB)) (fun _ iv => L.length - (intOf iv).toNat)
  case atStart => exact ⟨0, by omega, rfl, by simp⟩
  case round =>
    obtain ⟨k, hk, rfl, rfl⟩ := hrel
    by_cases hlt : k < L.length
    · have hg := HG.out k hlt (by rw [hsz]; exact hlt)
      have hall : (c && (L.take (k + 1)).all okB) = ((c && (L.take k).all okB) && okB (L.getD k 0)) := by
        rw [takes L k hlt, List.all_append, Bool.and_assoc]; simp
      generalize (c && (L.take k).all okB) = p at *
      generalize L.getD k 0 = x at *
      have HA := Lib.hid hall
      clear hall HG HF
      cases p with
      | false =>
        have HA2 := Lib.hid (HA.out.trans (Bool.false_and _))
        clear HA
        go_wp2
        all_goals
          go_round
          case rel => exact ⟨k + 1, by omega, by go_num, by rw [HA2.out]⟩
          case measure => simp [intOf]; omega
      | true =>
        by_cases h32 : 32 ≤ x
        · have HA2 := Lib.hid (HA.out.trans (show (true && okB x) = true by unfold okB; simp; omega))
          clear HA
          go_wp2
          all_goals
            go_round
            case rel => exact ⟨k + 1, by omega, by go_num, by rw [HA2.out]⟩
            case measure => simp [intOf]; omega
        · by_cases h10 : x = 10
          · have HA2 := Lib.hid (HA.out.trans (show (true && okB x) = true by unfold okB; simp; omega))
            clear HA
            subst h10
            go_wp2
            all_goals
              go_round
              case rel => exact ⟨k + 1, by omega, by go_num, by rw [HA2.out]⟩
              case measure => simp [intOf]; omega
          · by_cases h9 : x = 9
            · have HA2 := Lib.hid (HA.out.trans (show (true && okB x) = true by unfold okB; simp; omega))
              clear HA
              subst h9
              go_wp2
              all_goals
                go_round
                case rel => exact ⟨k + 1, by omega, by go_num, by rw [HA2.out]⟩
                case measure => simp [intOf]; omega
            · have HA2 := Lib.hid (HA.out.trans (show (true && okB x) = false by unfold okB; simp; omega))
              have i10 : ((x : Int) == 10) = false := by simp; omega
              have i9 : ((x : Int) == 9) = false := by simp; omega
              clear HA h10 h9
              go_wp2
              all_goals
                go_round
                case rel => exact ⟨k + 1, by omega, by go_num, by rw [HA2.out]; first | rfl | (simp; done) | (simp; omega)⟩
                case measure => simp [intOf]; omega
    · have hk2 : k = L.length := by omega
      subst hk2
      rw [List.take_length]
      have hF := HF.out
      generalize (c && L.all okB) = p at *
      cases p with
      | false =>
        have HF2 := Lib.hid (hF.trans (Bool.false_and _))
        clear hF HF HG
        go_wp2
        go_ret
        exact ⟨by rw [HF2.out]; rfl, rfl⟩
      | true =>
        by_cases h100 : L.length ≤ 100
        · have HF2 := Lib.hid (hF.trans (show (true && decide (L.length ≤ 100)) = true by simpa using h100))
          clear hF HF HG
          go_wp2
          go_ret
          exact ⟨by rw [HF2.out]; first | rfl | (simp; done) | (simp; omega), rfl⟩
        · have HF2 := Lib.hid (hF.trans (show (true && decide (L.length ≤ 100)) = false by simpa using h100))
          clear hF HF HG
          go_wp2
          go_ret
          exact ⟨by rw [HF2.out]; first | rfl | (simp; done) | (simp; omega), rfl⟩
end Go.Proofs.Ythldbcngbkemnaa
