/- The law PmapPlays for any two numbers. -/
import Derived.Test.YtfehioapjoihkaaPPlays
namespace Go.Proofs.Ytfehioapjoihkaa
open Go.RowKit
open Drawbar Drawbar.Pm

theorem plays_all (A B : Int) (l : List ActA) (a : Option Addr) (c : Nat) (w : World) (hs : ActAs w a l) : Calls Try.prog 3 #[.int .i64 A, .int .i64 B, .slice a l.length c] w (Yes w) := by
  by_cases h : A < 1 ∨ 65536 < A ∨ B < 1 ∨ 64 < B
  · exact plays_bad A B _ w h
  · obtain ⟨n, rfl⟩ : ∃ n : Nat, A = n := ⟨A.toNat, by omega⟩
    obtain ⟨m, rfl⟩ : ∃ m : Nat, B = m := ⟨B.toNat, by omega⟩
    exact plays_any n m l a c w (by omega) (by omega) (by omega) (by omega) hs
end Go.Proofs.Ytfehioapjoihkaa
