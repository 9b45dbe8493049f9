/- word.Count: how many signs. -/
import Derived.Test.YthldbcngbkemnaaProg
import Derived.Test.YthldbcngbkemnaaSign
import Derived.Test.YthldbcngbkemnaaEach
import Derived.WalkKit
import Derived.Handy
import Derived.Lib.Hide
import Derived.Lib.OthersKept
namespace Go.Proofs.Ythldbcngbkemnaa
open Go.RowKit
open Drawbar.Sign

def cstep (n : Nat) (_ : Nat) : Nat × Nat := (0, n + 1)

/-- the variable that is counted in -/
def CAt (C n : Nat) (W : World) : Prop := W.cell? ⟨C, 0, none⟩ = some (.int .i64 (wrap64 (n : Int))) ∧ W.frozen? ⟨C, 0, none⟩ = false

theorem cell_iterAt (W : World) (k : Nat) (s : ByteArray) (p' : Nat) (a : Addr) (ha : a.block ≠ k) : (W.iterAt k s p').cell? a = W.cell? a ∧ (W.iterAt k s p').frozen? a = W.frozen? a := by
  have e := Lib.iterAt_other W k a.block s p' ha
  constructor
  · simp only [World.cell?, e]
  · simp only [World.frozen?, e]

theorem eachR_count (s : ByteArray) : ∀ f p n, (eachR cstep s f p n).2 ≤ n + f ∧ ((eachR cstep s f p n).1.2 = 0 ∨ (eachR cstep s f p n).1.2 = 14)
  | 0, p, n => by simp [eachR]
  | f + 1, p, n => by
    have ih := eachR_count s f (p + (sgn s p).1) (n + 1)
    simp only [eachR]
    split
    · split
      · simp
      · have e : cstep n (sgn s p).2 = (0, n + 1) := rfl
        rw [e, if_pos rfl]
        exact ⟨Nat.le_trans ih.1 (by omega), ih.2⟩
    · simp

/-- how many signs; none: one isn't whole -/
def cntR (s : ByteArray) : Nat × Bool := if (eachR cstep s s.size 0 0).1.2 = 0 then ((eachR cstep s s.size 0 0).2, true) else (0, false)

end Go.Proofs.Ythldbcngbkemnaa
