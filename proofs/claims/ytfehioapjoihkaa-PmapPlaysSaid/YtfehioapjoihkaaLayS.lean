/- slices.insertionSortCmpFunc at []int: the shelf's contract, laid over this program. -/
import Derived.Shelf.SlSortCmp.Insertion1
import Derived.Test.YtfehioapjoihkaaProg
namespace Go.Proofs
open Go.Shelf
namespace Ytfehioapjoihkaa
def lays20_ren : Go.Shelf.Ren := ⟨fun | 20 => 41 | n => n, fun | 24 => 3 | 22 => 43 | 3 => 3 | 25 => 75 | 4 => 4 | 0 => 0 | n => n, fun | n => n⟩
theorem lays20 : Go.Proofs.SlLaysF.n20 Try.prog lays20_ren := {
  mixed := by kernel_rfl
  f20 := ⟨Try.f41.name, by decide, Try.func41.trans (congrArg some (by kernel_rfl))⟩
  t0 := Try.underlying0
  a0 := Try.isAgg0
  z0 := Try.sizeOf0
  v0 := Try.zeroValue0
  t3 := Try.underlying3
  a3 := Try.isAgg3
  z3 := Try.sizeOf3
  v3 := Try.zeroValue3
  t4 := Try.underlying4
  a4 := Try.isAgg4
  z4 := Try.sizeOf4
  v4 := Try.zeroValue4
  t22 := Try.underlying43
  a22 := Try.isAgg43
  z22 := Try.sizeOf43
  v22 := Try.zeroValue43
  a24 := Try.isAgg3
  z24 := Try.sizeOf3
  t25 := Try.underlying75
  a25 := Try.isAgg75
  z25 := Try.sizeOf75
  v25 := Try.zeroValue75 }

end Ytfehioapjoihkaa
end Go.Proofs
