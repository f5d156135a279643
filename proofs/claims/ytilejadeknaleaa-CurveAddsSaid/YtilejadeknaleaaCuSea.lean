/-
  sort.Search and math/bits.Mul64 at this translation, by the library's contracts.
-/
import Derived.Shelf.SlSorted.Search
import Derived.Shelf.Bits.Mul64
import Derived.Test.YtilejadeknaleaaProg
namespace Go.Proofs
open Go.Shelf
def Try.searchL_ren : Go.Shelf.Ren := ⟨fun | 16 => 32 | n => n, fun | 3 => 3 | 4 => 4 | 35 => 61 | 38 => 67 | n => n, fun | n => n⟩
theorem Try.searchL : Go.Proofs.SlLaysO.n16 Try.prog Try.searchL_ren := {
  mixed := by kernel_rfl
  f16 := Try.func32.trans (congrArg some (by kernel_rfl))
  t3 := Try.underlying3
  a3 := Try.isAgg3
  z3 := Try.sizeOf3
  v3 := Try.zeroValue3
  t4 := Try.underlying4
  a4 := Try.isAgg4
  z4 := Try.sizeOf4
  v4 := Try.zeroValue4
  t35 := Try.underlying61
  a35 := Try.isAgg61
  z35 := Try.sizeOf61
  v35 := Try.zeroValue61
  t38 := Try.underlying67
  a38 := Try.isAgg67
  z38 := Try.sizeOf67
  v38 := Try.zeroValue67 }
def Try.mulL_ren : Go.Shelf.Ren := ⟨fun | 264 => 36 | n => n, fun | 46 => 67 | 53 => 62 | n => n, fun | n => n⟩
theorem Try.mulL : Go.Proofs.Lays.n264 Try.prog Try.mulL_ren := {
  mixed := by kernel_rfl
  f264 := Try.func36.trans (congrArg some (by kernel_rfl))
  t46 := Try.underlying67
  a46 := Try.isAgg67
  z46 := Try.sizeOf67
  v46 := Try.zeroValue67
  t53 := Try.underlying62
  a53 := Try.isAgg62
  z53 := Try.sizeOf62
  v53 := Try.zeroValue62 }
end Go.Proofs
