/-
  sort.Search and math/bits.Mul64 at this translation, by the library's contracts.
-/
import Derived.Shelf.SlSorted.Search
import Derived.Shelf.Bits.Mul64
import Derived.Test.YtdblppbjlgmccaaProg
namespace Go.Proofs
open Go.Shelf
def Try.searchL_ren : Go.Shelf.Ren := ⟨fun | 16 => 52 | n => n, fun | 3 => 3 | 4 => 4 | 35 => 53 | 38 => 72 | n => n, fun | n => n⟩
theorem Try.searchL : Go.Proofs.SlLaysO.n16 Try.prog Try.searchL_ren := {
  mixed := by kernel_rfl
  f16 := Try.func52.trans (congrArg some (by kernel_rfl))
  t3 := Try.underlying3
  a3 := Try.isAgg3
  z3 := Try.sizeOf3
  v3 := Try.zeroValue3
  t4 := Try.underlying4
  a4 := Try.isAgg4
  z4 := Try.sizeOf4
  v4 := Try.zeroValue4
  t35 := Try.underlying53
  a35 := Try.isAgg53
  z35 := Try.sizeOf53
  v35 := Try.zeroValue53
  t38 := Try.underlying72
  a38 := Try.isAgg72
  z38 := Try.sizeOf72
  v38 := Try.zeroValue72 }
def Try.mulL_ren : Go.Shelf.Ren := ⟨fun | 264 => 60 | n => n, fun | 46 => 72 | 53 => 73 | n => n, fun | n => n⟩
theorem Try.mulL : Go.Proofs.Lays.n264 Try.prog Try.mulL_ren := {
  mixed := by kernel_rfl
  f264 := Try.func60.trans (congrArg some (by kernel_rfl))
  t46 := Try.underlying72
  a46 := Try.isAgg72
  z46 := Try.sizeOf72
  v46 := Try.zeroValue72
  t53 := Try.underlying73
  a53 := Try.isAgg73
  z53 := Try.sizeOf73
  v53 := Try.zeroValue73 }
end Go.Proofs
